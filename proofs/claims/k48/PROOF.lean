import PyProof.Rows.All
import Wide.All
import OpenK.AllK
import Wide.FinOn
import Lean
import PyProof.EqAt
import PyProof.EqKinds
import PyProof.TupleCall
import PyProof.CompFree
import PyProof.CompUse
import PyProof.CollectIter
import PyProof.ListNew
import KE.KRevIter
import PyProof.EnumMake
import PyProof.Draws
import PyProof.TupleIter
import PyProof.WalksMore
import PyProof.ReprRoads
import PyProof.P3Eq
import PyProof.NeData
import PyProof.EqLayable
import PyProof.Rows.RegFStrParts
import PyProof.AutoListH
import KE.KItemsList
import KE.KDictList
import PyProof.StrBlockG
import PyProof.StrLawsOcc
import PyProof.StrLawsTight
import PyProof.StrLawsChain
import PyProof.Rows.Range3
import PyProof.MinMaxWalk
import PyProof.WalkInts
import PyProof.ExcClass3
import PyProof.ExcInit
import PyProof.InstStoreFacts
import PyProof.ExcArgsOwn
import KE.KIsAll
import PyProof.RaisesMany
import PyProof.RulesTry
import PyProof.Raises
import PyProof.RulesAs
import PyProof.NsDelKeeps
import PyProof.PassesOwn
import PyProof.Rows.CatchHere
import KE.KSortTup
import PyProof.FactsAll.tuple_2
import PyProof.TupleKey
import PyProof.Rows.RowHeap
import PyProof.SetKind
import PyProof.SetNew
import PyProof.DictIter
import PyProof.CollectWalk
import PyProof.Walks
import PyProof.ZipIter
import KE.KRevSl
import KE.KStateDown
import PySem.Challenge.RW_pileduel_k48_machines_as_sayings
set_option Elab.async false
set_option linter.all false
set_option maxRecDepth 100000
namespace L2
open PySem PySem.Spec PyProof.Rows
abbrev Key := Sum Int Str
def keyIs : Key → Value → Bool
  | .inl k, v => Value.isInt k v
  | .inr x, v => Value.isStrOf x v
def keyH (w : World) : Key → Int
  | .inl k => hashInt k
  | .inr x => hashStr w x
theorem keyIs_shape : ∀ {k : Key} {v : Value}, keyIs k v = true → (∃ i t, k = Sum.inl i ∧ v = Value.int i t) ∨ (∃ x t, k = Sum.inr x ∧ v = Value.str x t)
  | .inl i, v, h => by
    obtain ⟨t, e⟩ := Value.isInt_shape (k := i) (v := v) h
    exact .inl ⟨i, t, rfl, e⟩
  | .inr x, v, h => by
    obtain ⟨t, e⟩ := Value.isStrOf_shape (x := x) (v := v) h
    exact .inr ⟨x, t, rfl, e⟩
theorem keyIs_int (i : Int) (t : Tok) : keyIs (.inl i) (.int i t) = true := by simp [keyIs, Value.isInt]
theorem keyIs_str (x : Str) (t : Tok) : keyIs (.inr x) (.str x t) = true := by simp [keyIs, Value.isStrOf]
theorem key_ll (a b : Int) : decide ((Sum.inl a : Key) = Sum.inl b) = (a == b) := by
  by_cases e : a = b
  · subst e; simp
  · have h : ¬ (Sum.inl a : Key) = Sum.inl b := fun q => e (Sum.inl.inj q)
    rw [decide_eq_false h]
    exact (beq_eq_false_iff_ne.mpr e).symm
theorem key_rr (a b : Str) : decide ((Sum.inr a : Key) = Sum.inr b) = decide (a = b) := by
  by_cases e : a = b
  · subst e; simp
  · have h : ¬ (Sum.inr a : Key) = Sum.inr b := fun q => e (Sum.inr.inj q)
    rw [decide_eq_false h, decide_eq_false e]
theorem key_lr (a : Int) (b : Str) : decide ((Sum.inl a : Key) = Sum.inr b) = false := decide_eq_false (fun q => nomatch q)
theorem key_rl (a : Str) (b : Int) : decide ((Sum.inr a : Key) = Sum.inl b) = false := decide_eq_false (fun q => nomatch q)
def mixKind (prog : Program) (w : World) : PySem.KeyKind prog w Key where
  is := keyIs
  hash := keyH w
  inj := fun v a b ha hb => by
    rcases keyIs_shape ha with ⟨i, t, rfl, rfl⟩ | ⟨x, t, rfl, rfl⟩
    · rcases keyIs_shape hb with ⟨j, u, rfl, e⟩ | ⟨y, u, rfl, e⟩
      · injection e with e1 _; rw [e1]
      · exact nomatch e
    · rcases keyIs_shape hb with ⟨j, u, rfl, e⟩ | ⟨y, u, rfl, e⟩
      · exact nomatch e
      · injection e with e1 _; rw [e1]
  byValue := fun k v h => by
    rcases keyIs_shape h with ⟨i, t, rfl, rfl⟩ | ⟨x, t, rfl, rfl⟩ <;> rfl
  pyHash := fun hv h => by
    rcases keyIs_shape hv with ⟨i, t, rfl, rfl⟩ | ⟨x, t, rfl, rfl⟩
    · exact wpAny_pyHash_int h
    · exact wpAny_pyHash_str h
  eqBool := fun hu hv h => by
    rcases keyIs_shape hu with ⟨i, t, rfl, rfl⟩ | ⟨x, t, rfl, rfl⟩
    · rcases keyIs_shape hv with ⟨j, u, rfl, rfl⟩ | ⟨y, u, rfl, rfl⟩
      · rw [key_ll] at h; exact wpAny_eqBool_int h
      · rw [key_lr] at h; exact SeqAt.EqAt.int_str i t y u _ _ _ _ h
    · rcases keyIs_shape hv with ⟨j, u, rfl, rfl⟩ | ⟨y, u, rfl, rfl⟩
      · rw [key_rl] at h; exact SeqAt.EqAt.str_int x t j u _ _ _ _ h
      · rw [key_rr] at h; exact wpAny_eqBool_str h
  «strs» := fun k x t v h => by
    rcases keyIs_shape h with ⟨i, u, rfl, e⟩ | ⟨y, u, rfl, e⟩
    · exact nomatch e
    · injection e with e1 _
      subst e1
      cases v <;> rfl
theorem mixKind_int (prog : Program) (w : World) (i : Int) (t : Tok) : (mixKind prog w).is (.inl i) (.int i t) = true := keyIs_int i t
theorem mixKind_str (prog : Program) (w : World) (x : Str) (t : Tok) : (mixKind prog w).is (.inr x) (.str x t) = true := keyIs_str x t
end L2
namespace L2
open PySem PySem.Spec PyProof.Rows
inductive V where
  | non | bl (b : Bool) | int (i : Int) | str (x : Str) | byt (b : Array UInt8) | flt (b : UInt64) | ref (a : Addr) | ty (n : String)
  deriving DecidableEq
def RelV : V → Value → Prop
  | .non, u => u = Value.none
  | .bl b, u => u = Value.bool b
  | .int i, u => ∃ t, u = Value.int i t
  | .str x, u => ∃ t, u = Value.str x t
  | .byt b, u => ∃ t, u = Value.bytes b t
  | .flt b, u => ∃ t, u = Value.float b t
  | .ref a, u => u = Value.ref a
  | .ty n, u => u = Value.type n
abbrev Vals : List V → List Value → Prop := Paired RelV
theorem Vals.length {xs : List V} {us : List Value} (r : Vals xs us) : xs.length = us.length := Paired.length r
theorem Vals.get : ∀ {xs : List V} {us : List Value} {i : Nat} {x : V}, Vals xs us → xs[i]? = some x → ∃ u, us[i]? = some u ∧ RelV x u
  | _, _, _, _, .nil, e => by simp at e
  | _, _, 0, _, .cons r _, e => by simp at e; subst e; exact ⟨_, rfl, r⟩
  | _, _, i + 1, x, .cons _ t, e => by
    obtain ⟨u, h1, h2⟩ := Vals.get (i := i) (x := x) t (by simpa using e)
    exact ⟨u, by simpa using h1, h2⟩
theorem Vals.set {x : V} {u : Value} (r : RelV x u) : ∀ {xs : List V} {us : List Value} (i : Nat), Vals xs us → Vals (xs.set i x) (us.set i u)
  | _, _, _, .nil => .nil
  | _, _, 0, .cons _ t => .cons r t
  | _, _, i + 1, .cons q t => .cons q (Vals.set r i t)
theorem Vals.append : ∀ {xs ys : List V} {us ws : List Value}, Vals xs us → Vals ys ws → Vals (xs ++ ys) (us ++ ws)
  | _, _, _, _, .nil, s => s
  | _, _, _, _, .cons r t, s => .cons r (Vals.append t s)
theorem Vals.take : ∀ {xs : List V} {us : List Value} (n : Nat), Vals xs us → Vals (xs.take n) (us.take n)
  | _, _, 0, _ => .nil
  | _, _, _ + 1, .nil => .nil
  | _, _, n + 1, .cons r t => .cons r (Vals.take n t)
theorem Vals.drop : ∀ {xs : List V} {us : List Value} (n : Nat), Vals xs us → Vals (xs.drop n) (us.drop n)
  | _, _, 0, r => r
  | _, _, _ + 1, .nil => .nil
  | _, _, n + 1, .cons _ t => Vals.drop n t
def RelO : Option V → Option Value → Prop
  | some v, some u => RelV v u
  | none, none => True
  | _, _ => False
def KV {κ : Type} : List (κ × V) → List (κ × Value) → Prop := Paired fun (p : κ × V) (q : κ × Value) => p.1 = q.1 ∧ RelV p.2 q.2
def kV : Key → V
  | .inl i => .int i
  | .inr x => .str x
mutual
def hashD (w : World) : PyData → Int
  | .int i => keyH w (.inl i)
  | .str x => keyH w (.inr x)
  | .tuple ds => reduceHash (Builtin.Tuple.tupleHashOf (hashDs w ds))
  | _ => 0
def hashDs (w : World) : List PyData → List Int
  | [] => []
  | d :: ds => hashD w d :: hashDs w ds
end
def entD (w : World) (x : PyData × Addr × Value) : DictEntry := ⟨hashD w x.1, .ref x.2.1, x.2.2⟩
def IsDD (w : World) (h : Heap) (a : Addr) (xs : List (PyData × Addr × Value)) : Prop :=
  ∃ o es ep, h.get? a = some o ∧ o.ExactDict ∧ o.data = .dict es ep ∧ es.toList = xs.map (entD w) ∧ (xs.map (·.1)).Nodup ∧ (a == sysModules) = false ∧ xs.length ≤ sizeLine
inductive HO where
  | lst (xs : List V)
  | tup (xs : List V)
  | dK (kvs : List (Key × V)) | dT (kvs : List (List Key × V))
  | set (S : Int → Bool) (n : Nat)
  | ins (C dx : Addr) (fs : List (Str × V))
  | own (x : Addr)
  | xd (fs : List (Str × V))
  | met (f x : Addr)
  | rng (lo hi : Int)
  | frz (o : Obj) (u : HO)
  | tbl (ps : Array Value)
  | ext (φ : Heap → Prop)
  | dd (xs : List (PyData × Addr × Value))
abbrev Hp := Addr → Option HO
def upd (H : Hp) (a : Addr) (o : HO) : Hp := fun b => if b = a then some o else H b
theorem upd_same {H : Hp} {a : Addr} {o : HO} : upd H a o a = some o := by unfold upd; rw [if_pos rfl]
theorem upd_ne {H : Hp} {a b : Addr} {o : HO} (h : b ≠ a) : upd H a o b = H b := by unfold upd; rw [if_neg h]
theorem ne_of {H : Hp} {a b : Addr} {o u : HO} (h : H a = some o) (h' : H b = some u) (d : o ≠ u) : a ≠ b := by
  intro e; subst e; rw [h] at h'; exact d (Option.some.inj h')
theorem ne_of_none {H : Hp} {a b : Addr} {o : HO} (h : H a = some o) (h' : H b = none) : a ≠ b := by
  intro e; subst e; rw [h] at h'; cases h'
section
variable (P : Program) (w : World)
def ObjOk (H : Hp) (h : Heap) (a : Addr) : HO → Prop
  | .lst xs => xs.length ≤ sizeLine ∧ ∃ (its : List Value) (n : Nat), Vals xs its ∧ h.get? a = some { cls := .type "list", data := .seq its.toArray n }
  | .tup xs => xs.length ≤ sizeLine ∧ ∃ its : List Value, Vals xs its ∧ IsTup h a its.toArray
  | .dK kvs => kvs.length ≤ sizeLine ∧ (a == sysModules) = false ∧ ∃ vs, KV kvs vs ∧ h.DictOf (mixKind P w) a vs
  | .dT kvs => kvs.length ≤ sizeLine ∧ (a == sysModules) = false ∧ ∃ xs : List (List Key × Addr × Value),
      Paired (fun (p : List Key × V) (q : List Key × Addr × Value) => p.1 = q.1 ∧ H q.2.1 = some (.tup (p.1.map kV)) ∧ RelV p.2 q.2.2) kvs xs ∧
      ∃ o es ep, h.get? a = some o ∧ o.ExactDict ∧ o.data = .dict es ep ∧ es.toList = xs.map (entryOfKey (tupleKind (mixKind P w))) ∧ (xs.map (·.1)).Nodup
  | .set S n => h.SetOf (intKind P w) a S n
  | .ins C dx fs => H dx = some (.own a) ∧ fs.length ≤ 1000 ∧ dx ≠ a ∧ h.get? a = some (PySem.W.instObj C dx) ∧
      ∃ mA, h.Ns1 dx mA ∧ (∀ f, RelO (fs.lookup f) (mA f)) ∧ PySem.Within mA (fs.map (·.1))
  | .own _ => ∃ o, h.get? a = some o
  | .xd fs => ∃ mA, h.Ns1 a mA ∧ ∀ f, RelO (fs.lookup f) (mA f)
  | .rng lo hi => ∃ t u v, h.get? a = some { cls := .type "range", data := .fields #[.int lo t, .int hi u, .int 1 v] }
  | .frz o u => h.get? a = some o ∧ ObjOk H h a u
  | .tbl ps => h.get? a = some { cls := .none, data := .fields ps }
  | .met f x => h.get? a = some (PySem.W.methodObj (.ref f) (.ref x))
  | .ext φ => φ h ∧ (∃ o, h.get? a = some o) ∧ ∀ h1 h2 : Heap, φ h1 → (∀ o, h1.get? a = some o → h2.get? a = some o) → φ h2
  | .dd xs => IsDD w h a xs
def HOk (H : Hp) (h : Heap) : Prop := ∀ a o, H a = some o → ObjOk P w H h a o
end
section
variable {P : Program} {w : World} {H H' : Hp} {h h' : Heap} {a : Addr} {o : HO}
theorem ObjOk.lt (x : ObjOk P w H h a o) : a < h.objs.size := by
  cases o with
  | lst xs => obtain ⟨_, _, _, _, e⟩ := x; exact Heap.lt_size e
  | tup xs => obtain ⟨_, _, _, p⟩ := x; exact p.lt
  | dK kvs => obtain ⟨_, _, _, _, o, _, _, e, _⟩ := x; exact Heap.lt_size e
  | dT kvs => obtain ⟨_, _, _, _, o, _, _, e, _⟩ := x; exact Heap.lt_size e
  | set S n => obtain ⟨o, _, _, _, e, _⟩ := x; exact Heap.lt_size e
  | ins C dx fs => obtain ⟨_, _, _, e, _⟩ := x; exact Heap.lt_size e
  | own y => obtain ⟨_, e⟩ := x; exact Heap.lt_size e
  | xd fs => obtain ⟨_, ⟨_, _, _, e, _⟩, _⟩ := x; exact Heap.lt_size e
  | rng lo hi => obtain ⟨_, _, _, e⟩ := x; exact Heap.lt_size e
  | frz ob u => obtain ⟨e, _⟩ := x; exact Heap.lt_size e
  | tbl ps => exact Heap.lt_size (show h.get? a = some _ from x)
  | met f y => exact Heap.lt_size (show h.get? a = some _ from x)
  | ext φ => obtain ⟨_, ⟨_, e⟩, _⟩ := x; exact Heap.lt_size e
  | dd xs => obtain ⟨_, _, _, e, _⟩ := x; exact Heap.lt_size e
theorem Paired.mapP {α β : Type} {F G : α → β → Prop} : ∀ {l₁ : List α} {l₂ : List β}, Paired F l₁ l₂ → (∀ a b, F a b → G a b) → Paired G l₁ l₂
  | _, _, .nil, _ => .nil
  | _, _, .cons r t, f => .cons (f _ _ r) (Paired.mapP t f)
theorem ObjOk.stay (x : ObjOk P w H h a o) (k : ∀ b u, (b = a ∨ H b = some (.own a)) → h.get? b = some u → h'.get? b = some u)
    (ho : ∀ b, H b = some (.own a) → H' b = some (.own a)) (ht : ∀ b xs, H b = some (.tup xs) → H' b = some (.tup xs)) : ObjOk P w H' h' a o := by
  induction o with
  | lst xs => obtain ⟨z, its, n, r, e⟩ := x; exact ⟨z, its, n, r, k _ _ (.inl rfl) e⟩
  | tup xs => obtain ⟨z, its, r, ob, e, c⟩ := x; exact ⟨z, its, r, ob, k _ _ (.inl rfl) e, c⟩
  | dK kvs => obtain ⟨z, y, vs, r, ob, es, ep, e, c⟩ := x; exact ⟨z, y, vs, r, ob, es, ep, k _ _ (.inl rfl) e, c⟩
  | dT kvs =>
    obtain ⟨z, y, xs, r, ob, es, ep, e, c⟩ := x
    exact ⟨z, y, xs, Paired.mapP r fun p q z => ⟨z.1, ht _ _ z.2.1, z.2.2⟩, ob, es, ep, k _ _ (.inl rfl) e, c⟩
  | set S n => obtain ⟨ob, es, ep, t, e, c⟩ := x; exact ⟨ob, es, ep, t, k _ _ (.inl rfl) e, c⟩
  | ins C dx fs =>
    obtain ⟨d, z, ne, e, mA, ⟨od, es, ep, e2, c⟩, r⟩ := x
    exact ⟨ho _ d, z, ne, k _ _ (.inl rfl) e, mA, ⟨od, es, ep, k _ _ (.inr d) e2, c⟩, r⟩
  | own y => obtain ⟨ob, e⟩ := x; exact ⟨ob, k _ _ (.inl rfl) e⟩
  | xd fs => obtain ⟨mA, ⟨od, es, ep, e, c⟩, r⟩ := x; exact ⟨mA, ⟨od, es, ep, k _ _ (.inl rfl) e, c⟩, r⟩
  | rng lo hi => obtain ⟨t, u, v, e⟩ := x; exact ⟨t, u, v, k _ _ (.inl rfl) e⟩
  | frz ob u ih => obtain ⟨e, q⟩ := x; exact ⟨k _ _ (.inl rfl) e, ih q⟩
  | tbl ps =>
    have e : h.get? a = some { cls := .none, data := .fields ps } := x
    show h'.get? a = some { cls := .none, data := .fields ps }
    exact k a _ (.inl rfl) e
  | met f y =>
    have e : h.get? a = some (PySem.W.methodObj (.ref f) (.ref y)) := x
    show h'.get? a = some (PySem.W.methodObj (.ref f) (.ref y))
    exact k a _ (.inl rfl) e
  | ext φ => obtain ⟨p, ⟨o, e⟩, st⟩ := x; exact ⟨st _ _ p fun o q => k _ _ (.inl rfl) q, ⟨o, k _ _ (.inl rfl) e⟩, st⟩
  | dd xs => obtain ⟨o, es, ep, e, c⟩ := x; exact ⟨o, es, ep, k _ _ (.inl rfl) e, c⟩
theorem HOk.lt (x : HOk P w H h) (e : H a = some o) : a < h.objs.size := (x a o e).lt
theorem HOk.fresh (x : HOk P w H h) (e : h.objs.size ≤ a) : H a = none := by
  cases q : H a with
  | none => rfl
  | some u => exact absurd (Nat.lt_of_lt_of_le (x.lt q) e) (Nat.lt_irrefl _)
theorem HOk.kept (x : HOk P w H h) (k : ∀ b u, h.get? b = some u → h'.get? b = some u) : HOk P w H h' := fun a o e =>
  (x a o e).stay (fun b u _ q => k b u q) (fun _ q => q) fun _ _ q => q
theorem HOk.laid (x : HOk P w H h) (k : ∀ b u, h.get? b = some u → h'.get? b = some u) (hp : h.objs.size ≤ a) (new : ObjOk P w (upd H a o) h' a o) : HOk P w (upd H a o) h' := fun b u e => by
  have hn := x.fresh hp
  by_cases hb : b = a
  · subst hb; rw [upd_same] at e; cases e; exact new
  · rw [upd_ne hb] at e
    exact (x b u e).stay (fun c v _ q => k c v q) (fun c q => by rw [upd_ne (ne_of_none q hn)]; exact q) fun c xs q => by rw [upd_ne (ne_of_none q hn)]; exact q
end
def Rd (H : Hp) (a : Addr) (u : HO) : Prop := H a = some u ∨ ∃ o, H a = some (.frz o u)
theorem Rd.of {H : Hp} {a : Addr} {u : HO} (h : H a = some u) : Rd H a u := .inl h
theorem Rd.ok {P : Program} {w : World} {H : Hp} {h : Heap} {a : Addr} {u : HO} (r : Rd H a u) (x : HOk P w H h) : ObjOk P w H h a u := by
  rcases r with r | ⟨o, r⟩
  · exact x a u r
  · obtain ⟨_, q⟩ := x a _ r
    exact q
def Mut : Option HO → Prop
  | some (.lst _) => True
  | some (.dK _) => True
  | some (.dT _) => True
  | some (.set _ _) => True
  | some (.ins _ _ _) => True
  | some (.ext _) => True
  | some (.dd _) => True
  | _ => False
section
variable {P : Program} {w : World} {H : Hp} {h h' : Heap} {x e : Addr} {o' : HO}
theorem HOk.write (ok : HOk P w H h) (mu : Mut (H x)) (he : e = x ∨ H e = some (.own x)) (k : ∀ b u, b ≠ e → h.get? b = some u → h'.get? b = some u) (heo : ∃ u, h'.get? e = some u)
    (new : ObjOk P w (upd H x o') h' x o') : HOk P w (upd H x o') h' := fun b u q => by
  have nown : ∀ c y, H c = some (.own y) → c ≠ x := fun c y r z => by subst z; rw [r] at mu; exact mu
  have ntup : ∀ c xs, H c = some (.tup xs) → c ≠ x := fun c xs r z => by subst z; rw [r] at mu; exact mu
  by_cases hb : b = x
  · subst hb; rw [upd_same] at q; cases q; exact new
  · rw [upd_ne hb] at q
    by_cases hbe : b = e
    · have q' : H b = some (.own x) := by
        rcases he with z | z
        · exact absurd (hbe.trans z) hb
        · rw [hbe]; exact z
      rw [q] at q'; cases q'
      obtain ⟨v, hv⟩ := heo
      exact ⟨v, by rw [hbe]; exact hv⟩
    · refine (ok b u q).stay (fun c v hc r => k c v ?_ r) (fun c r => by rw [upd_ne (nown c b r)]; exact r) fun c xs r => by rw [upd_ne (ntup c xs r)]; exact r
      rcases hc with rfl | hc
      · exact hbe
      · rintro rfl
        rcases he with z | z
        · exact nown c b hc z
        · rw [hc] at z; cases z; exact hb rfl
end
structure Un (fs ex : List Addr) (H H' : Hp) (h h' : Heap) : Prop where
  keep : ∀ b o, h.get? b = some o → H b = none → b ∉ fs → b ∉ ex → h'.get? b = some o
  slot : ∀ b o, h.get? b = some o → H b = none → b ∈ fs → b ∉ ex → ∃ sl, h'.get? b = some { o with slots := sl }
  free : ∀ b o, h.get? b = some o → H b = none → b ∉ ex → H' b = none
  there : ∀ b o, h.get? b = some o → b ∉ ex → ∃ o', h'.get? b = some o'
  tups : ∀ b xs, H b = some (.tup xs) → H' b = some (.tup xs)
  frzs : ∀ b o u, H b = some (.frz o u) → H' b = some (.frz o u)
  tbls : ∀ b ps, H b = some (.tbl ps) → ∃ more, H' b = some (.tbl (ps ++ more))
section
variable {fs fs' ex ex' : List Addr} {H H1 H2 : Hp} {h h1 h2 h' : Heap} {a x e : Addr} {o : HO}
theorem Un.any (u : Un fs ex H H1 h h1) {b : Addr} {ob : Obj} (q : h.get? b = some ob) (n : H b = none) (hx : b ∉ ex) : ∃ sl, h1.get? b = some { ob with slots := sl } := by
  by_cases hb : b ∈ fs
  · exact u.slot b ob q n hb hx
  · exact ⟨ob.slots, u.keep b ob q n hb hx⟩
theorem Un.trans (a : Un fs ex H H1 h h1) (b : Un fs ex H1 H2 h1 h2) : Un fs ex H H2 h h2 where
  keep := fun c ob q n hc hx => b.keep c ob (a.keep c ob q n hc hx) (a.free c ob q n hx) hc hx
  slot := fun c ob q n hc hx => by
    obtain ⟨sl, e1⟩ := a.slot c ob q n hc hx
    obtain ⟨sl', e2⟩ := b.slot c _ e1 (a.free c ob q n hx) hc hx
    exact ⟨sl', e2⟩
  free := fun c ob q n hx => by
    obtain ⟨o', e1⟩ := a.there c ob q hx
    exact b.free c o' e1 (a.free c ob q n hx) hx
  there := fun c ob q hx => by
    obtain ⟨o', e1⟩ := a.there c ob q hx
    exact b.there c o' e1 hx
  tups := fun c xs q => b.tups c xs (a.tups c xs q)
  frzs := fun c ob xs q => b.frzs c ob xs (a.frzs c ob xs q)
  tbls := fun c ps q => by
    obtain ⟨m1, e1⟩ := a.tbls c ps q
    obtain ⟨m2, e2⟩ := b.tbls c _ e1
    exact ⟨m1 ++ m2, by rw [e2, Array.append_assoc]⟩
theorem Un.kept (k : ∀ b u, h.get? b = some u → h'.get? b = some u) : Un fs ex H H h h' :=
  ⟨fun b ob q _ _ _ => k b ob q, fun b ob q _ _ _ => ⟨ob.slots, k b ob q⟩, fun _ _ _ n _ => n, fun b ob q _ => ⟨ob, k b ob q⟩, fun _ _ q => q, fun _ _ _ q => q, fun _ ps q => ⟨#[], by rw [q]; simp⟩⟩
theorem Un.refl : Un fs ex H H h h := Un.kept fun _ _ q => q
theorem Un.laid (k : ∀ b u, h.get? b = some u → h'.get? b = some u) (hp : h.objs.size ≤ a) (hn : H a = none) : Un fs ex H (upd H a o) h h' where
  keep := fun b u q _ _ _ => k b u q
  slot := fun b u q _ _ _ => ⟨u.slots, k b u q⟩
  free := fun b u q n _ => by rw [upd_ne (Nat.ne_of_lt (Nat.lt_of_lt_of_le (Heap.lt_size q) hp))]; exact n
  there := fun b u q _ => ⟨u, k b u q⟩
  tups := fun b xs q => by rw [upd_ne (ne_of_none q hn)]; exact q
  frzs := fun b u xs q => by rw [upd_ne (ne_of_none q hn)]; exact q
  tbls := fun b ps q => ⟨#[], by rw [upd_ne (ne_of_none q hn), q]; simp⟩
theorem Un.write (mu : Mut (H x)) (he : e = x ∨ H e = some (.own x)) (k : ∀ b u, b ≠ e → h.get? b = some u → h'.get? b = some u) (heo : ∃ u, h'.get? e = some u) : Un fs ex H (upd H x o) h h' := by
  have hx : ∀ b, H b = none → b ≠ x := fun b n z => by subst z; rw [n] at mu; exact mu
  have hb : ∀ b, H b = none → b ≠ e := fun b n z => by
    subst z
    rcases he with r | r
    · exact hx b n r
    · rw [n] at r; cases r
  have hm : ∀ b u, H b = some u → ¬ Mut (some u) → b ≠ x := fun b u q nm z => by subst z; rw [q] at mu; exact nm mu
  refine ⟨fun b u q n _ _ => k b u (hb b n) q, fun b u q n _ _ => ⟨u.slots, k b u (hb b n) q⟩, fun b u q n _ => by rw [upd_ne (hx b n)]; exact n, fun b u q _ => ?_,
    fun b xs q => by rw [upd_ne (hm b _ q fun z => z)]; exact q, fun b u xs q => by rw [upd_ne (hm b _ q fun z => z)]; exact q, fun b ps q => ⟨#[], by rw [upd_ne (hm b _ q fun z => z), q]; simp⟩⟩
  by_cases hbe : b = e
  · subst hbe; exact heo
  · exact ⟨u, k b u hbe q⟩
theorem Un.mono (u : Un fs ex H H1 h h1) (hs : ∀ b ∈ fs, b ∈ fs') (hx : ∀ b ∈ ex, b ∈ ex') : Un fs' ex' H H1 h h1 :=
  ⟨fun b ob q n hb he => u.keep b ob q n (fun z => hb (hs b z)) fun z => he (hx b z), fun _ _ q n _ he => u.any q n fun z => he (hx _ z), fun b ob q n he => u.free b ob q n fun z => he (hx b z), fun b ob q he => u.there b ob q fun z => he (hx b z), u.tups, u.frzs, u.tbls⟩
end
def trk (h : Heap) (H : Hp) : List Addr := (List.range h.objs.size).filter fun a => (H a).isSome
def hidT (h : Heap) (H : Hp) : Heap := PySem.W.hideAll h (trk h H)
theorem hidT_size (h : Heap) (H : Hp) : (hidT h H).objs.size = h.objs.size := PySem.W.hideAll_size _ _
theorem hidT_get {h : Heap} {H : Hp} {b : Addr} {o : Obj} (e : h.get? b = some o) (n : H b = none) : (hidT h H).get? b = some o :=
  PySem.W.hideAll_get _ e fun hm => by
    have q : (H b).isSome = true := (List.mem_filter.mp hm).2
    rw [n] at q; simp at q
theorem of_hidT {h : Heap} {H : Hp} {b : Addr} {o : Obj} (e : (hidT h H).get? b = some o) : h.get? b = some o ∧ H b = none := by
  have e' : h.get? b = some o := PySem.W.of_hideAll (trk h H) e
  refine ⟨e', ?_⟩
  cases q : H b with
  | none => rfl
  | some x =>
    have hm : b ∈ trk h H := List.mem_filter.mpr ⟨List.mem_range.mpr (Heap.lt_size e'), by simp [q]⟩
    have z : (hidT h H).get? b = none := PySem.W.hideAll_none (trk h H) hm
    rw [z] at e; cases e
def allNews (g h : Heap) (L : Addr) : List (Addr × Obj) := (List.range h.objs.size).filterMap fun a => if a = L ∨ (g.get? a).isSome = true then none else (h.get? a).map fun o => (a, o)
def rest (g h : Heap) (L d : Addr) : List (Addr × Obj) := (allNews g h L).filter fun p => decide (p.1 ≠ d)
end L2
namespace L2
open PySem PySem.Spec PyProof.Rows
structure Mod (K : PySem.W.Frag) (mg : Str → Option Value) (base : Heap) : Prop where
  kin : K.In base
  glob : base.Ns mainGlobals mg
  blt : ∃ mb, base.Ns builtinsNs mb ∧ ∀ x : Str, x ≠ "__name__" → mb x = bootBuiltins x
  nolimit : base.NoLimit
structure Cx where
  prog : Program
  w : World
  K : PySem.W.Frag
  mg : Str → Option Value
  base : Heap
  A : Around
  N : List Str
  s₀ : Shared
  H₀ : Hp
  env : Env
  outer : List Env
  stack : List Env
  ex : List Addr
  fn : Str → Bool
  calm : Bool
  pn : List (Addr × Obj)
  xe : Value → Shared → Prop
def frs (l : List Env) : List Addr := l.filterMap (·.frame)
abbrev Cx.fs (X : Cx) : List Addr := frs X.outer
def Vis (sc : Scope) (x : Str) : Prop := sc.names.lookup x = some .local ∨ sc.names.lookup x = some .cell ∨ sc.names.lookup x = some .free
def Loc (sc : Scope) (x : Str) : Prop := sc.names.lookup x = some .local ∨ sc.names.lookup x = some .cell
def Look (env : Env) (h : Heap) (m : Str → Option Value) (x : Str) (u : Value) : Prop :=
  (env.kindOf x = some .local ∧ m x = some u) ∨ ((env.kindOf x = some .cell ∨ env.kindOf x = some .free) ∧ ∃ c, env.cells.lookup x = some c ∧ h.IsCell c (some u))
structure Cx.Ok (X : Cx) : Prop where
  mod : Mod X.K X.mg X.base
  kind : X.env.scope.kind = .function
  glob : X.env.globals = mainGlobals
  blt : X.env.builtins = builtinsNs
  above : X.s₀.heap.objs.size ≤ X.env.locals
  inj : ∀ x y c, X.env.cells.lookup x = some c → X.env.cells.lookup y = some c → x = y
  has : ∀ x, (X.env.kindOf x = some .cell ∨ X.env.kindOf x = some .free) → ∃ c, X.env.cells.lookup x = some c
  cab : ∀ x c, X.fn x = true → X.env.cells.lookup x = some c → X.s₀.heap.objs.size ≤ c
  hd : X.calm = true → X.A.handled = none
  frames : X.A.frames = some X.stack
  stk : X.stack = X.outer ∨ (X.stack = X.env :: X.outer ∧ X.env.frame = some X.env.locals)
  exf : ∀ b ∈ X.ex, b ≠ X.env.locals ∧ ∀ x c, X.env.cells.lookup x = some c → c ≠ b
  bs : ∀ b o, X.base.get? b = some o → X.s₀.heap.get? b = some o ∧ X.H₀ b = none
  bsz : X.base.objs.size ≤ X.s₀.heap.objs.size
  noex : ∀ b o, X.base.get? b = some o → b ∉ X.ex
  exfs : ∀ b ∈ X.ex, b ∉ X.fs
  funs : X.s₀.heap.FunFrames X.base X.outer
  frf : ∀ b ∈ X.fs, X.H₀ b = none
structure Inv (X : Cx) (pins : List (Addr × Obj)) (σ : List (Option V)) (H : Hp) (s : Shared) : Prop where
  ok : X.Ok
  os : s.os = X.s₀.os
  bare : AllBare s.gens
  base : Un X.fs X.ex X.H₀ H X.s₀.heap s.heap
  loc : ∃ m, s.heap.Ns X.env.locals m ∧ ∀ (i : Nat) (x : Str) (v : V), X.N[i]? = some x → σ[i]? = some (some v) → Vis X.env.scope x → ∃ u, RelV v u ∧ Look X.env s.heap m x u
  cell : ∀ x c, X.env.cells.lookup x = some c → ∃ v, s.heap.IsCell c v
  free : H X.env.locals = none
  freeC : ∀ x c, X.env.cells.lookup x = some c → H c = none
  pin : ∀ p ∈ X.pn ++ pins, s.heap.get? p.1 = some p.2 ∧ H p.1 = none ∧ p.1 ≠ X.env.locals ∧ p.1 ∉ X.fs ∧ ∀ v, p.2.data ≠ .cell v
  hok : HOk X.prog X.w H s.heap
  len : σ.length = X.N.length
section
variable {X : Cx} {pins : List (Addr × Obj)} {σ : List (Option V)} {H H' : Hp} {s : Shared} {h' : Heap}
theorem Cx.Ok.nofr (ok : X.Ok) {b : Addr} {o : Obj} (e : X.base.get? b = some o) : b ∉ X.fs := fun hb => by
  have := (ok.funs.mem hb).1
  rw [e] at this; cases this
theorem Inv.bs (I : Inv X pins σ H s) : ∀ b o, X.base.get? b = some o → s.heap.get? b = some o ∧ H b = none := fun b o e =>
  ⟨I.base.keep b o (I.ok.bs b o e).1 (I.ok.bs b o e).2 (I.ok.nofr e) (I.ok.noex b o e), I.base.free b o (I.ok.bs b o e).1 (I.ok.bs b o e).2 (I.ok.noex b o e)⟩
theorem Inv.bk (I : Inv X pins σ H s) : ∀ b o, X.base.get? b = some o → s.heap.get? b = some o := fun b o e => (I.bs b o e).1
theorem Inv.mod (I : Inv X pins σ H s) : Mod X.K X.mg X.base := I.ok.mod
theorem Inv.kIn (I : Inv X pins σ H s) : X.K.In s.heap := I.ok.mod.kin.keeps I.bk
theorem Inv.nolimit (I : Inv X pins σ H s) : s.heap.NoLimit := I.ok.mod.nolimit.keeps I.bk
theorem Inv.fr (I : Inv X pins σ H s) : ∃ m, Fr X.base X.env.locals s.heap m :=
  let ⟨m, hn, _⟩ := I.loc
  ⟨m, hn, I.bk, Nat.le_trans I.ok.bsz I.ok.above⟩
theorem Inv.lt (I : Inv X pins σ H s) : X.env.locals < s.heap.objs.size := let ⟨_, hn, _⟩ := I.loc; hn.lt
theorem Inv.sz (I : Inv X pins σ H s) : X.s₀.heap.objs.size ≤ s.heap.objs.size := Nat.le_trans I.ok.above (Nat.le_of_lt I.lt)
theorem Inv.nofs (I : Inv X pins σ H s) {a : Addr} (h : s.heap.objs.size ≤ a) : a ∉ X.fs := fun hb => by
  obtain ⟨_, o, ho, _⟩ := I.ok.funs.mem hb
  exact absurd (Nat.lt_of_lt_of_le (Heap.lt_size ho) (Nat.le_trans I.sz h)) (Nat.lt_irrefl _)
theorem Inv.cne (I : Inv X pins σ H s) : ∀ x c, X.env.cells.lookup x = some c → c ≠ X.env.locals := fun x c e z => by
  obtain ⟨v, o, ho, hd⟩ := I.cell x c e
  obtain ⟨m, ⟨o', es, ep, ho', hd', _⟩, _⟩ := I.loc
  rw [z, ho'] at ho; cases ho; rw [hd'] at hd; cases hd
theorem Inv.funs (I : Inv X pins σ H s) : s.heap.FunFrames X.base X.outer := by
  have all : ∀ (l : List Env), (∀ b ∈ frs l, b ∈ X.fs) → X.s₀.heap.FunFrames X.base l → s.heap.FunFrames X.base l := by
    intro l
    induction l with
    | nil => intro _ _; trivial
    | cons env r ih =>
      intro hs hl
      obtain ⟨hk, ⟨L, o, hf, hn, ho, hd⟩, hr⟩ := hl
      have hL : L ∈ X.fs := hs L (by unfold frs; rw [List.filterMap_cons, hf]; exact List.mem_cons_self)
      obtain ⟨sl, e⟩ := I.base.slot L o ho (I.ok.frf L hL) hL fun z => I.ok.exfs L z hL
      exact ⟨hk, ⟨L, _, hf, hn, e, hd⟩, ih (fun b hb => hs b (by unfold frs; rw [List.filterMap_cons, hf]; exact List.mem_cons_of_mem _ hb)) hr⟩
  exact all X.outer (fun _ hb => hb) I.ok.funs
theorem Inv.stack (I : Inv X pins σ H s) : s.heap.FunFrames X.base X.stack := by
  rcases I.ok.stk with e | ⟨e, hf⟩
  · rw [e]; exact I.funs
  · rw [e]
    obtain ⟨m, hn, _⟩ := I.loc
    refine .cons (by rw [I.ok.kind]; decide) hf hn ?_ I.funs
    exact Heap.get?_none_of_le (Nat.le_trans I.ok.bsz I.ok.above)
theorem Inv.stkSub (I : Inv X pins σ H s) : ∀ b ∈ frs X.stack, b ∈ X.env.locals :: X.fs := fun b hb => by
  rcases I.ok.stk with e | ⟨e, hf⟩
  · rw [e] at hb; exact List.mem_cons_of_mem _ hb
  · rw [e] at hb
    unfold frs at hb
    rw [List.filterMap_cons, hf] at hb
    exact hb
theorem Inv.stkFree (I : Inv X pins σ H s) : ∀ b ∈ frs X.stack, H b = none := fun b hb => by
  rcases List.mem_cons.mp (I.stkSub b hb) with e | hb
  · rw [e]; exact I.free
  · obtain ⟨_, o, ho, _⟩ := I.ok.funs.mem hb
    exact I.base.free b o ho (I.ok.frf b hb) fun z => I.ok.exfs b z hb
theorem Inv.step {g' : Array GenState} {t' : Nat} {d' : Drawn} {ch : List Addr} (I : Inv X pins σ H s)
    (hch : ∀ b ∈ ch, (b ∈ X.ex ∨ X.s₀.heap.objs.size ≤ b) ∧ b ≠ X.env.locals ∧ (∀ x c, X.env.cells.lookup x = some c → c ≠ b) ∧ ∀ p ∈ X.pn ++ pins, p.1 ≠ b)
    (keep : ∀ b o, b ≠ X.env.locals → b ∉ X.fs → b ∉ ch → s.heap.get? b = some o → H b = none → h'.get? b = some o)
    (slot : ∀ b o, b ≠ X.env.locals → b ∈ X.fs → b ∉ ch → s.heap.get? b = some o → H b = none → ∃ sl, h'.get? b = some { o with slots := sl }) (free : ∀ b o, b ∉ ch → s.heap.get? b = some o → H b = none → H' b = none)
    (there : ∀ b o, b ∉ ch → s.heap.get? b = some o → ∃ o', h'.get? b = some o')
    (tups : ∀ b xs, H b = some (.tup xs) → H' b = some (.tup xs)) (frzs : ∀ b o u, H b = some (.frz o u) → H' b = some (.frz o u)) (tbls : ∀ b ps, H b = some (.tbl ps) → ∃ more, H' b = some (.tbl (ps ++ more)))
    (ns : ∀ m, s.heap.Ns X.env.locals m → h'.Ns X.env.locals m) (hok : HOk X.prog X.w H' h') (hg : AllBare g') :
    Inv X pins σ H' { s with heap := h', gens := g', drawn := d', toks := t' } := by
  have neL : ∀ b o, X.s₀.heap.get? b = some o → b ≠ X.env.locals := fun b o e => Nat.ne_of_lt (Nat.lt_of_lt_of_le (Heap.lt_size e) I.ok.above)
  have neC : ∀ b o, X.s₀.heap.get? b = some o → b ∉ X.ex → b ∉ ch := fun b o e hx hb => by
    rcases (hch b hb).1 with z | z
    · exact hx z
    · exact absurd (Nat.lt_of_lt_of_le (Heap.lt_size e) z) (Nat.lt_irrefl _)
  have cellK : ∀ x c, X.env.cells.lookup x = some c → ∀ v, s.heap.IsCell c v → h'.IsCell c v := fun x c e v ⟨o, ho, hd⟩ => by
    have nch : c ∉ ch := fun z => (hch c z).2.2.1 x c e rfl
    by_cases hc : c ∈ X.fs
    · obtain ⟨sl, q⟩ := slot c o (I.cne x c e) hc nch ho (I.freeC x c e)
      exact ⟨_, q, hd⟩
    · exact ⟨o, keep c o (I.cne x c e) hc nch ho (I.freeC x c e), hd⟩
  refine ⟨I.ok, I.os, hg, ⟨fun b o e n hb hx => ?_, fun b o e n hb hx => ?_, fun b o e n hx => ?_, fun b o e hx => ?_, fun b xs e => tups b xs (I.base.tups b xs e), fun b o xs e => frzs b o xs (I.base.frzs b o xs e), fun b ps e => ?_⟩, ?_, fun x c e => ?_, ?_, fun x c e => ?_, fun p hp => ?_, hok, I.len⟩
  · exact keep b o (neL b o e) hb (neC b o e hx) (I.base.keep b o e n hb hx) (I.base.free b o e n hx)
  · obtain ⟨sl, e1⟩ := I.base.slot b o e n hb hx
    obtain ⟨sl', e2⟩ := slot b _ (neL b o e) hb (neC b o e hx) e1 (I.base.free b o e n hx)
    exact ⟨sl', e2⟩
  · obtain ⟨o', e1⟩ := I.base.there b o e hx
    exact free b o' (neC b o e hx) e1 (I.base.free b o e n hx)
  · obtain ⟨o', e1⟩ := I.base.there b o e hx
    exact there b o' (neC b o e hx) e1
  · obtain ⟨m1, e1⟩ := I.base.tbls b ps e
    obtain ⟨m2, e2⟩ := tbls b _ e1
    exact ⟨m1 ++ m2, by rw [e2, Array.append_assoc]⟩
  · obtain ⟨m, hn, hl⟩ := I.loc
    refine ⟨m, ns m hn, fun i x v e1 e2 e3 => ?_⟩
    obtain ⟨u, r, l⟩ := hl i x v e1 e2 e3
    refine ⟨u, r, ?_⟩
    rcases l with l | ⟨k, c, e, z⟩
    · exact .inl l
    · exact .inr ⟨k, c, e, cellK x c e _ z⟩
  · obtain ⟨v, z⟩ := I.cell x c e
    exact ⟨v, cellK x c e v z⟩
  · obtain ⟨m, ⟨o, _, _, ho, _⟩, _⟩ := I.loc
    exact free _ o (fun z => (hch _ z).2.1 rfl) ho I.free
  · obtain ⟨v, o, ho, hd⟩ := I.cell x c e
    exact free c o (fun z => (hch c z).2.2.1 x c e rfl) ho (I.freeC x c e)
  · obtain ⟨e, n, ne, nf, d⟩ := I.pin p hp
    have nch : p.1 ∉ ch := fun z => (hch p.1 z).2.2.2 p hp rfl
    exact ⟨keep p.1 p.2 ne nf nch e n, free p.1 p.2 nch e n, ne, nf, d⟩
theorem Inv.un {t' : Nat} (I : Inv X pins σ H s) (u : Un X.fs [] H H' s.heap h') (hok : HOk X.prog X.w H' h') : Inv X pins σ H' { s with heap := h', toks := t' } := by
  obtain ⟨m, ⟨o, es, ep, ho, r⟩, _⟩ := id I.loc
  obtain ⟨sl, hL⟩ := u.any ho I.free (by simp)
  exact I.step (g' := s.gens) (d' := s.drawn) (ch := []) (fun _ z => nomatch z) (fun b o _ hb _ e n => u.keep b o e n hb (by simp)) (fun b o _ hb _ e n => u.slot b o e n hb (by simp)) (fun b o _ e n => u.free b o e n (by simp)) (fun b o _ e => u.there b o e (by simp)) u.tups u.frzs u.tbls (fun m' hm => by
    obtain ⟨o', es', ep', ho', r'⟩ := hm
    rw [ho] at ho'; cases ho'
    exact ⟨_, es', ep', hL, r'⟩) hok I.bare
theorem Inv.call {g' : Array GenState} {t' : Nat} {d' : Drawn} {ch : List Addr} (I : Inv X pins σ H s) (u : Un (frs X.stack) ch H H' s.heap h') (hok : HOk X.prog X.w H' h') (hg : AllBare g')
    (hch : ∀ b ∈ ch, (b ∈ X.ex ∨ X.s₀.heap.objs.size ≤ b) ∧ b ≠ X.env.locals ∧ (∀ x c, X.env.cells.lookup x = some c → c ≠ b) ∧ ∀ p ∈ X.pn ++ pins, p.1 ≠ b) :
    Inv X pins σ H' { s with heap := h', gens := g', drawn := d', toks := t' } := by
  obtain ⟨m, ⟨o, es, ep, ho, r⟩, _⟩ := id I.loc
  obtain ⟨sl, hL⟩ := u.any ho I.free fun z => (hch _ z).2.1 rfl
  exact I.step (ch := ch) hch (fun b o hL hb hc e n => u.keep b o e n (fun z => (List.mem_cons.mp (I.stkSub b z)).elim hL hb) hc) (fun b o _ _ hc e n => u.any e n hc) (fun b o hc e n => u.free b o e n hc) (fun b o hc e => u.there b o e hc) u.tups u.frzs u.tbls (fun m' hm => by
    obtain ⟨o', es', ep', ho', r'⟩ := hm
    rw [ho] at ho'; cases ho'
    exact ⟨_, es', ep', hL, r'⟩) hok hg
theorem Inv.turned {t' : Nat} {it : Addr} (I : Inv X pins σ H s) (k : ∀ b o, b ≠ it → s.heap.get? b = some o → h'.get? b = some o) (hn : H it = none) (hL : it ≠ X.env.locals)
    (h1 : it ∈ X.ex ∨ X.s₀.heap.objs.size ≤ it) (h2 : ∀ x c, X.env.cells.lookup x = some c → c ≠ it) (h3 : ∀ p ∈ X.pn ++ pins, p.1 ≠ it) : Inv X pins σ H { s with heap := h', toks := t' } := by
  have nit : ∀ b u, H b = some u → b ≠ it := fun b u e z => by rw [z, hn] at e; cases e
  refine I.step (g' := s.gens) (d' := s.drawn) (ch := [it]) (fun b hb => ?_) (fun b o _ _ hc e _ => k b o (fun z => hc (by simp [z])) e) (fun b o _ _ hc e _ => ⟨o.slots, k b o (fun z => hc (by simp [z])) e⟩) (fun _ _ _ _ n => n)
    (fun b o hc e => ⟨o, k b o (fun z => hc (by simp [z])) e⟩) (fun _ _ e => e) (fun _ _ _ e => e) (fun b ps e => ⟨#[], by rw [e]; simp⟩) (fun m hm => ?_) (fun b u e => ?_) I.bare
  · have e : b = it := by simpa using hb
    subst e
    exact ⟨h1, hL, h2, h3⟩
  · obtain ⟨o, es, ep, ho, r⟩ := hm
    exact ⟨o, es, ep, k _ o (Ne.symm hL) ho, r⟩
  · refine (I.hok b u e).stay (fun c v hc q => k c v ?_ q) (fun _ q => q) fun _ _ q => q
    rcases hc with z | z
    · rw [z]; exact nit b u e
    · exact nit c _ z
theorem Inv.tok (I : Inv X pins σ H s) (t : Nat) : Inv X pins σ H { s with toks := t } := I.un (h' := s.heap) (t' := t) Un.refl I.hok
theorem Inv.kept {t' : Nat} (I : Inv X pins σ H s) (k : ∀ b u, s.heap.get? b = some u → h'.get? b = some u) : Inv X pins σ H { s with heap := h', toks := t' } := I.un (Un.kept k) (I.hok.kept k)
theorem Inv.laid {a : Addr} {o : HO} {t' : Nat} (I : Inv X pins σ H s) (k : ∀ b u, s.heap.get? b = some u → h'.get? b = some u) (hp : s.heap.objs.size ≤ a) (new : ObjOk X.prog X.w (upd H a o) h' a o) :
    Inv X pins σ (upd H a o) { s with heap := h', toks := t' } := I.un (Un.laid k hp (I.hok.fresh hp)) (I.hok.laid k hp new)
theorem Inv.write {x e : Addr} {o : HO} {t' : Nat} (I : Inv X pins σ H s) (mu : Mut (H x)) (he : e = x ∨ H e = some (.own x)) (k : ∀ b u, b ≠ e → s.heap.get? b = some u → h'.get? b = some u) (heo : ∃ u, h'.get? e = some u)
    (new : ObjOk X.prog X.w (upd H x o) h' x o) : Inv X pins σ (upd H x o) { s with heap := h', toks := t' } := I.un (Un.write mu he k heo) (I.hok.write mu he k heo new)
theorem Inv.pins_of {pins' : List (Addr × Obj)} (I : Inv X pins σ H s) (h : ∀ p ∈ pins', s.heap.get? p.1 = some p.2 ∧ H p.1 = none ∧ p.1 ≠ X.env.locals ∧ p.1 ∉ X.fs ∧ ∀ v, p.2.data ≠ .cell v) : Inv X pins' σ H s :=
  ⟨I.ok, I.os, I.bare, I.base, I.loc, I.cell, I.free, I.freeC, fun p hp => (List.mem_append.mp hp).elim (fun z => I.pin p (List.mem_append_left _ z)) (h p), I.hok, I.len⟩
theorem nodup_ix {N : List Str} (hN : N.Nodup) {i j : Nat} {x : Str} (a : N[i]? = some x) (b : N[j]? = some x) : i = j := by
  obtain ⟨h1, e1⟩ := List.getElem?_eq_some_iff.mp a
  obtain ⟨h2, e2⟩ := List.getElem?_eq_some_iff.mp b
  exact (List.getElem_inj hN).mp (e1.trans e2.symm)
theorem store_ok2 {M : Model} {A : Around} {E : Value → Shared → Prop} {i : Nat} {x : Str} {v : V} {u : Value} {Q : Unit → Shared → Prop} (I : Inv X pins σ H s) (hN : X.N.Nodup) (hi : X.N[i]? = some x) (hx : Loc X.env.scope x) (r : RelV v u)
    (h : ∀ s', Inv X pins (σ.set i (some v)) H s' → (∃ a, Heap.SameBut a s.heap s'.heap ∧ (a = X.env.locals ∨ X.env.cells.lookup x = some a)) → Q () s') (hf : X.fn x = true ∨ X.env.scope.names.lookup x = some .local := by first | exact .inl rfl | exact .inr rfl | assumption) : wpAny M A (storeName X.env x u) Q E s := by
  obtain ⟨m, hn, hl⟩ := id I.loc
  have hcls : (X.env.scope.kind == .class || (X.env.scope.kind == .module && X.env.locals != X.env.globals)) = false := by rw [I.ok.kind]; rfl
  have hiσ : i < σ.length := by rw [I.len]; exact (List.getElem?_eq_some_iff.mp hi).1
  have cne := I.cne
  have tracked : ∀ {a : Addr} {h' : Heap}, (∃ o, s.heap.get? a = some o ∧ H a = none) → Heap.SameBut a s.heap h' → HOk X.prog X.w H h' := fun {a h'} ha hs b ob e => by
    obtain ⟨_, _, hfree⟩ := ha
    refine (I.hok b ob e).stay (fun c w' hc q => (hs.2 c ?_).trans q) (fun _ q => q) fun _ _ q => q
    rintro rfl
    rcases hc with rfl | hc
    · rw [hfree] at e; cases e
    · rw [hfree] at hc; cases hc
  rcases hx with hk | hk
  · refine wpAny_storeName_local hk hn (fun h' hn' hs => ?_) hcls
    obtain ⟨oL, _, _, hoL, _⟩ := id hn
    refine h _ ⟨I.ok, I.os, I.bare, ⟨fun b o e n hb hx => ?_, fun b o e n hb hx => ?_, I.base.free, fun b o e hx => ?_, I.base.tups, I.base.frzs, I.base.tbls⟩, ⟨_, hn', fun j y v' e1 e2 e3 => ?_⟩, fun y c e => ?_, I.free, I.freeC, fun p hp => ?_, tracked ⟨oL, hoL, I.free⟩ hs, by simpa using I.len⟩ ⟨_, hs, .inl rfl⟩
    · exact (hs.2 b (Nat.ne_of_lt (Nat.lt_of_lt_of_le (Heap.lt_size e) I.ok.above))).trans (I.base.keep b o e n hb hx)
    · obtain ⟨sl, e1⟩ := I.base.slot b o e n hb hx
      exact ⟨sl, (hs.2 b (Nat.ne_of_lt (Nat.lt_of_lt_of_le (Heap.lt_size e) I.ok.above))).trans e1⟩
    · obtain ⟨o', e1⟩ := I.base.there b o e hx
      exact ⟨o', (hs.2 b (Nat.ne_of_lt (Nat.lt_of_lt_of_le (Heap.lt_size e) I.ok.above))).trans e1⟩
    · by_cases hj : j = i
      · subst hj
        rw [hi] at e1; cases e1
        rw [List.getElem?_set_self hiσ] at e2
        cases e2
        exact ⟨u, r, .inl ⟨hk, by simp⟩⟩
      · rw [List.getElem?_set_ne (Ne.symm hj)] at e2
        obtain ⟨u', r', q⟩ := hl j y v' e1 e2 e3
        refine ⟨u', r', ?_⟩
        rcases q with ⟨k, e⟩ | ⟨k, c, e, z⟩
        · refine .inl ⟨k, ?_⟩
          have : y ≠ x := fun e => hj (nodup_ix hN e1 (e ▸ hi))
          simp [this, e]
        · exact .inr ⟨k, c, e, z.sameBut hs (cne y c e)⟩
    · obtain ⟨w', z⟩ := I.cell y c e
      exact ⟨w', z.sameBut hs (cne y c e)⟩
    · obtain ⟨e, n, ne, nf, d⟩ := I.pin p hp
      exact ⟨(hs.2 p.1 ne).trans e, n, ne, nf, d⟩
  · have hfn : X.fn x = true := by
      rcases hf with z | z
      · exact z
      · rw [z] at hk; cases hk
    obtain ⟨c, hc⟩ := I.ok.has x (.inl hk)
    obtain ⟨w', z⟩ := I.cell x c hc
    refine wpAny_storeName_cell I.ok.kind hk hc z (fun h' hc' hs => ?_)
    obtain ⟨oc, hoc, hocd⟩ := id z
    refine h { s with heap := h' } ⟨I.ok, I.os, I.bare, ⟨fun b o e n hb hx => ?_, fun b o e n hb hx => ?_, I.base.free, fun b o e hx => ?_, I.base.tups, I.base.frzs, I.base.tbls⟩, ⟨m, hn.sameBut hs (Ne.symm (cne x c hc)), fun j y v' e1 e2 e3 => ?_⟩, fun y c' e => ?_, I.free, I.freeC, fun p hp => ?_, tracked ⟨oc, hoc, I.freeC x c hc⟩ hs, by simpa using I.len⟩ ⟨c, hs, .inr hc⟩
    · exact (hs.2 b (Nat.ne_of_lt (Nat.lt_of_lt_of_le (Heap.lt_size e) (I.ok.cab x c hfn hc)))).trans (I.base.keep b o e n hb hx)
    · obtain ⟨sl, e1⟩ := I.base.slot b o e n hb hx
      exact ⟨sl, (hs.2 b (Nat.ne_of_lt (Nat.lt_of_lt_of_le (Heap.lt_size e) (I.ok.cab x c hfn hc)))).trans e1⟩
    · obtain ⟨o', e1⟩ := I.base.there b o e hx
      exact ⟨o', (hs.2 b (Nat.ne_of_lt (Nat.lt_of_lt_of_le (Heap.lt_size e) (I.ok.cab x c hfn hc)))).trans e1⟩
    · by_cases hj : j = i
      · subst hj
        rw [hi] at e1; cases e1
        rw [List.getElem?_set_self hiσ] at e2
        cases e2
        exact ⟨u, r, .inr ⟨.inl hk, c, hc, hc'⟩⟩
      · rw [List.getElem?_set_ne (Ne.symm hj)] at e2
        obtain ⟨u', r', q⟩ := hl j y v' e1 e2 e3
        refine ⟨u', r', ?_⟩
        rcases q with q | ⟨k, c', e, z'⟩
        · exact .inl q
        · refine .inr ⟨k, c', e, z'.sameBut hs ?_⟩
          rintro rfl
          exact hj (nodup_ix hN e1 (I.ok.inj _ _ _ e hc ▸ hi))
    · by_cases hcc : c' = c
      · subst hcc; exact ⟨_, hc'⟩
      · obtain ⟨w2, z2⟩ := I.cell y c' e
        exact ⟨w2, z2.sameBut hs hcc⟩
    · obtain ⟨e, n, ne, nf, d⟩ := I.pin p hp
      refine ⟨(hs.2 p.1 ?_).trans e, n, ne, nf, d⟩
      intro q
      rw [q, hoc] at e
      have q' : oc = p.2 := Option.some.inj e
      exact d w' (by rw [← q']; exact hocd)
theorem store_ok {M : Model} {A : Around} {E : Value → Shared → Prop} {i : Nat} {x : Str} {v : V} {u : Value} {Q : Unit → Shared → Prop} (I : Inv X pins σ H s) (hN : X.N.Nodup) (hi : X.N[i]? = some x) (hx : Loc X.env.scope x) (r : RelV v u)
    (h : ∀ s', Inv X pins (σ.set i (some v)) H s' → Q () s') (hf : X.fn x = true ∨ X.env.scope.names.lookup x = some .local := by first | exact .inl rfl | exact .inr rfl | assumption) : wpAny M A (storeName X.env x u) Q E s :=
  store_ok2 I hN hi hx r (fun s' I' _ => h s' I') hf
theorem Inv.call' {s' : Shared} {ch : List Addr} (I : Inv X pins σ H s) (ho : s'.os = s.os) (u : Un (frs X.stack) ch H H' s.heap s'.heap) (hok : HOk X.prog X.w H' s'.heap) (hg : AllBare s'.gens)
    (hch : ∀ b ∈ ch, (b ∈ X.ex ∨ X.s₀.heap.objs.size ≤ b) ∧ b ≠ X.env.locals ∧ (∀ x c, X.env.cells.lookup x = some c → c ≠ b) ∧ ∀ p ∈ X.pn ++ pins, p.1 ≠ b) : Inv X pins σ H' s' := by
  obtain ⟨h', g', d', t', o'⟩ := s'
  have e : o' = s.os := ho
  subst e
  exact I.call (g' := g') (t' := t') (d' := d') u hok hg hch
end
abbrev XK := Value → Option Addr → Hp → Prop
abbrev St := List (Option V)
abbrev VK := V → Hp → Prop
abbrev TE := St → Hp → VK → Prop
abbrev TT := St → Hp → (Bool → Hp → Prop) → Prop
abbrev TA := St → Hp → (List V → Hp → Prop) → Prop
structure Ends where
  nx : St → Hp → Prop
  rt : VK
  bk : St → Hp → Prop := fun _ _ => False
  ct : St → Hp → Prop := fun _ _ => False
abbrev TS := Ends → St → Hp → Prop
def EP (X : Cx) (pins : List (Addr × Obj)) (σ : St) (Q : VK) (u : Value) (s' : Shared) : Prop := ∃ v H', Inv X pins σ H' s' ∧ RelV v u ∧ Q v H'
def TP (X : Cx) (pins : List (Addr × Obj)) (σ : St) (Q : Bool → Hp → Prop) (b : Bool) (s' : Shared) : Prop := ∃ H', Inv X pins σ H' s' ∧ Q b H'
def AP (X : Cx) (pins : List (Addr × Obj)) (σ : St) (Q : List V → Hp → Prop) (us : List Value) (s' : Shared) : Prop := ∃ vs H', Inv X pins σ H' s' ∧ Vals vs us ∧ Q vs H'
def SP (X : Cx) (pins : List (Addr × Obj)) (D : Ends) (f : Flow) (s' : Shared) : Prop :=
  match f with
  | .next => ∃ σ' H', Inv X pins σ' H' s' ∧ D.nx σ' H'
  | .brk => ∃ σ' H', Inv X pins σ' H' s' ∧ D.bk σ' H'
  | .cont => ∃ σ' H', Inv X pins σ' H' s' ∧ D.ct σ' H'
  | .ret u => ∃ v σ' H', Inv X pins σ' H' s' ∧ RelV v u ∧ D.rt v H'
def PE (X : Cx) (e : Expr) (t : TE) : Prop :=
  ∀ (pins : List (Addr × Obj)) (s : Shared) (σ : St) (H : Hp) (Q : VK), Inv X pins σ H s → t σ H Q → wpAny (model X.prog X.w) X.A (eval e X.env) (EP X pins σ Q) X.xe s
def PT (X : Cx) (e : Expr) (t : TT) : Prop :=
  ∀ (pins : List (Addr × Obj)) (s : Shared) (σ : St) (H : Hp) (Q : Bool → Hp → Prop), Inv X pins σ H s → t σ H Q → wpAny (model X.prog X.w) X.A (isTrue e X.env (eval e X.env)) (TP X pins σ Q) X.xe s
def PW (X : Cx) (e : Expr) (t : TT) : Prop :=
  ∀ (whole : Sem Value) (pins : List (Addr × Obj)) (s : Shared) (σ : St) (H : Hp) (Q : Bool → Hp → Prop), Inv X pins σ H s → t σ H Q → wpAny (model X.prog X.w) X.A (isTrue e X.env whole) (TP X pins σ Q) X.xe s
theorem PW.pt {X : Cx} {e : Expr} {t : TT} (h : PW X e t) : PT X e t := h _
def PA (X : Cx) (es : List Expr) (t : TA) : Prop :=
  ∀ (pos : Pos) (pins : List (Addr × Obj)) (s : Shared) (σ : St) (H : Hp) (Q : List V → Hp → Prop), Inv X pins σ H s → t σ H Q → wpAny (model X.prog X.w) X.A (spliced (backTo pos (starEach es X.env))) (AP X pins σ Q) X.xe s
def PS (X : Cx) (st : Stmt) (t : TS) : Prop :=
  ∀ (pins : List (Addr × Obj)) (s : Shared) (σ : St) (H : Hp) (D : Ends), Inv X pins σ H s → t D σ H → wpAny (model X.prog X.w) X.A (exec st X.env) (SP X pins D) X.xe s
def PSs (X : Cx) (st : List Stmt) (t : TS) : Prop :=
  ∀ (pins : List (Addr × Obj)) (s : Shared) (σ : St) (H : Hp) (D : Ends), Inv X pins σ H s → t D σ H → wpAny (model X.prog X.w) X.A (execs st X.env) (SP X pins D) X.xe s
theorem thn {α : Type} {t : Sem α} {Q Q' : α → Shared → Prop} {M : Model} {A : Around} {E : Value → Shared → Prop} {s : Shared} (h : wpAny M A t Q E s) (hQ : ∀ a s, Q a s → Q' a s) : wpAny M A t Q' E s := wpAny_mono h hQ fun _ _ x => x
end L2
namespace L2
open PySem PySem.Spec PyProof.Rows
section
variable {X : Cx}
def tVar (i : Nat) : TE := fun σ H Q => ∃ v, σ[i]? = some (some v) ∧ Q v H
def tC (v : V) : TE := fun _ H Q => Q v H
theorem pe_var {i : Nat} {x : Str} {pos : Pos} (hN : X.N[i]? = some x) (hv : Vis X.env.scope x) (hd : (x == ("__debug__" : Str)) = false := by decide) (hcd : (x == ("__classdict__" : Str)) = false := by decide) : PE X (.Name x pos) (tVar i) := by
  intro pins s σ H Q I h
  obtain ⟨v, e, h⟩ := h
  obtain ⟨m, hn, hl⟩ := I.loc
  obtain ⟨u, r, l⟩ := hl i x v hN e hv
  have fin : EP X pins σ Q u s := ⟨v, H, I, r, h⟩
  rcases l with ⟨hk, hm⟩ | ⟨hk, c, hc, hcell⟩
  · exact wpAny_Name (wpAny_loadName_local I.ok.kind hk hn hm fin) hd
  · rcases hk with hk | hk
    · exact wpAny_Name (wpAny_loadName_cell I.ok.kind hk hc hcell fin) hd
    · exact wpAny_Name (wpAny_loadName_free I.ok.kind hk hc hcell fin hcd) hd
theorem pe_int {i j pos} : PE X (.Constant (.int i) j pos) (tC (.int i)) := fun _ _ _ H _ I h => wpAny_Constant_int ⟨.int i, H, I.tok _, ⟨_, rfl⟩, h⟩
theorem pe_bl {b j pos} : PE X (.Constant (.bool b) j pos) (tC (.bl b)) := fun _ _ _ H _ I h => Constant_bool ⟨.bl b, H, I, rfl, h⟩
theorem pe_str {x j pos} : PE X (.Constant (.str x) j pos) (tC (.str x)) := fun _ _ _ H _ I h => Calls.Constant_str ⟨.str x, H, I.tok _, ⟨_, rfl⟩, h⟩
def Gl (X : Cx) (x : Str) : Prop := X.env.kindOf x = some .globalImplicit
theorem ld_glob {E : Value → Shared → Prop} {pins : List (Addr × Obj)} {s : Shared} {σ : St} {H : Hp} {x : Str} {u : Value} {pos : Pos} {Q : Value → Shared → Prop} (I : Inv X pins σ H s) (hg : Gl X x) (hm : X.mg x = some u) (h : Q u s)
    (hd : (x == ("__debug__" : Str)) = false := by decide) : wpAny (model X.prog X.w) X.A (eval (.Name x pos) X.env) Q E s :=
  Calls.Name_function_global I.ok.kind hg (Calls.loadGlobal_global (by rw [I.ok.glob]; exact I.mod.glob.keeps I.bk) hm h) hd
theorem ld_blt {E : Value → Shared → Prop} {pins : List (Addr × Obj)} {s : Shared} {σ : St} {H : Hp} {x : Str} {u : Value} {pos : Pos} {Q : Value → Shared → Prop} (I : Inv X pins σ H s) (hg : Gl X x) (hm : X.mg x = none) (hv : bootBuiltins x = some u) (h : Q u s)
    (hn : x ≠ "__name__" := by decide) (hd : (x == ("__debug__" : Str)) = false := by decide) : wpAny (model X.prog X.w) X.A (eval (.Name x pos) X.env) Q E s := by
  obtain ⟨mb, h1, h2⟩ := I.mod.blt
  exact Calls.Name_function_global I.ok.kind hg (Calls.loadGlobal_builtin (by rw [I.ok.glob]; exact I.mod.glob.keeps I.bk) hm (by rw [I.ok.blt]; exact h1.keeps I.bk) ((h2 x hn).trans hv) h) hd
variable {a b : Expr} {ta tb : TE} {pos : Pos}
variable {tA tB' : TT} {rest : List Expr}
def tAnd (t u : TT) : TT := fun σ H Q => t σ H fun c H1 => if c = true then u σ H1 Q else Q false H1
def tOr (t u : TT) : TT := fun σ H Q => t σ H fun c H1 => if c = true then Q true H1 else u σ H1 Q
theorem pw_and1 (ha : PT X a tA) : PW X (.BoolOp .And [a] pos) tA := by
  intro wh pins s σ H Q I h
  refine isTrue_and (thn (ha pins s σ H Q I h) fun c s1 e => ?_)
  cases c with
  | true => exact isTrue_and_nil e
  | false => exact e
theorem pw_or1 (ha : PT X a tA) : PW X (.BoolOp .Or [a] pos) tA := by
  intro wh pins s σ H Q I h
  refine isTrue_or (thn (ha pins s σ H Q I h) fun c s1 e => ?_)
  cases c with
  | false => exact isTrue_or_nil e
  | true => exact e
theorem pw_and (ha : PT X a tA) (hb : PW X (.BoolOp .And (b :: rest) pos) tB') : PW X (.BoolOp .And (a :: b :: rest) pos) (tAnd tA tB') := by
  intro wh pins s σ H Q I h
  refine isTrue_and (thn (ha pins s σ H _ I h) fun c s1 ⟨H1, I1, q1⟩ => ?_)
  cases c with
  | true => exact hb wh pins s1 σ H1 Q I1 q1
  | false => exact ⟨H1, I1, q1⟩
theorem pw_or (ha : PT X a tA) (hb : PW X (.BoolOp .Or (b :: rest) pos) tB') : PW X (.BoolOp .Or (a :: b :: rest) pos) (tOr tA tB') := by
  intro wh pins s σ H Q I h
  refine isTrue_or (thn (ha pins s σ H _ I h) fun c s1 ⟨H1, I1, q1⟩ => ?_)
  cases c with
  | true => exact ⟨H1, I1, q1⟩
  | false => exact hb wh pins s1 σ H1 Q I1 q1
end
end L2
namespace L2
open PySem PySem.Spec PyProof.Rows
def SqL (K : PySem.W.Frag) (H : Hp) (a : Addr) (xs : List V) : Prop :=
  Rd H a (.lst xs) ∨
    ∃ (o : Obj) (its : Array Value) (n : Nat), K.lookup a = some o ∧ o.cls = .type "list" ∧ o.dict = none ∧ o.data = .seq its n ∧ its.size ≤ sizeLine ∧ Vals xs its.toList
def SqT (K : PySem.W.Frag) (H : Hp) (a : Addr) (xs : List V) : Prop :=
  Rd H a (.tup xs) ∨
    ∃ (o : Obj) (its : Array Value) (n : Nat), K.lookup a = some o ∧ o.cls = .type "tuple" ∧ o.data = .seq its n ∧ its.size ≤ sizeLine ∧ Vals xs its.toList
def absV : Value → Option V
  | .none => some .non
  | .bool b => some (.bl b)
  | .int i _ => some (.int i)
  | .str x _ => some (.str x)
  | .bytes b _ => some (.byt b)
  | .float b _ => some (.flt b)
  | .ref a => some (.ref a)
  | .type n => some (.ty n)
  | _ => none
theorem RelV.abs {x : V} {u : Value} (r : RelV x u) : absV u = some x := by
  cases x with
  | non => cases r; rfl
  | bl _ => cases r; rfl
  | int _ => obtain ⟨t, rfl⟩ := r; rfl
  | str _ => obtain ⟨t, rfl⟩ := r; rfl
  | byt _ => obtain ⟨t, rfl⟩ := r; rfl
  | flt _ => obtain ⟨t, rfl⟩ := r; rfl
  | ref _ => cases r; rfl
  | ty _ => cases r; rfl
theorem RelV.inj {x y : V} {u : Value} (r : RelV x u) (q : RelV y u) : x = y := Option.some.inj (r.abs.symm.trans q.abs)
theorem Vals.inj : ∀ {xs ys : List V} {us : List Value}, Vals xs us → Vals ys us → xs = ys
  | _, _, _, .nil, .nil => rfl
  | _, _, _, .cons r t, .cons r' t' => by rw [r.inj r', Vals.inj t t']
section
variable {X : Cx} {pins : List (Addr × Obj)} {σ : St} {H : Hp} {s : Shared} {a : Addr} {xs ys : List V}
theorem SqL.of {K : PySem.W.Frag} (h : H a = some (.lst xs)) : SqL K H a xs := .inl (.inl h)
theorem SqT.of {K : PySem.W.Frag} (h : H a = some (.tup xs)) : SqT K H a xs := .inl (.inl h)
theorem Inv.list (I : Inv X pins σ H s) (h : SqL X.K H a xs) : ∃ its : List Value, Vals xs its ∧ PlainL s.heap a its.toArray ∧ xs.length ≤ sizeLine := by
  rcases h with h | ⟨o, its, n, hk, hc, hd, hs, hz, r⟩
  · obtain ⟨z, its, n, r, e⟩ := h.ok I.hok
    exact ⟨its, r, ⟨_, n, e, rfl, rfl, rfl⟩, z⟩
  · refine ⟨its.toList, r, ⟨o, n, I.kIn a o hk, hc, hd, by simpa using hs⟩, ?_⟩
    have e := r.length
    simp only [Array.length_toList] at e
    omega
theorem Inv.tuple (I : Inv X pins σ H s) (h : SqT X.K H a xs) : ∃ its : List Value, Vals xs its ∧ IsTup s.heap a its.toArray ∧ xs.length ≤ sizeLine := by
  rcases h with h | ⟨o, its, n, hk, hc, hs, hz, r⟩
  · obtain ⟨z, its, r, p⟩ := h.ok I.hok
    exact ⟨its, r, p, z⟩
  · refine ⟨its.toList, r, ⟨o, I.kIn a o hk, hc, n, by simpa using hs⟩, ?_⟩
    have e := r.length
    simp only [Array.length_toList] at e
    omega
theorem Inv.list_inj (I : Inv X pins σ H s) (h : SqL X.K H a xs) (h' : SqL X.K H a ys) : xs = ys := by
  obtain ⟨its, r, ⟨o, n, e, _, _, d⟩, _⟩ := I.list h
  obtain ⟨its', r', ⟨o', n', e', _, _, d'⟩, _⟩ := I.list h'
  rw [e] at e'; cases e'
  rw [d] at d'
  injection d' with d1 _
  have : its = its' := by simpa using congrArg Array.toList d1
  subst this
  exact r.inj r'
theorem Inv.tuple_inj (I : Inv X pins σ H s) (h : SqT X.K H a xs) (h' : SqT X.K H a ys) : xs = ys := by
  obtain ⟨its, r, ⟨o, e, _, n, d⟩, _⟩ := I.tuple h
  obtain ⟨its', r', ⟨o', e', _, n', d'⟩, _⟩ := I.tuple h'
  rw [e] at e'; cases e'
  rw [d] at d'
  injection d' with d1 _
  have : its = its' := by simpa using congrArg Array.toList d1
  subst this
  exact r.inj r'
end
abbrev Cx.wish (X : Cx) (E : Value → Shared → Prop) : Cx := { X with xe := E }
abbrev Cx.nox (X : Cx) : Cx := X.wish fun _ _ => False
theorem Cx.Ok.wish {X : Cx} (ok : X.Ok) (E : Value → Shared → Prop) : (X.wish E).Ok :=
  ⟨ok.mod, ok.kind, ok.glob, ok.blt, ok.above, ok.inj, ok.has, ok.cab, ok.hd, ok.frames, ok.stk, ok.exf, ok.bs, ok.bsz, ok.noex, ok.exfs, ok.funs, ok.frf⟩
theorem Cx.Ok.unwish {X : Cx} {E : Value → Shared → Prop} (ok : (X.wish E).Ok) : X.Ok :=
  ⟨ok.mod, ok.kind, ok.glob, ok.blt, ok.above, ok.inj, ok.has, ok.cab, ok.hd, ok.frames, ok.stk, ok.exf, ok.bs, ok.bsz, ok.noex, ok.exfs, ok.funs, ok.frf⟩
section
variable {X : Cx} {pins : List (Addr × Obj)} {σ : St} {H : Hp} {s : Shared} {E : Value → Shared → Prop}
theorem Inv.wish (I : Inv X pins σ H s) (E : Value → Shared → Prop) : Inv (X.wish E) pins σ H s := ⟨I.ok.wish E, I.os, I.bare, I.base, I.loc, I.cell, I.free, I.freeC, I.pin, I.hok, I.len⟩
theorem Inv.unwish (I : Inv (X.wish E) pins σ H s) : Inv X pins σ H s := ⟨I.ok.unwish, I.os, I.bare, I.base, I.loc, I.cell, I.free, I.freeC, I.pin, I.hok, I.len⟩
theorem SP.unwish {D : Ends} {f : Flow} {s' : Shared} (h : SP (X.wish E) pins D f s') : SP X pins D f s' := by
  cases f with
  | next => obtain ⟨σ', H', I, q⟩ := h; exact ⟨σ', H', I.unwish, q⟩
  | brk => obtain ⟨σ', H', I, q⟩ := h; exact ⟨σ', H', I.unwish, q⟩
  | cont => obtain ⟨σ', H', I, q⟩ := h; exact ⟨σ', H', I.unwish, q⟩
  | ret u => obtain ⟨v, σ', H', I, r, q⟩ := h; exact ⟨v, σ', H', I.unwish, r, q⟩
theorem PE.nox {e : Expr} {t : TE} (h : PE X.nox e t) : PE X e t := fun pins s σ H Q I hw =>
  wpAny_mono (h pins s σ H Q (I.wish _) hw) (fun _ _ ⟨v, H', I', r, q⟩ => ⟨v, H', I'.unwish, r, q⟩) fun _ _ z => False.elim z
theorem PT.nox {e : Expr} {t : TT} (h : PT X.nox e t) : PT X e t := fun pins s σ H Q I hw =>
  wpAny_mono (h pins s σ H Q (I.wish _) hw) (fun _ _ ⟨H', I', q⟩ => ⟨H', I'.unwish, q⟩) fun _ _ z => False.elim z
theorem PSs.nox {st : List Stmt} {t : TS} (h : PSs X.nox st t) : PSs X st t := fun pins s σ H D I hw =>
  wpAny_mono (h pins s σ H D (I.wish _) hw) (fun _ _ q => q.unwish) fun _ _ z => False.elim z
end
section
variable {X : Cx} {st : Stmt} {rest : List Stmt} {t u : TS} {e : Expr} {te : TE} {pos : Pos}
def tNext : TS := fun D σ H => D.nx σ H
def tSeq (t u : TS) : TS := fun D σ H => t { D with nx := u D } σ H
theorem pss_nil : PSs X [] tNext := fun _ _ σ H _ I h => wpAny_execs_nil ⟨σ, H, I, h⟩
theorem pss_cons (h1 : PS X st t) (h2 : PSs X rest u) : PSs X (st :: rest) (tSeq t u) := by
  intro pins s σ H D I h
  refine wpAny_execs_cons (thn (h1 pins s σ H { D with nx := u D } I h) fun f s1 q => ?_)
  cases f with
  | next =>
    obtain ⟨σ', H', I', q⟩ := q
    exact h2 pins s1 σ' H' D I' q
  | ret v => exact q
  | brk => exact q
  | cont => exact q
theorem pss_one (h1 : PS X st t) : PSs X [st] t := by
  intro pins s σ H D I h
  refine wpAny_execs_cons (thn (h1 pins s σ H D I h) fun f s1 q => ?_)
  cases f with
  | next => exact wpAny_execs_nil q
  | ret v => exact q
  | brk => exact q
  | cont => exact q
theorem Inv.quiet {pins : List (Addr × Obj)} {σ : St} {H : Hp} {s : Shared} (I : Inv X pins σ H s) : interactive X.env = false := by simp [interactive, I.ok.kind]
def tDrop (te : TE) : TS := fun D σ H => te σ H fun _ H1 => D.nx σ H1
theorem ps_expr (he : PE X e te) (hs : swapsWith e none pos.line X.env = pure false := by rfl) : PS X (.Expr e pos) (tDrop te) := by
  intro pins s σ H D I h
  exact wpAny_Expr_any (thn (he pins s σ H _ I h) fun v s1 ⟨x, H1, I1, r1, q1⟩ => ⟨σ, H1, I1, q1⟩) I.quiet hs
def tRet (te : TE) : TS := fun D σ H => te σ H D.rt
theorem ps_ret (he : PE X e te) : PS X (.Return (some e) pos) (tRet te) := by
  intro pins s σ H D I h
  exact wpAny_Return_some (thn (he pins s σ H _ I h) fun v s1 ⟨x, H1, I1, r1, q1⟩ => ⟨x, σ, H1, I1, r1, q1⟩)
def tIfS (c : TT) (t u : TS) : TS := fun D σ H => c σ H fun b H1 => if b = true then t D σ H1 else u D σ H1
theorem ps_if {c : Expr} {a b : List Stmt} {tc : TT} (hc : PT X c tc) (ha : PSs X a t) (hb : PSs X b u) : PS X (.If c a b pos) (tIfS tc t u) := by
  intro pins s σ H D I h
  refine wpAny_If (thn (hc pins s σ H _ I h) fun d s1 ⟨H1, I1, q1⟩ => ?_)
  cases d with
  | true => exact ha pins s1 σ H1 D I1 q1
  | false => exact hb pins s1 σ H1 D I1 q1
end
abbrev TG := V → St → Hp → (St → Hp → Prop) → Prop
abbrev TGs := List V → St → Hp → (St → Hp → Prop) → Prop
def PG (X : Cx) (target : Expr) (t : TG) : Prop :=
  ∀ (pins : List (Addr × Obj)) (s : Shared) (σ : St) (H : Hp) (v : V) (u : Value) (Q : St → Hp → Prop), Inv X pins σ H s → RelV v u → t v σ H Q →
    wpAny (model X.prog X.w) X.A (assign target X.env u) (fun _ s' => ∃ σ' H', Inv X pins σ' H' s' ∧ Q σ' H') X.xe s
def PGs (X : Cx) (ts : List Expr) (t : TGs) : Prop :=
  ∀ (pins : List (Addr × Obj)) (s : Shared) (σ : St) (H : Hp) (vs : List V) (us : List Value) (Q : St → Hp → Prop), Inv X pins σ H s → Vals vs us → t vs σ H Q →
    wpAny (model X.prog X.w) X.A (assignInOrder ((assignEach ts X.env).map (·.2)) us) (fun _ s' => ∃ σ' H', Inv X pins σ' H' s' ∧ Q σ' H') X.xe s
section
variable {X : Cx} {pos : Pos}
def gName (i : Nat) : TG := fun v σ H Q => Q (σ.set i (some v)) H
theorem pg_name {i : Nat} {x : Str} (hN : X.N.Nodup) (hi : X.N[i]? = some x) (hx : Loc X.env.scope x) (hf : X.fn x = true ∨ X.env.scope.names.lookup x = some .local := by first | exact .inl rfl | exact .inr rfl | assumption) : PG X (.Name x pos) (gName i) := by
  intro pins s σ H v u Q I r h
  exact wpAny_assign_Name (store_ok I hN hi hx r (fun s' I' => ⟨_, H, I', h⟩) hf)
def gNil : TGs := fun vs σ H Q => vs = [] ∧ Q σ H
def gCons (t : TG) (u : TGs) : TGs := fun vs σ H Q => ∃ v r, vs = v :: r ∧ t v σ H fun σ' H' => u r σ' H' Q
theorem pgs_nil : PGs X [] gNil := by
  intro pins s σ H vs us Q I r h
  obtain ⟨e, h⟩ := h
  subst e
  cases r
  exact assignInOrder_nil ⟨σ, H, I, h⟩
theorem pgs_cons {e : Expr} {es : List Expr} {t : TG} {u : TGs} (h1 : PG X e t) (h2 : PGs X es u)
    (hs : (assignEach (e :: es) X.env).map (·.2) = assign e X.env :: (assignEach es X.env).map (·.2) := by rfl) : PGs X (e :: es) (gCons t u) := by
  intro pins s σ H vs us Q I r h
  obtain ⟨v, vr, e1, h⟩ := h
  subst e1
  cases r with
  | cons r rr =>
    rw [hs]
    refine assignInOrder_cons (thn (h1 pins s σ H _ _ _ I r h) fun _ s1 ⟨σ1, H1, I1, q1⟩ => ?_)
    exact h2 pins s1 σ1 H1 _ _ Q I1 rr q1
def gTup (K : PySem.W.Frag) (n : Nat) (t : TGs) : TG := fun v σ H Q => ∃ a xs, v = .ref a ∧ SqT K H a xs ∧ xs.length = n ∧ t xs σ H Q
theorem pg_tup {es : List Expr} {k : Nat} {t : TGs} {n : Nat} (hc : X.calm = true) (h : PGs X es t)
    (hn : (assignEach es X.env).length = n := by rfl) (hst : (assignEach es X.env).findIdx? (·.1) = none := by rfl) : PG X (.Tuple es k pos) (gTup X.K n t) := by
  intro pins s σ H v u Q I r hw
  obtain ⟨a, xs, e1, hq, hl, hw⟩ := hw
  subst e1
  cases r
  obtain ⟨its, rv, ht, hz⟩ := I.tuple hq
  refine assign_Tuple_tuple (I.ok.hd hc) ht (by simp [hn, ← hl, rv.length]) hst fun h' hx => ?_
  have I1 : Inv X pins σ H { s with heap := h' } := I.kept (t' := s.toks) fun b o e => hx b o (Nat.ne_of_lt (Heap.lt_size e)) e
  exact h pins _ σ H xs _ Q I1 (by simpa using rv) hw
def tAsg (te : TE) (g : TG) : TS := fun D σ H => te σ H fun x H1 => g x σ H1 D.nx
theorem ps_asg {tg e : Expr} {te : TE} {g : TG} (he : PE X e te) (hg : PG X tg g) (hs : swapsWithSole [tg] e pos.line X.env = pure false := by rfl) (hw : swappedStores [tg] e X.env = pure none := by rfl)
    (h1 : (assignEach [tg] X.env).map (·.2) = [assign tg X.env] := by rfl) : PS X (.Assign [tg] e pos) (tAsg te g) := by
  intro pins s σ H D I h
  refine wpAny_Assign_stores (thn (he pins s σ H _ I h) fun v s1 ⟨x, H1, I1, r1, q1⟩ => ?_) hs hw
  rw [h1]
  exact thn (hg pins s1 σ H1 x v _ I1 r1 q1) fun _ s2 q => q
theorem ps_set {i : Nat} {x : Str} {e : Expr} {te : TE} {pos' : Pos} (hN : X.N.Nodup) (hi : X.N[i]? = some x) (hx : Loc X.env.scope x) (he : PE X e te) (hs : swapsWith e (some (.Name x pos')) pos.line X.env = pure false := by rfl) (hf : X.fn x = true ∨ X.env.scope.names.lookup x = some .local := by first | exact .inl rfl | exact .inr rfl | assumption) :
    PS X (.Assign [.Name x pos'] e pos) (tAsg te (gName i)) := by
  intro pins s σ H D I h
  refine wpAny_Assign_Name (thn (he pins s σ H _ I h) fun v s1 ⟨y, H1, I1, r1, q1⟩ => ?_) hs
  exact store_ok I1 hN hi hx r1 (fun s2 I2 => ⟨_, H1, I2, q1⟩) hf
end
section
variable {X : Cx} {pos : Pos}
def tWhile (c : TT) (tb : TS) : TS := fun D σ H => ∃ W : Nat → St → Hp → Prop, (∃ m, W m σ H) ∧ ∀ m σ H, W m σ H →
  c σ H fun b H1 => if b = true then ∃ N : St → Hp → Prop, (∀ σ' H', N σ' H' → ∃ m', m' < m ∧ W m' σ' H') ∧ tb { D with nx := N, ct := N, bk := D.nx } σ H1 else D.nx σ H1
theorem ps_while {c : Expr} {body : List Stmt} {tc : TT} {tb : TS} (hp : PassesOwn (model X.prog X.w) X.A X.env X.xe) (hc : PT X c tc) (hb : PSs X body tb) : PS X (.While c body [] pos) (tWhile tc tb) := by
  intro pins s σ H D I h
  obtain ⟨W, ⟨m0, w0⟩, turn⟩ := h
  refine wpAny_While (codeAny_whileLoop (fun n s' => ∃ σ' H', Inv X pins σ' H' s' ∧ W n σ' H') ?_ m0 ⟨σ, H, I, w0⟩)
  rintro n s1 ⟨σ1, H1, I1, w1⟩
  refine wpAny_passesOwn hp (thn (hc pins s1 σ1 H1 _ I1 (turn n σ1 H1 w1)) fun b s2 ⟨H2, I2, q2⟩ => ?_)
  cases b with
  | true =>
    obtain ⟨N, hN, q2⟩ := q2
    rw [if_pos rfl]
    refine wpAny_passesOwn hp (thn (hb pins s2 σ1 H2 _ I2 q2) fun f s3 q3 => ?_)
    cases f with
    | next =>
      obtain ⟨σ3, H3, I3, n3⟩ := q3
      obtain ⟨m', hm, w3⟩ := hN σ3 H3 n3
      exact ⟨m', hm, σ3, H3, I3, w3⟩
    | cont =>
      obtain ⟨σ3, H3, I3, n3⟩ := q3
      obtain ⟨m', hm, w3⟩ := hN σ3 H3 n3
      exact ⟨m', hm, σ3, H3, I3, w3⟩
    | brk => exact q3
    | ret v => exact q3
  | false =>
    rw [if_neg Bool.false_ne_true]
    exact wpAny_execs_nil ⟨σ1, H2, I2, q2⟩
end
structure It where
  go : Nat → Hp → Prop
  yld : Nat → Hp → V → Hp → Prop
  stop : Nat → Hp → Prop
def FpOk (X : Cx) (pins : List (Addr × Obj)) (H : Hp) (b : Addr) : Prop :=
  H b = none ∧ b ≠ X.env.locals ∧ b ∉ X.fs ∧ (b ∈ X.ex ∨ X.s₀.heap.objs.size ≤ b) ∧ (∀ x c, X.env.cells.lookup x = some c → c ≠ b) ∧ ∀ p ∈ X.pn ++ pins, p.1 ≠ b
theorem Inv.fpOk {X : Cx} {pins : List (Addr × Obj)} {σ : St} {H H' : Hp} {s : Shared} {b : Addr} (I : Inv X pins σ H s) (hb : s.heap.objs.size ≤ b) (hn : H' b = none) : FpOk X pins H' b := by
  refine ⟨hn, Nat.ne_of_gt (Nat.lt_of_lt_of_le I.lt hb), I.nofs hb, .inr (Nat.le_trans I.sz hb), fun x c e z => ?_, fun p hp z => ?_⟩
  · obtain ⟨v, q⟩ := I.cell x c e
    exact absurd (Nat.lt_of_lt_of_le q.lt (by rw [z]; exact hb)) (Nat.lt_irrefl _)
  · exact absurd (Nat.lt_of_lt_of_le (Heap.lt_size (I.pin p hp).1) (by rw [z]; exact hb)) (Nat.lt_irrefl _)
structure Turn (P : Program) (w : World) (K : PySem.W.Frag) (tg : Expr) (J : It) (fp : List Addr) (it : Addr) (tn : Nat → Heap → Prop) : Prop where
  mem : it ∈ fp
  obj : ∀ i h, tn i h → ∀ b ∈ fp, ∃ o, h.get? b = some o ∧ ∀ v, o.data ≠ .cell v
  keep : ∀ i h h', tn i h → (∀ b ∈ fp, ∀ o, h.get? b = some o → h'.get? b = some o) → tn i h'
  item : ∀ (X : Cx), X.prog = P → X.w = w → X.K = K → X.calm = true → ∀ (i : Nat) (pins : List (Addr × Obj)) (s : Shared) (σ : St) (H : Hp) (E : Value → Shared → Prop), Inv X pins σ H s → (∀ b ∈ fp, FpOk X pins H b) → tn i s.heap → J.go i H →
    wpAny (model P w) X.A (pyNext (.ref it)) (fun r s1 => ∃ u, r = some u ∧
      wpAny (model P w) X.A (letOwnedTupleGo tg (.ref it) u) (fun _ s2 => ∃ x H', Inv X pins σ H' s2 ∧ RelV x u ∧ J.yld i H x H' ∧ tn (i + 1) s2.heap ∧ ∀ b ∈ fp, H' b = none) E s1) E s
  done : ∀ (X : Cx), X.prog = P → X.w = w → X.K = K → X.calm = true → ∀ (i : Nat) (pins : List (Addr × Obj)) (s : Shared) (σ : St) (H : Hp) (E : Value → Shared → Prop), Inv X pins σ H s → (∀ b ∈ fp, FpOk X pins H b) → tn i s.heap → J.stop i H →
    wpAny (model P w) X.A (pyNext (.ref it)) (fun r s1 => r = none ∧ Inv X pins σ H s1) E s
  self : ∀ (A : Around) (i : Nat) (s : Shared) (Q : Value → Shared → Prop) (E : Value → Shared → Prop), tn i s.heap → Q (.ref it) s → wpAny (model P w) A (pyIter (.ref it)) Q E s
abbrev TI := St → Hp → (It → Hp → Prop) → Prop
def PIE (X : Cx) (pins : List (Addr × Obj)) (σ : St) (tg : Expr) (R : It → Hp → Prop) (itv : Value) (s2 : Shared) : Prop :=
  ∃ (it : Addr) (fp : List Addr) (tn : Nat → Heap → Prop) (J : It) (H' : Hp), itv = .ref it ∧ Inv X pins σ H' s2 ∧ Turn X.prog X.w X.K tg J fp it tn ∧ tn 0 s2.heap ∧ (∀ b ∈ fp, FpOk X pins H' b) ∧ R J H'
def PI (X : Cx) (tg iter : Expr) (wi : TI) : Prop :=
  ∀ (pins : List (Addr × Obj)) (s : Shared) (σ : St) (H : Hp) (R : It → Hp → Prop), Inv X pins σ H s → wi σ H R →
    wpAny (model X.prog X.w) X.A (eval iter X.env) (fun v s1 => wpAny (model X.prog X.w) X.A (pyIter v) (PIE X pins σ tg R) X.xe s1) X.xe s
theorem go_of {M : Model} {A : Around} {E : Value → Shared → Prop} {s : Shared} {tg : Expr} {it : Addr} {u : Value} {o : Obj} {n : String} {vs : Array Value} {Q : Unit → Shared → Prop} (ho : s.heap.get? it = some o) (hc : o.cls = .type n) (hd : o.data = .fields vs)
    (hn : ["enumerate", "zip", "dict_itemiterator", "dict_reverseitemiterator", "odict_iterator", "itertools.zip_longest", "itertools.pairwise"].contains n = false) (hQ : Q () s) : wpAny M A (letOwnedTupleGo tg (.ref it) u) Q E s := by
  unfold letOwnedTupleGo
  cases tg <;> first
    | exact wpAny_pure hQ
    | (cases u <;> first
        | exact wpAny_pure hQ
        | (refine wpAny_bind (wpAny_load ho ?_)
           rw [hc, hd]
           show wpAny M A (if (["enumerate", "zip", "dict_itemiterator", "dict_reverseitemiterator", "odict_iterator", "itertools.zip_longest", "itertools.pairwise"].contains n && vs[0]? == some (rawInt _)) = true then _ else _) Q E s
           rw [if_neg (by intro h; rw [hn, Bool.false_and] at h; cases h)]
           exact wpAny_pure hQ))
def Itl (K : PySem.W.Frag) (a : Addr) : It :=
  ⟨fun i H => ∃ xs x, SqL K H a xs ∧ xs[i]? = some x, fun i H x H' => H' = H ∧ ∀ xs, SqL K H a xs → xs[i]? = some x, fun i H => ∃ xs, SqL K H a xs ∧ xs.length ≤ i⟩
def Itt (K : PySem.W.Frag) (a : Addr) : It :=
  ⟨fun i H => ∃ xs x, SqT K H a xs ∧ xs[i]? = some x, fun i H x H' => H' = H ∧ ∀ xs, SqT K H a xs → xs[i]? = some x, fun i H => ∃ xs, SqT K H a xs ∧ xs.length ≤ i⟩
def Itr (lo : Int) (n : Nat) : It := ⟨fun i _ => i < n, fun i H x H' => H' = H ∧ x = .int (lo + i), fun i _ => n ≤ i⟩
theorem turn_list {P : Program} {w : World} {K : PySem.W.Frag} {tg : Expr} (a it : Addr) : Turn P w K tg (Itl K a) [it] it (fun i h => h.IsListIter it a i) where
  mem := by simp
  obj := fun i h st b hb => by
    have e : b = it := by simpa using hb
    subst e
    obtain ⟨o, e, c, d⟩ := st
    exact ⟨o, e, fun v z => by rw [d] at z; cases z⟩
  keep := fun i h h' st k => st.at fun o e => k it (by simp) o e
  item := by
    intro X hP hw hK hc i pins s σ H E I hf st hg
    subst hP hw hK
    obtain ⟨xs, x, hq, hx⟩ := hg
    obtain ⟨its, rv, p, hz⟩ := I.list hq
    obtain ⟨u, hu, ru⟩ := rv.get hx
    obtain ⟨f0, f1, f2, f3, f4, f5⟩ := hf it (by simp)
    refine wpAny_pyNext_list_item st p.isList (x := u) (by simpa using hu) fun h' st' sb => ?_
    have I1 : Inv X pins σ H { s with heap := h' } := I.turned (t' := s.toks) (fun b o hb e => (sb.2 b hb).trans e) f0 f1 f3 f4 f5
    obtain ⟨o, e, c, d⟩ := id st'
    exact ⟨u, rfl, go_of (s := { s with heap := h' }) e c d (by decide) ⟨x, H, I1, ru, ⟨rfl, fun ys hy => by rw [I.list_inj hy hq]; exact hx⟩, st', fun b hb => (hf b hb).1⟩⟩
  done := by
    intro X hP hw hK hc i pins s σ H E I hf st hg
    subst hP hw hK
    obtain ⟨xs, hq, hx⟩ := hg
    obtain ⟨its, rv, p, hz⟩ := I.list hq
    obtain ⟨f0, f1, f2, f3, f4, f5⟩ := hf it (by simp)
    have hl := rv.length
    exact wpAny_pyNext_list_end (I.ok.hd hc) st p.isList (by simp; omega) fun h' eb => ⟨rfl, I.turned (t' := s.toks) (fun b o hb e => eb b o hb e) f0 f1 f3 f4 f5⟩
  self := fun _ _ _ _ _ st h => wpAny_pyIter_listiter st h
theorem turn_tuple {P : Program} {w : World} {K : PySem.W.Frag} {tg : Expr} (a it : Addr) : Turn P w K tg (Itt K a) [it] it (fun i h => h.IsTupleIter it a i) where
  mem := by simp
  obj := fun i h st b hb => by
    have e : b = it := by simpa using hb
    subst e
    obtain ⟨o, e, c, d⟩ := st
    exact ⟨o, e, fun v z => by rw [d] at z; cases z⟩
  keep := fun i h h' st k => st.at fun o e => k it (by simp) o e
  item := by
    intro X hP hw hK hc i pins s σ H E I hf st hg
    subst hP hw hK
    obtain ⟨xs, x, hq, hx⟩ := hg
    obtain ⟨its, rv, p, hz⟩ := I.tuple hq
    obtain ⟨u, hu, ru⟩ := rv.get hx
    obtain ⟨f0, f1, f2, f3, f4, f5⟩ := hf it (by simp)
    refine wpAny_pyNext_tuple_item st (show s.heap.IsTuple a its.toArray from p) (x := u) (by simpa using hu) fun h' st' sb => ?_
    have I1 : Inv X pins σ H { s with heap := h' } := I.turned (t' := s.toks) (fun b o hb e => (sb.2 b hb).trans e) f0 f1 f3 f4 f5
    obtain ⟨o, e, c, d⟩ := id st'
    exact ⟨u, rfl, go_of (s := { s with heap := h' }) e c d (by decide) ⟨x, H, I1, ru, ⟨rfl, fun ys hy => by rw [I.tuple_inj hy hq]; exact hx⟩, st', fun b hb => (hf b hb).1⟩⟩
  done := by
    intro X hP hw hK hc i pins s σ H E I hf st hg
    subst hP hw hK
    obtain ⟨xs, hq, hx⟩ := hg
    obtain ⟨its, rv, p, hz⟩ := I.tuple hq
    obtain ⟨f0, f1, f2, f3, f4, f5⟩ := hf it (by simp)
    have hl := rv.length
    exact wpAny_pyNext_tuple_end (I.ok.hd hc) st (show s.heap.IsTuple a its.toArray from p) (by simp; omega) fun h' eb => ⟨rfl, I.turned (t' := s.toks) (fun b o hb e => eb b o hb e) f0 f1 f3 f4 f5⟩
  self := fun _ _ _ _ _ st h => wpAny_pyIter_tupleiter st h
theorem turn_range {P : Program} {w : World} {K : PySem.W.Frag} {tg : Expr} (it : Addr) (lo : Int) (n : Nat) : Turn P w K tg (Itr lo n) [it] it (fun i h => IsRangeIter h it (lo + (i : Nat) * 1) ((n : Int) - (i : Nat)) 1) where
  mem := by simp
  obj := fun i h st b hb => by
    have e : b = it := by simpa using hb
    subst e
    exact ⟨_, st, fun v z => by
      have z' : Data.fields _ = Data.cell v := z
      cases z'⟩
  keep := fun i h h' st k => k it (by simp) _ st
  item := by
    intro X hP hw hK hc i pins s σ H E I hf st hg
    subst hP hw hK
    obtain ⟨f0, f1, f2, f3, f4, f5⟩ := hf it (by simp)
    have W := Walks.range (prog := X.prog) (w := X.w) (I.ok.hd hc) it lo 1 n
    refine W.item i s _ _ hg st fun v h' tk hv st' kk => ?_
    obtain ⟨t, rfl⟩ := hv
    have I1 : Inv X pins σ H { s with heap := h', toks := tk } := I.turned (fun b o hb e => kk b o (by simpa using hb) e) f0 f1 f3 f4 f5
    refine ⟨_, rfl, go_of (s := { s with heap := h', toks := tk }) (n := "range_iterator") st' rfl rfl (by decide) ⟨.int (lo + i), H, I1, ⟨t, ?_⟩, ⟨rfl, rfl⟩, st', fun b hb => (hf b hb).1⟩⟩
    rw [Int.mul_one]
  done := by
    intro X hP hw hK hc i pins s σ H E I hf st hg
    subst hP hw hK
    obtain ⟨f0, f1, f2, f3, f4, f5⟩ := hf it (by simp)
    exact wpAny_pyNext_range_end (I.ok.hd hc) st (by have : n ≤ i := hg; omega) fun h' eb => ⟨rfl, I.turned (t' := s.toks) (fun b o hb e => eb b o hb e) f0 f1 f3 f4 f5⟩
  self := fun _ _ _ _ _ st h => wpAny_pyIter_rangeiter st h
end L2
namespace L2
open PySem PySem.Spec PyProof.Rows
section
variable {X : Cx} {tg : Expr}
theorem range_it {pins : List (Addr × Obj)} {σ : St} {H : Hp} {s : Shared} {R : It → Hp → Prop} {E : Value → Shared → Prop} {lo hi : Int} {t u v : Tok} {tk : Nat} (I : Inv X pins σ H s) (h1 : -(2 ^ 62) ≤ lo) (h2 : lo < 2 ^ 62) (h3 : -(2 ^ 62) ≤ hi) (h4 : hi < 2 ^ 62)
    (q : R (Itr lo (hi - lo).toNat) H) : wpAny (model X.prog X.w) X.A (pyIter (.ref s.heap.objs.size)) (PIE X pins σ tg R) E { s with heap := s.heap.push { cls := .type "range", data := .fields #[.int lo t, .int hi u, .int 1 v] }, toks := tk } := by
  refine wpAny_pyIter_range (IsRange.new ..) (small_one h1 h2 h3 h4) ?_
  have I1 : Inv X pins σ H { s with heap := s.heap.push { cls := .type "range", data := .fields #[.int lo t, .int hi u, .int 1 v] }, toks := tk } := I.kept fun b o e => Heap.get?_push_of_some _ e
  refine ⟨(s.heap.push { cls := .type "range", data := .fields #[.int lo t, .int hi u, .int 1 v] }).objs.size, [(s.heap.push { cls := .type "range", data := .fields #[.int lo t, .int hi u, .int 1 v] }).objs.size], _, _, H, rfl,
    I1.kept (t' := tk) fun b o e => Heap.get?_push_of_some _ e, turn_range _ lo (hi - lo).toNat, ?_, fun b hb => ?_, q⟩
  · have e1 : lo + ((0 : Nat) : Int) * 1 = lo := by simp
    have e2 : (((hi - lo).toNat : Nat) : Int) - ((0 : Nat) : Int) = Builtin.Range.rangeSize lo hi 1 := by rw [rangeSize_one]; split <;> omega
    show IsRangeIter _ _ (lo + ((0 : Nat) : Int) * 1) ((((hi - lo).toNat : Nat) : Int) - ((0 : Nat) : Int)) 1
    rw [e1, e2]
    exact Heap.get?_push_size _ rfl
  · have e : b = (s.heap.push { cls := .type "range", data := .fields #[.int lo t, .int hi u, .int 1 v] }).objs.size := by simpa using hb
    subst e
    exact I1.fpOk (Nat.le_refl _) (I1.hok.fresh (Nat.le_refl _))
def iRng1 (ta : TA) : TI := fun σ H R => ta σ H fun vs H1 => ∃ j : Int, vs = [.int j] ∧ -(2 ^ 62) ≤ j ∧ j < 2 ^ 62 ∧ R (Itr 0 j.toNat) H1
theorem pi_range1 {a : Expr} {ta : TA} {p pos : Pos} (hg : Gl X "range") (hm : X.mg "range" = none) (ha : PA X [a] ta) (hs : starEach [a] X.env = [(false, eval a X.env)] := by rfl) : PI X tg (.Call (.Name "range" p) [a] [] pos) (iRng1 ta) := by
  intro pins s σ H R I h
  refine Call_ (ld_blt I hg hm boot_range (PyProof.Rows.callWith_type1 (thn (ha pos pins s σ H _ I h) fun us s1 ⟨vs, H1, I1, r1, q1⟩ => ?_) hs rfl))
  obtain ⟨j, e, q1, q2, q⟩ := q1
  subst e
  cases r1 with
  | cons r rr =>
    cases rr
    obtain ⟨t, rfl⟩ := r
    exact call_range_1 (range_it I1 (by omega) (by omega) q1 q2 (by simpa using q))
def tFor (wi : TI) (g : TG) (tb : TS) : TS := fun D σ H => wi σ H fun J H1 => ∃ W : Nat → Nat → St → Hp → Prop, (∃ m, W 0 m σ H1) ∧ ∀ i m σ H, W i m σ H →
  (J.stop i H ∧ D.nx σ H) ∨ (J.go i H ∧ ∃ N : St → Hp → Prop, (∀ σ' H', N σ' H' → ∃ m', m' < m ∧ W (i + 1) m' σ' H') ∧ ∀ x H', J.yld i H x H' → g x σ H' fun σ2 H2 => tb { D with nx := N, ct := N, bk := D.nx } σ2 H2)
def pinsAt (fp : List Addr) (h : Heap) : List (Addr × Obj) := fp.filterMap fun b => (h.get? b).map fun o => (b, o)
theorem mem_pinsAt {fp : List Addr} {h : Heap} {b : Addr} {o : Obj} (hb : b ∈ fp) (e : h.get? b = some o) : (b, o) ∈ pinsAt fp h := List.mem_filterMap.mpr ⟨b, hb, by rw [e]; rfl⟩
theorem of_pinsAt {fp : List Addr} {h : Heap} {p : Addr × Obj} (hp : p ∈ pinsAt fp h) : p.1 ∈ fp ∧ h.get? p.1 = some p.2 := by
  obtain ⟨b, hb, e⟩ := List.mem_filterMap.mp hp
  cases q : h.get? b with
  | none => rw [q] at e; cases e
  | some o =>
    rw [q] at e
    have e' : (b, o) = p := Option.some.inj e
    subst e'
    exact ⟨hb, q⟩
theorem Inv.pinned {pins : List (Addr × Obj)} {σ : St} {H : Hp} {s : Shared} {fp : List Addr} (I : Inv X pins σ H s) (hf : ∀ b ∈ fp, FpOk X pins H b) (ho : ∀ b ∈ fp, ∃ o, s.heap.get? b = some o ∧ ∀ v, o.data ≠ .cell v) : Inv X (pins ++ pinsAt fp s.heap) σ H s :=
  I.pins_of fun p hp => (List.mem_append.mp hp).elim (fun z => I.pin p (List.mem_append_right _ z)) fun z => by
    obtain ⟨hb, e⟩ := of_pinsAt z
    obtain ⟨f0, f1, f2, _⟩ := hf p.1 hb
    obtain ⟨o, e', d⟩ := ho p.1 hb
    rw [e] at e'; cases e'
    exact ⟨e, f0, f1, f2, d⟩
theorem Inv.unpinned {pins pl : List (Addr × Obj)} {σ : St} {H : Hp} {s : Shared} (I : Inv X (pins ++ pl) σ H s) : Inv X pins σ H s := I.pins_of fun p hp => I.pin p (List.mem_append_right _ (List.mem_append_left _ hp))
theorem ps_for {iter : Expr} {body : List Stmt} {wi : TI} {g : TG} {tb : TS} {pos : Pos} (hp : PassesOwn (model X.prog X.w) X.A X.env X.xe) (hc : X.calm = true) (hi : PI X tg iter wi) (hg : PG X tg g) (hb : PSs X body tb)
    (hs : ∀ x, foldedSetIterable iter X.env x = pure x := by intro _; rfl) : PS X (.For tg iter body [] pos) (tFor wi g tb) := by
  intro pins s σ H D I h
  refine wpAny_For (thn (hi pins s σ H _ I h) fun v s1 h1 => thn h1 fun itv s2 h2 => ?_) hs
  obtain ⟨it, fp, tn, J, H2, e, I2, T, st2, f2, W, ⟨m0, w0⟩, turn⟩ := h2
  subst e
  have stat : ∀ {H' : Hp}, (∀ b ∈ fp, H' b = none) → ∀ b ∈ fp, FpOk X pins H' b := fun hn b hb => ⟨hn b hb, (f2 b hb).2⟩
  refine codeAny_forLoop_any (fun n s' => ∃ i σ' H', Inv X pins σ' H' s' ∧ tn i s'.heap ∧ (∀ b ∈ fp, H' b = none) ∧ W i n σ' H') ?_ m0 ⟨0, σ, H2, I2, st2, fun b hb => (f2 b hb).1, w0⟩
  rintro n s3 ⟨i, σ3, H3, I3, st3, fr3, w3⟩
  rcases turn i n σ3 H3 w3 with ⟨stop, qn⟩ | ⟨go, N, hN, step⟩
  · refine wpAny_passesOwn hp (thn (T.done X rfl rfl rfl hc i pins s3 σ3 H3 X.xe I3 (stat fr3) st3 stop) fun r s4 ⟨hr, I4⟩ => ?_)
    subst hr
    exact wpAny_execs_nil ⟨σ3, H3, I4, qn⟩
  · refine wpAny_passesOwn hp (thn (T.item X rfl rfl rfl hc i pins s3 σ3 H3 X.xe I3 (stat fr3) st3 go) fun r s4 ⟨u, hr, h4⟩ => ?_)
    subst hr
    refine wpAny_passesOwn hp (thn h4 fun _ s5 ⟨x, H5, I5, r5, y5, st5, fr5⟩ => ?_)
    have I5' := I5.pinned (stat fr5) (T.obj _ _ st5)
    refine wpAny_passesOwn hp (thn (hg _ s5 σ3 H5 x u _ I5' r5 (step x H5 y5)) fun _ s6 ⟨σ6, H6, I6, q6⟩ => ?_)
    refine wpAny_passesOwn hp (thn (hb _ s6 σ6 H6 _ I6 q6) fun f s7 q7 => ?_)
    have again : ∀ {σ7 : St} {H7 : Hp}, Inv X (pins ++ pinsAt fp s5.heap) σ7 H7 s7 → N σ7 H7 → ∃ m, m < n ∧ ∃ i σ' H', Inv X pins σ' H' s7 ∧ tn i s7.heap ∧ (∀ b ∈ fp, H' b = none) ∧ W i m σ' H' := fun {σ7 H7} I7 n7 => by
      obtain ⟨m', hm, w7⟩ := hN σ7 H7 n7
      refine ⟨m', hm, i + 1, σ7, H7, I7.unpinned, T.keep _ _ _ st5 fun b hb o e => (I7.pin (b, o) (List.mem_append_right _ (List.mem_append_right _ (mem_pinsAt hb e)))).1, fun b hb => ?_, w7⟩
      obtain ⟨o, e, d⟩ := T.obj _ _ st5 b hb
      exact (I7.pin (b, o) (List.mem_append_right _ (List.mem_append_right _ (mem_pinsAt hb e)))).2.1
    cases f with
    | next => obtain ⟨σ7, H7, I7, n7⟩ := q7; exact again I7 n7
    | cont => obtain ⟨σ7, H7, I7, n7⟩ := q7; exact again I7 n7
    | brk => obtain ⟨σ7, H7, I7, q7⟩ := q7; exact ⟨σ7, H7, I7.unpinned, q7⟩
    | ret v => obtain ⟨x7, σ7, H7, I7, r7, q7⟩ := q7; exact ⟨x7, σ7, H7, I7.unpinned, r7, q7⟩
end
end L2
namespace L2
open PySem PySem.Spec PyProof.Rows
abbrev R2 := V → V → Hp → VK → Prop
def OpR (X : Cx) (f : Value → Value → Sem Value) (r : R2) : Prop :=
  ∀ (pins : List (Addr × Obj)) (s : Shared) (σ : St) (H : Hp) (x y : V) (v u : Value) (Q : VK), Inv X pins σ H s → RelV x v → RelV y u → r x y H Q →
    wpAny (model X.prog X.w) X.A (f v u) (EP X pins σ Q) X.xe s
def CallR (X : Cx) (f : Value) (r : List V → Hp → VK → Prop) : Prop :=
  ∀ (pins : List (Addr × Obj)) (s : Shared) (σ : St) (H : Hp) (xs : List V) (us : List Value) (Q : VK), Inv X pins σ H s → Vals xs us → r xs H Q →
    wpAny (model X.prog X.w) X.A (call f us) (EP X pins σ Q) X.xe s
def tOp (r : R2) (ta tb : TE) : TE := fun σ H Q => ta σ H fun x H1 => tb σ H1 fun y H2 => r x y H2 Q
def rI (C : Int → Int → Prop) (g : Int → Int → V) : R2 := fun x y H Q => ∃ i j, x = .int i ∧ y = .int j ∧ C i j ∧ Q (g i j) H
def rI0 (g : Int → Int → V) : R2 := fun x y H Q => ∃ i j, x = .int i ∧ y = .int j ∧ Q (g i j) H
section
variable {X : Cx} {a b c : Expr} {ta tb tc : TE} {pos : Pos}
theorem binT (ha : PE X a ta) (hb : PE X b tb) {pins : List (Addr × Obj)} {s : Shared} {σ : St} {H : Hp} {R : V → V → Hp → Prop} (I : Inv X pins σ H s)
    (h : ta σ H fun x H1 => tb σ H1 fun y H2 => R x y H2) {Q : Value → Shared → Prop} {f : Value → Value → Sem Value}
    (hf : ∀ v u s2 x y H2, Inv X pins σ H2 s2 → RelV x v → RelV y u → R x y H2 → wpAny (model X.prog X.w) X.A (f v u) Q X.xe s2) :
    wpAny (model X.prog X.w) X.A (eval a X.env) (fun v s₁ => wpAny (model X.prog X.w) X.A (eval b X.env) (fun u s₂ => wpAny (model X.prog X.w) X.A (f v u) Q X.xe s₂) X.xe s₁) X.xe s := by
  refine thn (ha pins s σ H _ I h) fun v s1 ⟨x, H1, I1, r1, q1⟩ => ?_
  refine thn (hb pins s1 σ H1 _ I1 q1) fun u s2 ⟨y, H2, I2, r2, q2⟩ => ?_
  exact hf v u s2 x y H2 I2 r1 r2 q2
theorem pe_op {op : Operator} {r : R2} (ho : OpR X (binaryOp op) r) (ha : PE X a ta) (hb : PE X b tb) : PE X (.BinOp a op b pos) (tOp r ta tb) := by
  intro pins s σ H Q I h
  exact wpAny_BinOp (binT ha hb I h fun v u s2 x y H2 I2 rx ry q => ho pins s2 σ H2 x y v u Q I2 rx ry q)
theorem opI {f : Value → Value → Sem Value} {C : Int → Int → Prop} {g : Int → Int → Int}
    (rule : ∀ (i j : Int) (t u : Tok) (s : Shared) (Q : Value → Shared → Prop) (E : Value → Shared → Prop), C i j → Q (.int (g i j) s.toks) { s with toks := s.toks + 1 } → wpAny (model X.prog X.w) X.A (f (.int i t) (.int j u)) Q E s) :
    OpR X f (rI C fun i j => .int (g i j)) := by
  intro pins s σ H x y v u Q I rx ry h
  obtain ⟨i, j, rfl, rfl, hc, q⟩ := h
  obtain ⟨t, rfl⟩ := rx
  obtain ⟨t', rfl⟩ := ry
  exact rule i j t t' s _ _ hc ⟨.int (g i j), H, I.tok _, ⟨_, rfl⟩, q⟩
theorem opI0 {f : Value → Value → Sem Value} {g : Int → Int → Int}
    (rule : ∀ (i j : Int) (t u : Tok) (s : Shared) (Q : Value → Shared → Prop) (E : Value → Shared → Prop), Q (.int (g i j) s.toks) { s with toks := s.toks + 1 } → wpAny (model X.prog X.w) X.A (f (.int i t) (.int j u)) Q E s) :
    OpR X f (rI0 fun i j => .int (g i j)) := by
  intro pins s σ H x y v u Q I rx ry h
  obtain ⟨i, j, rfl, rfl, q⟩ := h
  obtain ⟨t, rfl⟩ := rx
  obtain ⟨t', rfl⟩ := ry
  exact rule i j t t' s _ _ ⟨.int (g i j), H, I.tok _, ⟨_, rfl⟩, q⟩
theorem opB0 {f : Value → Value → Sem Value} {g : Int → Int → Bool}
    (rule : ∀ (i j : Int) (t u : Tok) (s : Shared) (Q : Value → Shared → Prop) (E : Value → Shared → Prop), Q (.bool (g i j)) s → wpAny (model X.prog X.w) X.A (f (.int i t) (.int j u)) Q E s) :
    OpR X f (rI0 fun i j => .bl (g i j)) := by
  intro pins s σ H x y v u Q I rx ry h
  obtain ⟨i, j, rfl, rfl, q⟩ := h
  obtain ⟨t, rfl⟩ := rx
  obtain ⟨t', rfl⟩ := ry
  exact rule i j t t' s _ _ ⟨.bl (g i j), H, I, rfl, q⟩
def CDiv (i j : Int) : Prop := 0 < j ∧ j < 1073741824
def CPow (i j : Int) : Prop := 0 ≤ j ∧ j ≤ 1000000 ∧ i.natAbs < 2 ^ 64
def CMul (i j : Int) : Prop := (-(2 ^ 64) < i ∧ i < 2 ^ 64) ∨ (-(2 ^ 64) < j ∧ j < 2 ^ 64)
theorem CMul.ok {i j : Int} (h : CMul i j) : IntMulOk i j := by
  rcases h with ⟨h1, h2⟩ | ⟨h1, h2⟩
  · exact .of_left (intBits_le_64 h1 h2)
  · exact .of_right (intBits_le_64 h1 h2)
theorem op_add : OpR X (binaryOp .Add) (rI0 fun i j => .int (i + j)) := opI0 fun _ _ _ _ _ _ _ q => add_int q
theorem op_sub : OpR X (binaryOp .Sub) (rI0 fun i j => .int (i - j)) := opI0 fun _ _ _ _ _ _ _ q => sub_int q
theorem op_mul : OpR X (binaryOp .Mult) (rI CMul fun i j => .int (i * j)) := opI fun _ _ _ _ _ _ _ hc q => mul_int q hc.ok
theorem op_fdiv : OpR X (binaryOp .FloorDiv) (rI CDiv fun i j => .int (i / j)) := opI fun i j _ _ _ _ _ hc q => by
  have h1 : (0 : Int) < j := hc.1
  have h2 : j < 1073741824 := hc.2
  exact floordiv_int (by omega) (by rw [Int.fdiv_eq_ediv_of_nonneg i (by omega)]; exact q) (.inl (PyProof.noPylong_small (by omega)))
theorem op_mod : OpR X (binaryOp .Mod) (rI (fun _ j => 0 < j) fun i j => .int (i % j)) := opI fun i j _ _ _ _ _ hc q => by
  have h1 : (0 : Int) < j := hc
  exact mod_int' (by omega) (by rw [Int.fmod_eq_emod_of_nonneg i (by omega)]; exact q)
theorem op_pow : OpR X (binaryOp .Pow) (rI CPow fun i j => .int (i ^ j.toNat)) := opI fun _ _ _ _ _ _ _ hc q => pow_int_small hc.1 hc.2.1 hc.2.2 q
end
section
variable {X : Cx} {a b c : Expr} {ta tb tc : TE} {pos : Pos}
theorem fin_bl {pins : List (Addr × Obj)} {σ : St} {H : Hp} {s : Shared} {Q : VK} {k k' : Bool} (I : Inv X pins σ H s) (q : Q (.bl k) H) (e : k = k') : EP X pins σ Q (.bool k') s := by
  subst e
  exact ⟨.bl k, H, I, rfl, q⟩
theorem op_lt : OpR X (compareOp .Lt) (rI0 fun i j => .bl (decide (i < j))) := opB0 fun _ _ _ _ _ _ _ q => lt_int q
theorem op_gt : OpR X (compareOp .Gt) (rI0 fun i j => .bl (decide (j < i))) := opB0 fun _ _ _ _ _ _ _ q => gt_int q
theorem op_ge : OpR X (compareOp .GtE) (rI0 fun i j => .bl (decide (j ≤ i))) := opB0 fun _ _ _ _ _ _ _ q => ge_int q
theorem op_in_str : OpR X (compareOp .In) (fun x y H Q => ∃ i j, x = .str i ∧ y = .str j ∧ Q (.bl (!(Builtin.Str.occurrences j i 0 j.length 1).isEmpty)) H) := by
  intro pins s σ H x y v u Q I rx ry h
  obtain ⟨i, j, rfl, rfl, q⟩ := h
  obtain ⟨t, rfl⟩ := rx
  obtain ⟨t', rfl⟩ := ry
  exact in_str (fin_bl I q rfl)
theorem nomark (b : Expr) {op : CmpOp} (h : op ≠ .In := by decide) (h2 : op ≠ .NotIn := by decide) : behindInMarks op b = false := by
  have e1 : (op == CmpOp.In) = false := by cases op <;> first | rfl | exact absurd rfl h
  have e2 : (op == CmpOp.NotIn) = false := by cases op <;> first | rfl | exact absurd rfl h2
  cases b <;> simp [behindInMarks, e1, e2]
theorem pe_cmpR {op : CmpOp} {r : R2} (ho : OpR X (compareOp op) r) (ha : PE X a ta) (hb : PE X b tb) (hm : behindInMarks op b = false) : PE X (.Compare a [op] [b] pos) (tOp r ta tb) := by
  intro pins s σ H Q I h
  exact wpAny_Compare1 (binT ha hb I h fun v u s2 x y H2 I2 rx ry q => ho pins s2 σ H2 x y v u Q I2 rx ry q) hm
def tTest (t : TE) : TT := fun σ H Q => t σ H fun x H' => ∃ k, x = .bl k ∧ Q k H'
theorem pt_cmpR {op : CmpOp} {r : R2} (ho : OpR X (compareOp op) r) (ha : PE X a ta) (hb : PE X b tb) (hm : behindInMarks op b = false) : PT X (.Compare a [op] [b] pos) (tTest (tOp r ta tb)) := by
  intro pins s σ H Q I h
  refine wpAny_isTrue_Compare1 (thn (ha pins s σ H _ I h) fun v s1 ⟨x, H1, I1, r1, q1⟩ => thn (hb pins s1 σ H1 _ I1 q1) fun u s2 ⟨y, H2, I2, r2, q2⟩ =>
    thn (ho pins s2 σ H2 x y v u _ I2 r1 r2 q2) fun c s3 ⟨z, H3, I3, r3, k, e, q3⟩ => ?_) hm
  subst e
  cases r3
  exact wpAny_truthy_bool ⟨H3, I3, q3⟩
theorem line63 : (sizeLine : Nat) < 2 ^ 63 := by rw [sizeLine_eq]; decide
theorem op_add_str : OpR X (binaryOp .Add) (fun x y H Q => ∃ i j, x = .str i ∧ y = .str j ∧ i.length + j.length ≤ sizeLine ∧ Q (.str (i ++ j)) H) := by
  intro pins s σ H x y v u Q I rx ry h
  obtain ⟨i, j, rfl, rfl, hz, q⟩ := h
  obtain ⟨t, rfl⟩ := rx
  obtain ⟨t', rfl⟩ := ry
  exact add_str (fun t' tk => ⟨.str (i ++ j), H, I.tok _, ⟨_, rfl⟩, q⟩) hz
theorem vals1 {x : V} {us : List Value} (r : Vals [x] us) : ∃ u, us = [u] ∧ RelV x u := by
  cases r with
  | cons r1 r2 => cases r2; exact ⟨_, rfl, r1⟩
theorem vals2 {x y : V} {us : List Value} (r : Vals [x, y] us) : ∃ u w', us = [u, w'] ∧ RelV x u ∧ RelV y w' := by
  cases r with
  | cons r1 r2 =>
    cases r2 with
    | cons r3 r4 => cases r4; exact ⟨_, _, rfl, r1, r3⟩
theorem call_max2 (hc : X.calm = true) : CallR X (.builtin "max") (fun xs H Q => ∃ i j, xs = [.int i, .int j] ∧ Q (.int (if j > i then j else i)) H) := by
  intro pins s σ H xs us Q I r h
  obtain ⟨i, j, rfl, q⟩ := h
  obtain ⟨u, w', rfl, ⟨t, rfl⟩, ⟨t', rfl⟩⟩ := vals2 r
  refine max_two_ints (I.ok.hd hc) fun h' tk k => ⟨_, H, I.kept k, ?_, q⟩
  by_cases hj : j > i
  · rw [if_pos hj, if_pos hj]; exact ⟨_, rfl⟩
  · rw [if_neg hj, if_neg hj]; exact ⟨_, rfl⟩
theorem call_int1 : CallR X (.type "int") (fun xs H Q => (∃ i, xs = [.int i] ∧ Q (.int i) H) ∨ ∃ k, xs = [.bl k] ∧ Q (.int (if k then 1 else 0)) H) := by
  intro pins s σ H xs us Q I r h
  rcases h with ⟨i, rfl, q⟩ | ⟨k, rfl, q⟩
  · obtain ⟨u, rfl, t, rfl⟩ := vals1 r
    exact call_int_int ⟨.int i, H, I, ⟨_, rfl⟩, q⟩
  · obtain ⟨u, rfl, r1⟩ := vals1 r
    cases r1
    exact call_int_bool ⟨.int (if k then 1 else 0), H, I.tok _, ⟨_, rfl⟩, q⟩
end
end L2
namespace L2
open PySem PySem.Spec PyProof.Rows
section
variable {prog : Program} {w : World} {A : Around} {E : Value → Shared → Prop} {s : Shared} {K : PySem.W.Frag} {x dx C f : Addr} {mA : Str → Option Value} {name : Str} {v : Value}
end
theorem RelO.some_of {v : V} {o : Option Value} (r : RelO (some v) o) : ∃ u, o = some u ∧ RelV v u := by
  cases o with
  | none => exact (show False from r).elim
  | some u => exact ⟨u, rfl, r⟩
section
variable {P : Program} {w : World} {H H' : Hp} {h h' : Heap} {a C dx : Addr} {fs fs' : List (Str × V)}
end
structure Cls (K : PySem.W.Frag) (C : Addr) : Prop where
  pg : PySem.W.plainGet K C Str.empty = true
  hd : PySem.W.hasDictIn K C = true
  po : PySem.W.plainOver K C = true
  sa : PySem.W.findIn K (.ref C) "__setattr__" = some (some (.builtin "object.__setattr__"))
theorem Cls.get {K : PySem.W.Frag} {C : Addr} (c : Cls K C) (f : Str) : PySem.W.plainGet K C f = true := c.pg
section
variable {X : Cx} {pins : List (Addr × Obj)} {σ : St} {H : Hp} {s : Shared} {a C dx : Addr} {fs : List (Str × V)} {f : Str} {v : V} {A : Around} {E : Value → Shared → Prop}
theorem Inv.made (I : Inv X pins σ H s) : Inv X pins σ (upd (upd H s.heap.objs.size (.own (s.heap.objs.size + 1))) (s.heap.objs.size + 1) (.ins C s.heap.objs.size []))
    { s with heap := (s.heap.push PySem.W.emptyDict).push (PySem.W.instObj C s.heap.objs.size) } := by
  have e1 : (s.heap.push PySem.W.emptyDict).get? s.heap.objs.size = some PySem.W.emptyDict := Heap.get?_push_size s.heap rfl
  have e2 : ((s.heap.push PySem.W.emptyDict).push (PySem.W.instObj C s.heap.objs.size)).get? (s.heap.objs.size + 1) = some (PySem.W.instObj C s.heap.objs.size) := by
    have := Heap.get?_push_size (s.heap.push PySem.W.emptyDict) (o := PySem.W.instObj C s.heap.objs.size) rfl
    rwa [Heap.size_push] at this
  have e3 : (s.heap.push PySem.W.emptyDict).Ns s.heap.objs.size (fun _ => none) := ⟨PySem.W.emptyDict, #[], _, e1, rfl, (fun e he => absurd he (by simp)), fun _ => rfl⟩
  have I1 := I.laid (a := s.heap.objs.size) (o := .own (s.heap.objs.size + 1)) (h' := s.heap.push PySem.W.emptyDict) (t' := s.toks) (fun b u q => Heap.get?_push_of_some _ q) (Nat.le_refl _) ⟨_, e1⟩
  refine I1.laid (a := s.heap.objs.size + 1) (o := .ins C s.heap.objs.size []) (t' := s.toks) (fun b u q => Heap.get?_push_of_some _ q) (Nat.le_of_eq (Heap.size_push _ _)) ?_
  have ne : s.heap.objs.size ≠ s.heap.objs.size + 1 := Nat.ne_of_lt (Nat.lt_succ_self _)
  refine ⟨by rw [upd_ne ne, upd_same], Nat.zero_le _, ne, e2, fun _ => none, (Heap.Ns1.of_empty e3).at fun o q => Heap.get?_push_of_some _ q, fun _ => True.intro, fun y hy => absurd rfl hy⟩
end
section
variable {X : Cx} {o e value : Expr} {f : Str} {pos pos' tpos : Pos} {ta tv : TE}
end
section
variable {X : Cx} {pins : List (Addr × Obj)} {σ : St} {H : Hp} {s : Shared} {A : Around} {E : Value → Shared → Prop} {Q : Value → Shared → Prop} {c : Value} {b : Bool}
end
end L2
namespace L2
open PySem PySem.Spec PyProof.Rows
structure Room (k : Nat) (A : Around) : Prop where
  hd : A.handled = none
  dp : A.depth + 3 * k + 5 < recursionLimit
  un : A.units + 16 * k + 200 < cLine
  gd : A.guards = some []
theorem Room.mono {j k : Nat} {A : Around} (r : Room k A) (h : j ≤ k) : Room j A := ⟨r.hd, by have := r.dp; omega, by have := r.un; omega, r.gd⟩
theorem Room.deeper {k : Nat} {A : Around} (r : Room (k + 1) A) (env : Env) : Room k (A.deeper env) :=
  ⟨r.hd, by have := r.dp; show A.depth + 1 + 3 * k + 5 < _; omega, by have := r.un; show A.units + 3 + 16 * k + 200 < _; omega, r.gd⟩
theorem Room.in1 {k : Nat} {A : Around} (r : Room (k + 1) A) : Room k A.in1 :=
  ⟨r.hd, by have := r.dp; show A.depth + 3 * k + 5 < _; omega, by have := r.un; show A.units + 1 + 16 * k + 200 < _; omega, r.gd⟩
theorem Room.depth {k : Nat} {A : Around} (r : Room k A) : A.depth < recursionLimit := by have := r.dp; omega
theorem Room.units {k : Nat} {A : Around} (r : Room k A) : A.units + 64 < cLine := by have := r.un; omega
def tNil : TA := fun _ H Q => Q [] H
def tCons (ta : TE) (tr : TA) : TA := fun σ H Q => ta σ H fun x H1 => tr σ H1 fun xs H2 => Q (x :: xs) H2
section
variable {X : Cx} {e : Expr} {es : List Expr} {te : TE} {t : TA} {pos : Pos}
theorem pa_nil : PA X [] tNil := fun _ _ _ _ H Q I h => Calls.spliced_nil ⟨[], H, I, .nil, h⟩
theorem pa_cons (ha : PE X e te) (hr : PA X es t) (hs : starEach (e :: es) X.env = (false, eval e X.env) :: starEach es X.env := by rfl) : PA X (e :: es) (tCons te t) := by
  intro pos pins s σ H Q I h
  rw [hs]
  show wpAny _ _ (spliced ((false, eval e X.env) :: backTo pos (starEach es X.env))) _ _ s
  refine Calls.spliced_cons (thn (ha pins s σ H _ I h) fun u s1 ⟨x, H1, I1, r1, q1⟩ => ?_)
  exact thn (hr pos pins s1 σ H1 _ I1 q1) fun us s2 ⟨xs, H2, I2, r2, q2⟩ => ⟨x :: xs, H2, I2, .cons r1 r2, q2⟩
def tTup (t : TA) : TE := fun σ H Q => t σ H fun xs H1 => xs.length ≤ sizeLine ∧ ∀ p, H1 p = none → Q (.ref p) (upd H1 p (.tup xs))
def tLst (t : TA) : TE := fun σ H Q => t σ H fun xs H1 => xs.length ≤ sizeLine ∧ ∀ p, H1 p = none → Q (.ref p) (upd H1 p (.lst xs))
theorem pe_tup {x1} (h : PA X es t) : PE X (.Tuple es x1 pos) (tTup t) := by
  intro pins s σ H Q I hq
  refine wpAny_Tuple_spliced (thn (h pos pins s σ H _ I hq) fun us s1 ⟨xs, H1, I1, r, z, q⟩ => ⟨by rw [← r.length]; exact z, ?_⟩)
  have hf : H1 s1.heap.objs.size = none := I1.hok.fresh (Nat.le_refl _)
  refine ⟨.ref s1.heap.objs.size, upd H1 s1.heap.objs.size (.tup xs), I1.laid (t' := s1.toks) (fun b u e => Heap.get?_push_of_some _ e) (Nat.le_refl _) ?_, rfl, q _ hf⟩
  exact ⟨z, us, r, ⟨_, Heap.get?_push_size _ rfl, rfl, _, rfl⟩⟩
theorem pe_lst (h : PA X es t) : PE X (.List es pos) (tLst t) := by
  intro pins s σ H Q I hq
  refine wpAny_List_spliced (thn (h pos pins s σ H _ I hq) fun us s1 ⟨xs, H1, I1, r, z, q⟩ => ⟨by rw [← r.length]; exact z, ?_⟩)
  have hf : H1 s1.heap.objs.size = none := I1.hok.fresh (Nat.le_refl _)
  refine ⟨.ref s1.heap.objs.size, upd H1 s1.heap.objs.size (.lst xs), I1.laid (t' := s1.toks) (fun b u e => Heap.get?_push_of_some _ e) (Nat.le_refl _) ?_, rfl, q _ hf⟩
  exact ⟨z, us, 0, r, Heap.get?_push_size _ rfl⟩
end
abbrev Sp := List V → Hp → VK → XK → Prop
abbrev CXT := List Env → Hp → Shared → XK → Value → Shared → Prop
structure Env0 (P : Program) (w : World) (K : PySem.W.Frag) (mg : Str → Option Value) (base : Heap) (A : Around) (outer : List Env) (s : Shared) (H : Hp) : Prop where
  frames : A.frames = some outer
  mod : Mod K mg base
  bs : ∀ b o, base.get? b = some o → s.heap.get? b = some o ∧ H b = none
  bsz : base.objs.size ≤ s.heap.objs.size
  funs : s.heap.FunFrames base outer
  frf : ∀ b ∈ frs outer, H b = none
  hok : HOk P w H s.heap
  bare : AllBare s.gens
def CE (outer : List Env) (P : Program) (w : World) (H : Hp) (s : Shared) (Q : VK) (u : Value) (s' : Shared) : Prop :=
  ∃ v H', s'.os = s.os ∧ AllBare s'.gens ∧ Un (frs outer) [] H H' s.heap s'.heap ∧ HOk P w H' s'.heap ∧ RelV v u ∧ Q v H'
def CR (CX : CXT) (outer : List Env) (P : Program) (w : World) (H : Hp) (s : Shared) (Q : VK) (E : XK) (r : Result) (s' : Shared) : Prop :=
  match r with
  | .ok (.ret u) => CE outer P w H s Q u s'
  | .ok _ => False
  | .error e => CX outer H s E e s'
structure FnOk (P : Program) (w : World) (K : PySem.W.Frag) (mg : Str → Option Value) (base : Heap) (CX : CXT) (k : Nat) (f : Addr) (fd : FuncData) (ps : List Str) (sp : Sp) : Prop where
  len : ∀ vs H Q E, sp vs H Q E → vs.length = ps.length
  run : ∀ (A : Around) (outer : List Env) (s : Shared) (H : Hp) (args : Args) (us : List Value) (vs : List V) (Q : VK) (E : XK), Room k A → Env0 P w K mg base A outer s H → BindsTo s fd args (ps.zip us) → Vals vs us → sp vs H Q E →
    codeAny (model P w) A (.call (.ref f) args) (CR CX outer P w H s Q E) s
theorem FnOk.mono {P : Program} {w : World} {K : PySem.W.Frag} {mg : Str → Option Value} {base : Heap} {CX : CXT} {j k : Nat} {f : Addr} {fd : FuncData} {ps : List Str} {sp : Sp} (F : FnOk P w K mg base CX j f fd ps sp) (h : j ≤ k) :
    FnOk P w K mg base CX k f fd ps sp := ⟨F.len, fun A outer s H args us vs Q E hr => F.run A outer s H args us vs Q E (hr.mono h)⟩
theorem FnOk.imp {P : Program} {w : World} {K : PySem.W.Frag} {mg : Str → Option Value} {base : Heap} {CX : CXT} {k : Nat} {f : Addr} {fd : FuncData} {ps : List Str} {sp sp' : Sp} (F : FnOk P w K mg base CX k f fd ps sp)
    (h : ∀ vs H Q E, sp' vs H Q E → sp vs H Q E) : FnOk P w K mg base CX k f fd ps sp' :=
  ⟨fun vs H Q E q => F.len vs H Q E (h _ _ _ _ q), fun A outer s H args us vs Q E hr he hb hv hs => F.run A outer s H args us vs Q E hr he hb hv (h _ _ _ _ hs)⟩
theorem Env0.in1 {P : Program} {w : World} {K : PySem.W.Frag} {mg : Str → Option Value} {base : Heap} {A : Around} {outer : List Env} {s : Shared} {H : Hp} (e : Env0 P w K mg base A outer s H) :
    Env0 P w K mg base A.in1 outer s H := ⟨e.frames, e.mod, e.bs, e.bsz, e.funs, e.frf, e.hok, e.bare⟩
section
variable {X : Cx} {pins : List (Addr × Obj)} {σ : St} {H : Hp} {s s' : Shared}
theorem Inv.env0 (I : Inv X pins σ H s) : Env0 X.prog X.w X.K X.mg X.base X.A X.stack s H :=
  ⟨I.ok.frames, I.ok.mod, I.bs, Nat.le_trans I.ok.bsz I.sz, I.stack, I.stkFree, I.hok, I.bare⟩
theorem Inv.after {Q : VK} {u : Value} (I : Inv X pins σ H s) (h : CE X.stack X.prog X.w H s Q u s') : EP X pins σ Q u s' := by
  obtain ⟨v, H', os, bare, un, hok, r, q⟩ := h
  obtain ⟨hh, g, d, t, os'⟩ := s'
  obtain rfl : os' = s.os := os
  exact ⟨v, H', I.call (h' := hh) (g' := g) (d' := d) (t' := t) (ch := []) un hok bare (fun b z => absurd z (by simp)), r, q⟩
end
def tCall (sp : Sp) (dvs : List V) (E : XK) (t : TA) : TE := fun σ H Q => t σ H fun vs H1 => sp (vs ++ dvs) H1 Q E
def Binds (K : PySem.W.Frag) (fd : FuncData) (ps : List Str) (ds : List Value) : Prop :=
  ∀ (s : Shared) (us : List Value), K.In s.heap → (us ++ ds).length = ps.length → BindsTo s fd ⟨us, []⟩ (ps.zip (us ++ ds))
theorem Binds.all {K : PySem.W.Frag} {fd : FuncData} {ps : List Str} (h : ∀ us : List Value, us.length = ps.length → bindArgs fd ⟨us, []⟩ = pure (ps.zip us)) : Binds K fd ps [] := fun s us _ hl => by
  rw [List.append_nil] at hl ⊢
  exact .of_eq (h us hl)
def Passes (CX : CXT) (X : Cx) (E : XK) : Prop := ∀ (pins : List (Addr × Obj)) (σ : St) (H : Hp) (s : Shared) (e : Value) (s' : Shared), Inv X pins σ H s → CX X.stack H s E e s' → X.xe e s'
section
variable {X : Cx} {CX : CXT} {k : Nat} {f C : Addr} {fd : FuncData} {ps : List Str} {sp : Sp} {dvs : List V} {ds : List Value} {E : XK} {x m : Str} {p pos apos : Pos} {e o : Expr} {es : List Expr} {ta : TE} {t : TA}
theorem run_fn {pins : List (Addr × Obj)} {σ : St} {H : Hp} {s : Shared} {Q : VK} {us : List Value} {vs : List V} (F : FnOk X.prog X.w X.K X.mg X.base CX k f fd ps sp) (hr : Room k X.A) (hb : Binds X.K fd ps ds) (hd : Vals dvs ds) (hx : Passes CX X E)
    (I : Inv X pins σ H s) (r : Vals vs us) (h : sp (vs ++ dvs) H Q E) : wpAny (model X.prog X.w) X.A (call (.ref f) us) (EP X pins σ Q) X.xe s := by
  have r2 : Vals (vs ++ dvs) (us ++ ds) := r.append hd
  have hl : (us ++ ds).length = ps.length := by rw [← r2.length]; exact F.len _ _ _ _ h
  refine wpAny_call (codeAny_mono (F.run X.A X.stack s H ⟨us, []⟩ (us ++ ds) (vs ++ dvs) Q E hr I.env0 (hb s us I.kIn hl) r2 h) fun r s' hq => ?_)
  cases r with
  | error e => exact hx pins σ H s e s' I hq
  | ok fl =>
    cases fl with
    | ret u => exact I.after hq
    | next => exact False.elim hq
    | brk => exact False.elim hq
    | cont => exact False.elim hq
theorem pe_call (F : FnOk X.prog X.w X.K X.mg X.base CX k f fd ps sp) (hr : Room k X.A) (hg : Gl X x) (hm : X.mg x = some (.ref f)) (hk : PySem.W.keepIn X.K (.ref f) = true) (hb : Binds X.K fd ps ds) (hd : Vals dvs ds) (hx : Passes CX X E)
    (ha : PA X (e :: es) t) (hdb : (x == ("__debug__" : Str)) = false := by decide) (he : starEach (e :: es) X.env = (false, eval e X.env) :: starEach es X.env := by rfl) (hpl : (backTo pos (starEach es X.env)).any (·.1) = false := by rfl) :
    PE X (.Call (.Name x p) (e :: es) [] pos) (tCall sp dvs E t) := by
  intro pins s σ H Q I h
  refine wpAny_Call_Name_kw (ld_glob I hg hm ?_ hdb)
  refine PySem.W.callWith_K (h₀ := X.base) I.ok.mod.kin hk (thn (ha pos pins s σ H _ I h) fun us s1 ⟨vs, H1, I1, r, q⟩ => ⟨I1.kIn, ?_⟩) he hpl
  exact run_fn F hr hb hd hx I1 r q
end
section
variable {X : Cx} {CX : CXT} {k : Nat} {f C : Addr} {fd : FuncData} {ps ks : List Str} {sp : Sp} {E : XK} {x m : Str} {p pos apos kpos : Pos} {e o : Expr} {es : List Expr} {kws : List Keyword} {te ta : TE} {t tk : TA} {nm : Option Str}
variable {g : List Value → List Value → List Value} {gV : List V → List V → List V}
end
structure FnScope (N P : List Str) (sc : Scope) : Prop where
  kind : sc.kind = .function
  co : sc.isCoroutine = false
  gen : sc.isGenerator = false
  nd : N.Nodup
  pre : N.take P.length = P
  par : ∀ x ∈ P, sc.names.lookup x = some .local ∨ sc.names.lookup x = some .cell
  nofree : ∀ y ∈ sc.names, y.2 ≠ .free
theorem bindL_out {kindOf : Str → Option NameKind} {x : Str} : ∀ {binds : List (Str × Value)} {m : Str → Option Value}, (∀ v, (x, v) ∉ binds) → bindL kindOf binds m x = m x
  | [], _, _ => rfl
  | (n, v) :: r, m, h => by
    unfold bindL
    rw [bindL_out fun w hw => h w (List.mem_cons_of_mem _ hw)]
    split
    · have : x ≠ n := by rintro rfl; exact h v List.mem_cons_self
      simp [this]
    · rfl
theorem bindC_out {kindOf : Str → Option NameKind} {x : Str} : ∀ {binds : List (Str × Value)} {m : Str → Option Value}, (∀ v, (x, v) ∉ binds) → bindC kindOf binds m x = m x
  | [], _, _ => rfl
  | (n, v) :: r, m, h => by
    unfold bindC
    rw [bindC_out fun w hw => h w (List.mem_cons_of_mem _ hw)]
    split
    · rfl
    · have : x ≠ n := by rintro rfl; exact h v List.mem_cons_self
      simp [this]
theorem bindL_get {kindOf : Str → Option NameKind} {x : Str} {v : Value} : ∀ {P : List Str} {vs : List Value} {i : Nat} {m : Str → Option Value}, P.Nodup → P[i]? = some x → vs[i]? = some v → kindOf x = some .local →
    bindL kindOf (P.zip vs) m x = some v
  | [], _, _, _, _, h, _, _ => by simp at h
  | _ :: _, [], _, _, _, _, h, _ => by simp at h
  | p :: P, w :: vs, 0, m, nd, h1, h2, hk => by
    simp at h1 h2; subst h1; subst h2
    show bindL kindOf ((p, w) :: P.zip vs) m p = _
    unfold bindL
    rw [bindL_out fun v hv => (List.nodup_cons.mp nd).1 (List.of_mem_zip hv).1, if_pos hk]
    simp
  | p :: P, w :: vs, i + 1, m, nd, h1, h2, hk => by
    show bindL kindOf ((p, w) :: P.zip vs) m x = _
    unfold bindL
    exact bindL_get (i := i) (List.nodup_cons.mp nd).2 (by simpa using h1) (by simpa using h2) hk
theorem bindC_get {kindOf : Str → Option NameKind} {x : Str} {v : Value} : ∀ {P : List Str} {vs : List Value} {i : Nat} {m : Str → Option Value}, P.Nodup → P[i]? = some x → vs[i]? = some v → kindOf x ≠ some .local →
    bindC kindOf (P.zip vs) m x = some v
  | [], _, _, _, _, h, _, _ => by simp at h
  | _ :: _, [], _, _, _, _, h, _ => by simp at h
  | p :: P, w :: vs, 0, m, nd, h1, h2, hk => by
    simp at h1 h2; subst h1; subst h2
    show bindC kindOf ((p, w) :: P.zip vs) m p = _
    unfold bindC
    rw [bindC_out fun v hv => (List.nodup_cons.mp nd).1 (List.of_mem_zip hv).1, if_neg hk]
    simp
  | p :: P, w :: vs, i + 1, m, nd, h1, h2, hk => by
    show bindC kindOf ((p, w) :: P.zip vs) m x = _
    unfold bindC
    exact bindC_get (i := i) (List.nodup_cons.mp nd).2 (by simpa using h1) (by simpa using h2) hk
def start (N : List Str) (vs : List V) : St := vs.map some ++ List.replicate (N.length - vs.length) none
def cxOf (CX : CXT) (P : Program) (w : World) (K : PySem.W.Frag) (mg : Str → Option Value) (base : Heap) (N : List Str) (qual : Str) (scope : Scope) (f : Addr) (cd : Value) (A : Around) (outer : List Env) (s : Shared) (H : Hp) (E : XK) : Cx where
  prog := P
  w := w
  K := K
  mg := mg
  base := base
  A := A.deeper (envOfC qual scope s.heap.objs.size f cd)
  N := N
  s₀ := s
  H₀ := H
  env := envOfC qual scope s.heap.objs.size f cd
  outer := outer
  stack := envOfC qual scope s.heap.objs.size f cd :: outer
  ex := []
  calm := true
  fn := fun _ => true
  pn := []
  xe := fun e s' => wpAny (model P w) (A.deeper (envOfC qual scope s.heap.objs.size f cd)) («leaving» (envOfC qual scope s.heap.objs.size f cd) e) (fun _ s'' => CX outer H s E e s'') (fun e' s'' => CX outer H s E e' s'') s'
theorem cell_has {sc : Scope} {n : Nat} {x : Str} (h : sc.names.lookup x = some .cell) : ∃ c, (cellsFrom n sc.names []).lookup x = some c := by
  have q := PySem.W.cellsFrom_some sc.names n [] (.inl h)
  exact Option.isSome_iff_exists.mp q
theorem inv_start {CX : CXT} {P : Program} {w : World} {K : PySem.W.Frag} {mg : Str → Option Value} {base : Heap} {N ps : List Str} {qual : Str} {scope : Scope} {f : Addr} {cd : Value} {A : Around} {outer : List Env} {s s1 : Shared} {H : Hp} {E : XK} {us : List Value} {vs : List V}
    (S : FnScope N ps scope) (hd : A.handled = none) (e0 : Env0 P w K mg base A outer s H) (hl : vs.length = ps.length) (r : Vals vs us)
    (x : InCallC s s.heap.objs.size (bindL (envOfC qual scope s.heap.objs.size f cd).kindOf (ps.zip us) fun _ => none) (cellsFrom (s.heap.objs.size + 1) scope.names []) (bindC (envOfC qual scope s.heap.objs.size f cd).kindOf (ps.zip us) fun _ => none) s1) :
    Inv (cxOf CX P w K mg base N qual scope f cd A outer s H E) [] (start N vs) H s1 := by
  have hpl : ps.length ≤ N.length := by have := congrArg List.length S.pre; rw [List.length_take] at this; omega
  obtain ⟨h1, tk, rfl, hk⟩ := x.done
  have noA : ∀ b : Addr, b ∉ (cxOf CX P w K mg base N qual scope f cd A outer s H E).ex := fun b z => absurd (show b ∈ ([] : List Addr) from z) (by simp)
  refine ⟨⟨e0.mod, S.kind, rfl, rfl, Nat.le_refl _, fun y z c h1 h2 => ?_, fun y hy => ?_, fun y c _ h => ?_, fun _ => hd, Around.frames_deeper e0.frames, .inr ⟨rfl, rfl⟩, fun b z => absurd z (noA b), e0.bs, e0.bsz, fun b _ _ => noA b, fun b z => absurd z (noA b), e0.funs, e0.frf⟩,
    rfl, e0.bare, Un.kept hk, ⟨_, x.toInCall.ns, fun i y v h1 h2 h3 => ?_⟩, fun y c h => ⟨_, x.cell y c h⟩, e0.hok.fresh (Nat.le_refl _), fun y c h => ?_, fun p hp => absurd (show p ∈ ([] : List (Addr × Obj)) from hp) (by simp), e0.hok.kept hk, ?_⟩
  · exact name_of_addr x.apart (PySem.mem_of_lookup h1) (PySem.mem_of_lookup h2)
  · have hy : scope.names.lookup y = some .cell ∨ scope.names.lookup y = some .free := hy
    rcases hy with hy | hy
    · exact cell_has hy
    · exact absurd rfl (S.nofree _ (PySem.mem_of_lookup hy))
  · exact Nat.le_of_lt (x.above y c (PySem.mem_of_lookup h))
  · have hi : i < vs.length := by
      unfold start at h2
      by_cases hi : i < vs.length
      · exact hi
      · rw [List.getElem?_append_right (by simpa using hi)] at h2
        rw [List.getElem?_replicate] at h2
        split at h2 <;> cases h2
    have ha : vs[i]? = some v := by
      unfold start at h2
      rw [List.getElem?_append_left (by simpa using hi), List.getElem?_map] at h2
      cases e : vs[i]? with
      | none => rw [e] at h2; cases h2
      | some a => rw [e] at h2; cases h2; rfl
    obtain ⟨u, hu, rv⟩ := r.get ha
    have hp : ps[i]? = some y := by
      rw [← S.pre, List.getElem?_take_of_lt (by omega)]; exact h1
    have ndP : ps.Nodup := by rw [← S.pre]; exact S.nd.sublist (List.take_sublist _ _)
    refine ⟨u, rv, ?_⟩
    rcases S.par y (List.mem_of_getElem? hp) with k | k
    · exact .inl ⟨k, bindL_get ndP hp hu k⟩
    · obtain ⟨c, e⟩ := cell_has (n := s.heap.objs.size + 1) k
      refine .inr ⟨.inl k, c, e, ?_⟩
      have q := x.cell y c e
      rw [bindC_get ndP hp hu (by show scope.names.lookup y ≠ _; rw [k]; decide)] at q
      exact q
  · exact e0.hok.fresh (Nat.le_of_lt (x.above y c (PySem.mem_of_lookup h)))
  · unfold start
    show _ = N.length
    rw [List.length_append, List.length_map, List.length_replicate]
    omega
theorem fn_of {CX : CXT} {P : Program} {w : World} {K : PySem.W.Frag} {mg : Str → Option Value} {base : Heap} {k : Nat} {f : Addr} {name qual : Str} {params : Arguments} {body : List Stmt} {scope : Scope} {dV kV doc pm cdv ct oc : Value} {an od : Option Addr}
    {osl : Array (Option Value)} {N ps : List Str} {sp : Sp} (lk : K.lookup f = some ⟨oc, od, .func (PySem.W.fnOf name qual params body scope dV kV doc pm an cdv ct), osl⟩) (hcd : PySem.W.codeIn K cdv qual = true) (S : FnScope N ps scope)
    (len : ∀ vs H Q E, sp vs H Q E → vs.length = ps.length)
    (hbody : ∀ (A : Around) (outer : List Env) (s : Shared) (H : Hp) (vs : List V) (Q : VK) (E : XK), Room k (A.deeper (envOfC qual scope s.heap.objs.size f cdv)) → sp vs H Q E →
      ∃ t, PSs (cxOf CX P w K mg base N qual scope f cdv A outer s H E) body t ∧ t { nx := fun _ H' => Q .non H', rt := Q } (start N vs) H) :
    FnOk P w K mg base CX (k + 1) f (PySem.W.fnOf name qual params body scope dV kV doc pm an cdv ct) ps sp := by
  refine ⟨len, fun A outer s H args us vs Q E hr e0 hb r hsp => ?_⟩
  have hl := len _ _ _ _ hsp
  have KX : K.In s.heap := e0.mod.kin.keeps fun b o e => (e0.bs b o e).1
  have lim : s.heap.NoLimit := e0.mod.nolimit.keeps fun b o e => (e0.bs b o e).1
  have hkind : ∀ y ∈ ps.zip us, scope.names.lookup y.1 = some .local ∨ (scope.names.lookup y.1 = some .cell ∧ ((cellsFrom (s.heap.objs.size + 1) scope.names []).lookup y.1).isSome = true) := fun ⟨n, v⟩ hy => by
    rcases S.par n (List.of_mem_zip hy).1 with q | q
    · exact .inl q
    · exact .inr ⟨q, PySem.W.cellsFrom_some _ _ _ (.inl q)⟩
  refine codeAny_call_function hr.depth (KX _ _ lk) rfl S.co S.gen rfl (PySem.W.codeRec_of KX hcd) (hb _ _ _ _ ?_)
  refine wpAny_newFunctionEnv_cells S.kind hkind fun env he s1 x => ?_
  subst he
  refine ⟨lim.keeps x.toInCall.keep, codeAny_func ?_⟩
  obtain ⟨t, ht, hq⟩ := hbody A outer s H vs Q E (hr.deeper _) hsp
  have I : Inv (cxOf CX P w K mg base N qual scope f cdv A outer s H E) [] (start N vs) H s1 := inv_start S hr.hd e0 hl r x
  refine wpAny_mono (ht [] s1 (start N vs) H _ I hq) (fun fl s' hs => ?_) fun e s' hs => hs
  have fin : ∀ {σ' : St} {H' : Hp} {v : V} {u : Value}, Inv (cxOf CX P w K mg base N qual scope f cdv A outer s H E) [] σ' H' s' → RelV v u → Q v H' → CE outer P w H s Q u s' :=
    fun {σ' H' v u} J rv q => ⟨v, H', J.os, J.bare, J.base, J.hok, rv, q⟩
  cases fl with
  | ret u =>
    obtain ⟨v, σ', H', J, rv, q⟩ := hs
    exact fin J rv q
  | next =>
    obtain ⟨σ', H', J, q⟩ := hs
    exact fin (v := V.non) (u := Value.none) J rfl q
  | brk =>
    obtain ⟨_, _, _, q⟩ := hs
    exact False.elim q
  | cont =>
    obtain ⟨_, _, _, q⟩ := hs
    exact False.elim q
end L2
namespace L2
open PySem PySem.Spec PyProof.Rows
section
variable {X : Cx} {x : Str} {p pos : Pos} {e : Expr} {es : List Expr} {t : TA} {id T : String} {r : List V → Hp → VK → Prop}
def tCB (r : List V → Hp → VK → Prop) (t : TA) : TE := fun σ H Q => t σ H fun vs H1 => r vs H1 Q
theorem pe_callB (hc : CallR X (.builtin id) r) (hg : Gl X x) (hm : X.mg x = none) (hv : bootBuiltins x = some (.builtin id)) (ha : PA X (e :: es) t) (hn : x ≠ "__name__" := by decide) (hdb : (x == ("__debug__" : Str)) = false := by decide)
    (he : starEach (e :: es) X.env = (false, eval e X.env) :: starEach es X.env := by rfl) (hpl : (backTo pos (starEach es X.env)).any (·.1) = false := by rfl) : PE X (.Call (.Name x p) (e :: es) [] pos) (tCB r t) := by
  intro pins s σ H Q I h
  refine wpAny_Call_Name_kw (ld_blt I hg hm hv ?_ hn hdb)
  exact PyProof.Rows.callWith_builtin1 (thn (ha pos pins s σ H _ I h) fun us s1 ⟨vs, H1, I1, r1, q1⟩ => hc pins s1 σ H1 vs us Q I1 r1 q1) he hpl
theorem pe_callTy (hc : CallR X (.type T) r) (hg : Gl X x) (hm : X.mg x = none) (hv : bootBuiltins x = some (.type T)) (ha : PA X (e :: es) t) (hn : x ≠ "__name__" := by decide) (hdb : (x == ("__debug__" : Str)) = false := by decide)
    (he : starEach (e :: es) X.env = (false, eval e X.env) :: starEach es X.env := by rfl) (hpl : (backTo pos (starEach es X.env)).any (·.1) = false := by rfl) : PE X (.Call (.Name x p) (e :: es) [] pos) (tCB r t) := by
  intro pins s σ H Q I h
  refine wpAny_Call_Name_kw (ld_blt I hg hm hv ?_ hn hdb)
  exact PyProof.Rows.callWith_type1 (thn (ha pos pins s σ H _ I h) fun us s1 ⟨vs, H1, I1, r1, q1⟩ => hc pins s1 σ H1 vs us Q I1 r1 q1) he hpl
end
end L2
namespace HT
open PySem PyProof.Rows
section
open PySem.SeqAt
open PySem.AutoSeq1 (wpAny_loadPart')
open PySem.MeetsSeq PySem.MeetsSeq2 PySem.MeetsSeq3
end
section
variable {prog : Program} {w : World} {A : Around} {E : Value → Shared → Prop} {s : Shared}
theorem cat_tup {t b : Addr} {vs ws : List Value} {Q : Value → Shared → Prop} (ht : IsTup s.heap t vs.toArray) (hb : IsTup s.heap b ws.toArray) (hv : vs ≠ [])
    (h1 : ws = [] → Q (.ref t) s) (h2 : ws ≠ [] → Q (.ref s.heap.objs.size) { s with heap := s.heap.push { cls := .type "tuple", data := .seq (vs ++ ws).toArray } })
    (hsz : vs.length + ws.length ≤ sizeLine) : wpAny (model prog w) A (binaryOp .Add (.ref t) (.ref b)) Q E s := by
  obtain ⟨⟨cls, dd, data, sl⟩, ho, hc, n, hd⟩ := id ht
  obtain ⟨⟨cls2, dd2, data2, sl2⟩, ho2, hc2, n2, hd2⟩ := id hb
  simp only at hc hd hc2 hd2
  subst hc hd hc2 hd2
  have e : vs.toArray ++ ws.toArray = (vs ++ ws).toArray := by simp
  by_cases hw : ws = []
  · exact concat_meets ⟨_, ho, rfl⟩ ⟨_, ho2, rfl⟩ noFill_tuple_add seq_tuple_add PySem.F.slot_tuple_add PySem.F.entry_tuple_add (PySem.F.args_tuple_add_2 _ _)
      (tuple_addW1 t b vs.toArray ws.toArray n n2 dd dd2 sl sl2 (by simpa using hv) (by simp [hw])) ⟨ho, ho2, h1 hw⟩
  · refine concat_meets ⟨_, ho, rfl⟩ ⟨_, ho2, rfl⟩ noFill_tuple_add seq_tuple_add PySem.F.slot_tuple_add PySem.F.entry_tuple_add (PySem.F.args_tuple_add_2 _ _)
      (tuple_addW2 t b vs.toArray ws.toArray n n2 dd dd2 sl sl2 (by simpa using hv) (by simpa using hw) (by rw [List.size_toArray, List.size_toArray]; exact hsz)) ⟨ho, ho2, ?_⟩
    rw [e]
    exact h2 hw
def sIx (n d : Nat) : Option Int → Nat
  | none => d
  | some v => if v < 0 then (v + (n : Int)).toNat else min v.toNat n
theorem sIx_none (n d : Nat) : sIx n d none = d := rfl
theorem sIx_nat (n d k : Nat) : sIx n d (some (k : Int)) = min k n := by
  show (if (k : Int) < 0 then ((k : Int) + (n : Int)).toNat else min (k : Int).toNat n) = min k n
  rw [if_neg (by omega), Int.toNat_natCast]
theorem sIx_le (n d : Nat) (hd : d ≤ n) (o : Option Int) : sIx n d o ≤ n := by
  cases o with
  | none => exact hd
  | some v =>
    show (if v < 0 then (v + (n : Int)).toNat else min v.toNat n) ≤ n
    by_cases hv : v < 0
    · rw [if_pos hv]; omega
    · rw [if_neg hv]; exact Nat.min_le_right _ _
theorem clip_eq (v : Int) (n d : Nat) : (if v < 0 then max (v + (n : Int)) 0 else min v (n : Int)) = ((sIx n d (some v) : Nat) : Int) := by
  show (if v < 0 then max (v + (n : Int)) 0 else min v (n : Int)) = (((if v < 0 then (v + (n : Int)).toNat else min v.toNat n) : Nat) : Int)
  by_cases hv : v < 0
  · simp only [if_pos hv]; omega
  · simp only [if_neg hv]; omega
theorem adjust_gen (lo hi : Option Int) (n : Nat) : Builtin.Slice.sliceAdjust lo hi 1 (n : Int) = (((sIx n 0 lo : Nat) : Int), ((sIx n n hi : Nat) : Int)) := by
  have h1 : ¬ ((1 : Int) < 0) := by omega
  unfold Builtin.Slice.sliceAdjust
  simp only [h1, if_false]
  refine Prod.ext ?_ ?_
  · cases lo with
    | none => rfl
    | some v => exact clip_eq v n 0
  · cases hi with
    | none => rfl
    | some v => exact clip_eq v n n
theorem places_gen (i j : Nat) : Builtin.Slice.slicePlaces (i : Int) (j : Int) 1 = j - i := by
  unfold Builtin.Slice.slicePlaces
  have h1 : (1 : Int) > 0 := by omega
  simp only [h1, if_true, Int.ediv_one]
  split <;> omega
theorem slicePart_ {v : Value} {o : Option Int} {Q : Option Int → Shared → Prop} (p : IsPart v o) (h : Q o s) : wpAny (model prog w) A (Builtin.Slice.slicePartIndex v) Q E s := by
  cases p with
  | none => exact slicePart_none h
  | int i t => exact slicePart_int h
theorem sliceApplied_gen {sl : Addr} {vl vu : Value} {lo hi : Option Int} {n : Nat} {Q : Int × Int × Nat → Shared → Prop} (hs : s.heap.IsSliceOf sl vl vu .none) (pl : IsPart vl lo) (pu : IsPart vu hi)
    (h : Q (((sIx n 0 lo : Nat) : Int), 1, sIx n n hi - sIx n 0 lo) s) : wpAny (model prog w) A (Builtin.Slice.sliceApplied (.ref sl) (pure (n : Int))) Q E s := by
  obtain ⟨os, hos, hcs, hds⟩ := id hs
  unfold Builtin.Slice.sliceApplied Builtin.Slice.sliceFields
  refine wpAny_bind (wpAny_bind (wpAny_field hos hds (x := vl) rfl (wpAny_bind (wpAny_field hos hds (x := vu) rfl (wpAny_bind (wpAny_field hos hds (x := .none) rfl (wpAny_pure ?_)))))))
  refine wpAny_bind (slicePart_none ?_)
  show wpAny _ _ (if ((1 : Int) == 0) = true then _ else _) _ _ s
  rw [if_neg (by decide)]
  refine wpAny_bind (slicePart_ pl (wpAny_bind (slicePart_ pu (wpAny_bind (wpAny_pure ?_)))))
  show wpAny _ _ (match Builtin.Slice.sliceAdjust lo hi 1 (n : Int) with | (lo, hi) => pure (lo, (1 : Int), Builtin.Slice.slicePlaces lo hi 1)) _ _ s
  rw [adjust_gen lo hi n]
  show wpAny _ _ (pure (((sIx n 0 lo : Nat) : Int), (1 : Int), Builtin.Slice.slicePlaces ((sIx n 0 lo : Nat) : Int) ((sIx n n hi : Nat) : Int) 1)) _ _ s
  rw [places_gen]
  exact wpAny_pure h
theorem pick_gen (xs : Array Value) (i k : Nat) : ((List.range k).filterMap fun (m : Nat) => xs[((i : Int) + (m : Int) * 1).toNat]?).toArray = ((xs.toList.drop i).take k).toArray := by
  have e : (fun (m : Nat) => xs[((i : Int) + (m : Int) * 1).toNat]?) = fun m => xs[i + m]? := by
    funext m
    have : ((i : Int) + (m : Int) * 1).toNat = i + m := by omega
    rw [this]
  rw [e]
  have := pick_run xs i k
  rw [List.filterMap_map] at this
  have e2 : ((fun x => xs[x]?) ∘ fun x => i + x) = fun m => xs[i + m]? := rfl
  rw [e2] at this
  rw [this]
theorem getItem_tuple_cut {t sl : Addr} {items : Array Value} {vl vu : Value} {lo hi : Option Int} {Q : Value → Shared → Prop} (ht : IsTup s.heap t items) (hs : s.heap.IsSliceOf sl vl vu .none) (pl : IsPart vl lo) (pu : IsPart vu hi)
    (hw : ¬ (sIx items.size 0 lo = 0 ∧ sIx items.size items.size hi = items.size))
    (h : Q (.ref s.heap.objs.size) { s with heap := s.heap.push { cls := .type "tuple", data := .seq ((items.toList.drop (sIx items.size 0 lo)).take (sIx items.size items.size hi - sIx items.size 0 lo)).toArray } })
    (hsz : items.size ≤ sizeLine) : wpAny (model prog w) A (getItem (.ref t) (.ref sl)) Q E s := by
  have htake : sizeOk (.seq ((items.toList.drop (sIx items.size 0 lo)).take (sIx items.size items.size hi - sIx items.size 0 lo)).toArray) := by
    show ((items.toList.drop (sIx items.size 0 lo)).take (sIx items.size items.size hi - sIx items.size 0 lo)).toArray.size ≤ sizeLine
    rw [List.size_toArray, List.length_take, List.length_drop, Array.length_toList]
    omega
  have hj : sIx items.size items.size hi ≤ items.size := sIx_le _ _ (Nat.le_refl _) hi
  obtain ⟨os, hos, hcs, hds⟩ := id hs
  have hTs : s.TypeIs (.ref sl) "slice" := ⟨os, hos, hcs⟩
  unfold getItem
  try with_reducible refine wpAny_holding ?_
  first | refine wpAny_bind (wpAny_pure ?_) | skip
  refine wpAny_bind (wpAny_sequenceKey ht.typeIs (by decide) ?_)
  refine wpAny_bind (wpAny_callSpecial?_slot (name := Str.ofString "__getitem__") ht.typeIs PyProof.Rows.slot_tuple_getitem
    (wpAny_call_entry PyProof.Rows.slot_tuple_getitem ht.typeIs entry_tuple_getitem ?_ (args_tuple_getitem _ _)))
  show wpAny _ _ (Builtin.Tuple.tupleItemsOf (.ref t) >>= _) _ _ s
  refine wpAny_bind (tupleItemsOf_ ht ?_)
  refine wpAny_bind (wpAny_typeOf hTs ?_)
  rw [if_pos (by decide)]
  refine wpAny_bind (sliceApplied_gen hs pl pu ?_)
  have hno : ¬ ((((sIx items.size 0 lo : Nat) : Int) == 0 && (1 : Int) == 1 && (sIx items.size items.size hi - sIx items.size 0 lo) == items.size) = true) := by
    intro q
    rw [Bool.and_eq_true, Bool.and_eq_true] at q
    have q1 : ((sIx items.size 0 lo : Nat) : Int) = 0 := eq_of_beq q.1.1
    have q2 : sIx items.size items.size hi - sIx items.size 0 lo = items.size := eq_of_beq q.2
    exact hw ⟨by omega, by omega⟩
  show wpAny _ _ (if (((sIx items.size 0 lo : Nat) : Int) == 0 && (1 : Int) == 1 && (sIx items.size items.size hi - sIx items.size 0 lo) == items.size) = true then _ else _) _ _ s
  rw [if_neg hno, pick_gen]
  first
    | exact wpAny_bind (m := Builtin.Tuple.tupleExact _) (wpAny_newObj_type (wpAny_pure ⟨_, rfl, wpAny_pure h⟩) htake)
    | exact wpAny_bind (m := Builtin.Tuple.tupleExact _) (wpAny_newObj_type (wpAny_bind (wpAny_pure (wpAny_pure ⟨_, rfl, wpAny_pure h⟩))) htake)
    | exact wpAny_bind (wpAny_bind (m := Builtin.Tuple.tupleExact _) (wpAny_newObj_type (wpAny_pure (wpAny_pure ⟨_, rfl, wpAny_pure h⟩)) htake))
    | exact wpAny_bind (wpAny_bind (m := Builtin.Tuple.tupleExact _) (wpAny_newObj_type (wpAny_pure ⟨_, rfl, wpAny_pure h⟩) htake))
end
end HT
namespace L2
open PySem PySem.Spec PyProof.Rows
abbrev TO := St → Hp → (Option Int → Hp → Prop) → Prop
def PO (X : Cx) (e : Option Expr) (t : TO) : Prop :=
  ∀ (pins : List (Addr × Obj)) (s : Shared) (σ : St) (H : Hp) (Q : Option Int → Hp → Prop), Inv X pins σ H s → t σ H Q →
    wpAny (model X.prog X.w) X.A (evalPart e X.env) (fun u s' => ∃ o H', Inv X pins σ H' s' ∧ IsPart u o ∧ Q o H') X.xe s
def tNoPart : TO := fun _ H Q => Q none H
def tPart (t : TE) : TO := fun σ H Q => t σ H fun x H1 => ∃ i, x = .int i ∧ Q (some i) H1
section
variable {X : Cx} {e : Expr} {te : TE} {lo hi : Option Expr} {tl th : TO} {pos p2 : Pos}
theorem po_none : PO X none tNoPart := by
  intro pins s σ H Q I h
  rw [evalPart_none]
  exact wpAny_pure ⟨none, H, I, .none, h⟩
theorem po_some (h : PE X e te) : PO X (some e) (tPart te) := by
  intro pins s σ H Q I hw
  rw [evalPart_some]
  refine thn (h pins s σ H _ I hw) fun u s1 ⟨x, H1, I1, r1, q1⟩ => ?_
  obtain ⟨i, rfl, q⟩ := q1
  obtain ⟨t, rfl⟩ := r1
  exact ⟨some i, H1, I1, .int i t, q⟩
def SlR (X : Cx) (r : V → Option Int → Option Int → Hp → VK → Prop) : Prop :=
  ∀ (pins : List (Addr × Obj)) (s : Shared) (σ : St) (H : Hp) (x : V) (v vl vu : Value) (lo hi : Option Int) (sl : Addr) (Q : VK), Inv X pins σ H s → RelV x v → s.heap.IsSliceOf sl vl vu .none → IsPart vl lo → IsPart vu hi → r x lo hi H Q →
    ∃ T id, typeLookup (.type T) "__getitem__" = pure (some (.builtin id)) ∧ s.TypeIs v T ∧ wpAny (model X.prog X.w) X.A (getItem v (.ref sl)) (EP X pins σ Q) X.xe s
def tSl (r : V → Option Int → Option Int → Hp → VK → Prop) (te : TE) (tl th : TO) : TE := fun σ H Q => te σ H fun x H1 => tl σ H1 fun l H2 => th σ H2 fun u H3 => r x l u H3 Q
theorem pe_slice {r : V → Option Int → Option Int → Hp → VK → Prop} (hr : SlR X r) (he : PE X e te) (hl : PO X lo tl) (hu : PO X hi th) : PE X (.Subscript e (.Slice lo hi none p2) pos) (tSl r te tl th) := by
  intro pins s σ H Q I h
  refine Subscript_ (thn (he pins s σ H _ I h) fun v s1 ⟨x, H1, I1, r1, q1⟩ => ?_)
  refine wpAny_Slice (thn (hl pins s1 σ H1 _ I1 q1) fun vl s2 ⟨l, H2, I2, pl, q2⟩ => thn (hu pins s2 σ H2 _ I2 q2) fun vu s3 ⟨u, H3, I3, pu, q3⟩ => ?_)
  rw [evalPart_none]
  refine wpAny_pure ?_
  have I4 : Inv X pins σ H3 { s3 with heap := s3.heap.push { cls := .type "slice", data := .fields #[vl, vu, .none] } } := I3.kept (t' := s3.toks) fun b ob q => Heap.get?_push_of_some _ q
  obtain ⟨T, id, hT, ht, hg⟩ := hr pins { s3 with heap := s3.heap.push { cls := .type "slice", data := .fields #[vl, vu, .none] } } σ H3 x v vl vu l u s3.heap.objs.size Q I4 r1 (Heap.IsSliceOf.new ..) pl pu q3
  show wpAny (model X.prog X.w) X.A (subscriptTail e (.Slice lo hi none p2) v (.ref s3.heap.objs.size)) (EP X pins σ Q) X.xe { s3 with heap := s3.heap.push { cls := .type "slice", data := .fields #[vl, vu, .none] } }
  exact tail_any (ops := [.ref s3.heap.objs.size, v]) ht hT hg (by with_unfolding_all rfl)
def cutV (xs : List V) (lo hi : Option Int) : List V := (xs.drop (HT.sIx xs.length 0 lo)).take (HT.sIx xs.length xs.length hi - HT.sIx xs.length 0 lo)
theorem cutV_length (xs : List V) (lo hi : Option Int) : (cutV xs lo hi).length ≤ xs.length := by
  unfold cutV
  rw [List.length_take, List.length_drop]
  omega
def rSlT (K : PySem.W.Frag) : V → Option Int → Option Int → Hp → VK → Prop := fun x lo hi H Q => ∃ a xs, x = .ref a ∧ SqT K H a xs ∧
  ¬ (HT.sIx xs.length 0 lo = 0 ∧ HT.sIx xs.length xs.length hi = xs.length) ∧ ∀ p, H p = none → Q (.ref p) (upd H p (.tup (cutV xs lo hi)))
theorem sl_tup : SlR X (rSlT X.K) := by
  intro pins s σ H x v vl vu lo hi sl Q I rx hs pl pu h
  obtain ⟨a, xs, rfl, hx, hw, q⟩ := h
  cases rx
  obtain ⟨its, r, ht, hz⟩ := I.tuple hx
  have hlen : its.toArray.size = xs.length := by rw [List.size_toArray]; exact r.length.symm
  refine ⟨"tuple", _, PyProof.Rows.slot_tuple_getitem.lookup, ht.typeIs, ?_⟩
  refine HT.getItem_tuple_cut ht hs pl pu (by rw [hlen]; exact hw) ?_ (by rw [hlen]; exact hz)
  rw [hlen]
  refine ⟨.ref s.heap.objs.size, _, I.laid (t' := s.toks) (o := .tup (cutV xs lo hi)) (fun b ob q => Heap.get?_push_of_some _ q) (Nat.le_refl _) ?_, rfl, q _ (I.hok.fresh (Nat.le_refl _))⟩
  exact ⟨Nat.le_trans (cutV_length xs lo hi) hz, _, (r.drop (HT.sIx xs.length 0 lo)).take (HT.sIx xs.length xs.length hi - HT.sIx xs.length 0 lo), IsTup.new _ _⟩
theorem Vals.nil_iff {xs : List V} {us : List Value} (r : Vals xs us) : us = [] ↔ xs = [] := by
  cases r with
  | nil => simp
  | cons _ _ => simp
end
end L2
namespace L2
open PySem PySem.Spec PyProof.Rows
def ixN (n : Nat) (i : Int) : Option Nat := if 0 ≤ i then (if i < n then some i.toNat else none) else if -(n : Int) ≤ i then some (i + n).toNat else none
def atI {α : Type} (xs : List α) (i : Int) : Option α := (ixN xs.length i).bind fun j => xs[j]?
theorem ixN_seq {n : Nat} {i : Int} {j : Nat} (h : ixN n i = some j) : seqIndex? i n = some j ∧ j < n ∧ -(n : Int) ≤ i ∧ i < n := by
  unfold ixN at h
  by_cases h0 : 0 ≤ i
  · rw [if_pos h0] at h
    by_cases h1 : i < n
    · rw [if_pos h1] at h
      have e : i.toNat = j := Option.some.inj h
      exact ⟨by rw [seqIndex_of h0 h1, e], by omega, by omega, h1⟩
    · rw [if_neg h1] at h; cases h
  · rw [if_neg h0] at h
    by_cases h1 : -(n : Int) ≤ i
    · rw [if_pos h1] at h
      have e : (i + n).toNat = j := Option.some.inj h
      exact ⟨by rw [seqIndex_neg (by omega) h1, e], by omega, h1, by omega⟩
    · rw [if_neg h1] at h; cases h
theorem atI_get {α : Type} {xs : List α} {i : Int} {v : α} (h : atI xs i = some v) : ∃ j, seqIndex? i xs.length = some j ∧ xs[j]? = some v ∧ j < xs.length ∧ -(xs.length : Int) ≤ i ∧ i < xs.length := by
  unfold atI at h
  cases e : ixN xs.length i with
  | none => rw [e] at h; cases h
  | some j =>
    rw [e] at h
    obtain ⟨h1, h2, h3, h4⟩ := ixN_seq e
    exact ⟨j, h1, h, h2, h3, h4⟩
theorem atI_nat {α : Type} {xs : List α} {j : Nat} {v : α} (h : xs[j]? = some v) : atI xs (j : Int) = some v := by
  have hj : j < xs.length := (List.getElem?_eq_some_iff.mp h).1
  have e : ixN xs.length (j : Int) = some j := by
    unfold ixN
    rw [if_pos (by omega), if_pos (by omega)]; simp
  unfold atI; rw [e]; exact h
def PlainIx (b : Expr) : Prop := ∀ o i, subscripted b false o i = operate [o, i] (getItem o i)
def IxR (X : Cx) (r : R2) : Prop :=
  ∀ (value slice : Expr) (pins : List (Addr × Obj)) (s : Shared) (σ : St) (H : Hp) (x y : V) (v u : Value) (Q : VK), Inv X pins σ H s → RelV x v → RelV y u → r x y H Q →
    subscripted slice false v u = operate [v, u] (getItem v u) → wpAny (model X.prog X.w) X.A (subscriptTail value slice v u) (EP X pins σ Q) X.xe s
def MtR (X : Cx) (id : String) (r : V → List V → Hp → VK → Prop) : Prop :=
  ∀ (pins : List (Addr × Obj)) (s : Shared) (σ : St) (H : Hp) (x : V) (xs : List V) (v : Value) (us : List Value) (Q : VK), Inv X pins σ H s → RelV x v → Vals xs us → r x xs H Q →
    wpAny (model X.prog X.w) X.A (call (.builtin id) (v :: us)) (EP X pins σ Q) X.xe s
section
variable {X : Cx} {a b : Expr} {ta tb : TE} {pos : Pos}
theorem pe_ix {r : R2} (hr : IxR X r) (ha : PE X a ta) (hb : PE X b tb) (hs : PlainIx b) : PE X (.Subscript a b pos) (tOp r ta tb) := by
  intro pins s σ H Q I h
  exact Subscript_ (binT ha hb I h fun v u s2 x y H2 I2 rx ry q => hr a b pins s2 σ H2 x y v u Q I2 rx ry q (hs _ _))
def rIxL (K : PySem.W.Frag) : R2 := fun x y H Q => ∃ p xs i v, x = .ref p ∧ y = .int i ∧ SqL K H p xs ∧ atI xs i = some v ∧ Q v H
def rIxT (K : PySem.W.Frag) : R2 := fun x y H Q => ∃ p xs i v, x = .ref p ∧ y = .int i ∧ SqT K H p xs ∧ atI xs i = some v ∧ Q v H
def rIxS : R2 := fun x y H Q => ∃ z i c, x = .str z ∧ y = .int i ∧ z.length ≤ sizeLine ∧ atI z.cps.toList i = some c ∧ Q (.str ⟨#[c]⟩) H
theorem ix_list : IxR X (rIxL X.K) := by
  intro value slice pins s σ H x y v u Q I rx ry h hs
  obtain ⟨p, xs, i, z, rfl, rfl, hq, he, q⟩ := h
  cases rx
  obtain ⟨t, rfl⟩ := ry
  obtain ⟨its, r, pl, hz⟩ := I.list hq
  obtain ⟨j, h1, h2, h3, h4, h5⟩ := atI_get he
  obtain ⟨w, ew, rw'⟩ := r.get h2
  have hl := r.length
  have hn := line63
  have fin : EP X pins σ Q w s := ⟨z, H, I, rw', q⟩
  by_cases h0 : 0 ≤ i
  · have hj : i.toNat = j := by
      rw [seqIndex_of h0 h5] at h1
      exact Option.some.inj h1
    exact item_listR pl.isList h0 (by omega) (by rw [hj]; simpa using ew) fin hs
  · have hj : (i + (its.toArray.size : Int)).toNat = j := by
      rw [seqIndex_neg (by omega) h4] at h1
      rw [List.size_toArray, ← hl]
      exact Option.some.inj h1
    exact subscriptTail_builtinR (x := w) pl.isList.typeIs slot_list_getitem.lookup
      (wpAny_getItem_list_neg (Q := fun r s' => r = w ∧ EP X pins σ Q r s') pl.isList (by omega) (by rw [List.size_toArray] <;> omega) (by omega) (by rw [hj]; simpa using ew) ⟨rfl, fin⟩) hs
theorem ix_tup : IxR X (rIxT X.K) := by
  intro value slice pins s σ H x y v u Q I rx ry h hs
  obtain ⟨p, xs, i, z, rfl, rfl, hq, he, q⟩ := h
  cases rx
  obtain ⟨t, rfl⟩ := ry
  obtain ⟨its, r, pl, hz⟩ := I.tuple hq
  obtain ⟨j, h1, h2, h3, h4, h5⟩ := atI_get he
  obtain ⟨w, ew, rw'⟩ := r.get h2
  have hl := r.length
  have hn := line63
  have fin : EP X pins σ Q w s := ⟨z, H, I, rw', q⟩
  exact subscriptTail_builtinR (x := w) pl.typeIs slot_tuple_getitem.lookup
    (getItem_tuple (j := j) (Q := fun r s' => r = w ∧ EP X pins σ Q r s') pl (by omega) (by omega) (by rw [List.size_toArray, ← hl]; exact h1) (by simpa using ew) ⟨rfl, fin⟩) hs
theorem ix_str : IxR X rIxS := by
  intro value slice pins s σ H x y v u Q I rx ry h hs
  obtain ⟨z, i, c, rfl, rfl, hz, he, q⟩ := h
  obtain ⟨t, rfl⟩ := rx
  obtain ⟨t', rfl⟩ := ry
  obtain ⟨j, h1, h2, h3, h4, h5⟩ := atI_get he
  have hl : z.cps.toList.length = z.length := by simp [Str.length]
  rw [hl] at h1 h4 h5
  have hn := line63
  exact tail_any (typeIs_str s z t) slot_str_getitem.lookup (getItem_str (c := c) (by
    have e1 : decide (i < -(2 ^ 63 : Int)) = false := decide_eq_false (by omega)
    have e2 : decide (i ≥ 2 ^ 63) = false := decide_eq_false (by omega)
    rw [e1, e2, Bool.or_false]) (by rw [h1]; simpa using h2) ⟨.str ⟨#[c]⟩, H, I.tok _, ⟨_, rfl⟩, q⟩) hs
theorem Inv.lst {pins : List (Addr × Obj)} {σ : St} {H : Hp} {s : Shared} {p : Addr} {xs : List V} (I : Inv X pins σ H s) (h : H p = some (.lst xs)) :
    ∃ (its : List Value) (n : Nat), Vals xs its ∧ s.heap.get? p = some { cls := .type "list", data := .seq its.toArray n } ∧ xs.length ≤ sizeLine := by
  obtain ⟨z, its, n, r, e⟩ := I.hok p _ h
  exact ⟨its, n, r, e, z⟩
theorem slice_bounds (lo hi : Option Int) (n : Nat) : (sliceBounds lo hi none n).1 = ((HT.sIx n 0 lo : Nat) : Int) ∧ (sliceBounds lo hi none n).2.1 = ((HT.sIx n n hi : Nat) : Int) ∧ (sliceBounds lo hi none n).2.2 = 1 := by
  refine ⟨?_, ?_, rfl⟩
  · cases lo with
    | none => simp [sliceBounds, HT.sIx]
    | some i =>
      simp only [sliceBounds, HT.sIx, Option.getD_none, show (1 : Int) > 0 by decide, if_true]
      by_cases h : i < 0
      · simp only [h, if_true] <;> omega
      · simp only [h, if_false] <;> omega
  · cases hi with
    | none => simp [sliceBounds, HT.sIx]
    | some i =>
      simp only [sliceBounds, HT.sIx, Option.getD_none, show (1 : Int) > 0 by decide, if_true]
      by_cases h : i < 0
      · simp only [h, if_true] <;> omega
      · simp only [h, if_false] <;> omega
theorem slicePick_cut (its : List Value) (lo hi : Option Int) : slicePick its.toArray lo hi none = ((its.drop (HT.sIx its.length 0 lo)).take (HT.sIx its.length its.length hi - HT.sIx its.length 0 lo)).toArray := by
  obtain ⟨h1, h2, h3⟩ := slice_bounds lo hi its.toArray.size
  unfold slicePick
  rw [h1, h2, h3]
  simp only [sliceRange_one, pick_run, List.size_toArray] <;> rfl
def rSlL (K : PySem.W.Frag) : V → Option Int → Option Int → Hp → VK → Prop := fun x lo hi H Q => ∃ a xs, x = .ref a ∧ SqL K H a xs ∧ ∀ p, H p = none → Q (.ref p) (upd H p (.lst (cutV xs lo hi)))
theorem sl_list : SlR X (rSlL X.K) := by
  intro pins s σ H x v vl vu lo hi sl Q I rx hs pl pu h
  obtain ⟨a, xs, rfl, hx, q⟩ := h
  cases rx
  obtain ⟨its, r, ht, hz⟩ := I.list hx
  have hlen := r.length
  refine ⟨"list", _, slot_list_getitem.lookup, ht.isList.typeIs, ?_⟩
  refine wpAny_getItem_list_slice ht.isList hs pl pu .none (by simp) ?_ (by rw [List.size_toArray] <;> omega)
  rw [slicePick_cut, ← hlen]
  refine ⟨.ref s.heap.objs.size, _, I.laid (t' := s.toks) (o := .lst (cutV xs lo hi)) (fun b ob q => Heap.get?_push_of_some _ q) (Nat.le_refl _) ?_, rfl, q _ (I.hok.fresh (Nat.le_refl _))⟩
  exact ⟨Nat.le_trans (cutV_length xs lo hi) hz, _, 0, (r.drop (HT.sIx xs.length 0 lo)).take (HT.sIx xs.length xs.length hi - HT.sIx xs.length 0 lo), Heap.get?_push_size _ rfl⟩
theorem op_notIn_str : OpR X (compareOp .NotIn) (fun x y H Q => ∃ i j, x = .str i ∧ y = .str j ∧ Q (.bl (!(!(Builtin.Str.occurrences j i 0 j.length 1).isEmpty))) H) := by
  intro pins s σ H x y v u Q I rx ry h
  obtain ⟨i, j, rfl, rfl, q⟩ := h
  obtain ⟨t, rfl⟩ := rx
  obtain ⟨t', rfl⟩ := ry
  exact notIn_str ⟨.bl _, H, I, rfl, q⟩
theorem call_len_seq : CallR X (.builtin "len") (fun xs H Q => ∃ p ys, xs = [.ref p] ∧ (SqL X.K H p ys ∨ SqT X.K H p ys) ∧ Q (.int ys.length) H) := by
  intro pins s σ H xs us Q I r h
  obtain ⟨p, ys, rfl, hq, q⟩ := h
  obtain ⟨u, rfl, rx⟩ := vals1 r
  cases rx
  have hn := line63
  rcases hq with hq | hq
  · obtain ⟨its, r', pl, hz⟩ := I.list hq
    have hlen := r'.length
    exact Calls.call_len_list pl.isList (by simp only [List.size_toArray] <;> omega) ⟨.int ys.length, H, I.tok _, ⟨s.toks + 1, by rw [List.size_toArray, hlen]⟩, q⟩
  · obtain ⟨its, r', pl, hz⟩ := I.tuple hq
    have hlen := r'.length
    exact len_tuple pl (by simp only [List.size_toArray] <;> omega) ⟨.int ys.length, H, I.tok _, ⟨s.toks + 1, by rw [List.size_toArray, hlen]⟩, q⟩
theorem call_len_str : CallR X (.builtin "len") (fun xs H Q => ∃ z, xs = [.str z] ∧ z.length ≤ sizeLine ∧ Q (.int z.length) H) := by
  intro pins s σ H xs us Q I r h
  obtain ⟨z, rfl, hz, q⟩ := h
  obtain ⟨u, rfl, t, rfl⟩ := vals1 r
  have hn := line63
  exact len_str (by omega) ⟨.int z.length, H, I.tok _, ⟨_, rfl⟩, q⟩
theorem call_tuple_of : CallR X (.type "tuple") (fun xs H Q => ∃ p ys, xs = [.ref p] ∧ ((SqL X.K H p ys ∧ ∀ l, H l = none → Q (.ref l) (upd H l (.tup ys))) ∨ (SqT X.K H p ys ∧ Q (.ref p) H))) := by
  intro pins s σ H xs us Q I r h
  obtain ⟨p, ys, rfl, h⟩ := h
  obtain ⟨u, rfl, rx⟩ := vals1 r
  cases rx
  rcases h with ⟨hq, q⟩ | ⟨hq, q⟩
  · obtain ⟨its, r', pl, hz⟩ := I.list hq
    have hlen := r'.length
    refine call_tuple_list pl.isList (fun h' kp => ?_) (by simp only [List.size_toArray] <;> omega)
    have I1 : Inv X pins σ H { s with heap := h' } := I.kept (t' := s.toks) kp
    have I2 : Inv X pins σ (upd H h'.objs.size (.tup ys)) { s with heap := h'.push { cls := .type "tuple", data := .seq its.toArray } } :=
      I1.laid (t' := s.toks) (fun b o e => Heap.get?_push_of_some _ e) (Nat.le_refl _) (show ObjOk X.prog X.w _ _ _ (.tup ys) from ⟨hz, its, r', IsTup.new _ _⟩)
    exact ⟨.ref h'.objs.size, _, I2, rfl, q _ (I1.hok.fresh (Nat.le_refl _))⟩
  · obtain ⟨its, r', pl, hz⟩ := I.tuple hq
    exact call_tuple_same pl ⟨.ref p, H, I, rfl, q⟩
def tyV (K : PySem.W.Frag) (T : String) (x : V) (H : Hp) : Prop := match x with
  | .str _ => T = "str"
  | .int _ => T = "int"
  | .ref p => (T = "list" ∧ ∃ xs, SqL K H p xs) ∨ (T = "tuple" ∧ ∃ o, K.lookup p = some o ∧ o.cls = .type "tuple" ∧ o.dict = none) ∨
      (T = "dict" ∧ ((∃ kvs, H p = some (.dK kvs)) ∨ ∃ kvs, H p = some (.dT kvs))) ∨ (T = "set" ∧ ∃ S n, H p = some (.set S n))
  | _ => False
theorem tyV_is {pins : List (Addr × Obj)} {σ : St} {H : Hp} {s : Shared} {T : String} {x : V} {v : Value} (I : Inv X pins σ H s) (r : RelV x v) (ty : tyV X.K T x H) :
    s.TypeIs v T ∧ ∀ a, v = .ref a → ∃ ob, s.heap.get? a = some ob ∧ ob.dict = none := by
  cases x with
  | str z =>
    obtain ⟨t, rfl⟩ := r
    cases (show T = "str" from ty)
    exact ⟨typeIs_str s z t, fun _ e => nomatch e⟩
  | int i =>
    obtain ⟨t, rfl⟩ := r
    cases (show T = "int" from ty)
    exact ⟨typeIs_int s i t, fun _ e => nomatch e⟩
  | ref p =>
    cases r
    rcases ty with ⟨rfl, xs, hq⟩ | ⟨rfl, o, hk, hc, hd⟩ | ⟨rfl, hk⟩ | ⟨rfl, S, n, hk⟩
    · obtain ⟨its, _, pl, _⟩ := I.list hq
      refine ⟨pl.isList.typeIs, fun a e => ?_⟩
      cases e
      obtain ⟨o, n, e, c, hd, _⟩ := pl
      exact ⟨o, e, hd⟩
    · refine ⟨⟨o, I.kIn p o hk, hc⟩, fun a e => ?_⟩
      cases e
      exact ⟨o, I.kIn _ o hk, hd⟩
    · have z : ∃ o, s.heap.get? p = some o ∧ o.ExactDict := by
        rcases hk with ⟨kvs, hk⟩ | ⟨kvs, hk⟩
        · obtain ⟨_, _, _, _, o, _, _, e, ex, _⟩ := I.hok p _ hk
          exact ⟨o, e, ex⟩
        · obtain ⟨_, _, _, _, o, _, _, e, ex, _⟩ := I.hok p _ hk
          exact ⟨o, e, ex⟩
      obtain ⟨o, e, ex⟩ := z
      refine ⟨⟨o, e, ex.1⟩, fun a e2 => ?_⟩
      cases e2
      exact ⟨o, e, ex.2.1⟩
    · obtain ⟨o, _, _, _, e, ex, _⟩ := I.hok p _ hk
      refine ⟨⟨o, e, ex.1⟩, fun a e2 => ?_⟩
      cases e2
      exact ⟨o, e, ex.2.1⟩
  | _ => exact False.elim ty
def tBM0 (K : PySem.W.Frag) (T : String) (r : V → List V → Hp → VK → Prop) (to : TE) : TE := fun σ H Q => to σ H fun x H1 => tyV K T x H1 ∧ r x [] H1 Q
def tBM (K : PySem.W.Frag) (T : String) (r : V → List V → Hp → VK → Prop) (to : TE) (t : TA) : TE := fun σ H Q => to σ H fun x H1 => tyV K T x H1 ∧ t σ H1 fun xs H2 => r x xs H2 Q
variable {o e : Expr} {es : List Expr} {to : TE} {t : TA} {name : Str} {apos cpos : Pos} {T id : String} {r : V → List V → Hp → VK → Prop}
theorem pe_bm0 (pa : PlainAttrs T) (slot : Slot T name id) (hty : typeOf (.builtin id) = pure (.type "method_descriptor")) (hm : MtR X id r) (ho : PE X o to)
    (hbase : attributeBase o name X.env (eval o X.env) = eval o X.env := by rfl) (hline : (apos.endLine == cpos.line) = true := by rfl) : PE X (.Call (.Attribute o name apos) [] [] cpos) (tBM0 X.K T r to) := by
  intro pins s σ H Q I h
  refine wpAny_Call_method0_late hbase hline (thn (ho pins s σ H _ I h) fun v s1 ⟨x, H1, I1, r1, ty, q1⟩ => ?_)
  obtain ⟨h1, h2⟩ := tyV_is I1 r1 ty
  exact ⟨T, id, pa, slot, hty, h1, h2, Calls.callWith_builtin rfl (PySem.evalArgs_none (hm pins s1 σ H1 x [] v [] Q I1 r1 .nil q1))⟩
theorem pe_bm (pa : PlainAttrs T) (slot : Slot T name id) (hty : typeOf (.builtin id) = pure (.type "method_descriptor")) (hm : MtR X id r) (ho : PE X o to) (ha : PA X (e :: es) t)
    (hbase : attributeBase o name X.env (eval o X.env) = eval o X.env := by rfl)
    (hfew : ((backTo cpos (starEach (e :: es) X.env)).all (fun x => !x.1) && (backToKw cpos (keywordEach [] X.env)).all (fun x => x.1.isSome)
      && decide ((e :: es).length + ([] : List Keyword).length + (if ([] : List Keyword).isEmpty then 0 else 1) < 30)) = true := by rfl)
    (hline : (apos.endLine == cpos.line) = true := by rfl) (hs : starEach (e :: es) X.env = (false, eval e X.env) :: starEach es X.env := by rfl) (hplain : (backTo cpos (starEach es X.env)).any (·.1) = false := by rfl) :
    PE X (.Call (.Attribute o name apos) (e :: es) [] cpos) (tBM X.K T r to t) := by
  intro pins s σ H Q I h
  refine wpAny_Call_method_late hbase hfew hline rfl (thn (ho pins s σ H _ I h) fun v s1 ⟨x, H1, I1, r1, ty, q1⟩ => ?_)
  obtain ⟨h1, h2⟩ := tyV_is I1 r1 ty
  refine ⟨T, id, pa, slot, hty, h1, h2, ?_⟩
  have hA := ha cpos pins s1 σ H1 _ I1 q1
  rw [hs] at hA ⊢
  refine Calls.callWith_builtin (by show (false || (backTo cpos (starEach es X.env)).any (·.1)) = false; rw [hplain] <;> rfl) (Calls.evalArgs_plain ?_)
  exact thn hA fun us s2 ⟨vs, H2, I2, r2, q2⟩ => hm pins s2 σ H2 x vs v us Q I2 r1 r2 q2
end
end L2
namespace L2
open PySem PySem.Spec PyProof.Rows
def MtM (X : Cx) (id : String) (r : V → List V → Hp → VK → Prop) : Prop :=
  ∀ (pins : List (Addr × Obj)) (s : Shared) (σ : St) (H : Hp) (x : V) (xs : List V) (v : Value) (us : List Value) (Q : VK), Inv X pins σ H s → RelV x v → Vals xs us → r x xs H Q →
    wpAny (model X.prog X.w) X.A (call (.builtin id) (v :: us)) (EP X pins σ Q) X.xe s
theorem Vals.one : ∀ {x : V} {us : List Value}, Vals [x] us → ∃ u, us = [u] ∧ RelV x u
  | _, _, .cons r .nil => ⟨_, rfl, r⟩
theorem Vals.two : ∀ {x y : V} {us : List Value}, Vals [x, y] us → ∃ u v, us = [u, v] ∧ RelV x u ∧ RelV y v
  | _, _, _, .cons r (.cons q .nil) => ⟨_, _, rfl, r, q⟩
theorem Vals.zero : ∀ {us : List Value}, Vals [] us → us = []
  | _, .nil => rfl
theorem Vals.dropLast {xs : List V} {us : List Value} (h : Vals xs us) : Vals xs.dropLast us.dropLast := by
  induction h with
  | nil => exact .nil
  | cons r t ih =>
    cases t with
    | nil => exact .nil
    | cons q t' => exact .cons r ih
theorem Vals.eraseIdx : ∀ {xs : List V} {us : List Value} (i : Nat), Vals xs us → Vals (xs.eraseIdx i) (us.eraseIdx i)
  | _, _, _, .nil => .nil
  | _, _, 0, .cons _ t => t
  | _, _, i + 1, .cons r t => .cons r (Vals.eraseIdx i t)
theorem Vals.reverse {xs : List V} {us : List Value} (h : Vals xs us) : Vals xs.reverse us.reverse := by
  induction h with
  | nil => exact .nil
  | cons r t ih => rw [List.reverse_cons, List.reverse_cons]; exact Vals.append ih (.cons r .nil)
theorem Vals.rep {xs : List V} {us : List Value} (h : Vals xs us) : ∀ k : Nat, Vals (List.replicate k xs).flatten (List.replicate k us).flatten
  | 0 => .nil
  | k + 1 => by
    rw [List.replicate_succ, List.replicate_succ, List.flatten_cons, List.flatten_cons]
    exact Vals.append h (Vals.rep h k)
theorem erase_last {α : Type} (l : List α) : l.eraseIdx (l.length - 1) = l.dropLast := by
  induction l with
  | nil => rfl
  | cons a r ih =>
    cases r with
    | nil => rfl
    | cons b r =>
      have e : (a :: b :: r).length - 1 = ((b :: r).length - 1) + 1 := by
        have h1 : (a :: b :: r).length = r.length + 2 := rfl
        have h2 : (b :: r).length = r.length + 1 := rfl
        omega
      rw [e, List.eraseIdx_cons_succ, ih]
      all_goals rfl
section
variable {X : Cx} {pins : List (Addr × Obj)} {σ : St} {H : Hp} {s : Shared} {l b : Addr} {xs ys zs : List V}
theorem Inv.lset {its its' : List Value} {n : Nat} {f : Array Value → Array Value} {t' : Nat} (I : Inv X pins σ H s) (hH : H l = some (.lst xs))
    (e : s.heap.get? l = some { cls := .type "list", data := .seq its.toArray n }) (hf : f its.toArray = its'.toArray) (hv : Vals ys its') (hz : ys.length ≤ sizeLine) :
    Inv X pins σ (upd H l (.lst ys)) { s with heap := s.heap.update l (Obj.mapSeq f), toks := t' } := by
  have q := PySem.IsL.update e f
  rw [hf] at q
  refine I.write (x := l) (e := l) (by rw [hH]; exact trivial) (.inl rfl) (fun b' u hb hu => (Heap.get?_update_other s.heap (Obj.mapSeq f) (Ne.symm hb)).trans hu) ⟨_, q⟩ ?_
  exact ⟨hz, its', _, hv, q⟩
theorem Inv.lnew {its : List Value} {t' : Nat} (I : Inv X pins σ H s) (hv : Vals ys its) (hz : ys.length ≤ sizeLine) :
    Inv X pins σ (upd H s.heap.objs.size (.lst ys)) { s with heap := s.heap.push { cls := .type "list", data := .seq its.toArray }, toks := t' } :=
  I.laid (fun _ _ q => Heap.get?_push_of_some _ q) (Nat.le_refl _) ⟨hz, its, 0, hv, Heap.get?_push_size _ rfl⟩
theorem Inv.fresh (I : Inv X pins σ H s) : H s.heap.objs.size = none := I.hok.fresh (Nat.le_refl _)
theorem Inv.lstM (I : Inv X pins σ H s) (hH : H l = some (.lst xs)) : xs.length ≤ sizeLine ∧ ∃ (its : List Value) (n : Nat), Vals xs its ∧ xs.length = its.length ∧ s.heap.get? l = some { cls := .type "list", data := .seq its.toArray n } := by
  obtain ⟨z, its, n, r, e⟩ := I.hok l _ hH
  exact ⟨z, its, n, r, r.length, e⟩
end
section
variable {X : Cx}
def rAppend : V → List V → Hp → VK → Prop := fun x vs H Q => ∃ l xs y, x = .ref l ∧ vs = [y] ∧ H l = some (.lst xs) ∧ xs.length < sizeLine ∧ Q .non (upd H l (.lst (xs ++ [y])))
theorem mt_append : MtM X "list.append" rAppend := by
  intro pins s σ H x vs v us Q I rx rv h
  obtain ⟨l, xs, y, rfl, rfl, hH, hz, q⟩ := h
  cases rx
  obtain ⟨u, rfl, ru⟩ := rv.one
  obtain ⟨z, its, n, r, hl, e⟩ := I.lstM hH
  refine call_meets F.slot_list_append ⟨_, e, rfl⟩ F.entry_list_append (F.args_list_append_2 _ _) (PySem.list_append l its.toArray n u (by rw [List.size_toArray]; omega)) ⟨e, ?_⟩
  refine ⟨.non, _, I.lset (its' := its ++ [u]) hH e (by simp) (r.append (.cons ru .nil)) ?_, rfl, q⟩
  rw [List.length_append, List.length_singleton]
  omega
def rPop : V → List V → Hp → VK → Prop := fun x vs H Q => ∃ l xs y, x = .ref l ∧ vs = [] ∧ H l = some (.lst xs) ∧ xs[xs.length - 1]? = some y ∧ Q y (upd H l (.lst xs.dropLast))
theorem mt_pop : MtM X "list.pop" rPop := by
  intro pins s σ H x vs v us Q I rx rv h
  obtain ⟨l, xs, y, rfl, rfl, hH, hy, q⟩ := h
  cases rx
  have hus := rv.zero
  subst hus
  obtain ⟨z, its, n, r, hl, e⟩ := I.lstM hH
  obtain ⟨u, hu, ru⟩ := r.get hy
  have hy' : its.toArray[its.toArray.size - 1]? = some u := by
    show its.toArray[its.length - 1]? = some u
    rw [← Array.getElem?_toList, ← hl]
    exact hu
  refine call_meets F.slot_list_pop ⟨_, e, rfl⟩ F.entry_list_pop (F.args_list_pop_1 _) (MeetsSeq.list_pop_last l its.toArray n u hy' (by rw [List.size_toArray]; omega)) ⟨e, ?_⟩
  refine ⟨y, _, I.lset (its' := its.dropLast) hH e ?_ r.dropLast ?_, ru, q⟩
  · show its.toArray.eraseIdxIfInBounds (its.toArray.size - 1) = its.dropLast.toArray
    rw [List.size_toArray, List.eraseIdxIfInBounds_toArray, erase_last]
  · rw [List.length_dropLast]
    omega
def rCat : R2 := fun x y H Q => ∃ l b xs zs, x = .ref l ∧ y = .ref b ∧ H l = some (.lst xs) ∧ H b = some (.lst zs) ∧ xs.length + zs.length ≤ sizeLine ∧ ∀ p, H p = none → Q (.ref p) (upd H p (.lst (xs ++ zs)))
theorem op_cat : OpR X (binaryOp .Add) rCat := by
  intro pins s σ H x y v u Q I rx ry h
  obtain ⟨l, b, xs, zs, rfl, rfl, hH, hB, hz, q⟩ := h
  cases rx
  cases ry
  obtain ⟨z, its, n, r, hl, e⟩ := I.lstM hH
  obtain ⟨z2, its2, n2, r2, hl2, e2⟩ := I.lstM hB
  refine PySem.P.add_list e e2 ?_ (by rw [List.size_toArray, List.size_toArray]; omega)
  have ea : its.toArray ++ its2.toArray = (its ++ its2).toArray := by simp
  rw [ea]
  exact ⟨.ref _, _, I.lnew (t' := s.toks) (r.append r2) (by rw [List.length_append]; omega), rfl, q _ I.fresh⟩
end
section
variable {prog : Program} {w : World} {A : Around} {E : Value → Shared → Prop} {s : Shared}
end
section
variable {X : Cx}
end
end L2
namespace L2
open PySem PySem.Spec PyProof.Rows
section
variable {κ : Type} [DecidableEq κ]
def valV (kvs : List (κ × V)) (k : κ) : Option V := (kvs.find? fun kv => decide (kv.1 = k)).map (·.2)
def putK (kvs : List (κ × V)) (k : κ) (v : V) : List (κ × V) :=
  if (kvs.any fun kv => decide (kv.1 = k)) = true then kvs.map (fun kv => if kv.1 = k then (kv.1, v) else kv) else kvs ++ [(k, v)]
def dropK (kvs : List (κ × V)) (k : κ) : List (κ × V) := kvs.filter fun kv => decide (kv.1 ≠ k)
theorem valV_pos {p : κ × V} {r : List (κ × V)} {k : κ} (e : p.1 = k) : valV (p :: r) k = some p.2 := by simp [valV, List.find?_cons, e]
theorem valV_neg {p : κ × V} {r : List (κ × V)} {k : κ} (e : ¬ p.1 = k) : valV (p :: r) k = valV r k := by simp [valV, List.find?_cons, e]
theorem valV_any (k : κ) : ∀ kvs : List (κ × V), (kvs.any fun kv => decide (kv.1 = k)) = (valV kvs k).isSome
  | [] => rfl
  | p :: r => by
    rw [List.any_cons]
    by_cases e : p.1 = k
    · simp only [valV_pos e, decide_eq_true e, Bool.true_or, Option.isSome_some]
    · rw [valV_neg e, decide_eq_false e, Bool.false_or]; exact valV_any k r
theorem length_putK (kvs : List (κ × V)) (k : κ) (v : V) : (putK kvs k v).length ≤ kvs.length + 1 := by
  unfold putK
  split
  · rw [List.length_map]; omega
  · rw [List.length_append, List.length_cons, List.length_nil]; omega
theorem RelO.isSome_eq {o : Option V} {u : Option Value} (r : RelO o u) : o.isSome = u.isSome := by
  cases o with
  | none => cases u with
    | none => rfl
    | some _ => exact (show False from r).elim
  | some _ => cases u with
    | none => exact (show False from r).elim
    | some _ => rfl
theorem RelO.getD {o : Option V} {u : Option Value} {d : V} {d' : Value} (r : RelO o u) (rd : RelV d d') : RelV (o.getD d) (u.getD d') := by
  cases o with
  | none => cases u with
    | none => exact rd
    | some _ => exact (show False from r).elim
  | some _ => cases u with
    | none => exact (show False from r).elim
    | some _ => exact r
theorem KV.val {kvs : List (κ × V)} {vs : List (κ × Value)} (r : KV kvs vs) (k : κ) : RelO (valV kvs k) (valueAt vs k) := by
  unfold KV at r
  induction r with
  | nil => exact True.intro
  | @cons p q ps qs h t ih =>
    obtain ⟨h1, h2⟩ := h
    by_cases e : p.1 = k
    · have e' : q.1 = k := h1.symm.trans e
      have b : valueAt (q :: qs) k = some q.2 := by simp [valueAt, List.find?_cons, e']
      rw [valV_pos e, b]; exact h2
    · have e' : ¬ q.1 = k := fun z => e (h1.trans z)
      have b : valueAt (q :: qs) k = valueAt qs k := by simp [valueAt, List.find?_cons, e']
      rw [valV_neg e, b]; exact ih
theorem KV.any {kvs : List (κ × V)} {vs : List (κ × Value)} (r : KV kvs vs) (k : κ) : (kvs.any fun kv => decide (kv.1 = k)) = vs.any fun kv => decide (kv.1 = k) := by
  unfold KV at r
  induction r with
  | nil => rfl
  | cons h t ih => rw [List.any_cons, List.any_cons, ih, h.1]
theorem KV.repl {kvs : List (κ × V)} {vs : List (κ × Value)} (r : KV kvs vs) (k : κ) {y : V} {u : Value} (ry : RelV y u) :
    KV (kvs.map fun kv => if kv.1 = k then (kv.1, y) else kv) (vs.map fun kv => if kv.1 = k then (kv.1, u) else kv) := by
  unfold KV at r ⊢
  induction r with
  | nil => exact .nil
  | @cons p q ps qs h t ih =>
    rw [List.map_cons, List.map_cons]
    refine .cons ?_ ih
    obtain ⟨h1, h2⟩ := h
    by_cases e : p.1 = k
    · rw [if_pos e, if_pos (h1.symm.trans e)]; exact ⟨h1, ry⟩
    · rw [if_neg e, if_neg (fun z => e (h1.trans z))]; exact ⟨h1, h2⟩
theorem KV.put {kvs : List (κ × V)} {vs : List (κ × Value)} (r : KV kvs vs) (k : κ) {y : V} {u : Value} (ry : RelV y u) : KV (putK kvs k y) (stored vs k u) := by
  unfold putK stored
  rw [r.any k]
  by_cases e : (vs.any fun kv => decide (kv.1 = k)) = true
  · rw [if_pos e, if_pos e]; exact r.repl k ry
  · rw [if_neg e, if_neg e]; exact Paired.snoc r ⟨rfl, ry⟩
theorem KV.drop {kvs : List (κ × V)} {vs : List (κ × Value)} (r : KV kvs vs) (k : κ) : KV (dropK kvs k) (without vs k) := by
  unfold KV at r ⊢
  unfold dropK without
  induction r with
  | nil => exact .nil
  | @cons p q ps qs h t ih =>
    obtain ⟨h1, h2⟩ := h
    rw [List.filter_cons, List.filter_cons]
    by_cases e : p.1 = k
    · have a : ¬ decide (p.1 ≠ k) = true := by simp [e]
      have b : ¬ decide (q.1 ≠ k) = true := by simp [h1.symm.trans e]
      rw [if_neg a, if_neg b]; exact ih
    · have e' : ¬ q.1 = k := fun z => e (h1.trans z)
      have a : decide (p.1 ≠ k) = true := by simp [e]
      have b : decide (q.1 ≠ k) = true := by simp [e']
      rw [if_pos a, if_pos b]; exact .cons ⟨h1, h2⟩ ih
theorem KV.keys {kvs : List (κ × V)} {vs : List (κ × Value)} (r : KV kvs vs) : kvs.map (·.1) = vs.map (·.1) := by
  unfold KV at r
  induction r with
  | nil => rfl
  | cons h t ih => rw [List.map_cons, List.map_cons, ih, h.1]
theorem KV.length {kvs : List (κ × V)} {vs : List (κ × Value)} (r : KV kvs vs) : kvs.length = vs.length := Paired.length r
end
theorem kV_is {P : Program} {w : World} {k : Key} {u : Value} (r : RelV (kV k) u) : (mixKind P w).is k u = true := by
  cases k with
  | inl i => obtain ⟨t, e⟩ := (show ∃ t, u = Value.int i t from r); subst e; exact mixKind_int P w i t
  | inr x => obtain ⟨t, e⟩ := (show ∃ t, u = Value.str x t from r); subst e; exact mixKind_str P w x t
theorem items_are {P : Program} {w : World} : ∀ {ks : List Key} {us : List Value}, Vals (ks.map kV) us → ItemsAre (mixKind P w) ks us
  | [], _, r => by rw [List.map_nil] at r; cases r; exact .nil
  | k :: ks, _, r => by
    rw [List.map_cons] at r
    cases r with
    | cons h t => exact .cons (kV_is h) (items_are t)
abbrev KT (H : Hp) : List (List Key × V) → List (List Key × Addr × Value) → Prop := Paired fun p q => p.1 = q.1 ∧ H q.2.1 = some (.tup (p.1.map kV)) ∧ RelV p.2 q.2.2
theorem KT.val {H : Hp} {kvs : List (List Key × V)} {xs : List (List Key × Addr × Value)} (r : KT H kvs xs) (k : List Key) : RelO (valV kvs k) ((atKey xs k).map (·.2)) := by
  induction r with
  | nil => exact True.intro
  | @cons p q ps qs h t ih =>
    obtain ⟨h1, _, h2⟩ := h
    by_cases e : p.1 = k
    · have e' : q.1 = k := h1.symm.trans e
      have b : atKey (q :: qs) k = some q.2 := by simp [atKey, List.find?_cons, e']
      rw [valV_pos e, b]; exact h2
    · have e' : ¬ q.1 = k := fun z => e (h1.trans z)
      have b : atKey (q :: qs) k = atKey qs k := by simp [atKey, List.find?_cons, e']
      rw [valV_neg e, b]; exact ih
theorem KT.repl {H : Hp} {kvs : List (List Key × V)} {xs : List (List Key × Addr × Value)} (r : KT H kvs xs) (k : List Key) {y : V} {u : Value} (ry : RelV y u) :
    KT H (kvs.map fun kv => if kv.1 = k then (kv.1, y) else kv) (xs.map (putAt k u)) := by
  induction r with
  | nil => exact .nil
  | @cons p q ps qs h t ih =>
    rw [List.map_cons, List.map_cons]
    refine .cons ?_ ih
    obtain ⟨h1, h2, h3⟩ := h
    unfold putAt
    by_cases e : p.1 = k
    · rw [if_pos e, if_pos (h1.symm.trans e)]; exact ⟨h1, h2, ry⟩
    · rw [if_neg e, if_neg (fun z => e (h1.trans z))]; exact ⟨h1, h2, h3⟩
theorem KT.put {H : Hp} {kvs : List (List Key × V)} {xs : List (List Key × Addr × Value)} (r : KT H kvs xs) (k : List Key) {b : Addr} {y : V} {u : Value} (hb : H b = some (.tup (k.map kV))) (ry : RelV y u) :
    KT H (putK kvs k y) (storedH xs k b u) := by
  have e : (kvs.any fun kv => decide (kv.1 = k)) = (atKey xs k).isSome := by
    rw [valV_any, (r.val k).isSome_eq, Option.isSome_map]
  unfold putK storedH
  rw [e]
  by_cases q : (atKey xs k).isSome = true
  · rw [if_pos q, if_pos q]; exact r.repl k ry
  · rw [if_neg q, if_neg q]; exact Paired.snoc r ⟨rfl, hb, ry⟩
theorem KT.keeps {H H' : Hp} {kvs : List (List Key × V)} {xs : List (List Key × Addr × Value)} (r : KT H kvs xs) (ht : ∀ b ys, H b = some (.tup ys) → H' b = some (.tup ys)) : KT H' kvs xs :=
  Paired.mapP r fun _ _ z => ⟨z.1, ht _ _ z.2.1, z.2.2⟩
section
variable {P : Program} {w : World} {H : Hp} {h : Heap} {a : Addr}
theorem rd_of {u : HO} (ok : HOk P w H h) (e : Rd H a u) : ObjOk P w H h a u := e.ok ok
theorem dk_rd {kvs : List (Key × V)} (ok : HOk P w H h) (e : Rd H a (.dK kvs)) : kvs.length ≤ sizeLine ∧ (a == sysModules) = false ∧ ∃ vs, KV kvs vs ∧ h.DictOf (mixKind P w) a vs :=
  show ObjOk P w H h a (.dK kvs) from rd_of ok e
theorem dk_of {kvs : List (Key × V)} (ok : HOk P w H h) (e : H a = some (.dK kvs)) : kvs.length ≤ sizeLine ∧ (a == sysModules) = false ∧ ∃ vs, KV kvs vs ∧ h.DictOf (mixKind P w) a vs := dk_rd ok (.inl e)
theorem key_of {ks : List Key} (ok : HOk P w H h) (e : H a = some (.tup (ks.map kV))) : (tupleKind (mixKind P w)).is h ks a := by
  obtain ⟨_, its, r, o, h1, h2, n, h3⟩ := (show ObjOk P w H h a (.tup (ks.map kV)) from ok a _ e)
  exact ⟨o, its.toArray, n, h1, h2, h3, by simpa using items_are r⟩
theorem dt_rd {kvs : List (List Key × V)} (ok : HOk P w H h) (e : Rd H a (.dT kvs)) : kvs.length ≤ sizeLine ∧ (a == sysModules) = false ∧
    ∃ xs, KT H kvs xs ∧ h.DictOfH (tupleKind (mixKind P w)) a xs := by
  obtain ⟨z, y, xs, r, o, es, ep, h1, h2, h3, h4, h5⟩ := (show ObjOk P w H h a (.dT kvs) from rd_of ok e)
  refine ⟨z, y, xs, r, o, es, ep, h1, h2, h3, h4, fun x hx => ?_, h5⟩
  have all : ∀ {l : List (List Key × V)} {m : List (List Key × Addr × Value)}, KT H l m → ∀ x ∈ m, (tupleKind (mixKind P w)).is h x.1 x.2.1 := by
    intro l m q
    induction q with
    | nil => intro x hx; exact nomatch hx
    | @cons p q ps qs hq t ih =>
      intro x hx
      rcases List.mem_cons.mp hx with e | hx
      · subst e
        exact key_of ok (by rw [← hq.1]; exact hq.2.1)
      · exact ih x hx
  exact all r x hx
theorem dt_of {kvs : List (List Key × V)} (ok : HOk P w H h) (e : H a = some (.dT kvs)) : kvs.length ≤ sizeLine ∧ (a == sysModules) = false ∧
    ∃ xs, KT H kvs xs ∧ h.DictOfH (tupleKind (mixKind P w)) a xs := dt_rd ok (.inl e)
end
def DGet (H : Hp) (a : Addr) (y : V) (r : Option V) : Prop :=
  (∃ kvs k, Rd H a (.dK kvs) ∧ y = kV k ∧ r = valV kvs k) ∨ ∃ kvs k b, Rd H a (.dT kvs) ∧ y = .ref b ∧ H b = some (.tup (k.map kV)) ∧ r = valV kvs k
def DPut (H : Hp) (a : Addr) (y v : V) (H' : Hp) : Prop :=
  (∃ kvs k, H a = some (.dK kvs) ∧ y = kV k ∧ kvs.length < sizeLine ∧ H' = upd H a (.dK (putK kvs k v))) ∨
  ∃ kvs k b, H a = some (.dT kvs) ∧ y = .ref b ∧ H b = some (.tup (k.map kV)) ∧ kvs.length < sizeLine ∧ H' = upd H a (.dT (putK kvs k v))
theorem DGet.k {H : Hp} {a : Addr} {kvs : List (Key × V)} {k : Key} (e : H a = some (.dK kvs)) : DGet H a (kV k) (valV kvs k) := .inl ⟨kvs, k, .inl e, rfl, rfl⟩
theorem DGet.t {H : Hp} {a b : Addr} {kvs : List (List Key × V)} {k : List Key} (e : H a = some (.dT kvs)) (eb : H b = some (.tup (k.map kV))) : DGet H a (.ref b) (valV kvs k) := .inr ⟨kvs, k, b, .inl e, rfl, eb, rfl⟩
theorem DPut.k {H : Hp} {a : Addr} {kvs : List (Key × V)} {k : Key} {v : V} (e : H a = some (.dK kvs)) (hl : kvs.length < sizeLine) : DPut H a (kV k) v (upd H a (.dK (putK kvs k v))) := .inl ⟨kvs, k, e, rfl, hl, rfl⟩
theorem DPut.t {H : Hp} {a b : Addr} {kvs : List (List Key × V)} {k : List Key} {v : V} (e : H a = some (.dT kvs)) (eb : H b = some (.tup (k.map kV))) (hl : kvs.length < sizeLine) :
    DPut H a (.ref b) v (upd H a (.dT (putK kvs k v))) := .inr ⟨kvs, k, b, e, rfl, eb, hl, rfl⟩
section
variable {X : Cx} {pins : List (Addr × Obj)} {σ : St} {H : Hp} {s : Shared} {a : Addr} {y v : V} {u r : Value} {o : Option V} {A : Around} {E : Value → Shared → Prop}
theorem Inv.big (I : Inv X pins σ H s) : sysModules < s.heap.objs.size := by
  have h : mainGlobals < s.heap.objs.size := (I.mod.glob.keeps I.bk).lt
  exact Nat.lt_trans (by decide) h
theorem d_getItem {Q : Value → Shared → Prop} (hu : A.units + 1 < cLine) (I : Inv X pins σ H s) (g : DGet H a y (some v)) (ry : RelV y u) (h : ∀ w' s', Inv X pins σ H s' → RelV v w' → Q w' s') :
    wpAny (model X.prog X.w) A (getItem (.ref a) u) Q E s := by
  rcases g with ⟨kvs, k, e, ey, l⟩ | ⟨kvs, k, b, e, ey, eb, l⟩
  · subst ey
    obtain ⟨z, hd, vs, rel, dd⟩ := dk_rd I.hok e
    obtain ⟨w', hw, rw'⟩ := RelO.some_of (v := v) (o := valueAt vs k) (by rw [l]; exact rel.val k)
    exact wpAny_getItem_of (kV_is ry) dd.mapOf hw (h w' _ (I.tok _) rw')
  · subst ey
    cases (show u = Value.ref b from ry)
    obtain ⟨z, hd, xs, rel, dd⟩ := dt_rd I.hok e
    obtain ⟨w', hw, rw'⟩ := RelO.some_of (v := v) (o := (atKey xs k).map (·.2)) (by rw [l]; exact rel.val k)
    obtain ⟨p, hp, hp2⟩ := Option.map_eq_some_iff.mp hw
    refine wpAny_getItem_heap (tupleKind_room_in1 hu) (key_of I.hok eb) dd hp ?_
    rw [hp2]
    exact h w' _ (I.tok _) rw'
theorem d_write {h' : Heap} {t' : Nat} {ob : HO} (I : Inv X pins σ H s) (mu : Mut (H a)) (hs : Heap.SameBut a s.heap h') (he : ∃ q, h'.get? a = some q) (new : ObjOk X.prog X.w (upd H a ob) h' a ob) :
    Inv X pins σ (upd H a ob) { s with heap := h', toks := t' } :=
  I.write (x := a) (e := a) mu (.inl rfl) (fun b q hb z => (hs.2 b hb).trans z) he new
theorem dk_new {P : Program} {w : World} {H' : Hp} {h' : Heap} {kvs : List (Key × V)} {vs : List (Key × Value)} (z : kvs.length ≤ sizeLine) (hd : (a == sysModules) = false) (rel : KV kvs vs) (dd : h'.DictOf (mixKind P w) a vs) :
    ObjOk P w H' h' a (.dK kvs) := ⟨z, hd, vs, rel, dd⟩
theorem d_setItem {H' : Hp} {Q : Unit → Shared → Prop} (hu : A.units + 1 < cLine) (I : Inv X pins σ H s) (g : DPut H a y v H') (ry : RelV y u) (rv : RelV v r) (h : ∀ s', Inv X pins σ H' s' → Q () s') :
    wpAny (model X.prog X.w) A (setItem (.ref a) u r) Q E s := by
  rcases g with ⟨kvs, k, e, ey, l, eH⟩ | ⟨kvs, k, b, e, ey, eb, l, eH⟩
  · subst ey eH
    obtain ⟨z, hd, vs, rel, dd⟩ := dk_of I.hok e
    have hz : vs.length ≤ sizeLine := by rw [← rel.length]; exact z
    have hl : (putK kvs k v).length ≤ sizeLine := by have := length_putK kvs k v; omega
    refine wpAny_setItem_pairs (hsz := hz) (kV_is ry) dd fun h' dd' hs => h _ ?_
    have he : ∃ q, h'.get? a = some q := let ⟨q, _, _, hq, _⟩ := dd'; ⟨q, hq⟩
    exact d_write I (by rw [e]; exact True.intro) hs he (dk_new hl hd (rel.put k rv) dd')
  · subst ey eH
    cases (show u = Value.ref b from ry)
    obtain ⟨z, hd, xs, rel, dd⟩ := dt_of I.hok e
    have hz : xs.length ≤ sizeLine := by rw [← Paired.length rel]; exact z
    have hl : (putK kvs k v).length ≤ sizeLine := by have := length_putK kvs k v; omega
    refine wpAny_setItem_heap (hsz := hz) (tupleKind_room_in1 hu) (key_of I.hok eb) dd fun h' dd' hs => h _ ?_
    obtain ⟨q, es, ep, hq, h2, h3, h4, _, h5⟩ := dd'
    refine d_write I (by rw [e]; exact True.intro) hs ⟨q, hq⟩ ⟨hl, hd, _, (rel.put k eb rv).keeps fun c ys ec => ?_, q, es, ep, hq, h2, h3, h4, h5⟩
    rw [upd_ne (ne_of ec e (fun z => nomatch z))]
    exact ec
end
section
variable {X : Cx} {pins : List (Addr × Obj)} {σ : St} {H : Hp} {s : Shared} {a : Addr} {kvs : List (Key × V)} {k : Key} {u : Value} {A : Around} {E : Value → Shared → Prop}
theorem d_len {Q : Value → Shared → Prop} (I : Inv X pins σ H s) (e : Rd H a (.dK kvs)) (h : ∀ t s', Inv X pins σ H s' → Q (.int kvs.length t) s') : wpAny (model X.prog X.w) A (call (.builtin "len") [.ref a]) Q E s := by
  obtain ⟨z, hd, vs, rel, dd⟩ := dk_rd I.hok e
  refine call_len_dict hd dd (by rw [← rel.length]; rw [sizeLine_eq] at z; omega) ?_
  rw [← rel.length]
  exact h _ _ (I.tok _)
end
def NoSl (i : Expr) : Prop := ∀ ov iv, subscripted i false ov iv = operate [ov, iv] (getItem ov iv)
theorem subD_of {prog : Program} {w : World} {A : Around} {E : Value → Shared → Prop} {s : Shared} {env : Env} {value slice : Expr} {pos : Pos} {T id : String} {Q : Value → Shared → Prop}
    (hl : typeLookup (.type T) "__getitem__" = pure (some (.builtin id))) (hs : NoSl slice)
    (h : wpAny (model prog w) A (eval value env) (fun o s₁ => wpAny (model prog w) A (eval slice env) (fun i s₂ => s₂.TypeIs o T ∧ wpAny (model prog w) A (getItem o i) Q E s₂) E s₁) E s) :
    wpAny (model prog w) A (eval (.Subscript value slice pos) env) Q E s := by
  refine Subscript_ (wpAny_mono h (fun o s₁ h₁ => wpAny_mono h₁ (fun i s₂ h₂ => ?_) fun _ _ x => x) fun _ _ x => x)
  obtain ⟨hT, h₂⟩ := h₂
  unfold subscriptTail
  refine wpAny_bind ?_
  rw [getitemInPython_of_ne hT.not_modules]
  refine wpAny_bind (wpAny_specialOf hT hl ?_)
  have fin : wpAny (model prog w) A (subscripted slice false o i) (fun r s₃ => wpAny (model prog w) A (letTemporaryGo value o r >>= fun _ => pure r) Q E s₃) E s₂ := by
    rw [hs o i]
    exact wpAny_operating (wpAny_mono h₂ (fun r s₃ h₃ => wpAny_bind (wpAny_letTemporaryGo (wpAny_pure h₃))) fun _ _ x => x)
  first
    | exact wpAny_pure (wpAny_bind fin)
    | exact wpAny_bind (wpAny_pure (wpAny_bind fin))
    | exact wpAny_bind fin
theorem dict_typeIs {X : Cx} {pins : List (Addr × Obj)} {σ : St} {H : Hp} {s : Shared} {a : Addr} {y : V} {o : Option V} (I : Inv X pins σ H s) (g : DGet H a y o) : s.TypeIs (.ref a) "dict" := by
  rcases g with ⟨kvs, k, e, _, _⟩ | ⟨kvs, k, b, e, _, _, _⟩
  · obtain ⟨_, _, vs, _, dd⟩ := dk_rd I.hok e
    exact dd.typeIs
  · obtain ⟨_, _, xs, _, dd⟩ := dt_rd I.hok e
    exact dd.typeIs
def tDGet (td ty : TE) : TE := fun σ H Q => td σ H fun x H1 => ty σ H1 fun y H2 => ∃ a v, x = .ref a ∧ DGet H2 a y (some v) ∧ Q v H2
def sDPut (td ty tv : TE) : TS := fun D σ H => tv σ H fun v H1 => td σ H1 fun x H2 => ty σ H2 fun y H3 => ∃ a H4, x = .ref a ∧ DPut H3 a y v H4 ∧ D.nx σ H4
section
variable {X : Cx} {o i e value : Expr} {pos pos' tpos : Pos} {td ty tv : TE}
theorem pe_dget (hu : X.A.units + 1 < cLine) (ho : PE X o td) (hi : PE X i ty) (hs : NoSl i) : PE X (.Subscript o i pos) (tDGet td ty) := by
  intro pins s σ H Q I h
  refine subD_of PySem.F.slot_dict_getitem.lookup hs (thn (ho pins s σ H _ I h) fun u s1 ⟨x, H1, I1, rx, q1⟩ => thn (hi pins s1 σ H1 _ I1 q1) fun iv s2 ⟨y, H2, I2, ry, a, v, ex, g, q2⟩ => ?_)
  subst ex
  obtain rfl : u = Value.ref a := rx
  exact ⟨dict_typeIs I2 g, d_getItem hu I2 g ry fun w' s3 I3 rw' => ⟨v, H2, I3, rw', q2⟩⟩
theorem ps_dput (hu : X.A.units + 1 < cLine) (ho : PE X o td) (hi : PE X i ty) (hv : PE X value tv) (hs : swapsWith value (some (.Subscript o i pos')) pos.line X.env = pure false) :
    PS X (.Assign [.Subscript o i pos'] value pos) (sDPut td ty tv) := by
  intro pins s σ H D I h
  refine wpAny_Assign_Subscript (thn (hv pins s σ H _ I h) fun r s1 ⟨v, H1, I1, rv, q1⟩ => thn (ho pins s1 σ H1 _ I1 q1) fun u s2 ⟨x, H2, I2, rx, q2⟩ => thn (hi pins s2 σ H2 _ I2 q2) fun iv s3 ⟨y, H3, I3, ry, a, H4, ex, g, q3⟩ => ?_) hs
  subst ex
  obtain rfl : u = Value.ref a := rx
  exact d_setItem hu I3 g ry rv fun s4 I4 => ⟨σ, H4, I4, q3⟩
end
theorem dk_empty {P : Program} {w : World} {H : Hp} (h : Heap) (hb : sysModules < h.objs.size) : ObjOk P w H (h.push { cls := .type "dict", data := .dict #[] }) h.objs.size (.dK []) :=
  ⟨Nat.zero_le _, beq_eq_false_iff_ne.mpr (Ne.symm (Nat.ne_of_lt hb)), [], .nil, Heap.DictOf.new h⟩
section
variable {X : Cx} {pos : Pos}
end
def tPairs : List (TE × TE) → St → Hp → (List (V × V) → Hp → Prop) → Prop
  | [], _, H, Q => Q [] H
  | (tk, tv) :: r, σ, H, Q => tk σ H fun x H1 => tv σ H1 fun y H2 => tPairs r σ H2 fun ps H3 => Q ((x, y) :: ps) H3
abbrev VV : List (V × V) → List (Value × Value) → Prop := Paired fun p q => RelV p.1 q.1 ∧ RelV p.2 q.2
def PPs (X : Cx) (pos : Pos) (keys : List (Option Expr)) (values : List Expr) (trs : List (TE × TE)) : Prop :=
  ∀ (pins : List (Addr × Obj)) (s : Shared) (σ : St) (H : Hp) (Q : List (V × V) → Hp → Prop), Inv X pins σ H s → tPairs trs σ H Q →
    wpAny (model X.prog X.w) X.A (evalPairs (pairTrees keys values X.env pos)) (fun vs s' => ∃ ps H', Inv X pins σ H' s' ∧ VV ps vs ∧ Q ps H') X.xe s
theorem pps_nil {X : Cx} {pos : Pos} : PPs X pos [] [] [] := fun pins s σ H Q I h => pairTrees_nil_walk ⟨[], H, I, .nil, h⟩
theorem pps_cons {X : Cx} {pos : Pos} {k v : Expr} {ks : List (Option Expr)} {vs : List Expr} {tk tv : TE} {trs : List (TE × TE)} (hk : PE X k tk) (hv : PE X v tv) (hr : PPs X pos ks vs trs) :
    PPs X pos (some k :: ks) (v :: vs) ((tk, tv) :: trs) := fun pins s σ H Q I h =>
  pairTrees_cons_walk (thn (hk pins s σ H _ I h) fun u s1 ⟨x, H1, I1, rx, q1⟩ => thn (hv pins s1 σ H1 _ I1 q1) fun w2 s2 ⟨y, H2, I2, ry, q2⟩ =>
    thn (hr pins s2 σ H2 _ I2 q2) fun ws s3 ⟨ps, H3, I3, rel, q3⟩ => ⟨(x, y) :: ps, H3, I3, .cons ⟨rx, ry⟩ rel, q3⟩)
def mergeK (kvs more : List (Key × V)) : List (Key × V) := more.foldl (fun acc kv => putK acc kv.1 kv.2) kvs
theorem KV.merge : ∀ {more : List (Key × V)} {rs : List (Key × Value)} {kvs : List (Key × V)} {vs : List (Key × Value)}, KV more rs → KV kvs vs → KV (mergeK kvs more) (merged vs rs) := by
  intro more rs kvs vs r
  unfold KV at r
  induction r generalizing kvs vs with
  | nil => intro q; exact q
  | @cons p q ps qs h t ih =>
    intro r0
    have e : KV (putK kvs p.1 p.2) (stored vs q.1 q.2) := by
      have := r0.put p.1 h.2
      rw [← h.1]; exact this
    exact ih e
theorem length_mergeK : ∀ (more kvs : List (Key × V)), (mergeK kvs more).length ≤ kvs.length + more.length
  | [], kvs => by show kvs.length ≤ kvs.length + 0; omega
  | p :: r, kvs => by
    have h1 := length_mergeK r (putK kvs p.1 p.2)
    have h2 := length_putK kvs p.1 p.2
    show (mergeK (putK kvs p.1 p.2) r).length ≤ _
    rw [List.length_cons]; omega
theorem carries_of {P : Program} {w : World} : ∀ {kvs : List (Key × V)} {ws : List (Value × Value)}, VV (kvs.map fun kv => (kV kv.1, kv.2)) ws → ∃ rs, Carries (mixKind P w) ws rs ∧ KV kvs rs
  | [], _, r => by rw [List.map_nil] at r; cases r; exact ⟨[], True.intro, .nil⟩
  | p :: kvs, _, r => by
    rw [List.map_cons] at r
    cases r with
    | @cons a b as bs h t =>
      obtain ⟨rs, c, q⟩ := carries_of (P := P) (w := w) t
      obtain ⟨b1, b2⟩ := b
      exact ⟨(p.1, b2) :: rs, ⟨kV_is h.1, rfl, c⟩, .cons ⟨rfl, h.2⟩ q⟩
def tDisp (trs : List (TE × TE)) : TE := fun σ H Q => ∀ p, H p = none → tPairs trs σ (upd H p (.dK [])) fun ps H2 => H2 p = some (.dK []) ∧ ∃ kvs : List (Key × V), ps = kvs.map (fun kv => (kV kv.1, kv.2)) ∧ kvs.length ≤ 15 ∧ Q (.ref p) (upd H2 p (.dK (mergeK [] kvs)))
theorem pe_disp {X : Cx} {pos : Pos} {keys : List (Option Expr)} {values : List Expr} {trs : List (TE × TE)} (h : PPs X pos keys values trs) (hall : keys.all (·.isSome) = true) (hl : keys.length = values.length) (h0 : keys ≠ [])
    (h15 : keys.length ≤ 15) : PE X (.Dict keys values pos) (tDisp trs) := by
  intro pins s σ H Q I q
  have hn := I.hok.fresh (Nat.le_refl s.heap.objs.size)
  have I1 := I.laid (a := s.heap.objs.size) (o := .dK []) (h' := s.heap.push { cls := .type "dict", data := .dict #[] }) (t' := s.toks) (fun _ _ q => Heap.get?_push_of_some _ q) (Nat.le_refl _) (dk_empty s.heap I.big)
  refine wpAny_Dict_walk (knd := mixKind X.prog X.w) hall hl h0 h15 (thn (h pins _ σ _ _ I1 (q _ hn)) fun ws s2 ⟨ps, H2, I2, rel, e, kvs, ep, lk, q2⟩ => ?_)
  subst ep
  obtain ⟨rs, c, rk⟩ := carries_of (P := X.prog) (w := X.w) rel
  obtain ⟨z, hd, vs0, r0, dd⟩ := dk_of I2.hok e
  cases r0
  refine ⟨rs, c, dd, fun h' dd' hs => ⟨.ref s.heap.objs.size, _, ?_, rfl, q2⟩⟩
  have hz : (mergeK [] kvs).length ≤ sizeLine := by
    have h1 := length_mergeK kvs []
    rw [List.length_nil] at h1
    rw [sizeLine_eq]; omega
  have he : ∃ q, h'.get? s.heap.objs.size = some q := let ⟨q, _, _, hq, _⟩ := dd'; ⟨q, hq⟩
  exact d_write I2 (by rw [e]; exact True.intro) hs he (dk_new hz hd (rk.merge .nil) dd')
structure M2 (X : Cx) (o : Expr) (m : Str) (apos : Pos) (e f : Expr) (cpos : Pos) : Prop where
  base : attributeBase o m X.env (eval o X.env) = eval o X.env
  few : ((backTo cpos (starEach [e, f] X.env)).all (fun x => !x.1) && (backToKw cpos (keywordEach [] X.env)).all (fun x => x.1.isSome)
    && decide (([e, f] : List Expr).length + ([] : List Keyword).length + (if ([] : List Keyword).isEmpty then 0 else 1) < 30)) = true
  line : (apos.endLine == cpos.line) = true
  trees : backTo cpos (starEach [e, f] X.env) = [(false, eval e X.env), (false, eval f X.env)]
section
variable {X : Cx} {pins : List (Addr × Obj)} {σ : St} {H : Hp} {s : Shared} {a : Addr} {y d : V} {u r : Value} {o : Option V} {A : Around} {E : Value → Shared → Prop}
end
section
variable {X : Cx} {o e f : Expr} {apos cpos : Pos} {td ty tx : TE}
end
section
variable {X : Cx} {pins : List (Addr × Obj)} {σ : St} {H : Hp} {s : Shared} {a : Addr} {kvs : List (Key × V)} {A : Around} {E : Value → Shared → Prop}
end
section
variable {X : Cx} {pins : List (Addr × Obj)} {σ : St} {H : Hp} {s : Shared} {a : Addr} {y : V} {u : Value} {A : Around} {E : Value → Shared → Prop}
end
end L2
namespace Att
open PySem PySem.W PySem.Calls PyProof.Rows
theorem ints_of_wellAll {P : Params} {h : Heap} : ∀ (ns : List Int) (vs : List Value), WellAll P h vs (ns.map WData.int) → IntsAre vs ns := by
  intro ns
  induction ns with
  | nil =>
    intro vs w
    rw [List.map_nil] at w
    cases w
    exact .nil
  | cons n ns ih =>
    intro vs w
    rw [List.map_cons] at w
    cases w with
    | cons a b =>
      cases a
      exact .cons _ _ (ih _ b)
theorem script_of {l : OpenLaw} {n : Nat} (hn : l.most = some n) {P : Params} {h : Heap} {args : List WData} {vals : List Value}
    (hpre : l.row.toRowW.claim.pre args = true) (hwl : WellAll P h vals args) :
    ∃ a vs ns, vals = [Value.ref a] ∧ args = [WData.list (ns.map WData.int)] ∧ h.get? a = some { cls := .type "list", data := .seq vs.toArray } ∧ IntsAre vs ns ∧ ns.length ≤ n := by
  have hsh : WShape.hasAll [] args [.list .int] = true := (pre_splitW hpre).1
  have hc : l.pre.holds [] { args := args } = true := (pre_splitW hpre).2
  obtain ⟨d, r, rfl, h1, h2⟩ := hasAllW_cons hsh
  obtain rfl := hasAllW_nil h2
  obtain ⟨xs, rfl, h3⟩ := hasW_list h1
  obtain ⟨ns, rfl⟩ := items_int h3
  have hlen : ns.length ≤ n := by
    unfold OpenLaw.pre at hc
    have h4 : (WTm.not (.lt (.lit (.int (n : Int))) (.len (.arg 0)))).holds [] { args := [.list (ns.map .int)] } = true := by
      have h4 := (holds_andW hc).1
      rw [hn] at h4
      exact h4
    have h5 := condW_of h4 (w_not (w_lt w_lit (w_len_list (w_arg rfl))))
    rw [List.length_map] at h5
    refine Nat.le_of_not_lt fun q => ?_
    have q' : (n : Int) < ((ns.length : Nat) : Int) := by omega
    first
      | (rw [decide_eq_true q'] at h5; exact absurd h5 (by decide))
      | (simp at h5; omega)
  cases hwl with
  | cons w1 w2 =>
    cases w2
    cases w1 with
    | list ho hall => exact ⟨_, _, ns, rfl, rfl, ho, ints_of_wellAll ns _ hall, hlen⟩
theorem post_true (l : OpenLaw) (args : List WData) : l.row.toRowW.claim.post args (.bool true) args = true :=
  postW_of (r := l.row.toRowW) (X := (true == true))
    (show WShape.has [] (.bool true) .bool = true by first | rfl | decide | simp [WShape.has, WShape.arms, WShape.armsAll])
    (show (WTm.eq .res (.lit (.bool true))).value [] { args := args, res := some (.bool true), after := args } = some (.bool (true == true)) from w_eq_bool (w_res rfl) w_lit) rfl
theorem attach_call {l : OpenLaw} {n : Nat} {q : Program} {loose : List Str} {XP : (Str → Option Value) → Heap → Prop} {YP : World → Heap → Prop} {d : DefRec}
    (hn : l.most = some n) (hdf : d.params.defaults = [])
    (call : ∀ (w : World) (s₀ s₁ : Shared) (mg mb : Str → Option Value) (fa : Addr) (o : Obj) (pm cd doc : Value) (a : Addr) (vs : List Value) (ns : List Int),
      Ground q loose [] XP w s₀ mg mb s₁.heap → YP w s₁.heap →
      s₁.heap.get? fa = some o → o.data = .func (docDef d.name d.params d.body d.scope pm cd doc) → s₁.heap.CodeRec cd d.name → mg d.name = some (.ref fa) →
      s₁.heap.get? a = some { cls := .type "list", data := .seq vs.toArray } → IntsAre vs ns → ns.length ≤ n → s₁.gens = #[] →
      codeAny (model l.prog w) callerA (.call (.ref fa) ⟨[.ref a], []⟩) (fun r s' => r = .ok (.ret (.bool true)) ∧ OldK s₁.heap s'.heap ∧ s'.os = s₁.os ∧ AllBare s'.gens) s₁) :
    WalkO q loose XP YP l.row.toRowW d [] (fun f vs => PySem.call f vs) := by
  intro w s₀ s₁ mg mb G Y fa o pm cd doc dV kV ho hd hcd hD hmg hg args vals as hpre hlay hrd hwl hlo
  obtain rfl : dV = .none := Dflts.none hD hdf
  obtain rfl : kV = .none := Dflts.noKw hD
  obtain ⟨a, vs, ns, rfl, rfl, hobj, hints, hlen⟩ := script_of hn hpre hwl
  refine enter_call (codeAny_mono (call w s₀ s₁ mg mb fa o pm cd doc a vs ns G Y ho (fd_plain hd) hcd hmg hobj hints hlen hg) fun r s' hq => ?_)
  obtain ⟨rfl, h2, h3, h4⟩ := hq
  exact ⟨.inl ⟨.bool true, .bool true, [], rfl, fun _ => rfl, .bool true, post_true l _, fun _ => ⟨List.Pairwise.nil, fun _ hm => (nomatch hm)⟩⟩, h2, h3, h4⟩
section
variable {prog : Program} {w : World} {A : Around} {E : Value → Shared → Prop} {s : Shared} {K : Frag}
end
end Att
namespace L2
open PySem PySem.Spec PyProof.Rows
theorem vals_ints : ∀ {vs : List Value} {ns : List Int}, IntsAre vs ns → Vals (ns.map V.int) vs
  | _, _, .nil => .nil
  | _, _, .cons n t h => .cons ⟨t, rfl⟩ (vals_ints h)
def Only (H : Hp) : Prop := ∀ b, H b = none ∨ ∃ o xs, H b = some (.frz o (.lst xs))
theorem law_call {P : Program} {w : World} {K : PySem.W.Frag} {mg mb : Str → Option Value} {CX : CXT} {k : Nat} {fa a : Addr} {fd : FuncData} {x : Str} {sp : Sp} {s₁ : Shared} {vs : List Value} {ns : List Int}
    (KX : K.In s₁.heap) (hns : s₁.heap.Ns mainGlobals mg) (hb : s₁.heap.Ns builtinsNs mb) (hbb : ∀ x : Str, x ≠ "__name__" → mb x = bootBuiltins x) (hlim : s₁.heap.NoLimit) (hg : s₁.gens = #[])
    (ha : s₁.heap.get? a = some { cls := .type "list", data := .seq vs.toArray }) (hi : IntsAre vs ns) (hl : ns.length ≤ sizeLine) (hr : Room k callerA)
    (F : ∀ base : Heap, K.In base → base.Ns mainGlobals mg → FnOk P w K mg base CX k fa fd [x] sp) (hbind : ∀ (s : Shared) (u : Value), BindsTo s fd ⟨[u], []⟩ [(x, u)])
    (hsp : ∀ H : Hp, Only H → SqL K H a (ns.map V.int) → sp [.ref a] H (fun v _ => v = .bl true) fun _ _ _ => False)
    (hCX : ∀ H e s', CX [] H s₁ (fun _ _ _ => False) e s' → False) :
    codeAny (model P w) callerA (.call (.ref fa) ⟨[.ref a], []⟩) (fun r s' => r = .ok (.ret (.bool true)) ∧ OldK s₁.heap s'.heap ∧ s'.os = s₁.os ∧ AllBare s'.gens) s₁ := by
  have rv := vals_ints hi
  have lenV := hi.length
  have core : ∀ H : Hp, Only H → SqL K H a (ns.map V.int) → HOk P w H s₁.heap → (∀ b, H b ≠ none → b = a) → (H a ≠ none → K.lookup a = none) →
      codeAny (model P w) callerA (.call (.ref fa) ⟨[.ref a], []⟩) (fun r s' => r = .ok (.ret (.bool true)) ∧ OldK s₁.heap s'.heap ∧ s'.os = s₁.os ∧ AllBare s'.gens) s₁ := by
    intro H hO hS hok hA hK
    have base_of : ∀ {b : Addr} {o : Obj}, s₁.heap.get? b = some o → H b = none → (hidT s₁.heap H).get? b = some o := fun e n => hidT_get e n
    have noA : ∀ {b : Addr} {o : Obj} {es : Array DictEntry} {ep : Nat}, s₁.heap.get? b = some o → o.data = .dict es ep → H b = none := fun {b o es ep} e d => by
      cases q : H b with
      | none => rfl
      | some u =>
        have e' : b = a := hA b (by rw [q]; simp)
        subst e'
        rw [ha] at e; cases e
        have d' : Data.seq vs.toArray _ = Data.dict es ep := d
        cases d'
    have nsK : ∀ {b : Addr} {m : Str → Option Value}, s₁.heap.Ns b m → (hidT s₁.heap H).Ns b m := fun {b m} ⟨o, es, ep, e, d, r⟩ => ⟨o, es, ep, base_of e (noA e d), d, r⟩
    have hKb : K.In (hidT s₁.heap H) := fun b o e => base_of (KX b o e) (by
      cases q : H b with
      | none => rfl
      | some u =>
        have e' : b = a := hA b (by rw [q]; simp)
        subst e'
        rw [hK (by rw [q]; simp)] at e; cases e)
    have hM : Mod K mg (hidT s₁.heap H) := ⟨hKb, nsK hns, ⟨mb, nsK hb, hbb⟩, let ⟨mc, h1, h2⟩ := hlim; ⟨mc, nsK h1, h2⟩⟩
    have e0 : Env0 P w K mg (hidT s₁.heap H) callerA [] s₁ H := ⟨rfl, hM, fun b o e => of_hidT e, Nat.le_of_eq (hidT_size _ _), trivial, fun b hb => absurd (show b ∈ ([] : List Addr) from hb) (by simp), hok, .of_eq hg⟩
    refine codeAny_mono ((F _ hKb (nsK hns)).run callerA [] s₁ H ⟨[.ref a], []⟩ [.ref a] [.ref a] _ _ hr e0 (hbind s₁ (.ref a)) (.cons rfl .nil) (hsp H hO hS)) fun r s' h => ?_
    cases r with
    | error e => exact (hCX H e s' h).elim
    | ok fl =>
      cases fl with
      | next => exact False.elim h
      | brk => exact False.elim h
      | cont => exact False.elim h
      | ret u =>
        obtain ⟨v, H', os, bare, un, hok', r', q⟩ := h
        have q' : v = .bl true := q
        subst q'
        obtain rfl : u = Value.bool true := r'
        refine ⟨rfl, OldK.of_keep fun b o e => ?_, os, bare⟩
        cases q : H b with
        | none => exact un.keep b o e q (by intro z; exact absurd (show b ∈ ([] : List Addr) from z) (by simp)) (by simp)
        | some u =>
          rcases hO b with z | ⟨ob, xs, z⟩
          · rw [q] at z; cases z
          · have z2 := un.frzs b ob _ z
            obtain ⟨e1, _⟩ := hok b _ z
            obtain ⟨e2, _⟩ := hok' b _ z2
            rw [e] at e1; cases e1
            exact e2
  cases hk : K.lookup a with
  | some o =>
    have e := KX a o hk
    rw [ha] at e
    cases e
    refine core (fun _ => none) (fun _ => .inl rfl) (.inr ⟨_, vs.toArray, _, hk, rfl, rfl, rfl, by rw [List.size_toArray, lenV]; exact hl, by simpa using rv⟩) (fun b u z => by have z' : (none : Option HO) = some u := z; cases z') (fun b z => absurd rfl z) fun z => absurd rfl z
  | none =>
    refine core (fun b => if b = a then some (.frz { cls := .type "list", data := .seq vs.toArray } (.lst (ns.map V.int))) else none) (fun b => ?_) (.inl (.inr ⟨{ cls := .type "list", data := .seq vs.toArray }, if_pos rfl⟩)) (fun b u z => ?_) (fun b z => ?_) fun _ => hk
    · by_cases hb : b = a
      · exact .inr ⟨_, _, if_pos hb⟩
      · exact .inl (if_neg hb)
    · by_cases hb : b = a
      · have z' := (if_pos hb).symm.trans z
        cases z'
        subst hb
        exact ⟨ha, by rw [List.length_map]; exact hl, vs, _, rv, ha⟩
      · have z' := (if_neg hb).symm.trans z
        cases z'
    · by_cases hb : b = a
      · exact hb
      · exact absurd (if_neg hb) z
end L2
namespace L2
open PySem PySem.Spec PyProof.Rows
theorem walk_of {l : PySem.W.OpenLaw} {n k : Nat} {q : Program} {loose : List Str} {XP : (Str → Option Value) → Heap → Prop} {YP : World → Heap → Prop} {d : DefRec} {K : Params → PySem.W.Frag} {CX : World → CXT} {sp : World → Sp} {x : Str}
    (hn : l.most = some n) (hn2 : n ≤ sizeLine) (hdf : d.params.defaults = []) (hr : Room k callerA)
    (hY : ∀ (w : World) (h : Heap), YP w h → (K w.params).In h)
    (F : ∀ (w : World) (mg : Str → Option Value) (fa : Addr) (h : Heap), (K w.params).In h → h.Ns mainGlobals mg → mg d.name = some (.ref fa) →
      ∃ fd : FuncData, (∀ (s : Shared) (u : Value), BindsTo s fd ⟨[u], []⟩ [(x, u)]) ∧
        ∀ base : Heap, (K w.params).In base → base.Ns mainGlobals mg → FnOk l.prog w (K w.params) mg base (CX w) k fa fd [x] (sp w))
    (hsp : ∀ (w : World) (H : Hp) (a : Addr) (ns : List Int), ns.length ≤ n → Only H → SqL (K w.params) H a (ns.map V.int) → sp w [.ref a] H (fun v _ => v = .bl true) fun _ _ _ => False)
    (hCX : ∀ (w : World) (H : Hp) (s : Shared) (e : Value) (s' : Shared), CX w [] H s (fun _ _ _ => False) e s' → False) :
    PySem.W.WalkO q loose XP YP l.row.toRowW d [] (fun f vs => PySem.call f vs) := by
  refine Att.attach_call hn hdf fun w s₀ s₁ mg mb fa o pm cd doc a vs ns G Y ho hd hcd hmg hobj hints hlen hg => ?_
  have KX := hY w _ Y
  obtain ⟨fd, hb, hF⟩ := F w mg fa _ KX G.T.g hmg
  exact law_call KX G.T.g G.T.b G.T.builtins G.T.nolimit hg hobj hints (Nat.le_trans hlen hn2) hr hF hb (fun H hO hS => hsp w H a ns hlen hO hS) fun H e s' => hCX w H s₁ e s'
end L2
namespace L2
open PySem PySem.Spec PyProof.Rows
def defArgs (s : Stmt) : Arguments := match s with
  | .FunctionDef _ a _ _ _ _ _ _ _ _ => a
  | _ => { posonlyargs := [], args := [], vararg := none, kwonlyargs := [], kw_defaults := [], kwarg := none, defaults := [] }
def defBody (s : Stmt) : List Stmt := match s with
  | .FunctionDef _ _ b _ _ _ _ _ _ _ => b
  | _ => []
def defScope (s : Stmt) : Scope := match s with
  | .FunctionDef _ _ _ _ _ _ sc _ _ _ => sc
  | _ => { kind := .function, names := [], isGenerator := false, isCoroutine := false }
abbrev CX0 : CXT := fun _ _ _ _ _ _ => False
abbrev E0 : XK := fun _ _ _ => False
theorem pass0 {X : Cx} : Passes CX0 X E0 := fun _ _ _ _ _ _ _ h => h.elim
structure Fun (K : PySem.W.Frag) (x qual : Str) (st : Stmt) (f : Addr) (fd : FuncData) : Prop where
  ex : ∃ (oc : Value) (od : Option Addr) (kV doc pm : Value) (an : Option Addr) (cdv ct : Value) (osl : Array (Option Value)),
    fd = PySem.W.fnOf x qual (defArgs st) (defBody st) (defScope st) .none kV doc pm an cdv ct ∧ K.lookup f = some ⟨oc, od, .func fd, osl⟩ ∧ PySem.W.codeIn K cdv qual = true
  kp : PySem.W.keepIn K (.ref f) = true
section
variable {P : Program} {w : World} {K : PySem.W.Frag} {mg : Str → Option Value} {base : Heap}
theorem Fun.ok {x qual : Str} {st : Stmt} {f : Addr} {fd : FuncData} {N ps : List Str} {k : Nat} {sp : Sp} (F : Fun K x qual st f fd) (S : FnScope N ps (defScope st)) (len : ∀ vs H Q E, sp vs H Q E → vs.length = ps.length)
    (hbody : ∀ (cdv : Value) (A : Around) (outer : List Env) (s : Shared) (H : Hp) (vs : List V) (Q : VK) (E : XK), Room k (A.deeper (envOfC qual (defScope st) s.heap.objs.size f cdv)) → sp vs H Q E →
      ∃ t, PSs (cxOf CX0 P w K mg base N qual (defScope st) f cdv A outer s H E).nox (defBody st) t ∧ t { nx := fun _ H' => Q .non H', rt := Q } (start N vs) H) : FnOk P w K mg base CX0 (k + 1) f fd ps sp := by
  obtain ⟨oc, od, kV, doc, pm, an, cdv, ct, osl, rfl, lk, hcd⟩ := F.ex
  refine fn_of lk hcd S len fun A outer s H vs Q E hr hsp => ?_
  obtain ⟨t, h, q⟩ := hbody cdv A outer s H vs Q E hr hsp
  exact ⟨t, h.nox, q⟩
theorem Fun.binds {x qual : Str} {st : Stmt} {f : Addr} {fd : FuncData} {ps : List Str} (F : Fun K x qual st f fd)
    (h : ∀ (kV doc pm : Value) (an : Option Addr) (cdv ct : Value) (us : List Value), us.length = ps.length → bindArgs (PySem.W.fnOf x qual (defArgs st) (defBody st) (defScope st) .none kV doc pm an cdv ct) ⟨us, []⟩ = pure (ps.zip us)) : Binds K fd ps [] := by
  obtain ⟨oc, od, kV, doc, pm, an, cdv, ct, osl, rfl, lk, hcd⟩ := F.ex
  exact .all (h kV doc pm an cdv ct)
theorem fun_mk {x qual : Str} {st : Stmt} {f : Addr} {oc : Value} {od an : Option Addr} {osl : Array (Option Value)} {kV doc pm cdv ct : Value} (l : K.lookup f = some ⟨oc, od, .func (PySem.W.fnOf x qual (defArgs st) (defBody st) (defScope st) .none kV doc pm an cdv ct), osl⟩)
    (c : PySem.W.codeIn K cdv qual = true) (k : PySem.W.keepIn K (.ref f) = true) : Fun K x qual st f (PySem.W.fnOf x qual (defArgs st) (defBody st) (defScope st) .none kV doc pm an cdv ct) := ⟨⟨oc, od, kV, doc, pm, an, cdv, ct, osl, rfl, l, c⟩, k⟩
end
theorem hu_of {A : Around} {k : Nat} (hr : Room k A) : A.units + 1 < cLine := Nat.lt_of_le_of_lt (Nat.add_le_add_left (by decide : 1 ≤ 64) _) hr.units
theorem small1000 {n : Nat} (h : n ≤ 1000) : n < sizeLine := Nat.lt_of_le_of_lt h (by decide)
section
variable {X : Cx}
theorem pv (i : Nat) {x : Str} {pos : Pos} (hN : X.N[i]? = some x := by rfl) (hv : Vis X.env.scope x := by first | exact Or.inl rfl | exact Or.inr (Or.inl rfl) | exact Or.inr (Or.inr rfl)) (hd : (x == ("__debug__" : Str)) = false := by decide)
    (hcd : (x == ("__classdict__" : Str)) = false := by decide) : PE X (.Name x pos) (tVar i) := pe_var hN hv hd hcd
theorem call_lenD : CallR X (.builtin "len") (fun xs H Q => ∃ a kvs, xs = [V.ref a] ∧ H a = some (.dK kvs) ∧ Q (.int kvs.length) H) := by
  intro pins s σ H xs us Q I r h
  obtain ⟨a, kvs, rfl, ha, q⟩ := h
  obtain ⟨u, rfl, ru⟩ := vals1 r
  cases ru
  exact d_len I (.inl ha) fun t s' I' => ⟨.int kvs.length, H, I', ⟨t, rfl⟩, q⟩
end
def Same (H H' : Hp) : Prop := ∀ b o, H b = some o → H' b = some o
theorem Same.refl (H : Hp) : Same H H := fun _ _ h => h
theorem Same.trans {H H1 H2 : Hp} (a : Same H H1) (b : Same H1 H2) : Same H H2 := fun c o h => b c o (a c o h)
theorem Same.free {H H' : Hp} (e : Same H H') {l : Addr} (h : H' l = Option.none) : H l = Option.none := by
  cases q : H l with
  | none => rfl
  | some o =>
    rw [e l o q] at h
    cases h
theorem Same.seq {K : PySem.W.Frag} {H H' : Hp} {a : Addr} {xs : List V} (e : Same H H') (h : SqL K H a xs) : SqL K H' a xs := by
  rcases h with (h | ⟨o, h⟩) | h
  · exact .inl (.inl (e _ _ h))
  · exact .inl (.inr ⟨o, e _ _ h⟩)
  · exact .inr h
section
variable {κ : Type} [DecidableEq κ]
end
end L2
set_option maxHeartbeats 4000000
namespace L2
open PySem
def clOf (cells : List (Str × Addr)) : List (Str × NameKind) → List (Str × Addr) → List (Str × Addr)
  | [], acc => acc
  | (n, k) :: r, acc => if k = NameKind.free then clOf cells r ((n, (cells.lookup n).getD 0) :: acc) else clOf cells r acc
theorem closureFor_of {scope : Scope} {env : Env} (h : ∀ x ∈ scope.names, x.2 = .free → ∃ c, env.cells.lookup x.1 = some c) :
    closureFor scope env = pure (clOf env.cells scope.names []) := by
  have key : ∀ (names : List (Str × NameKind)) (acc : List (Str × Addr)), (∀ x ∈ names, x.2 = .free → ∃ c, env.cells.lookup x.1 = some c) →
      (do let mut cs := acc
          for (name, kind) in names do
            if kind == .free then cs := (name, ← cellOf env name) :: cs
          return cs : Sem (List (Str × Addr))) = pure (clOf env.cells names acc) := by
    intro names
    induction names with
    | nil => intro acc _; rfl
    | cons x r ih =>
      intro acc h
      obtain ⟨n, k⟩ := x
      have hr : ∀ y ∈ r, y.2 = .free → ∃ c, env.cells.lookup y.1 = some c := fun y hy => h y (List.mem_cons_of_mem _ hy)
      by_cases hk : k = .free
      · subst hk
        obtain ⟨c, hc⟩ := h (n, .free) List.mem_cons_self rfl
        have e : cellOf env n = pure c := by unfold cellOf; rw [hc]
        have q := ih ((n, c) :: acc) hr
        simp only [List.forIn_cons, beq_self_eq_true, if_true, e]
        unfold clOf
        rw [if_pos rfl, hc]
        exact q
      · have hb : (k == NameKind.free) = false := by simpa using hk
        have q := ih acc hr
        simp only [List.forIn_cons, hb, Bool.false_eq_true, if_false]
        unfold clOf
        rw [if_neg hk]
        exact q
  exact key scope.names [] h
theorem clOf_sub {cells : List (Str × Addr)} : ∀ {names : List (Str × NameKind)} {acc : List (Str × Addr)},
    (∀ x ∈ names, x.2 = .free → ∃ c, cells.lookup x.1 = some c) → (∀ x c, acc.lookup x = some c → cells.lookup x = some c) →
    ∀ x c, (clOf cells names acc).lookup x = some c → cells.lookup x = some c
  | [], _, _, h, x, c, e => h x c e
  | (n, k) :: r, acc, hf, h, x, c, e => by
    unfold clOf at e
    have hr : ∀ y ∈ r, y.2 = .free → ∃ c, cells.lookup y.1 = some c := fun y hy => hf y (List.mem_cons_of_mem _ hy)
    by_cases hk : k = .free
    · rw [if_pos hk] at e
      refine clOf_sub hr (fun y d q => ?_) x c e
      obtain ⟨c', hc'⟩ := hf (n, k) List.mem_cons_self hk
      have hc' : cells.lookup n = some c' := hc'
      rw [List.lookup_cons] at q
      cases hy : y == n with
      | true =>
        rw [hy, hc'] at q
        have e1 : y = n := by simpa using hy
        rw [e1, hc']
        exact q
      | false => rw [hy] at q; exact h y d q
    · rw [if_neg hk] at e
      exact clOf_sub hr h x c e
theorem clOf_keeps {cells : List (Str × Addr)} {x : Str} : ∀ {names : List (Str × NameKind)} {acc : List (Str × Addr)},
    (∃ c, acc.lookup x = some c) → ∃ c, (clOf cells names acc).lookup x = some c
  | [], _, h => h
  | (n, k) :: r, acc, ⟨c, h⟩ => by
    unfold clOf
    split
    · refine clOf_keeps ?_
      rw [List.lookup_cons]
      cases x == n with
      | true => exact ⟨_, rfl⟩
      | false => exact ⟨c, h⟩
    · exact clOf_keeps ⟨c, h⟩
theorem clOf_has {cells : List (Str × Addr)} {x : Str} : ∀ {names : List (Str × NameKind)} {acc : List (Str × Addr)},
    (x, NameKind.free) ∈ names → ∃ c, (clOf cells names acc).lookup x = some c
  | (n, k) :: r, acc, h => by
    unfold clOf
    rcases List.mem_cons.mp h with e | e
    · cases e
      rw [if_pos rfl]
      refine clOf_keeps ?_
      rw [List.lookup_cons, beq_self_eq_true]
      exact ⟨_, rfl⟩
    · split
      · exact clOf_has e
      · exact clOf_has e
end L2
namespace PySem
open Sem (wp)
section
variable {prog : Program} {w : World} {A : Around} {E : Value → Shared → Prop} {R : Result → Shared → Prop} {s : Shared}
theorem L2_compLoop {elt target iter : Expr} {ifs : List Expr} {scope : Scope} {pos : Pos} {it acc : Value} {env : Env} (I : Nat → Shared → Prop)
    (turn : ∀ n s, I n s → wpAny (model prog w) A (pyNext it) (fun r s₁ => match r with
      | none => R (.ok .next) s₁
      | some v => wpAny (model prog w) A (letOwnedTupleGo target it v) (fun _ s₁' => wpAny (model prog w) A (assign target env v) (fun _ s₂ =>
          wpAny (model prog w) A (forIn ifs true fun c r => if r = true then do let ok ← isTrue c env (eval c env); pure (ForInStep.yield ok) else pure (ForInStep.yield r)) (fun ok s₃ =>
            if ok = true then wpAny (model prog w) A (eval elt env) (fun x s₄ =>
              wpAny (model prog w) A (call (.builtin "list.append") [acc, x]) (fun _ s₅ => ∃ m, m < n ∧ I m s₅) (fun _ _ => False) s₄) (fun _ _ => False) s₃
            else ∃ m, m < n ∧ I m s₃) (fun _ _ => False) s₂) (fun _ _ => False) s₁') (fun _ _ => False) s₁) (fun _ _ => False) s)
    (n : Nat) (h : I n s) :
    codeAny (model prog w) A (.compLoop (.ListComp elt [⟨target, iter, ifs, 0⟩] scope pos) 0 it acc env) R s := by
  refine codeAny_loop rfl I (fun n s hI => ?_) n h
  show wpAny _ A ((compTurn (.ListComp elt [⟨target, iter, ifs, 0⟩] scope pos) 0 it acc env).onRaise (fun x => do noteFrame x env; theTreesLotGoes x)) _ _ s
  refine wpAny_noted ?_
  rw [compTurn_list]
  refine wpAny_bind (wpAny_standAt (wpAny_bind (wpAny_mono (turn n s hI) (fun r s₁ h₁ => ?_) fun _ _ h' => h'.elim)))
  cases r with
  | none => exact wpAny_pure h₁
  | some v =>
    refine wpAny_bind (wpAny_mono h₁ (fun _ s₁' h₁' => ?_) fun _ _ h' => h'.elim)
    refine wpAny_bind (wpAny_mono h₁' (fun _ s₂ h₂ => wpAny_bind (wpAny_mono h₂ (fun ok s₃ h₃ => ?_) fun _ _ h' => h'.elim)) fun _ _ h' => h'.elim)
    cases ok with
    | false => exact wpAny_pure ⟨rfl, h₃⟩
    | true =>
      exact wpAny_bind (wpAny_bind (wpAny_mono h₃ (fun x s₄ h₄ => wpAny_bind (wpAny_mono h₄ (fun _ s₅ h₅ => wpAny_pure (wpAny_pure ⟨rfl, h₅⟩)) fun _ _ h' => h'.elim)) fun _ _ h' => h'.elim))
end
end PySem
namespace L2
open PySem PySem.Spec PyProof.Rows
def subS (mp : List (Option Nat)) (σ : St) : St := mp.map fun o => match o with | some i => (σ[i]?).join | none => none
def visB (pn : List (Str × NameKind)) (x : Str) : Bool := decide (pn.lookup x = some .cell) || decide (pn.lookup x = some .free)
def compOk (N : List Str) (pn cn : List (Str × NameKind)) (N' : List Str) (mp : List (Option Nat)) : Bool :=
  decide (N'.length = mp.length) && decide N'.Nodup &&
  (List.range N'.length).all (fun k => match mp[k]?, N'[k]? with
    | some (some i), some x => decide (N[i]? = some x) && visB pn x && decide ((x, NameKind.free) ∈ cn) && decide (cn.lookup x = some .free)
    | _, _ => true) &&
  cn.all (fun p => decide (p.2 ≠ .cell)) && cn.all (fun p => decide (p.2 ≠ .free) || visB pn p.1) && cn.all (fun p => decide (p.2 ≠ .local) || decide (cn.lookup p.1 = some .local))
structure CompOk (N : List Str) (pn cn : List (Str × NameKind)) (N' : List Str) (mp : List (Option Nat)) : Prop where
  len : N'.length = mp.length
  nd : N'.Nodup
  map : ∀ (k i : Nat) (x : Str), mp[k]? = some (some i) → N'[k]? = some x → N[i]? = some x ∧ (pn.lookup x = some .cell ∨ pn.lookup x = some .free) ∧ (x, NameKind.free) ∈ cn ∧ cn.lookup x = some .free
  nocell : ∀ p ∈ cn, p.2 ≠ .cell
  free : ∀ p ∈ cn, p.2 = .free → (pn.lookup p.1 = some .cell ∨ pn.lookup p.1 = some .free)
  loc : ∀ p ∈ cn, p.2 = .local → cn.lookup p.1 = some .local
theorem visB_iff {pn : List (Str × NameKind)} {x : Str} (h : visB pn x = true) : pn.lookup x = some .cell ∨ pn.lookup x = some .free := by
  unfold visB at h
  rcases (Bool.or_eq_true _ _).mp h with h | h
  · exact .inl (of_decide_eq_true h)
  · exact .inr (of_decide_eq_true h)
theorem compOk_of {N : List Str} {pn cn : List (Str × NameKind)} {N' : List Str} {mp : List (Option Nat)} (h : compOk N pn cn N' mp = true) : CompOk N pn cn N' mp := by
  unfold compOk at h
  obtain ⟨h, h6⟩ := (Bool.and_eq_true _ _).mp h
  obtain ⟨h, h5⟩ := (Bool.and_eq_true _ _).mp h
  obtain ⟨h, h4⟩ := (Bool.and_eq_true _ _).mp h
  obtain ⟨h, h3⟩ := (Bool.and_eq_true _ _).mp h
  obtain ⟨h1, h2⟩ := (Bool.and_eq_true _ _).mp h
  refine ⟨of_decide_eq_true h1, of_decide_eq_true h2, fun k i x e1 e2 => ?_, fun p hp => of_decide_eq_true (List.all_eq_true.mp h4 p hp), fun p hp e => ?_, fun p hp e => ?_⟩
  · have hk : k < N'.length := (List.getElem?_eq_some_iff.mp e2).1
    have q := List.all_eq_true.mp h3 k (List.mem_range.mpr hk)
    simp only [e1, e2] at q
    obtain ⟨q, q4⟩ := (Bool.and_eq_true _ _).mp q
    obtain ⟨q, q3⟩ := (Bool.and_eq_true _ _).mp q
    obtain ⟨q1, q2⟩ := (Bool.and_eq_true _ _).mp q
    exact ⟨of_decide_eq_true q1, visB_iff q2, of_decide_eq_true q3, of_decide_eq_true q4⟩
  · rcases (Bool.or_eq_true _ _).mp (List.all_eq_true.mp h5 p hp) with z | z
    · exact absurd e (of_decide_eq_true z)
    · exact visB_iff z
  · rcases (Bool.or_eq_true _ _).mp (List.all_eq_true.mp h6 p hp) with z | z
    · exact absurd e (of_decide_eq_true z)
    · exact of_decide_eq_true z
theorem relabel_free {env : Env} : ∀ {names : List (Str × NameKind)} {x : Str}, names.lookup x = some .free →
    (names.map fun (n, k) => if (k == NameKind.free && env.scope.kind == .function && env.kindOf n == some .cell) then (n, NameKind.cell) else (n, k)).lookup x = some .cell ∨
    (names.map fun (n, k) => if (k == NameKind.free && env.scope.kind == .function && env.kindOf n == some .cell) then (n, NameKind.cell) else (n, k)).lookup x = some .free
  | [], _, h => by simp at h
  | (n, k) :: r, x, h => by
    have ih := @relabel_free env r x
    rw [List.map_cons]
    cases hx : x == n with
    | true =>
      simp only [List.lookup_cons, hx] at h
      cases h
      by_cases hc : (NameKind.free == NameKind.free && env.scope.kind == .function && env.kindOf n == some .cell) = true
      · refine .inl ?_
        simp only [hc, if_true, List.lookup_cons, hx]
      · refine .inr ?_
        simp only [if_neg hc, List.lookup_cons, hx]
    | false =>
      simp only [List.lookup_cons, hx] at h
      by_cases hc : (k == NameKind.free && env.scope.kind == .function && env.kindOf n == some .cell) = true
      · simp only [hc, if_true, List.lookup_cons, hx]; exact ih h
      · simp only [if_neg hc, List.lookup_cons, hx]; exact ih h
theorem relabel_back {env : Env} : ∀ {names : List (Str × NameKind)} {x : Str}, (∀ p ∈ names, p.2 ≠ .cell) →
    ((names.map fun (n, k) => if (k == NameKind.free && env.scope.kind == .function && env.kindOf n == some .cell) then (n, NameKind.cell) else (n, k)).lookup x = some .cell ∨
    (names.map fun (n, k) => if (k == NameKind.free && env.scope.kind == .function && env.kindOf n == some .cell) then (n, NameKind.cell) else (n, k)).lookup x = some .free) → (x, NameKind.free) ∈ names
  | [], _, _, h => by simp at h
  | (n, k) :: r, x, hn, h => by
    have ih := @relabel_back env r x fun p hp => hn p (List.mem_cons_of_mem _ hp)
    rw [List.map_cons] at h
    cases hx : x == n with
    | true =>
      have e : x = n := by simpa using hx
      subst e
      have hk := hn (x, k) List.mem_cons_self
      by_cases hc : (k == NameKind.free && env.scope.kind == .function && env.kindOf x == some .cell) = true
      · have : k = .free := by
          simp only [Bool.and_eq_true] at hc
          simpa using hc.1.1
        rw [this]; exact List.mem_cons_self
      · simp only [if_neg hc, List.lookup_cons, hx] at h
        rcases h with h | h
        · exact absurd (Option.some.inj h) hk
        · rw [Option.some.inj h]; exact List.mem_cons_self
    | false =>
      by_cases hc : (k == NameKind.free && env.scope.kind == .function && env.kindOf n == some .cell) = true
      · simp only [hc, if_true, List.lookup_cons, hx] at h; exact List.mem_cons_of_mem _ (ih h)
      · simp only [if_neg hc, List.lookup_cons, hx] at h; exact List.mem_cons_of_mem _ (ih h)
end L2
namespace PySem
open Sem (wp)
section
variable {prog : Program} {w : World} {A : Around} {E : Value → Shared → Prop} {R : Result → Shared → Prop} {s : Shared}
variable {I : Addr} {fp wr : List Addr} {G : Array GenState → Array GenState → Prop} {n : Nat} {P : Nat → Value → Prop} {St : Nat → Shared → Prop}
theorem L2_nolen_lri : typeLookup (.type "list_reverseiterator") "__len__" = pure none := by rw [typeLookup_type, builtinLookup_eq_fast]; kernel_rfl
theorem L2_hint_lri : typeLookup (.type "list_reverseiterator") "__length_hint__" = pure (some (.builtin "list_reverseiterator.__length_hint__")) := by rw [typeLookup_type, builtinLookup_eq_fast]; kernel_rfl
set_option maxRecDepth 100000 in
theorem L2_extend_rev (W : WalksS prog w A.in1 I fp wr G n P St) (hT : ∀ i s, St i s → s.TypeIs (.ref I) "list_reverseiterator") (S : Addr) (res : Value) (hst : St 0 s) (hSf : S ∉ fp) (hI : I ∈ fp)
    {c : Nat} (hS : s.heap.get? S = some { cls := .type "list", dict := none, data := .seq #[] c, slots := #[] })
    (hR : ∀ s' acc' c', Moved (S :: wr) G s s' → s'.heap.get? S = some { cls := .type "list", dict := none, data := .seq acc' c', slots := #[] } → ItemsOf P acc' n → R (.ok (.ret res)) s') (hn : n ≤ sizeLine := by size_fits) :
    wpAny (model prog w) A.in1 (Builtin.List.listExtendWith (.ref S) (.ref I) res)
      (fun fin s' => match fin with | .done f => R (.ok f) s' | .again c' => c'.quiet = true ∧ codeAny (model prog w) A c' R s') (fun e s' => R (.error e) s') s := by
  have hSI : S ≠ I := fun e => hSf (e ▸ hI)
  have h1 : Builtin.List.listSameRef (.ref S) (.ref I) = false := by simp [Builtin.List.listSameRef, hSI]
  unfold Builtin.List.listExtendWith
  refine wpAny_bind (wpAny_typeOf (hT 0 _ hst) ?_)
  rw [if_neg (by rw [h1]; decide)]
  refine wpAny_bind (W.self 0 _ _ _ hst ?_)
  refine wpAny_bind (wpAny_holding ?_)
  unfold Builtin.List.listLengthHint
  refine wpAny_bind (wpAny_specialOf (hT 0 _ hst) L2_nolen_lri ?_)
  show wpAny _ A.in1 (specialOf (Value.ref I) (Str.ofString "__length_hint__") >>= _) _ _ _
  refine wpAny_bind (wpAny_specialOf (hT 0 _ hst) L2_hint_lri ?_)
  generalize hid : ("list_reverseiterator.__length_hint__" : String) = id0
  wp_delta
  rw [show splitId id0 = some ("list_reverseiterator", "__length_hint__") from by subst hid; decide +kernel]
  subst hid
  refine wpAny_bind (wpAny_isInstance (b := true) (hT 0 _ hst) (by rw [isSubtype_type]; kernel_rfl) ?_)
  refine wpAny_pure ?_
  rw [if_neg (by decide)]
  exact wpAny_pure ⟨plainId_quiet F.plain_extend_loop _, codeAny_extend_loopS W hn _ hSf _ n 0 _ _ _ rfl (Nat.zero_le _) hst hS (ItemsOf.nil P) fun s' acc' c' hm hS' hacc => hR s' acc' c' hm hS' hacc⟩
set_option maxRecDepth 100000 in
theorem L2_list_init_rev (W : WalksS prog w A.in1 I fp wr G n P St) (hT : ∀ i s, St i s → s.TypeIs (.ref I) "list_reverseiterator") (S : Addr) (hst : St 0 s) (hSf : S ∉ fp) (hI : I ∈ fp)
    (hS : s.heap.get? S = some { cls := .type "list", data := .seq #[] })
    (hR : ∀ s' acc' c', Moved (S :: wr) G s s' → s'.heap.get? S = some { cls := .type "list", dict := none, data := .seq acc' c', slots := #[] } → ItemsOf P acc' n → R (.ok (.ret .none)) s') (hn : n ≤ sizeLine := by size_fits) :
    wpAny (model prog w) A.in1 (Builtin.«list.__init__» ⟨[.ref S, .ref I], []⟩)
      (fun fin s' => match fin with | .done f => R (.ok f) s' | .again c' => c'.quiet = true ∧ codeAny (model prog w) A c' R s') (fun e s' => R (.error e) s') s := by
  show wpAny _ A.in1 (do let old ← Builtin.List.listItems (.ref S); Builtin.List.listUpdate (.ref S) (fun _ => #[]); letGo old.toList.reverse; Builtin.List.listExtendWith (.ref S) (.ref I) .none) _ _ s
  refine wpAny_bind ?_
  unfold Builtin.List.listItems
  refine wpAny_bind (wpAny_seqItems hS rfl (wpAny_pure ?_))
  show wpAny _ A.in1 (updateSeq S (fun _ => #[]) >>= fun _ => letGo (#[] : Array Value).toList.reverse >>= fun _ => Builtin.List.listExtendWith (.ref S) (.ref I) .none) _ _ s
  refine wpAny_bind (wpAny_updateSeq hS rfl ?_)
  have hS₂ := Heap.get?_update_self (Obj.mapSeq (fun _ => (#[] : Array Value))) hS rfl
  have oth : ∀ b o, b ≠ S → s.heap.get? b = some o → (s.heap.update S (Obj.mapSeq (fun _ => (#[] : Array Value)))).get? b = some o :=
    fun b o hb e => (Heap.get?_update_other _ _ (Ne.symm hb)).trans e
  refine wpAny_bind (wpAny_letGo ?_)
  refine L2_extend_rev (hn := hn) W hT S .none (W.frame 0 s _ s.toks hst (Nat.le_refl _) fun b hb o e => oth b o (fun h => hSf (h ▸ hb)) e) hSf hI hS₂ fun s' acc' c' hm hS' hacc => ?_
  exact hR s' acc' c' (Moved.trans W.gtrans ((Moved.refl W.grefl).then_heap (Nat.le_refl _) fun b o hb e => oth b o (fun h => hb (h ▸ List.mem_cons_self)) e) hm) hS' hacc
theorem L2_call_list_rev {Q : Value → Shared → Prop} (W : WalksS prog w A.in1.in1 I fp wr G n P St) (hT : ∀ i s, St i s → s.TypeIs (.ref I) "list_reverseiterator") (hst : St 0 s) (hfp : ∀ b ∈ fp, b < s.heap.objs.size) (hI : I ∈ fp)
    (hQ : ∀ s' acc' c', Moved (s.heap.objs.size :: wr) G { s with heap := s.heap.push { cls := .type "list", data := .seq #[] } } s' →
      s'.heap.get? s.heap.objs.size = some { cls := .type "list", dict := none, data := .seq acc' c', slots := #[] } → ItemsOf P acc' n → Q (.ref s.heap.objs.size) s') (hn : n ≤ sizeLine := by size_fits) :
    wpAny (model prog w) A (call (.type "list") [.ref I]) Q E s := by
  have hSf : s.heap.objs.size ∉ fp := fun hm => Nat.lt_irrefl _ (hfp _ hm)
  refine callType_codes (Q₁ := fun obj s₁ => obj = .ref s.heap.objs.size ∧ s₁ = { s with heap := s.heap.push { cls := .type "list", data := .seq #[] } }) F.called_list (F.typeCall_list_1 _) F.entry_list_init
    (code_list_new _ ⟨rfl, rfl⟩) fun obj s₁ h₁ => ?_
  obtain ⟨rfl, rfl⟩ := h₁
  have hS : (s.heap.push { cls := .type "list", data := .seq #[] }).get? s.heap.objs.size = some { cls := .type "list", data := .seq #[] } := Heap.get?_push_size _ rfl
  refine ⟨⟨_, hS, rfl⟩, F.args_list_init_2 _ _, L2_list_init_rev (hn := hn) W hT _ (W.frame 0 s _ s.toks hst (Nat.le_refl _) fun b _ o e => Heap.get?_push_of_some _ e) hSf hI hS fun s' acc' c' hm hS' hacc => ?_⟩
  exact ⟨rfl, hQ s' acc' c' hm hS' hacc⟩
end
end PySem
namespace L2
open PySem PySem.Spec PyProof.Rows
def cxComp (X : Cx) (N' : List Str) (scope : Scope) (C : Addr) (s : Shared) (H : Hp) (fp : List Addr) : Cx :=
  { X with N := N', s₀ := s, H₀ := H, env := compEnvC scope (clOf X.env.cells scope.names []) C X.env, outer := X.stack, stack := X.stack, ex := fp, fn := fun _ => false, pn := [], xe := fun _ _ => False }
def PIfs (X : Cx) (ifs : List Expr) (t : TT) : Prop :=
  ∀ (pins : List (Addr × Obj)) (s : Shared) (σ : St) (H : Hp) (Q : Bool → Hp → Prop), Inv X pins σ H s → t σ H Q →
    wpAny (model X.prog X.w) X.A (forIn ifs true fun c r => if r = true then do let ok ← isTrue c X.env (eval c X.env); pure (ForInStep.yield ok) else pure (ForInStep.yield r)) (TP X pins σ Q) X.xe s
def tYes : TT := fun _ H Q => Q true H
theorem pifs_nil {X : Cx} : PIfs X [] tYes := fun _ _ _ H _ I h => wpAny_tests_nil ⟨H, I, h⟩
theorem pifs_one {X : Cx} {c : Expr} {t : TT} (h : PT X c t) : PIfs X [c] t := fun pins s σ H Q I hw => wpAny_tests_one (h pins s σ H Q I hw)
def CompW (p : Addr) (J : It) (g : TG) (tst : TT) (te : TE) (Q : Hp → Prop) (σ : St) (H : Hp) : Prop :=
  ∃ W : Nat → Nat → List V → St → Hp → Prop, (∃ m, W 0 m [] σ H) ∧ ∀ i m acc σ' H', W i m acc σ' H' →
    (J.stop i H' ∧ Q H') ∨ (J.go i H' ∧ ∃ N : List V → St → Hp → Prop, (∀ acc σ H, N acc σ H → ∃ m', m' < m ∧ W (i + 1) m' acc σ H) ∧ ∀ x H2, J.yld i H' x H2 → g x σ' H2 fun σ3 H3 => tst σ3 H3 fun b H4 =>
      if b = true then te σ3 H4 fun v H5 => ∃ ac, H5 p = some (.lst ac) ∧ ac.length < sizeLine ∧ N (ac ++ [v]) σ3 (upd H5 p (.lst (ac ++ [v])))
      else N acc σ3 H4)
def tComp (mp : List (Option Nat)) (wi : TI) (g : TG) (tst : TT) (te : TE) : TE := fun σ H Q => wi σ H fun J H1 => ∀ p, H1 p = none →
  CompW p J g tst te (fun H' => Q (.ref p) H') (subS mp σ) (upd H1 p (.lst []))
section
variable {X : Cx} {N' : List Str} {mp : List (Option Nat)} {elt tg iter : Expr} {ifs : List Expr} {scope : Scope} {pos : Pos} {wi : TI} {g : TG} {tst : TT} {te : TE}
theorem Inv.comp0 {pins : List (Addr × Obj)} {σ : St} {H : Hp} {s : Shared} {fp : List Addr} {tn : Heap → Prop} {h₁ : Heap} {tk : Nat} {C : Addr} (ok : CompOk X.N X.env.scope.names scope.names N' mp) (hk : scope.kind = .function)
    (I : Inv X pins σ H s) (hf : ∀ b ∈ fp, FpOk X pins H b) (hob : ∀ b ∈ fp, ∃ o, s.heap.get? b = some o) (hC : C = s.heap.objs.size + 1)
    (hns : ∃ m, h₁.Ns C m) (keep : ∀ b o, s.heap.get? b = some o → h₁.get? b = some o) (hacc : ∃ n, h₁.get? s.heap.objs.size = some { cls := .type "list", data := .seq #[] n }) :
    Inv (cxComp X N' scope C s H fp) [] (subS mp σ) (upd H s.heap.objs.size (.lst [])) { s with heap := h₁, toks := tk } := by
  subst hC
  have hcl : ∀ x ∈ scope.names, x.2 = .free → ∃ c, X.env.cells.lookup x.1 = some c := fun x hx e => I.ok.has x.1 (ok.free x hx e)
  have sub : ∀ x c, (clOf X.env.cells scope.names []).lookup x = some c → X.env.cells.lookup x = some c := clOf_sub hcl (fun x c e => by simp at e)
  have hlt : ∀ b ∈ fp, b < s.heap.objs.size := fun b hb => let ⟨_, e⟩ := hob b hb; Heap.lt_size e
  have hnC : H (s.heap.objs.size + 1) = none := I.hok.fresh (Nat.le_succ _)
  have hnp : H s.heap.objs.size = none := I.hok.fresh (Nat.le_refl _)
  have fpfs : ∀ b ∈ fp, b ∉ frs X.stack := fun b hb z => by
    obtain ⟨_, f1, f2, _⟩ := hf b hb
    rcases List.mem_cons.mp (I.stkSub b z) with e | e
    · exact f1 e
    · exact f2 e
  refine ⟨⟨I.ok.mod, hk, I.ok.glob, I.ok.blt, Nat.le_succ _, fun x y c e1 e2 => I.ok.inj x y c (sub x c e1) (sub y c e2), fun x e => ?_, fun x c e => (nomatch e), I.ok.hd, I.ok.frames, .inl rfl, fun b hb => ⟨?_, fun x c e => ?_⟩, I.bs, Nat.le_trans I.ok.bsz I.sz, fun b o e hb => ?_, fpfs, I.stack, I.stkFree⟩,
    rfl, I.bare, Un.laid keep (Nat.le_refl _) hnp, ?_, fun x c e => ?_, ?_, fun x c e => ?_, fun p hp => (nomatch hp), I.hok.laid keep (Nat.le_refl _) ?_, ?_⟩
  · exact clOf_has (relabel_back ok.nocell e)
  · exact Nat.ne_of_lt (Nat.lt_succ_of_lt (hlt b hb))
  · exact (hf b hb).2.2.2.2.1 x c (sub x c e)
  · rcases (hf b hb).2.2.2.1 with z | z
    · exact I.ok.noex b o e z
    · exact absurd (Nat.lt_of_lt_of_le (Heap.lt_size e) (Nat.le_trans I.ok.bsz z)) (Nat.lt_irrefl _)
  · obtain ⟨m, hm⟩ := hns
    refine ⟨m, hm, fun i x v e1 e2 e3 => ?_⟩
    have e2' : (subS mp σ)[i]? = some (some v) := e2
    unfold subS at e2'
    rw [List.getElem?_map] at e2'
    cases hmp : mp[i]? with
    | none => rw [hmp] at e2'; cases e2'
    | some o =>
      rw [hmp] at e2'
      cases o with
      | none => cases e2'
      | some j =>
        have e4 : σ[j]? = some (some v) := by
          have q : (σ[j]?).join = some v := Option.some.inj e2'
          cases hj : σ[j]? with
          | none => rw [hj] at q; cases q
          | some y => rw [hj] at q; exact congrArg some q
        obtain ⟨a1, a2, a3, a4⟩ := ok.map i j x hmp e1
        obtain ⟨m0, hn0, hl0⟩ := I.loc
        obtain ⟨u, r, l⟩ := hl0 j x v a1 e4 (a2.elim (fun z => .inr (.inl z)) fun z => .inr (.inr z))
        refine ⟨u, r, .inr ⟨?_, ?_⟩⟩
        · exact relabel_free a4
        · rcases l with ⟨l1, _⟩ | ⟨_, c, l2, l3⟩
          · have l1 : X.env.scope.names.lookup x = some .local := l1
            rcases a2 with a2 | a2 <;> rw [a2] at l1 <;> cases l1
          · obtain ⟨c', hc'⟩ : ∃ c', (clOf X.env.cells scope.names []).lookup x = some c' := clOf_has a3
            have : c' = c := Option.some.inj ((sub x c' hc').symm.trans l2)
            subst this
            exact ⟨c', hc', l3.keeps keep⟩
  · obtain ⟨v, z⟩ := I.cell x c (sub x c e)
    exact ⟨v, z.keeps keep⟩
  · show upd H s.heap.objs.size (.lst []) (s.heap.objs.size + 1) = none
    rw [upd_ne (Nat.succ_ne_self _)]; exact hnC
  · obtain ⟨v, z⟩ := I.cell x c (sub x c e)
    show upd H s.heap.objs.size (.lst []) c = none
    rw [upd_ne (Nat.ne_of_lt z.lt)]; exact I.freeC x c (sub x c e)
  · obtain ⟨n, e⟩ := hacc
    exact ⟨Nat.zero_le _, [], n, .nil, e⟩
  · show (subS mp σ).length = N'.length
    unfold subS
    rw [List.length_map, ok.len]
theorem comp_run {pins : List (Addr × Obj)} {σ : St} {H : Hp} {s : Shared} {it : Addr} {fp : List Addr} {tn : Nat → Heap → Prop} {J : It} {Q : Addr → Hp → Prop} {E : Value → Shared → Prop} {RR : Value → Addr → Result → Shared → Prop}
    (ok : CompOk X.N X.env.scope.names scope.names N' mp) (hk : scope.kind = .function) (hc : X.calm = true) (I : Inv X pins σ H s) (T : Turn X.prog X.w X.K tg J fp it tn) (st : tn 0 s.heap) (hf : ∀ b ∈ fp, FpOk X pins H b)
    (hg : ∀ C s H fp, PG (cxComp X N' scope C s H fp) tg g) (ht : ∀ C s H fp, PIfs (cxComp X N' scope C s H fp) ifs tst) (he : ∀ C s H fp, PE (cxComp X N' scope C s H fp) elt te)
    (h : ∀ p, H p = none → CompW p J g tst te (Q p) (subS mp σ) (upd H p (.lst [])))
    (hRR : ∀ C s' H', Inv X pins σ H' s' → (∃ m, s'.heap.Ns C m) → H' C = none → X.s₀.heap.objs.size ≤ C → C ≠ X.env.locals → (∀ x c, X.env.cells.lookup x = some c → c ≠ C) → (∀ q ∈ X.pn ++ pins, q.1 ≠ C) → Q s.heap.objs.size H' → RR (.ref s.heap.objs.size) C (.ok .next) s') :
    wpAny (model X.prog X.w) X.A (newList []) (fun acc s₃ => wpAny (model X.prog X.w) X.A (newFunctionEnv scope X.env.globals (clOf X.env.cells scope.names []) [] X.env.qual none .none (some X.env)) (fun cenv s₄ =>
      codeAny (model X.prog X.w) X.A (.compStart (.ListComp elt [⟨tg, iter, ifs, 0⟩] scope pos) 0 (.ref it) acc { cenv with scope := relabel scope X.env }) (RR acc cenv.locals) s₄) E s₃) E s := by
  refine wpAny_newObj_type (wpAny_newFunctionEnv ok.nocell (by intro y hy; simp at hy) (fun h₁ hns₁ hsb₁ => ?_) hk)
  dsimp only at hns₁ hsb₁ ⊢
  generalize hH2 : s.heap.push { cls := .type "list", dict := none, data := .seq ([] : List Value).toArray } = H2 at hns₁ hsb₁ ⊢
  have hC : H2.objs.size = s.heap.objs.size + 1 := by rw [← hH2, Heap.size_push]
  have keep : ∀ b o, s.heap.get? b = some o → h₁.get? b = some o := fun b o e =>
    hsb₁.extBut b o (by rw [hC]; exact Nat.ne_of_lt (Nat.lt_succ_of_lt (Heap.lt_size e))) (Heap.get?_push_of_some _ (hH2 ▸ Heap.get?_push_of_some _ e))
  have hacc : ∃ n, h₁.get? s.heap.objs.size = some { cls := .type "list", data := .seq #[] n } :=
    ⟨_, hsb₁.extBut _ _ (by rw [hC]; exact Nat.ne_of_lt (Nat.lt_succ_self _)) (Heap.get?_push_of_some _ (hH2 ▸ Heap.get?_push_size _ rfl))⟩
  have hob : ∀ b ∈ fp, ∃ o, s.heap.get? b = some o := fun b hb => let ⟨o, e, _⟩ := T.obj _ _ st b hb; ⟨o, e⟩
  have hltC : s.heap.objs.size ≤ H2.objs.size := by rw [hC]; exact Nat.le_succ _
  have I0 := I.comp0 (tn := tn 0) (C := H2.objs.size) (tk := s.toks + ([] : List (Str × Value)).length) ok hk hf hob hC ⟨_, hns₁⟩ keep hacc
  have st0 : tn 0 h₁ := T.keep _ _ _ st fun b hb o e => keep b o e
  obtain ⟨W, ⟨m0, w0⟩, turn⟩ := h _ (I.hok.fresh (Nat.le_refl _))
  have fpfs : ∀ b ∈ fp, b ∉ frs X.stack := I0.ok.exfs
  have stat : ∀ {H' : Hp}, (∀ b ∈ fp, H' b = none) → ∀ b ∈ fp, FpOk (cxComp X N' scope H2.objs.size s H fp) [] H' b := fun hn b hb =>
    ⟨hn b hb, (I0.ok.exf b hb).1, fpfs b hb, .inl hb, (I0.ok.exf b hb).2, fun q hq => (nomatch hq)⟩
  have loop : ∀ s₃ : Shared, s₃ = { s with heap := h₁, toks := s.toks + ([] : List (Str × Value)).length } →
      codeAny (model X.prog X.w) X.A (.compLoop (.ListComp elt [⟨tg, iter, ifs, 0⟩] scope pos) 0 (.ref it) (.ref s.heap.objs.size) (compEnvC scope (clOf X.env.cells scope.names []) H2.objs.size X.env)) (RR (.ref s.heap.objs.size) H2.objs.size) s₃ := by
    rintro s₃ rfl
    refine L2_compLoop (fun n s' => ∃ i acc σ' H', Inv (cxComp X N' scope H2.objs.size s H fp) [] σ' H' s' ∧ tn i s'.heap ∧ (∀ b ∈ fp, H' b = none) ∧ W i n acc σ' H') ?_ m0
      ⟨0, [], _, _, I0, st0, fun b hb => by rw [upd_ne (Nat.ne_of_lt (let ⟨_, e⟩ := hob b hb; Heap.lt_size e))]; exact (hf b hb).1, w0⟩
    rintro n s3 ⟨i, acc, σ3, H3, I3, st3, fr3, w3⟩
    rcases turn i n acc σ3 H3 w3 with ⟨stop, qn⟩ | ⟨go, N, hN, step⟩
    · refine thn (T.done (cxComp X N' scope H2.objs.size s H fp) rfl rfl rfl hc i [] s3 σ3 H3 _ I3 (stat fr3) st3 stop) fun r s4 ⟨hr, I4⟩ => ?_
      subst hr
      refine hRR _ s4 H3 ?_ (let ⟨m, hm, _⟩ := I4.loc; ⟨m, hm⟩) I4.free (Nat.le_trans I.sz hltC) (Nat.ne_of_gt (Nat.lt_of_lt_of_le I.lt hltC)) (fun x c e => ?_) (fun q hq => ?_) qn
      · exact I.call' I4.os I4.base I4.hok I4.bare fun b hb => let ⟨_, f1, _, f3, f4, f5⟩ := hf b hb; ⟨f3, f1, f4, f5⟩
      · obtain ⟨v, z⟩ := I.cell x c e
        exact Nat.ne_of_lt (Nat.lt_of_lt_of_le z.lt hltC)
      · exact Nat.ne_of_lt (Nat.lt_of_lt_of_le (Heap.lt_size (I.pin q hq).1) hltC)
    · refine thn (T.item (cxComp X N' scope H2.objs.size s H fp) rfl rfl rfl hc i [] s3 σ3 H3 _ I3 (stat fr3) st3 go) fun r s4 ⟨u, hr, h4⟩ => ?_
      subst hr
      refine thn h4 fun _ s5 ⟨x, H5, I5, r5, y5, st5, fr5⟩ => ?_
      have I5' := I5.pinned (stat fr5) (T.obj _ _ st5)
      refine thn (hg _ _ _ _ _ s5 σ3 H5 x u _ I5' r5 (step x H5 y5)) fun _ s6 ⟨σ6, H6, I6, q6⟩ => ?_
      refine thn (ht _ _ _ _ _ s6 σ6 H6 _ I6 q6) fun b s7 ⟨H7, I7, q7⟩ => ?_
      have again : ∀ {σ8 : St} {H8 : Hp} {acc8 : List V} {s8 : Shared}, Inv (cxComp X N' scope H2.objs.size s H fp) ([] ++ pinsAt fp s5.heap) σ8 H8 s8 → (∃ m', m' < n ∧ W (i + 1) m' acc8 σ8 H8) →
          ∃ m, m < n ∧ ∃ i acc σ' H', Inv (cxComp X N' scope H2.objs.size s H fp) [] σ' H' s8 ∧ tn i s8.heap ∧ (∀ b ∈ fp, H' b = none) ∧ W i m acc σ' H' := fun {σ8 H8 acc8 s8} I8 hw => by
        obtain ⟨m', hm, w8⟩ := hw
        refine ⟨m', hm, i + 1, acc8, σ8, H8, I8.unpinned, T.keep _ _ _ st5 fun b hb o e => (I8.pin (b, o) (List.mem_append_right _ (List.mem_append_right _ (mem_pinsAt hb e)))).1, fun b hb => ?_, w8⟩
        obtain ⟨o, e, d⟩ := T.obj _ _ st5 b hb
        exact (I8.pin (b, o) (List.mem_append_right _ (List.mem_append_right _ (mem_pinsAt hb e)))).2.1
      cases b with
      | false =>
        rw [if_neg Bool.false_ne_true]
        rw [if_neg Bool.false_ne_true] at q7
        exact again I7 (hN _ _ _ q7)
      | true =>
        rw [if_pos rfl]
        rw [if_pos rfl] at q7
        refine thn (he _ _ _ _ _ s7 σ6 H7 _ I7 q7) fun y s8 ⟨v, H8, I8, r8, ac, e8, z8, w8⟩ => ?_
        refine thn (mt_append (X := cxComp X N' scope H2.objs.size s H fp) _ s8 σ6 H8 (.ref s.heap.objs.size) [v] (.ref s.heap.objs.size) [y] (fun _ H9 => H9 = upd H8 s.heap.objs.size (.lst (ac ++ [v]))) I8 rfl (.cons r8 .nil) ⟨_, ac, v, rfl, rfl, e8, z8, rfl⟩) fun _ s9 ⟨_, H9, I9, _, e9⟩ => ?_
        subst e9
        exact again I9 (hN _ _ _ w8)
  exact codeAny_compStart_list (loop _ rfl) (T.self _ 0 _ _ _ st0 (loop _ rfl))
theorem Inv.letgo {pins : List (Addr × Obj)} {σ : St} {H : Hp} {s : Shared} {C : Addr} {h' : Heap} (I : Inv X pins σ H s) (hn : H C = none) (h1 : X.s₀.heap.objs.size ≤ C) (hL : C ≠ X.env.locals) (h2 : ∀ x c, X.env.cells.lookup x = some c → c ≠ C)
    (h3 : ∀ q ∈ X.pn ++ pins, q.1 ≠ C) (hs : Heap.SameBut C s.heap h') : Inv X pins σ H { s with heap := h' } :=
  I.turned (t' := s.toks) (fun b o hb e => (hs.2 b hb).trans e) hn hL (.inr h1) h2 h3
theorem pe_comp (hc : X.calm = true) (hi : PI X tg iter wi) (hg : ∀ C s H fp, PG (cxComp X N' scope C s H fp) tg g) (ht : ∀ C s H fp, PIfs (cxComp X N' scope C s H fp) ifs tst) (he : ∀ C s H fp, PE (cxComp X N' scope C s H fp) elt te)
    (ok : CompOk X.N X.env.scope.names scope.names N' mp) (hk : scope.kind = .function := by rfl) (hs : ∀ x, foldedSetIterable iter X.env x = pure x := by intro _; rfl) :
    PE X (.ListComp elt [⟨tg, iter, ifs, 0⟩] scope pos) (tComp mp wi g tst te) := by
  intro pins s σ H Q I h
  rw [eval_ListComp]
  refine wpAny_comprehension_free (use := none) rfl hs (closureFor_of fun x hx e => I.ok.has x.1 (ok.free x hx e)) hk ok.loc (thn (hi pins s σ H _ I h) fun v s1 h1 => thn h1 fun itv s2 h2 => ?_)
  obtain ⟨it, fp, tn, J, H2, e, I2, T, st2, f2, hw⟩ := h2
  subst e
  refine comp_run (Q := fun p H' => Q (.ref p) H') (RR := fun acc C => compPost (model X.prog X.w) X.A X.xe none (EP X pins σ Q) acc C) ok hk hc I2 T st2 f2 hg ht he hw ?_
  intro C s' H' I' hns hn h1 hL hcl hpin q
  obtain ⟨m, hm⟩ := hns
  exact ⟨m, hm, fun h' hs' => ⟨.ref s2.heap.objs.size, H', I'.letgo hn h1 hL hcl hpin hs', rfl, q⟩⟩
theorem ps_setC {i : Nat} {y : Str} {py spos : Pos} (hc : X.calm = true) (hN : X.N.Nodup) (hi' : X.N[i]? = some y) (hy : X.env.scope.names.lookup y = some .local)
    (hi : PI X tg iter wi) (hg : ∀ C s H fp, PG (cxComp X N' scope C s H fp) tg g) (ht : ∀ C s H fp, PIfs (cxComp X N' scope C s H fp) ifs tst) (he : ∀ C s H fp, PE (cxComp X N' scope C s H fp) elt te)
    (ok : CompOk X.N X.env.scope.names scope.names N' mp) (hsw : swapsWith (.ListComp elt [⟨tg, iter, ifs, 0⟩] scope pos) (some (.Name y py)) spos.line X.env = pure true := by rfl)
    (hk : scope.kind = .function := by rfl) (hs : ∀ x, foldedSetIterable iter X.env x = pure x := by intro _; rfl) :
    PS X (.Assign [.Name y py] (.ListComp elt [⟨tg, iter, ifs, 0⟩] scope pos) spos) (tAsg (tComp mp wi g tst te) (gName i)) := by
  intro pins s σ H D I h
  rw [exec_Assign_Name_used _ _ _ _ hsw]
  refine wpAny_bind (wpAny_standAt (wpAny_bind ?_))
  show wpAny _ _ (do let _ ← comprehension (.ListComp elt [⟨tg, iter, ifs, 0⟩] scope pos) scope X.env _ (newList []) false (eval iter X.env) (some (assign (.Name y py) X.env))) _ _ s
  refine wpAny_bind (wpAny_mono (wpAny_comprehension_free (use := some (assign (.Name y py) X.env)) (Q := fun _ s' => SP X pins D .next s') rfl hs (closureFor_of fun x hx e => I.ok.has x.1 (ok.free x hx e)) hk ok.loc
    (thn (hi pins s σ H _ I h) fun v s1 h1 => thn h1 fun itv s2 h2 => ?_)) (fun _ s' hq => wpAny_pure (wpAny_pure hq)) fun _ _ e => e)
  obtain ⟨it, fp, tn, J, H2, e, I2, T, st2, f2, hw⟩ := h2
  subst e
  refine comp_run (Q := fun p H' => D.nx (σ.set i (some (.ref p))) H') (RR := fun acc C => compPost (model X.prog X.w) X.A X.xe (some (assign (.Name y py) X.env)) (fun _ s' => SP X pins D .next s') acc C) ok hk hc I2 T st2 f2 hg ht he hw ?_
  intro C s' H' I' hns hn h1 hL hcl hpin q
  obtain ⟨m, hm⟩ := hns
  show wpAny _ _ (assign (.Name y py) X.env (.ref s2.heap.objs.size)) _ _ s'
  refine wpAny_assign_Name (store_ok2 I' hN hi' (.inl hy) (v := .ref s2.heap.objs.size) rfl (fun s'' I'' hch => ?_) (.inr hy))
  obtain ⟨a, hsb, ha⟩ := hch
  have hCa : C ≠ a := by
    rcases ha with rfl | ha
    · exact hL
    · exact (hcl _ _ ha).symm
  refine ⟨m, hm.sameBut hsb hCa, fun h' hs' => ?_⟩
  exact ⟨_, H', I''.letgo hn h1 hL hcl hpin hs', q⟩
end
section
variable {K : PySem.W.Frag} {a p : Addr} {xs : List V} {g : TG} {tst : TT} {te : TE} {Q : Hp → Prop} {σ : St} {H : Hp}
theorem comp_of {J : It} (n : Nat) (Pv : Nat → List V → St → Hp → Prop) (h0 : Pv 0 [] σ H)
    (hgo : ∀ i acc σ H, i < n → Pv i acc σ H → J.go i H) (hstop : ∀ acc σ H, Pv n acc σ H → J.stop n H ∧ Q H)
    (hs : ∀ i x acc σ H H2, i < n → Pv i acc σ H → J.yld i H x H2 → g x σ H2 fun σ3 H3 => tst σ3 H3 fun b H4 =>
      if b = true then te σ3 H4 fun v H5 => ∃ ac, H5 p = some (.lst ac) ∧ ac.length < sizeLine ∧ Pv (i + 1) (ac ++ [v]) σ3 (upd H5 p (.lst (ac ++ [v]))) else Pv (i + 1) acc σ3 H4) :
    CompW p J g tst te Q σ H := by
  refine ⟨fun i m acc σ H => m = n - i ∧ i ≤ n ∧ Pv i acc σ H, ⟨n, by simp, Nat.zero_le _, h0⟩, ?_⟩
  rintro i m acc σ H ⟨rfl, hi, pv⟩
  by_cases hlt : i < n
  · exact .inr ⟨hgo i acc σ H hlt pv, Pv (i + 1), fun acc σ H q => ⟨n - (i + 1), by omega, rfl, hlt, q⟩, fun x H2 y => hs i x acc σ H H2 hlt pv y⟩
  · have e : i = n := by omega
    subst e
    exact .inl (hstop acc σ H pv)
end
end L2
namespace L2
open PySem PySem.Spec PyProof.Rows
section
variable {X : Cx}
def rSlS : V → Option Int → Option Int → Hp → VK → Prop := fun x lo hi H Q => ∃ z, x = .str z ∧ z.length ≤ sizeLine ∧ Q (.str (Txt.slice z lo hi)) H
theorem sl_str : SlR X rSlS := by
  intro pins s σ H x v vl vu lo hi sl Q I rx hs pl pu h
  obtain ⟨z, rfl, hz, q⟩ := h
  obtain ⟨t, rfl⟩ := rx
  refine ⟨"str", _, F.slot_str_getitem.lookup, typeIs_str _ _ _, ?_⟩
  have fin : ∀ t' k, EP X pins σ Q (.str (Txt.slice z lo hi) t') { s with toks := k } := fun t' k => ⟨.str _, H, I.tok _, ⟨_, rfl⟩, q⟩
  cases pl with
  | none =>
    cases pu with
    | none => exact wpAny_getItem_str_slice (l := none) (u := none) (st := none) hs rfl (post_val_or_str ⟨Nat.le_trans (Txt.slice_le z _ _) hz, fin⟩)
    | int j tj => exact wpAny_getItem_str_slice (l := none) (u := some (j, tj)) (st := none) hs rfl (post_val_or_str ⟨Nat.le_trans (Txt.slice_le z _ _) hz, fin⟩)
  | int i ti =>
    cases pu with
    | none => exact wpAny_getItem_str_slice (l := some (i, ti)) (u := none) (st := none) hs rfl (post_val_or_str ⟨Nat.le_trans (Txt.slice_le z _ _) hz, fin⟩)
    | int j tj => exact wpAny_getItem_str_slice (l := some (i, ti)) (u := some (j, tj)) (st := none) hs rfl (post_val_or_str ⟨Nat.le_trans (Txt.slice_le z _ _) hz, fin⟩)
theorem strsAre_of : ∀ {ys : List Str} {us : List Value}, Vals (ys.map V.str) us → StrsAre us ys
  | [], [], .nil => .nil
  | y :: ys, _ :: _, .cons r t => by
    obtain ⟨tk, rfl⟩ := r
    exact .cons y tk (strsAre_of t)
theorem mt_join : MtR X "str.join" (fun x xs H Q => ∃ z p ys, x = .str z ∧ xs = [.ref p] ∧ SqL X.K H p (ys.map V.str) ∧ (ys.map (·.length)).sum + ys.length * z.length ≤ 16777216 ∧ Q (.str (Txt.join z ys)) H) := by
  intro pins s σ H x xs v us Q I rx r h
  obtain ⟨z, p, ys, rfl, rfl, hq, hz, q⟩ := h
  obtain ⟨t, rfl⟩ := rx
  obtain ⟨u, rfl, ru⟩ := vals1 r
  cases ru
  obtain ⟨its, r', pl, _⟩ := I.list hq
  exact join_list pl.isList (strsAre_of (by simpa using r')) hz fun t' k => ⟨.str _, H, I.tok _, ⟨_, rfl⟩, q⟩
def tRevL (K : PySem.W.Frag) (te : TE) : TE := fun σ H Q => te σ H fun x H1 => ∃ a xs, x = .ref a ∧ SqL K H1 a xs ∧ ∀ l, H1 l = none → Q (.ref l) (upd H1 l (.lst xs.reverse))
theorem pe_revL {e : Expr} {te : TE} {p p2 pos pos2 : Pos} (hc : X.calm = true) (hg : Gl X "list") (hm : X.mg "list" = none) (hg2 : Gl X "reversed") (hm2 : X.mg "reversed" = none) (he : PE X e te)
    (hs : starEach [.Call (.Name "reversed" p2) [e] [] pos2] X.env = [(false, eval (.Call (.Name "reversed" p2) [e] [] pos2) X.env)] := by rfl) (hs2 : starEach [e] X.env = [(false, eval e X.env)] := by rfl) :
    PE X (.Call (.Name "list" p) [.Call (.Name "reversed" p2) [e] [] pos2] [] pos) (tRevL X.K te) := by
  intro pins s σ H Q I h
  refine wpAny_Call_Name_kw (ld_blt I hg hm boot_list ?_)
  refine PyProof.Rows.callWith_type1 ?_ hs rfl
  rw [hs]
  refine Calls.spliced_cons ?_
  refine wpAny_Call_Name_kw (ld_blt I hg2 hm2 boot_reversed ?_)
  refine PyProof.Rows.callWith_type1 ?_ hs2 rfl
  rw [hs2]
  refine Calls.spliced_cons (thn (he pins s σ H _ I h) fun u s1 ⟨v, H1, I1, r1, q1⟩ => Calls.spliced_nil ?_)
  obtain ⟨a, xs, rfl, hq, q⟩ := q1
  cases r1
  obtain ⟨its, r', pl, hz⟩ := I1.list hq
  have hlen := r'.length
  refine call_reversed_list pl.isList (Calls.spliced_nil ?_)
  have hne : a ≠ s1.heap.objs.size := Nat.ne_of_lt (let ⟨_, ho, _⟩ := pl.isList; Heap.lt_size ho)
  have hpl : (s1.heap.push (revObj a ((its.toArray.size : Int) - 1))).IsList a its.toArray := pl.isList.at fun o e => Heap.get?_push_of_some _ e
  refine L2_call_list_rev (s := { s1 with heap := s1.heap.push (revObj a ((its.toArray.size : Int) - 1)) }) (Walks.listRev (show X.A.in1.in1.handled = none from I.ok.hd hc) s1.heap.objs.size a hne its.toArray).toS (fun i s st => st.2.1.typeIs) ?_ ?_ (by simp) (fun s' acc' c' mv hS hacc => ?_) (by rw [List.size_toArray, ← hlen]; exact hz)
  · refine ⟨Nat.zero_le _, ⟨_, Heap.get?_push_size _ rfl, rfl, ?_⟩, hpl⟩
    simp [revObj]
  · intro b hb
    rw [Heap.size_push]
    rcases List.mem_cons.mp hb with rfl | hb
    · exact Nat.lt_succ_self _
    · have : b = a := by simpa using hb
      subst this
      exact Nat.lt_succ_of_lt (let ⟨_, ho, _⟩ := pl.isList; Heap.lt_size ho)
  · have hsz : (s1.heap.push (revObj a ((its.toArray.size : Int) - 1))).objs.size = s1.heap.objs.size + 1 := Heap.size_push ..
    obtain ⟨h', g', d', t', o'⟩ := s'
    have eg : g' = s1.gens := mv.gens
    have ed : d' = s1.drawn := mv.drawn
    have eo : o' = s1.os := mv.os
    subst eg ed eo
    have keep : ∀ b o, s1.heap.get? b = some o → h'.get? b = some o := fun b o e => by
      have hb := Heap.lt_size e
      refine mv.heap b o (fun hm => ?_) (Heap.get?_push_of_some _ (Heap.get?_push_of_some _ e))
      rcases List.mem_cons.mp hm with z | z
      · have z : b = (s1.heap.push (revObj a ((its.toArray.size : Int) - 1))).objs.size := z
        rw [z, hsz] at hb
        exact absurd hb (Nat.not_lt.mpr (Nat.le_succ _))
      · have z : b = s1.heap.objs.size := by simpa using z
        rw [z] at hb
        exact absurd hb (Nat.lt_irrefl _)
    have ea : acc'.toList = its.reverse := by
      refine List.ext_getElem? fun j => ?_
      have hsz2 : acc'.toList.length = its.length := by have := hacc.1; simp at this ⊢; omega
      by_cases hj : j < its.length
      · have h1 : acc'[j]? = some (acc'[j]'(by have := hacc.1; simp at this; omega)) := Array.getElem?_eq_getElem _
        have h2 := hacc.2 j _ h1
        rw [List.getElem?_reverse hj]
        have h3 : its[its.length - 1 - j]? = some (acc'[j]'(by have := hacc.1; simp at this; omega)) := by simpa using h2
        rw [h3]
        simpa using h1
      · rw [List.getElem?_eq_none (by omega), List.getElem?_eq_none (by rw [List.length_reverse]; omega)]
    refine ⟨.ref (s1.heap.push (revObj a ((its.toArray.size : Int) - 1))).objs.size, upd H1 (s1.heap.push (revObj a ((its.toArray.size : Int) - 1))).objs.size (.lst xs.reverse),
      I1.laid (h' := h') (t' := t') keep (by omega) (show ObjOk X.prog X.w _ h' _ (.lst xs.reverse) from ⟨by rw [List.length_reverse]; exact hz, acc'.toList, c', by rw [ea]; exact r'.reverse, by simpa using hS⟩), rfl, q _ (I1.hok.fresh (by omega))⟩
end
end L2
namespace L2
open PySem PySem.Spec PyProof.Rows
def Sd (d l : Addr) (H H' : Hp) : Prop := ∀ b o, b ≠ d → b ≠ l → H b = some o → H' b = some o
theorem Sd.refl {d l : Addr} {H : Hp} : Sd d l H H := fun _ _ _ _ h => h
theorem Sd.trans {d l : Addr} {H H1 H2 : Hp} (a : Sd d l H H1) (b : Sd d l H1 H2) : Sd d l H H2 := fun c o h1 h2 h => b c o h1 h2 (a c o h1 h2 h)
theorem Sd.of {d l : Addr} {H H' : Hp} (a : Same H H') : Sd d l H H' := fun b o _ _ h => a b o h
theorem Sd.new {d l p : Addr} {H : Hp} {o : HO} (hp : H p = none) : Sd d l H (upd H p o) := fun b u _ _ h => by rw [upd_ne (ne_of_none h hp)]; exact h
theorem same_new' {H : Hp} {p : Addr} (h : H p = none) (o : HO) : Same H (upd H p o) := fun b u q => by rw [upd_ne (ne_of_none q h)]; exact q
theorem Same.tup {K : PySem.W.Frag} {H H' : Hp} {a : Addr} {xs : List V} (e : Same H H') (h : SqT K H a xs) : SqT K H' a xs := by
  rcases h with (h | ⟨o, h⟩) | h
  · exact .inl (.inl (e _ _ h))
  · exact .inl (.inr ⟨o, e _ _ h⟩)
  · exact .inr h
def dkv (s n : Int) (l : Addr) : List (Key × V) := [(.inr "seed", .int s), (.inr "number", .int n), (.inr "left", .ref l)]
structure Deal (H : Hp) (d l : Addr) (s n : Int) (ns : List Int) : Prop where
  d : H d = some (.dK (dkv s n l))
  l : H l = some (.lst (ns.map V.int))
  s0 : 0 ≤ s
  s1 : s < 2147483647
  n0 : 0 ≤ n
  ns0 : ∀ x ∈ ns, 0 ≤ x
def IsDeal (H : Hp) (d l : Addr) : Prop := ∃ s n ns, Deal H d l s n ns
section
variable {H H' : Hp} {d l p : Addr} {s n : Int} {ns : List Int} {o : HO}
theorem Deal.ne (D : Deal H d l s n ns) : d ≠ l := ne_of D.d D.l (by intro z; cases z)
theorem Deal.seed (D : Deal H d l s n ns) : DGet H d (.str "seed") (some (.int s)) := DGet.k (k := .inr "seed") D.d
theorem Deal.left (D : Deal H d l s n ns) : DGet H d (.str "left") (some (.ref l)) := DGet.k (k := .inr "left") D.d
theorem Deal.keep (D : Deal H d l s n ns) (e : Same H H') : Deal H' d l s n ns := ⟨e _ _ D.d, e _ _ D.l, D.s0, D.s1, D.n0, D.ns0⟩
theorem IsDeal.keep (D : IsDeal H d l) (e : Same H H') : IsDeal H' d l := let ⟨s, n, ns, D⟩ := D; ⟨s, n, ns, D.keep e⟩
theorem IsDeal.new (D : IsDeal H d l) (hp : H p = none) : IsDeal (upd H p o) d l := D.keep (same_new' hp o)
end
theorem seven {n : Nat} (h : n ≤ 1000) : n ≤ sizeLine := Nat.le_of_lt (small1000 h)
end L2
namespace PySem
open Sem (wp)
open AutoSeq1 (wpAny_loadPart')
set_option maxRecDepth 100000
section
variable {prog : Program} {w : World} {A : Around} {E : Value → Shared → Prop} {s : Shared}
theorem L2_nextOf_tuple_item {it t : Addr} {i : Nat} {items} {x : Value} {Q : Value → Shared → Prop} (hit : s.heap.IsTupleIter it t i)
    (ht : s.heap.IsTuple t items) (hx : items[i]? = some x)
    (hQ : ∀ h', h'.IsTupleIter it t (i + 1) → Heap.SameBut it s.heap h' → Q x { s with heap := h' }) :
    wpAny (model prog w) A (Builtin.SmallTypes.nextOf (.ref it)) Q E s := by
  obtain ⟨o, ho, hc, hd⟩ := id hit
  obtain ⟨ol, hol, _, nl, hdl⟩ := ht
  unfold Builtin.SmallTypes.nextOf
  refine wpAny_bind (wpAny_callSpecial?_slot (name := Str.ofString "__next__") hit.typeIs F.slot_tuple_iterator_next
    (wpAny_call_entry F.slot_tuple_iterator_next hit.typeIs F.entry_tuple_iterator_next ?_ (F.args_tuple_iterator_next_1 _)))
  show wpAny _ _ (field (.ref it) 0 >>= _) _ _ s
  refine wpAny_bind (wpAny_field ho hd (x := .ref t) rfl ?_)
  show wpAny _ _ (if (Value.ref t == Value.none) = true then _ else _) _ _ s
  rw [if_neg (show ¬ ((Value.ref t == Value.none) = true) from Bool.false_ne_true)]
  show wpAny _ _ (field (.ref it) 1 >>= _) _ _ s
  refine wpAny_bind (wpAny_field ho hd (x := .int i 0) rfl ?_)
  show wpAny _ _ (seqItems? (.ref t) >>= _) _ _ s
  refine wpAny_bind (wpAny_seqItems hol hdl ?_)
  simp only [Int.toNat_natCast, hx]
  refine wpAny_bind (wpAny_setField ho hd (by simp) (wpAny_pure ⟨x, rfl, wpAny_pure (hQ _ ?_ (Heap.SameBut.update ..))⟩))
  exact ⟨_, Heap.get?_update_self _ ho (Obj.isFreed_of_fields (Obj.data_mapFields hd _)), (Obj.cls_mapFields ..).trans hc, by
    rw [Obj.data_mapFields hd]; simp [rawInt]⟩
theorem L2_nextOf_tuple_end {it t : Addr} {i : Nat} {items} {Q : Value → Shared → Prop} (hh : A.handled = none)
    (hit : s.heap.IsTupleIter it t i) (ht : s.heap.IsTuple t items) (hx : items[i]? = none)
    (hE : ∀ h' e, Heap.ExtBut it s.heap h' → (∃ o, h'.get? e = some o ∧ o.cls = .type "StopIteration") → E (.ref e) { s with heap := h' }) :
    wpAny (model prog w) A (Builtin.SmallTypes.nextOf (.ref it)) Q E s := by
  obtain ⟨o, ho, hc, hd⟩ := id hit
  obtain ⟨ol, hol, _, nl, hdl⟩ := ht
  unfold Builtin.SmallTypes.nextOf
  refine wpAny_bind (wpAny_callSpecial?_slot (name := Str.ofString "__next__") hit.typeIs F.slot_tuple_iterator_next
    (wpAny_call_entry F.slot_tuple_iterator_next hit.typeIs F.entry_tuple_iterator_next ?_ (F.args_tuple_iterator_next_1 _)))
  show wpAny _ _ (field (.ref it) 0 >>= _) _ _ s
  refine wpAny_bind (wpAny_field ho hd (x := .ref t) rfl ?_)
  show wpAny _ _ (if (Value.ref t == Value.none) = true then _ else _) _ _ s
  rw [if_neg (show ¬ ((Value.ref t == Value.none) = true) from Bool.false_ne_true)]
  show wpAny _ _ (field (.ref it) 1 >>= _) _ _ s
  refine wpAny_bind (wpAny_field ho hd (x := .int i 0) rfl ?_)
  show wpAny _ _ (seqItems? (.ref t) >>= _) _ _ s
  refine wpAny_bind (wpAny_seqItems hol hdl ?_)
  simp only [Int.toNat_natCast, hx]
  refine wpAny_bind (wpAny_rule (wpAny_bind (wpAny_setField ho hd (by simp) ?_)))
  show wpAny _ _ (newExc (.type "StopIteration") [] >>= _) _ _ _
  refine wpAny_bind ?_
  simp only [newExc, newTuple]
  refine wpAny_bind (wpAny_newObj_type ?_ (by size_fits))
  refine wpAny_bind (m := firstArgMember _ _) (wpAny_of_eq (a := Value.none) (by first | rfl | (simp only [firstArgMember]; rfl)) ?_)
  refine wpAny_newObj_type ?_ (by size_fits)
  simp only [raiseNew]
  refine wpAny_bind (wpAny_handled ?_)
  first | rw [show A.in1.handled = none from hh] | rw [hh]
  refine wpAny_bind (wpAny_pure (wpAny_throw ?_))
  exact hE _ _ (((Heap.SameBut.update ..).extBut.push _).push _) ⟨_, Heap.get?_push_size _ rfl, rfl⟩
end
theorem L2_draws_tuple {prog : Program} {w : World} {A : Around} (hh : A.handled = none) (it l : Addr) (hne : l ≠ it) (items : Array Value) :
    Draws prog w A it [it, l] items.size (fun i v => items[i]? = some v) (fun i h => h.IsTupleIter it l i ∧ h.IsTuple l items) where
  live := fun _ _ st => let ⟨o, ho, _⟩ := st.1; ⟨o, ho⟩
  frame := fun _ _ _ st hk => ⟨st.1.at fun o e => hk it (by simp) o e, st.2.at fun o e => hk l (by simp) o e⟩
  item := fun i s Q E hi st hQ => by
    refine L2_nextOf_tuple_item st.1 st.2 (x := items[i]) (by simp [hi]) fun h' hit' hs' => ?_
    exact hQ _ h' s.toks (by simp [hi]) ⟨hit', st.2.extBut hs'.extBut hne⟩ hs'
  done := fun s Q E st hE => L2_nextOf_tuple_end hh st.1 st.2 (by simp) hE
theorem L2_meets_enum_tuple (l : Addr) (items : Array Value) (n : Nat) (dct : Option Addr) (sl : Array (Option Value)) :
    Meets (Builtin.«enumerate.__new__» ⟨[.type "enumerate", .ref l], []⟩) (fun _ R s => s.heap.get? l = some { cls := .type "tuple", dict := dct, data := .seq items n, slots := sl } ∧
      R (.ok (.ret (.ref (s.heap.push { cls := .type "tuple_iterator", data := .fields #[.ref l, .int 0 0] }).objs.size)))
        { s with heap := (s.heap.push { cls := .type "tuple_iterator", data := .fields #[.ref l, .int 0 0] }).push { cls := .type "enumerate", data := .fields #[.none, .bool false, .ref s.heap.objs.size, rawInt 0, .none, .none] } }) :=
  .of_wp fun prog w A R s h => by
    obtain ⟨hp, g, d, tk, os⟩ := s; obtain ⟨hl, h⟩ := h
    have hsub := sub_enumerate
    have hL : Heap.IsTuple (Shared.heap ⟨hp, g, d, tk, os⟩) l items := ⟨_, hl, rfl, n, rfl⟩
    wp_walk using wpAny_loadPart' hl
    refine wpAny_stack_any fun st => wpAny_pure ?_
    split
    · rename_i c _ _ _ _ _
      cases (c == Value.type "enumerate")
      · wp_walk using wpAny_loadPart' hl, wpAny_pyIter_tuple hL
        exact ⟨_, rfl, h⟩
      · wp_walk using wpAny_loadPart' hl, wpAny_pyIter_tuple hL
        exact ⟨_, rfl, h⟩
    · wp_walk using wpAny_loadPart' hl, wpAny_pyIter_tuple hL
      exact ⟨_, rfl, h⟩
section
variable {prog : Program} {w : World} {A : Around} {E : Value → Shared → Prop} {s : Shared}
theorem L2_call_enum_tuple {l : Addr} {items : Array Value} {Q : Value → Shared → Prop} (hL : s.heap.IsTuple l items)
    (h : ∀ h', IsEnum h' (s.heap.objs.size + 1) s.heap.objs.size 0 .none → h'.IsTupleIter s.heap.objs.size l 0 → h'.objs.size = s.heap.objs.size + 2 →
      (∀ b o, s.heap.get? b = some o → h'.get? b = some o) → Q (.ref (s.heap.objs.size + 1)) { s with heap := h' }) :
    wpAny (model prog w) A (call (.type "enumerate") [.ref l]) Q E s := by
  obtain ⟨⟨c, dct, dt, sl⟩, hl, hc, n, hd⟩ := hL
  replace hc : c = .type "tuple" := hc
  replace hd : dt = .seq items n := hd
  subst hc hd
  refine callType_new F.called_enumerate (by decide) (F.typeCall_enumerate_1 _) (F.newCall_enumerate_1 _) (fun obj => F.args_object_init_2 obj _) F.entry_enumerate_new
    (L2_meets_enum_tuple l items n dct sl) ⟨hl, ?_⟩
  have hz : (s.heap.push { cls := .type "tuple_iterator", data := .fields #[.ref l, .int 0 0] }).objs.size = s.heap.objs.size + 1 := Heap.size_push ..
  show _ ∧ _
  rw [hz]
  have he : IsEnum ((s.heap.push { cls := .type "tuple_iterator", data := .fields #[.ref l, .int 0 0] }).push
      { cls := .type "enumerate", data := .fields #[.none, .bool false, .ref s.heap.objs.size, rawInt 0, .none, .none] }) (s.heap.objs.size + 1) s.heap.objs.size 0 .none := by
    have := Heap.get?_push_size (s.heap.push { cls := .type "tuple_iterator", data := .fields #[.ref l, .int 0 0] })
      (o := { cls := .type "enumerate", data := .fields #[.none, .bool false, .ref s.heap.objs.size, rawInt 0, .none, .none] }) rfl
    rw [hz] at this; exact this
  refine ⟨⟨_, he, rfl⟩, h _ he ⟨_, Heap.get?_push_of_some _ (Heap.get?_push_size _ rfl), rfl, rfl⟩ (by rw [Heap.size_push, hz]) fun b o x => Heap.get?_push_of_some _ (Heap.get?_push_of_some _ x)⟩
end
end PySem
namespace L2
open PySem PySem.Spec PyProof.Rows
mutual
def Dt (H : Hp) : PyData → V → Prop
  | .none, x => x = .non
  | .bool b, x => x = .bl b
  | .int i, x => x = .int i
  | .str z, x => x = .str z
  | .list ds, x => ∃ a xs, x = .ref a ∧ H a = some (.lst xs) ∧ DtAll H ds xs
  | .tuple ds, x => ∃ a xs, x = .ref a ∧ H a = some (.tup xs) ∧ DtAll H ds xs
  | .dict _, _ => False
def DtAll (H : Hp) : List PyData → List V → Prop
  | [], xs => xs = []
  | d :: ds, xs => ∃ x r, xs = x :: r ∧ Dt H d x ∧ DtAll H ds r
end
def SameT (H H' : Hp) : Prop := ∀ b xs, H b = some (.tup xs) → H' b = some (.tup xs)
theorem SameT.of {H H' : Hp} (S : Same H H') : SameT H H' := fun b xs h => S b _ h
theorem SameT.refl {H : Hp} : SameT H H := fun _ _ h => h
theorem SameT.trans {H H1 H2 : Hp} (a : SameT H H1) (b : SameT H1 H2) : SameT H H2 := fun c xs h => b c xs (a c xs h)
theorem SameT.new {H : Hp} {p : Addr} (h : H p = none) (o : HO) : SameT H (upd H p o) := SameT.of (same_new' h o)
mutual
theorem Dt.mono {H H' : Hp} (S : Same H H') : ∀ (d : PyData) (x : V), Dt H d x → Dt H' d x
  | .none, x, h => by simp only [Dt] at h ⊢; exact h
  | .bool b, x, h => by simp only [Dt] at h ⊢; exact h
  | .int i, x, h => by simp only [Dt] at h ⊢; exact h
  | .str z, x, h => by simp only [Dt] at h ⊢; exact h
  | .list ds, x, h => by
    simp only [Dt] at h ⊢
    obtain ⟨a, xs, e, q, r⟩ := h
    exact ⟨a, xs, e, S _ _ q, DtAll.mono S ds xs r⟩
  | .tuple ds, x, h => by
    simp only [Dt] at h ⊢
    obtain ⟨a, xs, e, q, r⟩ := h
    exact ⟨a, xs, e, S _ _ q, DtAll.mono S ds xs r⟩
  | .dict _, x, h => by simp only [Dt] at h
theorem DtAll.mono {H H' : Hp} (S : Same H H') : ∀ (ds : List PyData) (xs : List V), DtAll H ds xs → DtAll H' ds xs
  | [], xs, h => by simp only [DtAll] at h ⊢; exact h
  | d :: ds, xs, h => by
    simp only [DtAll] at h ⊢
    obtain ⟨x, r, e, h1, h2⟩ := h
    exact ⟨x, r, e, Dt.mono S d x h1, DtAll.mono S ds r h2⟩
end
theorem Dt.tup {H : Hp} {x : V} {ds : List PyData} (h : Dt H (.tuple ds) x) : ∃ a xs, x = .ref a ∧ H a = some (.tup xs) ∧ DtAll H ds xs := by
  simp only [Dt] at h; exact h
theorem Dt.lst {H : Hp} {x : V} {ds : List PyData} (h : Dt H (.list ds) x) : ∃ a xs, x = .ref a ∧ H a = some (.lst xs) ∧ DtAll H ds xs := by
  simp only [Dt] at h; exact h
theorem Dt.int {H : Hp} {x : V} {i : Int} (h : Dt H (.int i) x) : x = .int i := by simp only [Dt] at h; exact h
theorem Dt.str {H : Hp} {x : V} {z : Str} (h : Dt H (.str z) x) : x = .str z := by simp only [Dt] at h; exact h
theorem dts_nil {H : Hp} : DtAll H [] [] := by simp only [DtAll]
theorem dts_cons {H : Hp} {d : PyData} {ds : List PyData} {x : V} {xs : List V} (h : Dt H d x) (r : DtAll H ds xs) : DtAll H (d :: ds) (x :: xs) := by
  simp only [DtAll]; exact ⟨x, xs, rfl, h, r⟩
theorem DtAll.cons {H : Hp} {d : PyData} {ds : List PyData} {xs : List V} (h : DtAll H (d :: ds) xs) : ∃ x r, xs = x :: r ∧ Dt H d x ∧ DtAll H ds r := by
  simp only [DtAll] at h; exact h
theorem DtAll.nil {H : Hp} {xs : List V} (h : DtAll H [] xs) : xs = [] := by simp only [DtAll] at h; exact h
theorem DtAll.length {H : Hp} : ∀ {ds : List PyData} {xs : List V}, DtAll H ds xs → xs.length = ds.length
  | [], _, h => by rw [h.nil]; rfl
  | _ :: ds, _, h => by
    obtain ⟨x, r, rfl, _, h2⟩ := h.cons
    rw [List.length_cons, List.length_cons, DtAll.length h2]
theorem DtAll.get {H : Hp} : ∀ {ds : List PyData} {xs : List V} {i : Nat} {d : PyData}, DtAll H ds xs → ds[i]? = some d → ∃ x, xs[i]? = some x ∧ Dt H d x
  | [], _, _, _, _, e => by simp at e
  | _ :: ds, _, 0, d, h, e => by
    obtain ⟨x, r, rfl, h1, _⟩ := h.cons
    simp at e; subst e
    exact ⟨x, rfl, h1⟩
  | _ :: ds, _, i + 1, d, h, e => by
    obtain ⟨x, r, rfl, _, h2⟩ := h.cons
    obtain ⟨y, e1, e2⟩ := DtAll.get (i := i) (d := d) h2 (by simpa using e)
    exact ⟨y, by simpa using e1, e2⟩
theorem DtAll.append {H : Hp} : ∀ {ds es : List PyData} {xs ys : List V}, DtAll H ds xs → DtAll H es ys → DtAll H (ds ++ es) (xs ++ ys)
  | [], _, _, _, h, k => by rw [h.nil]; exact k
  | _ :: ds, _, _, _, h, k => by
    obtain ⟨x, r, rfl, h1, h2⟩ := h.cons
    exact dts_cons h1 (DtAll.append h2 k)
theorem DtAll.snoc {H : Hp} {ds : List PyData} {xs : List V} {d : PyData} {x : V} (h : DtAll H ds xs) (k : Dt H d x) : DtAll H (ds ++ [d]) (xs ++ [x]) := h.append (dts_cons k dts_nil)
theorem DtAll.drop {H : Hp} : ∀ (n : Nat) {ds : List PyData} {xs : List V}, DtAll H ds xs → DtAll H (ds.drop n) (xs.drop n)
  | 0, _, _, h => h
  | _ + 1, [], _, h => by rw [h.nil]; exact dts_nil
  | n + 1, _ :: ds, _, h => by
    obtain ⟨x, r, rfl, _, h2⟩ := h.cons
    exact DtAll.drop n h2
theorem DtAll.take {H : Hp} : ∀ (n : Nat) {ds : List PyData} {xs : List V}, DtAll H ds xs → DtAll H (ds.take n) (xs.take n)
  | 0, _, _, _ => dts_nil
  | _ + 1, [], _, h => by rw [h.nil]; exact dts_nil
  | n + 1, _ :: ds, _, h => by
    obtain ⟨x, r, rfl, h1, h2⟩ := h.cons
    exact dts_cons h1 (DtAll.take n h2)
def cutD (ds : List PyData) (lo hi : Option Int) : List PyData := (ds.drop (HT.sIx ds.length 0 lo)).take (HT.sIx ds.length ds.length hi - HT.sIx ds.length 0 lo)
theorem DtAll.cut {H : Hp} {ds : List PyData} {xs : List V} (h : DtAll H ds xs) (lo hi : Option Int) : DtAll H (cutD ds lo hi) (cutV xs lo hi) := by
  unfold cutD cutV
  rw [h.length]
  exact (h.drop _).take _
mutual
theorem Dt.reads {X : Cx} {pins : List (Addr × Obj)} {σ : St} {H : Hp} {s : Shared} (I : Inv X pins σ H s) : ∀ (d : PyData) (x : V) (u : Value), Dt H d x → RelV x u → ∃ as, Reads s.heap u d as
  | .none, x, u, h, r => by simp only [Dt] at h; subst h; cases r; exact ⟨_, .none⟩
  | .bool b, x, u, h, r => by simp only [Dt] at h; subst h; cases r; exact ⟨_, .bool b⟩
  | .int i, x, u, h, r => by simp only [Dt] at h; subst h; obtain ⟨t, rfl⟩ := r; exact ⟨_, .int i t⟩
  | .str z, x, u, h, r => by simp only [Dt] at h; subst h; obtain ⟨t, rfl⟩ := r; exact ⟨_, .str z t⟩
  | .list ds, x, u, h, r => by
    obtain ⟨a, xs, rfl, q, k⟩ := h.lst
    cases r
    obtain ⟨z, its, n, rv, e⟩ := I.hok a _ q
    obtain ⟨as, ra⟩ := DtAll.reads I ds xs its k rv
    exact ⟨_, .list e rfl rfl (by simpa using ra)⟩
  | .tuple ds, x, u, h, r => by
    obtain ⟨a, xs, rfl, q, k⟩ := h.tup
    cases r
    obtain ⟨z, its, rv, o, e, c, n, d⟩ := I.hok a _ q
    obtain ⟨as, ra⟩ := DtAll.reads I ds xs its k rv
    exact ⟨_, .tuple e c d (by simpa using ra)⟩
  | .dict _, x, u, h, _ => by simp only [Dt] at h
theorem DtAll.reads {X : Cx} {pins : List (Addr × Obj)} {σ : St} {H : Hp} {s : Shared} (I : Inv X pins σ H s) : ∀ (ds : List PyData) (xs : List V) (us : List Value), DtAll H ds xs → Vals xs us → ∃ as, ReadsAll s.heap us ds as
  | [], xs, us, h, r => by
    have e := h.nil
    subst e
    cases r
    exact ⟨_, .nil⟩
  | d :: ds, xs, us, h, r => by
    obtain ⟨x, xr, rfl, h1, h2⟩ := h.cons
    cases r with
    | cons r1 r2 =>
      obtain ⟨as, ra⟩ := Dt.reads I d x _ h1 r1
      obtain ⟨bs, rb⟩ := DtAll.reads I ds xr _ h2 r2
      exact ⟨_, .cons ra rb⟩
end
structure OkB (dep wt : Nat) (d : PyData) : Prop where
  lay : d.canLay0 = true
  dp : d.depth ≤ dep
  wt : d.weight ≤ wt
  sh : d.intsShort 13 = true
  sw : d.showable = true
structure OkBs (dep wt : Nat) (ds : List PyData) : Prop where
  lay : PyData.canLayAll0 ds = true
  dp : PyData.depthAll ds ≤ dep
  wt : PyData.weightAll ds ≤ wt
  sh : PyData.intsShortAll 13 ds = true
  sw : PyData.showableAll ds = true
theorem OkBs.nil {dep wt : Nat} : OkBs dep wt [] := ⟨rfl, by simp [PyData.depthAll], by simp [PyData.weightAll], rfl, rfl⟩
theorem OkBs.cons {dep w1 w2 : Nat} {d : PyData} {ds : List PyData} (h : OkB dep w1 d) (r : OkBs dep w2 ds) : OkBs dep (w1 + 1 + w2) (d :: ds) := by
  refine ⟨?_, ?_, ?_, ?_, ?_⟩
  · simp only [PyData.canLayAll0, h.lay, r.lay, Bool.and_self]
  · simp only [PyData.depthAll]; exact Nat.max_le.mpr ⟨h.dp, r.dp⟩
  · simp only [PyData.weightAll]; have := h.wt; have := r.wt; omega
  · simp only [PyData.intsShortAll, h.sh, r.sh, Bool.and_self]
  · simp only [PyData.showableAll, h.sw, r.sw, Bool.and_self]
theorem OkBs.mono {dep wt d' w' : Nat} {ds : List PyData} (h : OkBs dep wt ds) (h1 : dep ≤ d') (h2 : wt ≤ w') : OkBs d' w' ds := ⟨h.lay, Nat.le_trans h.dp h1, Nat.le_trans h.wt h2, h.sh, h.sw⟩
theorem OkB.mono {dep wt d' w' : Nat} {d : PyData} (h : OkB dep wt d) (h1 : dep ≤ d') (h2 : wt ≤ w') : OkB d' w' d := ⟨h.lay, Nat.le_trans h.dp h1, Nat.le_trans h.wt h2, h.sh, h.sw⟩
theorem OkBs.cons' {dep w1 w2 w3 : Nat} {d : PyData} {ds : List PyData} (h : OkB dep w1 d) (r : OkBs dep w2 ds) (e : w1 + 1 + w2 ≤ w3) : OkBs dep w3 (d :: ds) := (OkBs.cons h r).mono (Nat.le_refl _) e
theorem OkBs.all {dep w n : Nat} {ds : List PyData} (h : ∀ d ∈ ds, OkB dep w d) (hn : ds.length ≤ n) : OkBs dep (n * (w + 1)) ds := by
  induction ds generalizing n with
  | nil => exact OkBs.nil
  | cons d ds ih =>
    cases n with
    | zero => simp at hn
    | succ m =>
      refine OkBs.cons' (h d List.mem_cons_self) (ih (n := m) (fun e he => h e (List.mem_cons_of_mem _ he)) (by simp at hn; omega)) ?_
      rw [Nat.succ_mul]; omega
theorem OkBs.tup {dep w : Nat} {ds : List PyData} (h : OkBs dep w ds) : OkB (dep + 1) w (.tuple ds) :=
  ⟨by simp only [PyData.canLay0, h.lay], by simp only [PyData.depth]; exact Nat.succ_le_succ h.dp, by simp only [PyData.weight]; exact h.wt, by simp only [PyData.intsShort, h.sh], by simp only [PyData.showable, h.sw]⟩
theorem OkBs.lst {dep w : Nat} {ds : List PyData} (h : OkBs dep w ds) : OkB (dep + 1) w (.list ds) :=
  ⟨by simp only [PyData.canLay0, h.lay], by simp only [PyData.depth]; exact Nat.succ_le_succ h.dp, by simp only [PyData.weight]; exact h.wt, by simp only [PyData.intsShort, h.sh], by simp only [PyData.showable, h.sw]⟩
structure OkD (d : PyData) : Prop where
  lay : d.layable0 = true
  sh : d.intsShort 13 = true
  sw : d.showable = true
theorem OkB.ok {dep w : Nat} {d : PyData} (h : OkB dep w d) (h1 : dep ≤ 64) (h2 : w ≤ 1048576) : OkD d := by
  refine ⟨?_, h.sh, h.sw⟩
  show (d.canLay0 && decide (d.depth ≤ 64) && decide (d.weight ≤ 2 ^ 20)) = true
  rw [h.lay, decide_eq_true (Nat.le_trans h.dp h1), decide_eq_true (Nat.le_trans h.wt (show w ≤ 2 ^ 20 by simpa using h2))]
  rfl
theorem OkD.can {d : PyData} (h : OkD d) : d.canLay0 = true := SeqAt.canLay_of_layable h.lay
theorem OkD.depth {d : PyData} (h : OkD d) : d.depth ≤ 64 := SeqAt.depth_of_layable h.lay
section
variable {X : Cx} {k : Nat}
noncomputable def eqR (h : Heap) (e : PyData) (u : Value) : Bool := @decide (∃ d as, Reads h u d as ∧ d.canLay0 = true ∧ PyData.eqv d e = true) (Classical.propDecidable _)
theorem eqR_of {h : Heap} {e d : PyData} {u : Value} {as : List Addr} (r : Reads h u d as) (c : d.canLay0 = true) : eqR h e u = PyData.eqv d e := by
  unfold eqR
  cases q : PyData.eqv d e with
  | true => exact @decide_eq_true _ (Classical.propDecidable _) ⟨d, as, r, c, q⟩
  | false =>
    refine @decide_eq_false _ (Classical.propDecidable _) fun ⟨d', as', r', _, q'⟩ => ?_
    rw [SeqAt.Reads.unique d d' u as as' c r r', q'] at q
    cases q
theorem items_eqR {A : Around} {s : Shared} {e : PyData} {v : Value} {bs : List Addr} (rv : Reads s.heap v e bs) (ce : e.canLay0 = true) (hu : A.units + 64 < cLine) : ∀ {ds : List PyData} {us : List Value} {as : List Addr}, ReadsAll s.heap us ds as →
    PyData.canLayAll0 ds = true → PyData.depthAll ds ≤ 64 → (∀ u ∈ us, SeqAt.EqAt A s u v (eqR s.heap e u)) ∧ us.any (eqR s.heap e) = ds.any fun d => PyData.eqv d e
  | [], _, _, r, _, _ => by
    cases r
    exact ⟨(fun _ z => nomatch z), rfl⟩
  | d :: ds, _, _, r, c, dp => by
    cases r with
    | cons r1 r2 =>
      simp only [PyData.canLayAll0, Bool.and_eq_true] at c
      simp only [PyData.depthAll] at dp
      obtain ⟨i1, i2⟩ := items_eqR rv ce hu r2 c.2 (by omega)
      have e1 := eqR_of (e := e) r1 c.1
      refine ⟨fun u hu' => ?_, ?_⟩
      · rcases List.mem_cons.mp hu' with rfl | z
        · rw [e1]
          exact SeqAt.eqAt_reads d e A s _ v _ _ r1 rv c.1 ce (by omega)
        · exact i1 u z
      · rw [List.any_cons, List.any_cons, e1, i2]
end
end L2
namespace L2
open PySem PySem.Spec PyProof.Rows
section
variable {X : Cx} {pins : List (Addr × Obj)} {σ : St} {H : Hp} {s : Shared} {h' : Heap}
theorem Inv.turnedL {t' : Nat} {fp : List Addr} (I : Inv X pins σ H s) (k : ∀ b o, b ∉ fp → s.heap.get? b = some o → h'.get? b = some o) (hf : ∀ b ∈ fp, FpOk X pins H b) : Inv X pins σ H { s with heap := h', toks := t' } := by
  have nit : ∀ b u, H b = some u → b ∉ fp := fun b u e z => by rw [(hf b z).1] at e; cases e
  have nL : X.env.locals ∉ fp := fun z => (hf _ z).2.1 rfl
  refine I.step (g' := s.gens) (d' := s.drawn) (ch := fp) (fun b hb => ?_) (fun b o _ _ hc e _ => k b o hc e) (fun b o _ _ hc e _ => ⟨o.slots, k b o hc e⟩) (fun _ _ _ _ n => n)
    (fun b o hc e => ⟨o, k b o hc e⟩) (fun _ _ e => e) (fun _ _ _ e => e) (fun b ps e => ⟨#[], by rw [e]; simp⟩) (fun m hm => ?_) (fun b u e => ?_) I.bare
  · obtain ⟨_, f1, _, f3, f4, f5⟩ := hf b hb
    exact ⟨f3, f1, f4, f5⟩
  · obtain ⟨o, es, ep, ho, r⟩ := hm
    exact ⟨o, es, ep, k _ o nL ho, r⟩
  · refine (I.hok b u e).stay (fun c v hc q => k c v ?_ q) (fun _ q => q) fun _ _ q => q
    rcases hc with z | z
    · rw [z]; exact nit b u e
    · exact nit c _ z
theorem Inv.track {T : Addr} {o : HO} (I : Inv X pins σ H s) (hT : FpOk X pins H T) (new : ObjOk X.prog X.w (upd H T o) s.heap T o) : Inv X pins σ (upd H T o) s := by
  obtain ⟨f0, f1, _, f3, f4, f5⟩ := hT
  have nT : ∀ b u, H b = some u → b ≠ T := fun b u e z => by rw [z, f0] at e; cases e
  refine I.step (H' := upd H T o) (h' := s.heap) (g' := s.gens) (d' := s.drawn) (t' := s.toks) (ch := [T]) (fun b hb => ?_) (fun b o _ _ _ e _ => e) (fun b o _ _ _ e _ => ⟨o.slots, e⟩)
    (fun b u hc _ n => by rw [upd_ne (fun z => hc (by simp [z]))]; exact n) (fun b o _ e => ⟨o, e⟩) (fun b xs e => by rw [upd_ne (nT b _ e)]; exact e) (fun b u v e => by rw [upd_ne (nT b _ e)]; exact e)
    (fun b ps e => ⟨#[], by rw [upd_ne (nT b _ e), e]; simp⟩) (fun m hm => hm) (fun b u e => ?_) I.bare
  · have e : b = T := by simpa using hb
    subst e
    exact ⟨f3, f1, f4, f5⟩
  · by_cases hb : b = T
    · subst hb
      rw [upd_same] at e
      cases e
      exact new
    · rw [upd_ne hb] at e
      exact (I.hok b u e).stay (fun _ _ _ q => q) (fun c q => by rw [upd_ne (nT c _ q)]; exact q) fun c xs q => by rw [upd_ne (nT c _ q)]; exact q
end
def Ien (K : PySem.W.Frag) (a : Addr) : It :=
  ⟨fun i H => ∃ xs x, SqT K H a xs ∧ xs[i]? = some x,
   fun i H v H' => ∃ T x, H T = none ∧ v = .ref T ∧ H' = upd H T (.tup [.int i, x]) ∧ ∀ xs, SqT K H a xs → xs[i]? = some x,
   fun i H => ∃ xs, SqT K H a xs ∧ xs.length = i⟩
theorem turn_enum {P : Program} {w : World} {K : PySem.W.Frag} {elts : List Expr} {k : Nat} {pos : Pos} (a e it : Addr) (hei : e ≠ it) :
    Turn P w K (.Tuple elts k pos) (Ien K a) [e, it] e (fun i h => (∃ old, IsEnum h e it i old) ∧ h.IsTupleIter it a i) where
  mem := by simp
  obj := fun i h st b hb => by
    rcases List.mem_cons.mp hb with rfl | hb
    · obtain ⟨⟨old, he⟩, _⟩ := st
      exact ⟨_, he, fun v z => nomatch z⟩
    · have q : b = it := by simpa using hb
      subst q
      obtain ⟨_, o, e, c, d⟩ := st
      exact ⟨o, e, fun v z => by rw [d] at z; cases z⟩
  keep := fun i h h' st k => ⟨let ⟨old, he⟩ := st.1; ⟨old, k e (by simp) _ he⟩, st.2.at fun o q => k it (by simp) o q⟩
  item := by
    intro X hP hw hK hc i pins s σ H E I hf st hg
    subst hP hw hK
    obtain ⟨xs, x, hq, hx⟩ := hg
    obtain ⟨its, rv, p, hz⟩ := I.tuple hq
    obtain ⟨u, hu, ru⟩ := rv.get hx
    obtain ⟨⟨old, he⟩, hit⟩ := id st
    have hae : a ≠ e := by
      intro z; subst z
      obtain ⟨o, ho, hcl, _⟩ := p
      rw [he] at ho; cases ho
      exact absurd hcl (by intro z; injection z with z; exact absurd z (by decide))
    have hai : a ≠ it := by
      intro z; subst z
      obtain ⟨o, ho, hcl, _⟩ := p
      obtain ⟨o', ho', hcl', _⟩ := hit
      rw [ho] at ho'; cases ho'
      rw [hcl] at hcl'
      exact absurd hcl' (by intro z; injection z with z; exact absurd z (by decide))
    have W := WalksT.enumerateD (prog := X.prog) (w := X.w) (A := X.A) (L2_draws_tuple (A := X.A.in1) (I.ok.hd hc) it a hai its.toArray) e hei (by simp [hei, Ne.symm hae]) (by simp)
    refine W.item i s _ _ (by rw [List.size_toArray]; exact (List.getElem?_eq_some_iff.mp hu).1) ⟨⟨old, he⟩, hit, p⟩ fun T vals h' tk hv hT ht hm kk => ?_
    have apart := W.apart i T h' hm
    refine ⟨_, rfl, W.go elts k pos i T _ _ _ hm fun h'' st'' kk'' => ?_⟩
    obtain ⟨t, x', hx', rfl⟩ := hv
    have hxu : x' = u := by
      have : its[i]? = some x' := by simpa using hx'
      rw [hu] at this; exact (Option.some.inj this).symm
    subst hxu
    have I1 : Inv X pins σ H { s with heap := h', toks := tk } := I.turnedL kk hf
    have I2 : Inv X pins σ H { s with heap := h'', toks := tk } := I1.turnedL (s := { s with heap := h', toks := tk }) (t' := tk) kk'' hf
    have fT : FpOk X pins H T := I.fpOk hT (I.hok.fresh hT)
    have ht'' : IsTup h'' T #[.int i t, x'] := let ⟨o, ho, r⟩ := ht; ⟨o, kk'' T o apart ho, r⟩
    refine ⟨.ref T, upd H T (.tup [.int i, x]), I2.track fT ⟨by show 2 ≤ sizeLine; decide, [.int i t, x'], .cons ⟨t, rfl⟩ (.cons ru .nil), ht''⟩, rfl, ⟨T, x, fT.1, rfl, rfl, fun ys hy => by rw [I.tuple_inj hy hq]; exact hx⟩, ⟨st''.1, st''.2.1⟩, fun b hb => ?_⟩
    have hb' : b ≠ T := by
      rcases List.mem_cons.mp hb with rfl | hb
      · exact Nat.ne_of_lt (Nat.lt_of_lt_of_le (Heap.lt_size he) hT)
      · have q : b = it := by simpa using hb
        subst q
        obtain ⟨o, ho, _⟩ := hit
        exact Nat.ne_of_lt (Nat.lt_of_lt_of_le (Heap.lt_size ho) hT)
    rw [upd_ne hb']
    exact (hf b hb).1
  done := by
    intro X hP hw hK hc i pins s σ H E I hf st hg
    subst hP hw hK
    obtain ⟨xs, hq, hl⟩ := hg
    obtain ⟨its, rv, p, hz⟩ := I.tuple hq
    obtain ⟨⟨old, he⟩, hit⟩ := id st
    have hae : a ≠ e := by
      intro z; subst z
      obtain ⟨o, ho, hcl, _⟩ := p
      rw [he] at ho; cases ho
      exact absurd hcl (by intro z; injection z with z; exact absurd z (by decide))
    have hai : a ≠ it := by
      intro z; subst z
      obtain ⟨o, ho, hcl, _⟩ := p
      obtain ⟨o', ho', hcl', _⟩ := hit
      rw [ho] at ho'; cases ho'
      rw [hcl] at hcl'
      exact absurd hcl' (by intro z; injection z with z; exact absurd z (by decide))
    have W := WalksT.enumerateD (prog := X.prog) (w := X.w) (A := X.A) (L2_draws_tuple (A := X.A.in1) (I.ok.hd hc) it a hai its.toArray) e hei (by simp [hei, Ne.symm hae]) (by simp)
    have hn : its.toArray.size = i := by rw [List.size_toArray, ← rv.length]; exact hl
    subst hn
    exact W.done s _ _ ⟨⟨old, he⟩, hit, p⟩ fun h' tk kk => ⟨rfl, I.turnedL kk hf⟩
  self := fun A i s Q E st h => let ⟨⟨_, he⟩, _⟩ := st; wpAny_pyIter_enum he h
section
variable {X : Cx}
theorem for_of {J : It} {g : TG} {tb : TS} {D : Ends} {σ : St} {H : Hp} (n : Nat) (Pv : Nat → St → Hp → Prop) (h0 : Pv 0 σ H) (hgo : ∀ i σ H, i < n → Pv i σ H → J.go i H) (hstop : ∀ σ H, Pv n σ H → J.stop n H ∧ D.nx σ H)
    (hs : ∀ i x σ H H2, i < n → Pv i σ H → J.yld i H x H2 → g x σ H2 fun σ2 H3 => tb { D with nx := Pv (i + 1), ct := Pv (i + 1), bk := D.nx } σ2 H3) :
    ∃ W : Nat → Nat → St → Hp → Prop, (∃ m, W 0 m σ H) ∧ ∀ i m σ H, W i m σ H →
      (J.stop i H ∧ D.nx σ H) ∨ (J.go i H ∧ ∃ N : St → Hp → Prop, (∀ σ' H', N σ' H' → ∃ m', m' < m ∧ W (i + 1) m' σ' H') ∧ ∀ x H', J.yld i H x H' → g x σ H' fun σ2 H2 => tb { D with nx := N, ct := N, bk := D.nx } σ2 H2) := by
  refine ⟨fun i m σ H => m = n - i ∧ i ≤ n ∧ Pv i σ H, ⟨n, by simp, Nat.zero_le _, h0⟩, ?_⟩
  rintro i m σ H ⟨rfl, hi, p⟩
  by_cases hlt : i < n
  · exact .inr ⟨hgo i σ H hlt p, Pv (i + 1), fun σ' H' p' => ⟨n - (i + 1), by omega, rfl, hlt, p'⟩, fun x H' y => hs i x σ H H' hlt p y⟩
  · have e : i = n := by omega
    subst e
    exact .inl (hstop σ H p)
def tPar3 (i j l : Nat) (ta : TA) : TS := fun D σ H => ta σ H fun vs H1 => ∃ u v w, vs = [u, v, w] ∧ D.nx (((σ.set i (some u)).set j (some v)).set l (some w)) H1
theorem ps_par3 {i j l : Nat} {x y z : Str} {a b c : Expr} {ta : TA} {px py pz pt pos : Pos} {kt k2 pt2} (hc : X.calm = true) (hN : X.N.Nodup) (hi : X.N[i]? = some x) (hj : X.N[j]? = some y) (hl : X.N[l]? = some z) (hij : i ≠ j) (hil : i ≠ l) (hjl : j ≠ l)
    (hx : X.env.scope.names.lookup x = some .local) (hy : X.env.scope.names.lookup y = some .local) (hz : X.env.scope.names.lookup z = some .local) (ha : PA X [a, b, c] ta)
    (hw : swappedStores [.Tuple [.Name x px, .Name y py, .Name z pz] kt pt] (.Tuple [a, b, c] k2 pt2) X.env = pure (some [x, y, z]))
    (hs : swapsWithSole [.Tuple [.Name x px, .Name y py, .Name z pz] kt pt] (.Tuple [a, b, c] k2 pt2) pos.line X.env = pure false := by rfl) :
    PS X (.Assign [.Tuple [.Name x px, .Name y py, .Name z pz] kt pt] (.Tuple [a, b, c] k2 pt2) pos) (tPar3 i j l ta) := by
  intro pins s σ H D I h
  rw [exec_Assign_arm]
  refine wpAny_bind (wpAny_standAt ?_)
  rw [hs]
  refine wpAny_bind (wpAny_pure ?_)
  rw [if_neg (by decide)]
  refine wpAny_bind (Tuple_ (thn (ha _ pins s σ H _ I h) fun us s1 ⟨vs, H1, I1, r1, q1⟩ => ?_))
  obtain ⟨u, v, w, e1, q1⟩ := q1
  subst e1
  obtain ⟨u1, u2, u3, rfl, ru, rv, rw'⟩ : ∃ u1 u2 u3, us = [u1, u2, u3] ∧ RelV u u1 ∧ RelV v u2 ∧ RelV w u3 := by
    cases r1 with
    | cons p q =>
      cases q with
      | cons p' q' =>
        cases q' with
        | cons p'' q'' =>
          cases q''
          exact ⟨_, _, _, rfl, p, p', p''⟩
  refine wpAny_newObj_type ?_ (by show 3 ≤ sizeLine; decide)
  have I2 : Inv X pins σ H1 { s1 with heap := s1.heap.push { cls := .type "tuple", data := .seq [u1, u2, u3].toArray } } := I1.kept (t' := s1.toks) fun b o e => Heap.get?_push_of_some _ e
  rw [hw]
  refine wpAny_bind (wpAny_pure ?_)
  show wpAny (model X.prog X.w) X.A (do rule "assign.swapped-stores"; let items ← unpackItems (.ref s1.heap.objs.size) 3 none; assignInOrder [fun v => bindName X.env z v, fun v => bindName X.env y v, fun v => bindName X.env x v] items.reverse; pure Flow.next) _ _ _
  refine wpAny_bind (wpAny_rule (wpAny_bind (unpackItems_tuple (items := #[u1, u2, u3]) (I.ok.hd hc) (IsTup.new s1.heap _) fun h' hx' => ?_)))
  have I3 := I2.kept (h' := h') (t' := s1.toks) fun b o e => hx' b o (Nat.ne_of_lt (Heap.lt_size e)) e
  show wpAny _ _ (assignInOrder [fun v => bindName X.env z v, fun v => bindName X.env y v, fun v => bindName X.env x v] [u3, u2, u1] >>= fun _ => pure Flow.next) _ _ _
  refine wpAny_bind (assignInOrder_cons (wpAny_bindName (store_ok I3 hN hl (.inl hz) rw' (fun s2 I4 => ?_) (.inr hz))))
  refine assignInOrder_cons (wpAny_bindName (store_ok I4 hN hj (.inl hy) rv (fun s3 I5 => ?_) (.inr hy)))
  refine assignInOrder_cons (wpAny_bindName (store_ok I5 hN hi (.inl hx) ru (fun s4 I6 => assignInOrder_nil (wpAny_pure ?_)) (.inr hx)))
  have e1 : ((σ.set l (some w)).set j (some v)).set i (some u) = ((σ.set l (some w)).set i (some u)).set j (some v) := List.set_comm _ _ (Ne.symm hij)
  have e2 : (σ.set l (some w)).set i (some u) = (σ.set i (some u)).set l (some w) := List.set_comm _ _ (Ne.symm hil)
  have e3 : ((σ.set i (some u)).set l (some w)).set j (some v) = ((σ.set i (some u)).set j (some v)).set l (some w) := List.set_comm _ _ (Ne.symm hjl)
  rw [e1, e2, e3] at I6
  exact ⟨_, H1, I6, q1⟩
theorem op_mul_str01 : OpR X (binaryOp .Mult) (fun x y H Q => ∃ z n, x = .str z ∧ y = .int n ∧ (n = 0 ∨ n = 1) ∧ Q (.str (if n = 0 then Str.empty else z)) H) := by
  intro pins s σ H x y v u Q I rx ry h
  obtain ⟨z, n, rfl, rfl, hn, q⟩ := h
  obtain ⟨t, rfl⟩ := rx
  obtain ⟨t', rfl⟩ := ry
  rcases hn with rfl | rfl
  · exact P.mul_str_none (by decide) (by decide) ⟨.str Str.empty, H, I.tok _, ⟨_, rfl⟩, by simpa using q⟩
  · refine P.mul_str (by decide) (fun _ z => by simp at z) (fun _ z => by simp at z) ?_
    rw [if_neg (by decide), if_pos (by simp)]
    exact ⟨.str z, H, I, ⟨_, rfl⟩, by simpa using q⟩
end
theorem Same.tr {H H1 H2 : Hp} (a : Same H H1) (b : Same H1 H2) : Same H H2 := fun c o h => b c o (a c o h)
end L2
namespace L2
open PySem PySem.Spec PyProof.Rows
section
variable {X : Cx}
end
end L2
namespace HT
open PySem PySem.Spec PyProof.Rows
section
variable {prog : Program} {w : World} {A : Around} {E : Value → Shared → Prop} {s : Shared}
theorem getItem_tuple_all {t sl : Addr} {items : Array Value} {vl vu : Value} {lo hi : Option Int} {Q : Value → Shared → Prop} (ht : IsTup s.heap t items) (hs : s.heap.IsSliceOf sl vl vu .none) (pl : IsPart vl lo) (pu : IsPart vu hi)
    (hw : sIx items.size 0 lo = 0 ∧ sIx items.size items.size hi = items.size)
    (h : Q (.ref t) s) : wpAny (model prog w) A (getItem (.ref t) (.ref sl)) Q E s := by
  obtain ⟨os, hos, hcs, hds⟩ := id hs
  have hTs : s.TypeIs (.ref sl) "slice" := ⟨os, hos, hcs⟩
  unfold getItem
  try with_reducible refine wpAny_holding ?_
  first | refine wpAny_bind (wpAny_pure ?_) | skip
  refine wpAny_bind (wpAny_sequenceKey ht.typeIs (by decide) ?_)
  refine wpAny_bind (wpAny_callSpecial?_slot (name := Str.ofString "__getitem__") ht.typeIs PyProof.Rows.slot_tuple_getitem
    (wpAny_call_entry PyProof.Rows.slot_tuple_getitem ht.typeIs entry_tuple_getitem ?_ (args_tuple_getitem _ _)))
  show wpAny _ _ (Builtin.Tuple.tupleItemsOf (.ref t) >>= _) _ _ s
  refine wpAny_bind (tupleItemsOf_ ht ?_)
  refine wpAny_bind (wpAny_typeOf hTs ?_)
  rw [if_pos (by decide)]
  refine wpAny_bind (sliceApplied_gen hs pl pu ?_)
  have hyes : (((sIx items.size 0 lo : Nat) : Int) == 0 && (1 : Int) == 1 && (sIx items.size items.size hi - sIx items.size 0 lo) == items.size) = true := by
    rw [hw.1, hw.2]; simp
  show wpAny _ _ (if (((sIx items.size 0 lo : Nat) : Int) == 0 && (1 : Int) == 1 && (sIx items.size items.size hi - sIx items.size 0 lo) == items.size) = true then _ else _) _ _ s
  rw [if_pos hyes]
  unfold Builtin.Tuple.tupleIsExact
  refine wpAny_bind (wpAny_bind (wpAny_typeOf ht.typeIs (wpAny_pure ?_)))
  rw [if_pos (by decide)]
  refine wpAny_bind (wpAny_rule ?_)
  first
    | exact wpAny_pure ⟨_, rfl, wpAny_pure h⟩
    | exact wpAny_bind (wpAny_pure (wpAny_pure ⟨_, rfl, wpAny_pure h⟩))
    | exact wpAny_bind (wpAny_pure ⟨_, rfl, wpAny_pure h⟩)
end
end HT
namespace L2
open PySem PySem.Spec PyProof.Rows
section
variable {X : Cx}
theorem cutD_all {ds : List PyData} {lo hi : Option Int} (h : HT.sIx ds.length 0 lo = 0 ∧ HT.sIx ds.length ds.length hi = ds.length) : cutD ds lo hi = ds := by
  unfold cutD
  rw [h.1, h.2, List.drop_zero, Nat.sub_zero, List.take_of_length_le (Nat.le_refl _)]
end
end L2
namespace L2
open PySem PySem.Spec PyProof.Rows
section
variable {X : Cx}
def Iel (K : PySem.W.Frag) (a : Addr) : It :=
  ⟨fun i H => ∃ xs x, SqL K H a xs ∧ xs[i]? = some x,
   fun i H v H' => ∃ T x, H T = none ∧ v = .ref T ∧ H' = upd H T (.tup [.int i, x]) ∧ ∀ xs, SqL K H a xs → xs[i]? = some x,
   fun i H => ∃ xs, SqL K H a xs ∧ xs.length = i⟩
theorem turn_enumL {P : Program} {w : World} {K : PySem.W.Frag} {elts : List Expr} {k : Nat} {pos : Pos} (a e it : Addr) (hei : e ≠ it) :
    Turn P w K (.Tuple elts k pos) (Iel K a) [e, it] e (fun i h => (∃ old, IsEnum h e it i old) ∧ h.IsListIter it a i) where
  mem := by simp
  obj := fun i h st b hb => by
    rcases List.mem_cons.mp hb with rfl | hb
    · obtain ⟨⟨old, he⟩, _⟩ := st
      exact ⟨_, he, fun v z => nomatch z⟩
    · have q : b = it := by simpa using hb
      subst q
      obtain ⟨_, o, e, c, d⟩ := st
      exact ⟨o, e, fun v z => by rw [d] at z; cases z⟩
  keep := fun i h h' st k => ⟨let ⟨old, he⟩ := st.1; ⟨old, k e (by simp) _ he⟩, st.2.at fun o q => k it (by simp) o q⟩
  item := by
    intro X hP hw hK hc i pins s σ H E I hf st hg
    subst hP hw hK
    obtain ⟨xs, x, hq, hx⟩ := hg
    obtain ⟨its, rv, p, hz⟩ := I.list hq
    obtain ⟨u, hu, ru⟩ := rv.get hx
    obtain ⟨⟨old, he⟩, hit⟩ := id st
    have hae : a ≠ e := by
      intro z; subst z
      obtain ⟨o, ho, hcl, _⟩ := p.isList
      rw [he] at ho; cases ho
      exact absurd hcl (by intro z; injection z with z; exact absurd z (by decide))
    have hai : a ≠ it := by
      intro z; subst z
      obtain ⟨o, ho, hcl, _⟩ := p.isList
      obtain ⟨o', ho', hcl', _⟩ := hit
      rw [ho] at ho'; cases ho'
      rw [hcl] at hcl'
      exact absurd hcl' (by intro z; injection z with z; exact absurd z (by decide))
    have W := WalksT.enumerateD (prog := X.prog) (w := X.w) (A := X.A) (Draws.list (A := X.A.in1) (I.ok.hd hc) it a hai its.toArray) e hei (by simp [hei, Ne.symm hae]) (by simp)
    refine W.item i s _ _ (by rw [List.size_toArray]; exact (List.getElem?_eq_some_iff.mp hu).1) ⟨⟨old, he⟩, hit, p.isList⟩ fun T vals h' tk hv hT ht hm kk => ?_
    have apart := W.apart i T h' hm
    refine ⟨_, rfl, W.go elts k pos i T _ _ _ hm fun h'' st'' kk'' => ?_⟩
    obtain ⟨t, x', hx', rfl⟩ := hv
    have hxu : x' = u := by
      have : its[i]? = some x' := by simpa using hx'
      rw [hu] at this; exact (Option.some.inj this).symm
    subst hxu
    have I1 : Inv X pins σ H { s with heap := h', toks := tk } := I.turnedL kk hf
    have I2 : Inv X pins σ H { s with heap := h'', toks := tk } := I1.turnedL (s := { s with heap := h', toks := tk }) (t' := tk) kk'' hf
    have fT : FpOk X pins H T := I.fpOk hT (I.hok.fresh hT)
    have ht'' : IsTup h'' T #[.int i t, x'] := let ⟨o, ho, r⟩ := ht; ⟨o, kk'' T o apart ho, r⟩
    refine ⟨.ref T, upd H T (.tup [.int i, x]), I2.track fT ⟨by show 2 ≤ sizeLine; decide, [.int i t, x'], .cons ⟨t, rfl⟩ (.cons ru .nil), ht''⟩, rfl, ⟨T, x, fT.1, rfl, rfl, fun ys hy => by rw [I.list_inj hy hq]; exact hx⟩, ⟨st''.1, st''.2.1⟩, fun b hb => ?_⟩
    have hb' : b ≠ T := by
      rcases List.mem_cons.mp hb with rfl | hb
      · exact Nat.ne_of_lt (Nat.lt_of_lt_of_le (Heap.lt_size he) hT)
      · have q : b = it := by simpa using hb
        subst q
        obtain ⟨o, ho, _⟩ := hit
        exact Nat.ne_of_lt (Nat.lt_of_lt_of_le (Heap.lt_size ho) hT)
    rw [upd_ne hb']
    exact (hf b hb).1
  done := by
    intro X hP hw hK hc i pins s σ H E I hf st hg
    subst hP hw hK
    obtain ⟨xs, hq, hl⟩ := hg
    obtain ⟨its, rv, p, hz⟩ := I.list hq
    obtain ⟨⟨old, he⟩, hit⟩ := id st
    have hae : a ≠ e := by
      intro z; subst z
      obtain ⟨o, ho, hcl, _⟩ := p.isList
      rw [he] at ho; cases ho
      exact absurd hcl (by intro z; injection z with z; exact absurd z (by decide))
    have hai : a ≠ it := by
      intro z; subst z
      obtain ⟨o, ho, hcl, _⟩ := p.isList
      obtain ⟨o', ho', hcl', _⟩ := hit
      rw [ho] at ho'; cases ho'
      rw [hcl] at hcl'
      exact absurd hcl' (by intro z; injection z with z; exact absurd z (by decide))
    have W := WalksT.enumerateD (prog := X.prog) (w := X.w) (A := X.A) (Draws.list (A := X.A.in1) (I.ok.hd hc) it a hai its.toArray) e hei (by simp [hei, Ne.symm hae]) (by simp)
    have hn : its.toArray.size = i := by rw [List.size_toArray, ← rv.length]; exact hl
    subst hn
    exact W.done s _ _ ⟨⟨old, he⟩, hit, p.isList⟩ fun h' tk kk => ⟨rfl, I.turnedL kk hf⟩
  self := fun A i s Q E st h => let ⟨⟨_, he⟩, _⟩ := st; wpAny_pyIter_enum he h
end
end L2
namespace PySem
open Sem (wp)
open AutoSeq1 (wpAny_loadPart')
set_option maxRecDepth 100000
section
variable {prog : Program} {w : World} {K : Type} [DecidableEq K]
end
end PySem
namespace L2
open PySem PySem.Spec PyProof.Rows
section
variable {X : Cx}
end
end L2
namespace L2
open PySem PySem.Spec PyProof.Rows
section
variable {X : Cx} {K : PySem.W.Frag}
variable {o e : Expr} {es : List Expr} {to : TE} {t : TA} {name : Str} {apos cpos : Pos} {T id : String} {r : V → List V → Hp → VK → Prop}
theorem mt_join_h : MtR X "str.join" (fun x xs H Q => ∃ z p ys, x = .str z ∧ xs = [.ref p] ∧ H p = some (.lst (ys.map V.str)) ∧ (ys.map (·.length)).sum + ys.length * z.length ≤ 16777216 ∧ Q (.str (Txt.join z ys)) H) := by
  intro pins s σ H x xs v us Q I rx r h
  obtain ⟨z, p, ys, e1, e2, hp, hz, q⟩ := h
  exact mt_join pins s σ H x xs v us Q I rx r ⟨z, p, ys, e1, e2, SqL.of hp, hz, q⟩
end
end L2
namespace L2
open PySem PySem.Spec PyProof.Rows
def Cal (P : Program) (w : World) (K : PySem.W.Frag) (mg : Str → Option Value) (base : Heap) (n : Nat) (x : Str) (ps : List Str) (sp : Sp) : Prop :=
  ∃ g gd, FnOk P w K mg base CX0 n g gd ps sp ∧ Binds K gd ps [] ∧ PySem.W.keepIn K (.ref g) = true ∧ mg x = some (.ref g)
theorem Cal.mono {P : Program} {w : World} {K : PySem.W.Frag} {mg : Str → Option Value} {base : Heap} {n m : Nat} {x : Str} {ps : List Str} {sp : Sp} (c : Cal P w K mg base n x ps sp) (h : n ≤ m) : Cal P w K mg base m x ps sp :=
  let ⟨g, gd, G, r⟩ := c; ⟨g, gd, G.mono h, r⟩
end L2
namespace L2
open PySem PySem.Spec PySem.Calls PyProof.Rows
section
variable {prog : Program} {w : World} {A : Around} {E : Value → Shared → Prop} {s : Shared} {K : PySem.W.Frag} {x C : Addr} {ox : Obj} {od : Option Obj} {name : Str}
end
end L2
namespace L2
open PySem PySem.Spec PySem.Calls PyProof.Rows
abbrev bmV : List Value := [.type "ValueError", .type "Exception", .type "BaseException", .type "object"]
def xcIn (K : PySem.W.Frag) (C : Addr) : Bool := match K.lookup C with
  | some ⟨.type "type", _, .cls cd, sl⟩ => (match cd.mro, sl.toList with
    | .ref C' :: bm, [_, _, _, _, some (.builtin n), _] => C' == C && n == "ValueError.__new__" && !cd.hasDel && PySem.W.tailIn K bmV bm
    | _, _ => false)
  | _ => false
section
variable {prog : Program} {w : World} {A : Around} {E : Value → Shared → Prop} {h : Heap} {g : Array GenState} {d : Drawn} {t : Nat} {os : OsState} {K : PySem.W.Frag} {C : Addr}
end
def isRf : Value → Bool
  | .ref _ => true
  | _ => false
def veOver (K : PySem.W.Frag) (C : Addr) : Bool := (PySem.W.clsIn K C).any fun cd => cd.mro.dropWhile isRf == bmV && !cd.mro.isEmpty && cd.mro.contains (.type "object")
section
open Builtin Builtin.ObjectAttr
variable {prog : Program} {w : World} {A : Around} {E : Value → Shared → Prop} {s : Shared} {K : PySem.W.Frag} {x C : Addr} {ox : Obj} {od : Option Obj} {name : Str} {v : Value} {R : Result → Shared → Prop}
end
end L2
namespace L2
open PySem PySem.Spec PySem.Calls PyProof.Rows
def XD (dx : Addr) (fs : List (Str × V)) : HO := .ext fun h => ∃ mA, h.Ns1 dx mA ∧ (∀ f, RelO (fs.lookup f) (mA f)) ∧ PySem.Within mA (fs.map (·.1))
section
variable {P : Program} {w : World} {H : Hp} {h : Heap} {e C t dx : Addr} {d : Option Addr} {fs : List (Str × V)}
end
structure XCls (K : PySem.W.Frag) (C : Addr) : Prop where
  ga : PySem.W.findIn K (.ref C) "__getattribute__" = some (some (.builtin "BaseException.__getattribute__"))
  gn : PySem.W.findIn K (.ref C) "__getattr__" = some none
  sa : PySem.W.findIn K (.ref C) "__setattr__" = some (some (.builtin "object.__setattr__"))
  hd : PySem.W.hasDictIn K C = true
  mb : PySem.W.mroIn K C (.type "BaseException") = some true
  mo : PySem.W.mroIn K C (.type "object") = some true
  ve : veOver K C = true
section
variable {X : Cx} {pins : List (Addr × Obj)} {σ : St} {H : Hp} {s : Shared} {e C t dx : Addr} {fs : List (Str × V)} {f : Str} {v : V} {A : Around} {E : Value → Shared → Prop}
end
end L2
namespace L2
open PySem PySem.Spec PySem.Calls PyProof.Rows
section
variable {X : Cx} {CX : CXT} {k : Nat} {f C : Addr} {fd : FuncData} {ps : List Str} {sp : Sp} {E : XK} {x : Str} {p pos pos' apos : Pos} {e o value : Expr} {es : List Expr} {t : TA} {ta tv : TE} {fl : Str}
end
structure XIs (K : PySem.W.Frag) (C : Addr) : Prop extends XCls K C where
  ca : PySem.W.findIn K (.ref C) "__class__" = some (some (.builtin "object.__class__"))
  cg : PySem.W.specialIn K (.builtin "object.__class__") "__get__" = some (some (.builtin "getset_descriptor.__get__"))
  ct : PySem.W.takesIn K (.builtin "object.__class__") = some true
section
variable {X : Cx}
end
end L2
namespace L2
open PySem PySem.Spec PySem.Calls PyProof.Rows
structure ExcRec (h : Heap) (e : Addr) (cls : Value) (d : Option Addr) (vs : Array Value) : Prop where
  at_ : h.get? e = some ⟨cls, d, .fields vs, #[]⟩
  six : vs.size = 6
  tb : vs[1]? = some .none ∨ ∃ T oT ts, vs[1]? = some (.ref T) ∧ T ≠ e ∧ h.get? T = some oT ∧ oT.data = .fields ts ∧ ts[3]? = some .none
structure LeftBy (fs : List Addr) (e : Addr) (cls : Value) (d : Option Addr) (h h' : Heap) : Prop where
  size : h.objs.size ≤ h'.objs.size
  keep : ∀ b o, b ∉ fs → b ≠ e → h.get? b = some o → h'.get? b = some o
  slot : ∀ b o, b ∈ fs → h.get? b = some o → ∃ sl, h'.get? b = some { o with slots := sl }
  rc : ∃ vs, ExcRec h' e cls d vs ∧ vs[1]? ≠ some .none
  old : ∃ T, (∀ vs, ExcRec h' e cls d vs → vs[1]? = some (.ref T)) ∧ h.get? T = none
section
variable {M : Model} {A : Around} {E : Value → Shared → Prop} {s : Shared} {base : Heap} {env : Env} {outer : List Env} {L e : Addr} {cls : Value} {d : Option Addr} {vs : Array Value}
end
end L2
namespace L2
open PySem PySem.Spec PySem.Calls PyProof.Rows
section
variable {prog : Program} {w : World} {A : Around} {E : Value → Shared → Prop} {s : Shared} {K : PySem.W.Frag} {env : Env} {e C : Addr} {d : Option Addr} {vs : Array Value}
end
end L2
namespace L2
open PySem PySem.Spec PySem.Calls PyProof.Rows
def XR (e C : Addr) (d : Option Addr) : HO := .ext fun h => ∃ vs : Array Value, h.get? e = some ⟨.ref C, d, .fields vs, #[]⟩ ∧ vs.size = 6
theorem xr_ok {P : Program} {w : World} {H : Hp} {h : Heap} {e C : Addr} {d : Option Addr} {vs : Array Value} (hx : h.get? e = some ⟨.ref C, d, .fields vs, #[]⟩) (h6 : vs.size = 6) : ObjOk P w H h e (XR e C d) :=
  ⟨⟨vs, hx, h6⟩, ⟨_, hx⟩, fun _ _ ⟨vs, p, q⟩ k => ⟨vs, k _ p, q⟩⟩
def CX1 (P : Program) (w : World) : CXT := fun outer H s E e s' => ∃ a C d H', e = .ref a ∧ s'.os = s.os ∧ AllBare s'.gens ∧ Un (frs outer) [] H H' s.heap s'.heap ∧ HOk P w H' s'.heap ∧ (∃ vs, ExcRec s'.heap a (.ref C) d vs) ∧ H' a = some (XR a C d) ∧ E (.ref C) (some a) H'
section
variable {X : Cx} {pins : List (Addr × Obj)} {σ : St} {H : Hp} {s : Shared} {a C : Addr} {d : Option Addr} {h' : Heap}
theorem Inv.left (I : Inv X pins σ H s) (hx : H a = some (XR a C d)) (L : LeftBy (frs X.stack) a (.ref C) d s.heap h') : Inv X pins σ H { s with heap := h' } := by
  have nf : ∀ b u, H b = some u → b ∉ frs X.stack := fun b u q z => by rw [I.stkFree b z] at q; cases q
  obtain ⟨vs, R, _⟩ := id L.rc
  have un : Un (frs X.stack) [] H H s.heap h' := by
    refine ⟨fun b o q n hb _ => L.keep b o hb (fun z => by rw [z, hx] at n; cases n) q, fun b o q n hb _ => L.slot b o hb q, fun _ _ _ n _ => n, fun b o q _ => ?_, fun _ _ q => q, fun _ _ _ q => q, fun _ ps q => ⟨#[], by rw [q]; simp⟩⟩
    by_cases h1 : b ∈ frs X.stack
    · obtain ⟨sl, q2⟩ := L.slot b o h1 q
      exact ⟨_, q2⟩
    · by_cases h2 : b = a
      · subst h2; exact ⟨_, R.at_⟩
      · exact ⟨o, L.keep b o h1 h2 q⟩
  refine I.call (ch := []) (g' := s.gens) (d' := s.drawn) (t' := s.toks) un (fun b u q => ?_) I.bare (fun b z => absurd z (by simp))
  by_cases hb : b = a
  · subst hb
    rw [hx] at q; cases q
    exact xr_ok R.at_ R.six
  · refine (I.hok b u q).stay (fun c v hc r => L.keep c v ?_ ?_ r) (fun _ q => q) fun _ _ q => q
    · rcases hc with rfl | hc
      · exact nf _ _ q
      · exact nf _ _ hc
    · rintro rfl
      rcases hc with z | hc
      · exact hb z.symm
      · rw [hx] at hc; cases hc
def XeOk (X : Cx) (EX : XK) : Prop := ∀ (pins : List (Addr × Obj)) (σ : St) (H : Hp) (s : Shared) (a C : Addr) (d : Option Addr) (vs : Array Value), Inv X pins σ H s → H a = some (XR a C d) → ExcRec s.heap a (.ref C) d vs → EX (.ref C) (some a) H → X.xe (.ref a) s
end
end L2
namespace L2
open PySem PySem.Spec PySem.Calls PyProof.Rows
section
variable {M : Model} {A : Around} {E : Value → Shared → Prop} {s : Shared} {base : Heap} {env : Env} {outer : List Env} {L e : Addr} {cls : Value} {d : Option Addr} {vs : Array Value}
end
section
variable {prog : Program} {w : World} {A : Around} {E : Value → Shared → Prop} {s : Shared} {K : PySem.W.Frag} {e C D : Addr} {d : Option Addr} {vs : Array Value}
end
end L2
namespace L2
open PySem PySem.Spec PySem.Calls PyProof.Rows
section
variable {X : Cx} {pins : List (Addr × Obj)} {σ : St} {H : Hp} {s : Shared}
abbrev Cx.taking (X : Cx) (xe : Value → Shared → Prop) (pn : List (Addr × Obj)) : Cx := { X with xe := xe, pn := pn }
theorem Inv.take {xe : Value → Shared → Prop} (I : Inv X pins σ H s) : Inv (X.taking xe (X.pn ++ pins)) [] σ H s :=
  ⟨⟨I.ok.mod, I.ok.kind, I.ok.glob, I.ok.blt, I.ok.above, I.ok.inj, I.ok.has, I.ok.cab, I.ok.hd, I.ok.frames, I.ok.stk, I.ok.exf, I.ok.bs, I.ok.bsz, I.ok.noex, I.ok.exfs, I.ok.funs, I.ok.frf⟩, I.os, I.bare, I.base, I.loc, I.cell, I.free, I.freeC, fun p hp => I.pin p (by rw [List.append_nil] at hp; exact hp), I.hok, I.len⟩
end
end L2
namespace L2
open PySem PySem.Spec PyProof.Rows
inductive AV where
  | D (d : PyData) | R (a : Addr) | C (ds : List PyData) | X (C : Addr) (fs : List (Str × PyData))
  deriving Inhabited
mutual
def Cano : PyData → Bool
  | .int _ => true
  | .str _ => true
  | .tuple xs => CanoAll xs
  | _ => false
def CanoAll : List PyData → Bool
  | [] => true
  | x :: xs => Cano x && CanoAll xs
end
structure KeyTree (d : PyData) : Prop where
  can : Cano d = true
  lay : d.canLay0 = true
  dep : d.depth ≤ 6
def FzL (K : PySem.W.Frag) (H : Hp) (a : Addr) (xs : List V) : Prop :=
  (∃ o, H a = some (.frz o (.lst xs))) ∨
    ∃ (o : Obj) (its : Array Value) (n : Nat), K.lookup a = some o ∧ o.cls = .type "list" ∧ o.dict = none ∧ o.data = .seq its n ∧ its.size ≤ sizeLine ∧ Vals xs its.toList
theorem FzL.sq {K : PySem.W.Frag} {H : Hp} {a : Addr} {xs : List V} (h : FzL K H a xs) : SqL K H a xs := by
  rcases h with ⟨o, h⟩ | h
  · exact .inl (.inr ⟨o, h⟩)
  · exact .inr h
mutual
def Dk (K : PySem.W.Frag) (H : Hp) : PyData → V → Prop
  | .none, x => x = .non
  | .bool b, x => x = .bl b
  | .int i, x => x = .int i
  | .str z, x => x = .str z
  | .list ds, x => ∃ a xs, x = .ref a ∧ FzL K H a xs ∧ DkAll K H ds xs
  | .tuple ds, x => ∃ a xs, x = .ref a ∧ H a = some (.tup xs) ∧ DkAll K H ds xs
  | .dict _, _ => False
def DkAll (K : PySem.W.Frag) (H : Hp) : List PyData → List V → Prop
  | [], xs => xs = []
  | d :: ds, xs => ∃ x r, xs = x :: r ∧ Dk K H d x ∧ DkAll K H ds r
end
structure Kp (H H' : Hp) : Prop where
  t : ∀ b xs, H b = some (.tup xs) → H' b = some (.tup xs)
  f : ∀ b o u, H b = some (.frz o u) → H' b = some (.frz o u)
theorem Kp.refl {H : Hp} : Kp H H := ⟨fun _ _ h => h, fun _ _ _ h => h⟩
theorem Kp.trans {H H1 H2 : Hp} (a : Kp H H1) (b : Kp H1 H2) : Kp H H2 := ⟨fun c xs h => b.t c xs (a.t c xs h), fun c o u h => b.f c o u (a.f c o u h)⟩
theorem Kp.new {H : Hp} {p : Addr} (h : H p = none) (o : HO) : Kp H (upd H p o) :=
  ⟨fun b xs e => by rw [upd_ne (ne_of_none e h)]; exact e, fun b o' u e => by rw [upd_ne (ne_of_none e h)]; exact e⟩
def Mt : HO → Prop
  | .lst _ => True
  | .dK _ => True
  | .dT _ => True
  | .dd _ => True
  | _ => False
theorem Kp.put {H : Hp} {p : Addr} {o0 : HO} (h : H p = some o0) (m : Mt o0) (o : HO) : Kp H (upd H p o) :=
  ⟨fun b xs e => by rw [upd_ne (ne_of e h (by intro z; subst z; exact m))]; exact e, fun b o' u e => by rw [upd_ne (ne_of e h (by intro z; subst z; exact m))]; exact e⟩
theorem SqT.kp {K : PySem.W.Frag} {H H' : Hp} {a : Addr} {xs : List V} (S : Kp H H') (h : SqT K H a xs) : SqT K H' a xs := by
  rcases h with (h | ⟨o, h⟩) | h
  · exact .inl (.inl (S.t _ _ h))
  · exact .inl (.inr ⟨o, S.f _ _ _ h⟩)
  · exact .inr h
theorem FzL.kp {K : PySem.W.Frag} {H H' : Hp} {a : Addr} {xs : List V} (S : Kp H H') (h : FzL K H a xs) : FzL K H' a xs := by
  rcases h with ⟨o, h⟩ | h
  · exact .inl ⟨o, S.f _ _ _ h⟩
  · exact .inr h
section
variable {K : PySem.W.Frag} {H H' : Hp}
mutual
theorem Dk.kp (S : Kp H H') : ∀ (d : PyData) (x : V), Dk K H d x → Dk K H' d x
  | .none, x, h => by simp only [Dk] at h ⊢; exact h
  | .bool b, x, h => by simp only [Dk] at h ⊢; exact h
  | .int i, x, h => by simp only [Dk] at h ⊢; exact h
  | .str z, x, h => by simp only [Dk] at h ⊢; exact h
  | .list ds, x, h => by
    simp only [Dk] at h ⊢
    obtain ⟨a, xs, e, q, r⟩ := h
    exact ⟨a, xs, e, q.kp S, DkAll.kp S ds xs r⟩
  | .tuple ds, x, h => by
    simp only [Dk] at h ⊢
    obtain ⟨a, xs, e, q, r⟩ := h
    exact ⟨a, xs, e, S.t _ _ q, DkAll.kp S ds xs r⟩
  | .dict _, x, h => by simp only [Dk] at h
theorem DkAll.kp (S : Kp H H') : ∀ (ds : List PyData) (xs : List V), DkAll K H ds xs → DkAll K H' ds xs
  | [], xs, h => by simp only [DkAll] at h ⊢; exact h
  | d :: ds, xs, h => by
    simp only [DkAll] at h ⊢
    obtain ⟨x, r, e, h1, h2⟩ := h
    exact ⟨x, r, e, Dk.kp S d x h1, DkAll.kp S ds r h2⟩
end
theorem dk_int {i : Int} : Dk K H (.int i) (.int i) := by simp only [Dk]
theorem dk_bl {b : Bool} : Dk K H (.bool b) (.bl b) := by simp only [Dk]
theorem dk_str {z : Str} : Dk K H (.str z) (.str z) := by simp only [Dk]
theorem dk_non : Dk K H .none .non := by simp only [Dk]
theorem Dk.int {x : V} {i : Int} (h : Dk K H (.int i) x) : x = .int i := by simp only [Dk] at h; exact h
theorem Dk.bl {x : V} {i : Bool} (h : Dk K H (.bool i) x) : x = .bl i := by simp only [Dk] at h; exact h
theorem Dk.str {x : V} {i : Str} (h : Dk K H (.str i) x) : x = .str i := by simp only [Dk] at h; exact h
theorem Dk.non {x : V} (h : Dk K H .none x) : x = .non := by simp only [Dk] at h; exact h
theorem Dk.tup {x : V} {ds : List PyData} (h : Dk K H (.tuple ds) x) : ∃ a xs, x = .ref a ∧ H a = some (.tup xs) ∧ DkAll K H ds xs := by simp only [Dk] at h; exact h
theorem Dk.lst {x : V} {ds : List PyData} (h : Dk K H (.list ds) x) : ∃ a xs, x = .ref a ∧ FzL K H a xs ∧ DkAll K H ds xs := by simp only [Dk] at h; exact h
theorem dk_tup {a : Addr} {xs : List V} {ds : List PyData} (h : H a = some (.tup xs)) (r : DkAll K H ds xs) : Dk K H (.tuple ds) (.ref a) := by simp only [Dk]; exact ⟨a, xs, rfl, h, r⟩
theorem dk_lst {a : Addr} {xs : List V} {ds : List PyData} (h : FzL K H a xs) (r : DkAll K H ds xs) : Dk K H (.list ds) (.ref a) := by simp only [Dk]; exact ⟨a, xs, rfl, h, r⟩
theorem dks_nil : DkAll K H [] [] := by simp only [DkAll]
theorem dks_cons {d : PyData} {ds : List PyData} {x : V} {xs : List V} (h : Dk K H d x) (r : DkAll K H ds xs) : DkAll K H (d :: ds) (x :: xs) := by simp only [DkAll]; exact ⟨x, xs, rfl, h, r⟩
theorem DkAll.cons {d : PyData} {ds : List PyData} {xs : List V} (h : DkAll K H (d :: ds) xs) : ∃ x r, xs = x :: r ∧ Dk K H d x ∧ DkAll K H ds r := by simp only [DkAll] at h; exact h
theorem DkAll.nil {xs : List V} (h : DkAll K H [] xs) : xs = [] := by simp only [DkAll] at h; exact h
theorem DkAll.length : ∀ {ds : List PyData} {xs : List V}, DkAll K H ds xs → xs.length = ds.length
  | [], _, h => by rw [h.nil]; rfl
  | _ :: ds, _, h => by
    obtain ⟨x, r, rfl, _, h2⟩ := h.cons
    rw [List.length_cons, List.length_cons, DkAll.length h2]
theorem DkAll.get : ∀ {ds : List PyData} {xs : List V} {i : Nat} {d : PyData}, DkAll K H ds xs → ds[i]? = some d → ∃ x, xs[i]? = some x ∧ Dk K H d x
  | [], _, _, _, _, e => by simp at e
  | _ :: ds, _, 0, d, h, e => by
    obtain ⟨x, r, rfl, h1, _⟩ := h.cons
    simp at e; subst e
    exact ⟨x, rfl, h1⟩
  | _ :: ds, _, i + 1, d, h, e => by
    obtain ⟨x, r, rfl, _, h2⟩ := h.cons
    obtain ⟨y, e1, e2⟩ := DkAll.get (i := i) (d := d) h2 (by simpa using e)
    exact ⟨y, by simpa using e1, e2⟩
theorem DkAll.append : ∀ {ds es : List PyData} {xs ys : List V}, DkAll K H ds xs → DkAll K H es ys → DkAll K H (ds ++ es) (xs ++ ys)
  | [], _, _, _, h, k => by rw [h.nil]; exact k
  | _ :: ds, _, _, _, h, k => by
    obtain ⟨x, r, rfl, h1, h2⟩ := h.cons
    exact dks_cons h1 (DkAll.append h2 k)
theorem DkAll.drop : ∀ (n : Nat) {ds : List PyData} {xs : List V}, DkAll K H ds xs → DkAll K H (ds.drop n) (xs.drop n)
  | 0, _, _, h => h
  | _ + 1, [], _, h => by rw [h.nil]; exact dks_nil
  | n + 1, _ :: ds, _, h => by
    obtain ⟨x, r, rfl, _, h2⟩ := h.cons
    exact DkAll.drop n h2
theorem DkAll.take : ∀ (n : Nat) {ds : List PyData} {xs : List V}, DkAll K H ds xs → DkAll K H (ds.take n) (xs.take n)
  | 0, _, _, _ => dks_nil
  | _ + 1, [], _, h => by rw [h.nil]; exact dks_nil
  | n + 1, _ :: ds, _, h => by
    obtain ⟨x, r, rfl, h1, h2⟩ := h.cons
    exact dks_cons h1 (DkAll.take n h2)
theorem DkAll.cut {ds : List PyData} {xs : List V} (h : DkAll K H ds xs) (lo hi : Option Int) : DkAll K H (cutD ds lo hi) (cutV xs lo hi) := by
  unfold cutD cutV
  rw [h.length]
  exact (h.drop _).take _
theorem DkAll.atI {ds : List PyData} {xs : List V} {i : Int} {d : PyData} (h : DkAll K H ds xs) (e : atI ds i = some d) : ∃ x, L2.atI xs i = some x ∧ Dk K H d x := by
  unfold L2.atI at e ⊢
  rw [h.length]
  cases q : ixN ds.length i with
  | none => rw [q] at e; cases e
  | some j =>
    rw [q] at e
    obtain ⟨x, hx, hd⟩ := h.get (show ds[j]? = some d from e)
    exact ⟨x, hx, hd⟩
def FsOk (K : PySem.W.Frag) (H : Hp) : List (Str × PyData) → List (Str × V) → Prop := Paired fun p q => p.1 = q.1 ∧ Dk K H p.2 q.2
theorem FsOk.kp {fs : List (Str × PyData)} {vs : List (Str × V)} (S : Kp H H') (h : FsOk K H fs vs) : FsOk K H' fs vs := Paired.mapP h fun p q r => ⟨r.1, Dk.kp S _ _ r.2⟩
def XFs (K : PySem.W.Frag) (H : Hp) (d : Option Addr) (fs : List (Str × PyData)) : Prop := match d with
  | none => fs = []
  | some d => ∃ od kvs, H d = some (.frz od (XD d kvs)) ∧ FsOk K H fs kvs
theorem XFs.kp {d : Option Addr} {fs : List (Str × PyData)} (S : Kp H H') (h : XFs K H d fs) : XFs K H' d fs := by
  cases d with
  | none => exact h
  | some d => obtain ⟨od, kvs, q, r⟩ := h; exact ⟨od, kvs, S.f _ _ _ q, r.kp S⟩
def RelA (K : PySem.W.Frag) (H : Hp) : AV → V → Prop
  | .D d, v => Dk K H d v
  | .R a, v => v = .ref a
  | .C ds, v => ∃ a xs, v = .ref a ∧ (∀ H, SqT K H a xs) ∧ DkAll K H ds xs
  | .X C fs, v => ∃ a o d, v = .ref a ∧ H a = some (.frz o (XR a C d)) ∧ XFs K H d fs
theorem ra_int {i : Int} : RelA K H (.D (.int i)) (.int i) := dk_int (K := K) (H := H)
theorem ra_bl {i : Bool} : RelA K H (.D (.bool i)) (.bl i) := dk_bl (K := K) (H := H)
theorem ra_str {i : Str} : RelA K H (.D (.str i)) (.str i) := dk_str (K := K) (H := H)
theorem ra_non : RelA K H (.D .none) .non := dk_non (K := K) (H := H)
theorem RelA.int {x : V} {i : Int} (h : RelA K H (.D (.int i)) x) : x = .int i := Dk.int (K := K) (H := H) h
theorem RelA.bl {x : V} {i : Bool} (h : RelA K H (.D (.bool i)) x) : x = .bl i := Dk.bl (K := K) (H := H) h
theorem RelA.str {x : V} {i : Str} (h : RelA K H (.D (.str i)) x) : x = .str i := Dk.str (K := K) (H := H) h
theorem RelA.non {x : V} (h : RelA K H (.D .none) x) : x = .non := Dk.non (K := K) (H := H) h
theorem RelA.tup {x : V} {ds : List PyData} (h : RelA K H (.D (.tuple ds)) x) : ∃ a xs, x = .ref a ∧ H a = some (.tup xs) ∧ DkAll K H ds xs := Dk.tup (K := K) (H := H) h
theorem RelA.lst {x : V} {ds : List PyData} (h : RelA K H (.D (.list ds)) x) : ∃ a xs, x = .ref a ∧ FzL K H a xs ∧ DkAll K H ds xs := Dk.lst (K := K) (H := H) h
theorem RelA.ref {x : V} {a : Addr} (h : RelA K H (.R a) x) : x = .ref a := h
theorem ra_ref {a : Addr} : RelA K H (.R a) (.ref a) := rfl
theorem ra_D {d : PyData} {v : V} (h : Dk K H d v) : RelA K H (.D d) v := h
theorem ra_tup {a : Addr} {xs : List V} {ds : List PyData} (h : H a = some (.tup xs)) (r : DkAll K H ds xs) : RelA K H (.D (.tuple ds)) (.ref a) := dk_tup (K := K) (H := H) h r
abbrev RelAs (K : PySem.W.Frag) (H : Hp) : List AV → List V → Prop := Paired (RelA K H)
theorem RelA.kp (S : Kp H H') : ∀ {x : AV} {v : V}, RelA K H x v → RelA K H' x v
  | .D d, v, h => Dk.kp S d v h
  | .R a, _, h => h
  | .C ds, v, ⟨a, xs, e, q, r⟩ => ⟨a, xs, e, q, DkAll.kp S ds xs r⟩
  | .X C fs, v, ⟨a, o, d, e, q, r⟩ => ⟨a, o, d, e, S.f _ _ _ q, r.kp S⟩
theorem RelAs.kp (S : Kp H H') {xs : List AV} {vs : List V} (h : RelAs K H xs vs) : RelAs K H' xs vs := Paired.mapP h fun _ _ q => q.kp S
theorem RelAs.length {xs : List AV} {vs : List V} (h : RelAs K H xs vs) : xs.length = vs.length := Paired.length h
theorem RelAs.append : ∀ {xs ys : List AV} {us ws : List V}, RelAs K H xs us → RelAs K H ys ws → RelAs K H (xs ++ ys) (us ++ ws)
  | _, _, _, _, .nil, s => s
  | _, _, _, _, .cons r t, s => .cons r (RelAs.append t s)
theorem RelAs.get : ∀ {xs : List AV} {us : List V} {i : Nat} {x : AV}, RelAs K H xs us → xs[i]? = some x → ∃ u, us[i]? = some u ∧ RelA K H x u
  | _, _, _, _, .nil, e => by simp at e
  | _, _, 0, _, .cons r _, e => by simp at e; subst e; exact ⟨_, rfl, r⟩
  | _, _, i + 1, x, .cons _ t, e => by
    obtain ⟨u, h1, h2⟩ := RelAs.get (i := i) (x := x) t (by simpa using e)
    exact ⟨u, by simpa using h1, h2⟩
theorem RelAs.set {x : AV} {u : V} (r : RelA K H x u) : ∀ {xs : List AV} {us : List V} (i : Nat), RelAs K H xs us → RelAs K H (xs.set i x) (us.set i u)
  | _, _, _, .nil => .nil
  | _, _, 0, .cons _ t => .cons r t
  | _, _, i + 1, .cons q t => .cons q (RelAs.set r i t)
theorem RelAs.drop : ∀ {xs : List AV} {us : List V} (n : Nat), RelAs K H xs us → RelAs K H (xs.drop n) (us.drop n)
  | _, _, 0, r => r
  | _, _, _ + 1, .nil => .nil
  | _, _, n + 1, .cons _ t => RelAs.drop n t
theorem RelAs.take : ∀ {xs : List AV} {us : List V} (n : Nat), RelAs K H xs us → RelAs K H (xs.take n) (us.take n)
  | _, _, 0, _ => .nil
  | _, _, _ + 1, .nil => .nil
  | _, _, n + 1, .cons r t => .cons r (RelAs.take n t)
theorem RelAs.eraseIdx : ∀ {xs : List AV} {us : List V} (n : Nat), RelAs K H xs us → RelAs K H (xs.eraseIdx n) (us.eraseIdx n)
  | _, _, _, .nil => by simp; exact .nil
  | _, _, 0, .cons _ t => t
  | _, _, n + 1, .cons r t => .cons r (RelAs.eraseIdx n t)
theorem RelAs.dropLast : ∀ {xs : List AV} {us : List V}, RelAs K H xs us → RelAs K H xs.dropLast us.dropLast
  | _, _, .nil => .nil
  | _, _, .cons _ .nil => .nil
  | _, _, .cons r (.cons r2 t) => .cons r (RelAs.dropLast (.cons r2 t))
theorem RelAs.rev : ∀ {xs : List AV} {us : List V}, RelAs K H xs us → RelAs K H xs.reverse us.reverse
  | _, _, .nil => .nil
  | _, _, .cons r t => by rw [List.reverse_cons, List.reverse_cons]; exact (RelAs.rev t).append (.cons r .nil)
def cutA (xs : List AV) (lo hi : Option Int) : List AV := (xs.drop (HT.sIx xs.length 0 lo)).take (HT.sIx xs.length xs.length hi - HT.sIx xs.length 0 lo)
theorem RelAs.cut {xs : List AV} {us : List V} (h : RelAs K H xs us) (lo hi : Option Int) : RelAs K H (cutA xs lo hi) (cutV us lo hi) := by
  unfold cutA cutV
  rw [h.length]
  exact (h.drop _).take _
theorem RelAs.atI {xs : List AV} {us : List V} {i : Int} {x : AV} (h : RelAs K H xs us) (e : atI xs i = some x) : ∃ u, L2.atI us i = some u ∧ RelA K H x u := by
  unfold L2.atI at e ⊢
  rw [← h.length]
  cases q : ixN xs.length i with
  | none => rw [q] at e; cases e
  | some j =>
    rw [q] at e
    obtain ⟨x, hx, hd⟩ := h.get (show xs[j]? = some x from e)
    exact ⟨x, hx, hd⟩
def dats : List AV → Option (List PyData)
  | [] => some []
  | .D d :: r => match dats r with
    | some ds => some (d :: ds)
    | none => none
  | .R _ :: _ => none
  | .C _ :: _ => none
  | .X _ _ :: _ => none
@[simp] theorem dats_nil : dats [] = some [] := rfl
theorem dats_map : ∀ (ds : List PyData), dats (ds.map .D) = some ds
  | [] => rfl
  | d :: ds => by simp only [List.map_cons, dats, dats_map ds]
theorem dats_eq : ∀ {xs : List AV} {ds : List PyData}, dats xs = some ds → xs = ds.map .D
  | [], ds, h => by cases h; rfl
  | .D d :: r, ds, h => by
    simp only [dats] at h
    cases q : dats r with
    | none => rw [q] at h; cases h
    | some es => rw [q] at h; cases h; rw [dats_eq q]; rfl
  | .R _ :: _, _, h => by simp [dats] at h
  | .C _ :: _, _, h => by simp [dats] at h
  | .X _ _ :: _, _, h => by simp [dats] at h
theorem RelAs.dk : ∀ {ds : List PyData} {vs : List V}, RelAs K H (ds.map .D) vs → DkAll K H ds vs
  | [], _, h => by cases h; exact dks_nil
  | _ :: _, _, h => by
    rw [List.map_cons] at h
    cases h with
    | cons r t => exact dks_cons r (RelAs.dk t)
theorem DkAll.rel : ∀ {ds : List PyData} {vs : List V}, DkAll K H ds vs → RelAs K H (ds.map .D) vs
  | [], _, h => by rw [h.nil]; exact .nil
  | _ :: _, _, h => by
    obtain ⟨x, r, rfl, h1, h2⟩ := h.cons
    exact .cons h1 (DkAll.rel h2)
theorem RelAs.dats {xs : List AV} {vs : List V} {ds : List PyData} (h : RelAs K H xs vs) (e : dats xs = some ds) : DkAll K H ds vs := by rw [dats_eq e] at h; exact h.dk
inductive MO where
  | lst (xs : List AV) | dk (kvs : List (Key × AV)) | dt (kvs : List (List Key × AV)) | dd (kvs : List (PyData × AV))
abbrev M := Addr → Option MO
def updM (μ : M) (a : Addr) (m : MO) : M := fun b => if b = a then some m else μ b
theorem updM_same {μ : M} {a : Addr} {m : MO} : updM μ a m a = some m := by unfold updM; rw [if_pos rfl]
theorem updM_ne {μ : M} {a b : Addr} {m : MO} (h : b ≠ a) : updM μ a m b = μ b := by unfold updM; rw [if_neg h]
theorem updM_updM {μ : M} {a : Addr} {m n : MO} : updM (updM μ a m) a n = updM μ a n := by funext b; unfold updM; split <;> rfl
def RelK {κ : Type} (K : PySem.W.Frag) (H : Hp) : List (κ × AV) → List (κ × V) → Prop := Paired fun p q => p.1 = q.1 ∧ RelA K H p.2 q.2
theorem RelK.kp {κ : Type} (S : Kp H H') {xs : List (κ × AV)} {vs : List (κ × V)} (h : RelK K H xs vs) : RelK K H' xs vs := Paired.mapP h fun _ _ q => ⟨q.1, q.2.kp S⟩
def RelD (K : PySem.W.Frag) (H : Hp) : List (PyData × AV) → List (PyData × Addr × Value) → Prop := Paired fun p q => p.1 = q.1 ∧ KeyTree p.1 ∧ Dk K H p.1 (.ref q.2.1) ∧ ∃ v, RelA K H p.2 v ∧ RelV v q.2.2
theorem RelD.kp (S : Kp H H') {xs : List (PyData × AV)} {vs : List (PyData × Addr × Value)} (h : RelD K H xs vs) : RelD K H' xs vs := Paired.mapP h fun _ _ ⟨a, b, c, v, r, q⟩ => ⟨a, b, Dk.kp S _ _ c, v, r.kp S, q⟩
def RelM (K : PySem.W.Frag) (H : Hp) : MO → HO → Prop
  | .lst xs, o => ∃ vs, o = .lst vs ∧ RelAs K H xs vs
  | .dk kvs, o => ∃ vs, o = .dK vs ∧ RelK K H kvs vs
  | .dt kvs, o => ∃ vs, o = .dT vs ∧ RelK K H kvs vs
  | .dd kvs, o => ∃ xs, o = .dd xs ∧ RelD K H kvs xs
theorem RelM.kp (S : Kp H H') {m : MO} {o : HO} (h : RelM K H m o) : RelM K H' m o := by
  cases m with
  | lst xs => obtain ⟨vs, e, r⟩ := h; exact ⟨vs, e, r.kp S⟩
  | dk xs => obtain ⟨vs, e, r⟩ := h; exact ⟨vs, e, r.kp S⟩
  | dt xs => obtain ⟨vs, e, r⟩ := h; exact ⟨vs, e, r.kp S⟩
  | dd xs => obtain ⟨vs, e, r⟩ := h; exact ⟨vs, e, r.kp S⟩
theorem rm_lst {xs : List AV} {vs : List V} (h : RelAs K H xs vs) : RelM K H (.lst xs) (.lst vs) := ⟨vs, rfl, h⟩
theorem RelM.mt {m : MO} {o : HO} (h : RelM K H m o) : Mt o := by
  cases m with
  | lst xs => obtain ⟨vs, rfl, r⟩ := h; trivial
  | dk xs => obtain ⟨vs, rfl, r⟩ := h; trivial
  | dt xs => obtain ⟨vs, rfl, r⟩ := h; trivial
  | dd xs => obtain ⟨vs, rfl, r⟩ := h; trivial
def Cn (K : PySem.W.Frag) (μ : M) (H : Hp) : Prop := ∀ a m, μ a = some m → ∃ o, H a = some o ∧ RelM K H m o
theorem Cn.none {μ : M} {p : Addr} (c : Cn K μ H) (h : H p = none) : μ p = none := by
  cases q : μ p with
  | none => rfl
  | some m => obtain ⟨o, e, _⟩ := c p m q; rw [h] at e; cases e
theorem Cn.over {μ : M} {p : Addr} {o : HO} (c : Cn K μ H) (h : H p = Option.none) : Cn K μ (upd H p o) := fun a m e => by
  obtain ⟨o', e', r⟩ := c a m e
  exact ⟨o', by rw [upd_ne (ne_of_none e' h)]; exact e', r.kp (Kp.new h o)⟩
theorem Cn.new {μ : M} {p : Addr} {m : MO} {o : HO} (c : Cn K μ H) (h : H p = Option.none) (r : RelM K H m o) : Cn K (updM μ p m) (upd H p o) := fun a m' e => by
  by_cases ha : a = p
  · subst ha; rw [updM_same] at e; cases e; exact ⟨o, upd_same, r.kp (Kp.new h o)⟩
  · rw [updM_ne ha] at e; exact c.over h a m' e
theorem Cn.put {μ : M} {p : Addr} {m : MO} {o o0 : HO} (c : Cn K μ H) (h : H p = some o0) (hm : Mt o0) (r : RelM K H m o) : Cn K (updM μ p m) (upd H p o) := fun a m' e => by
  by_cases ha : a = p
  · subst ha; rw [updM_same] at e; cases e; exact ⟨o, upd_same, r.kp (Kp.put h hm o)⟩
  · rw [updM_ne ha] at e
    obtain ⟨o', e', r'⟩ := c a m' e
    exact ⟨o', by rw [upd_ne ha]; exact e', r'.kp (Kp.put h hm o)⟩
def Sub (μ ν : M) : Prop := ∀ a m, μ a = some m → ν a = some m
theorem Sub.refl {μ : M} : Sub μ μ := fun _ _ h => h
theorem Sub.trans {μ ν ρ : M} (h : Sub μ ν) (k : Sub ν ρ) : Sub μ ρ := fun a m e => k a m (h a m e)
theorem Sub.new {μ ν : M} {p : Addr} {m : MO} (h : Sub μ ν) (e : μ p = none) : Sub μ (updM ν p m) := fun a m' e' => by
  rw [updM_ne (by intro z; subst z; rw [e] at e'; cases e')]; exact h a m' e'
theorem Sub.put {μ ν : M} {p : Addr} {m : MO} (h : Sub μ ν) : Sub (updM μ p m) (updM ν p m) := fun a m' e => by
  by_cases ha : a = p
  · subst ha; rw [updM_same] at e ⊢; exact e
  · rw [updM_ne ha] at e ⊢; exact h a m' e
theorem Sub.none {μ ν : M} {p : Addr} (h : Sub μ ν) (e : ν p = none) : μ p = none := by
  cases q : μ p with
  | none => rfl
  | some m => rw [h p m q] at e; cases e
theorem Cn.sub {μ ν : M} (c : Cn K ν H) (h : Sub μ ν) : Cn K μ H := fun a m e => c a m (h a m e)
abbrev ASt := List (Option AV)
def RelSl (K : PySem.W.Frag) (H : Hp) (a : Option AV) (b : Option V) : Prop := ∀ x, a = some x → ∃ v, b = some v ∧ RelA K H x v
abbrev StA (K : PySem.W.Frag) (H : Hp) : ASt → St → Prop := Paired (RelSl K H)
theorem RelSl.kp {a : Option AV} {b : Option V} (S : Kp H H') (h : RelSl K H a b) : RelSl K H' a b := fun x e => let ⟨v, e2, r⟩ := h x e; ⟨v, e2, r.kp S⟩
theorem StA.kp {τ : ASt} {σ : St} (S : Kp H H') (h : StA K H τ σ) : StA K H' τ σ := Paired.mapP h fun _ _ q => q.kp S
theorem StA.get : ∀ {τ : ASt} {σ : St} {i : Nat} {x : AV}, StA K H τ σ → τ[i]? = some (some x) → ∃ v, σ[i]? = some (some v) ∧ RelA K H x v
  | _, _, _, _, .nil, e => by simp at e
  | _, _, 0, _, .cons r _, e => by simp at e; subst e; obtain ⟨v, rfl, q⟩ := r _ rfl; exact ⟨v, rfl, q⟩
  | _, _, i + 1, x, .cons _ t, e => by
    obtain ⟨u, h1, h2⟩ := StA.get (i := i) (x := x) t (by simpa using e)
    exact ⟨u, by simpa using h1, h2⟩
theorem relSl_some {x : AV} {v : V} (r : RelA K H x v) : RelSl K H (some x) (some v) := fun y e => by cases e; exact ⟨v, rfl, r⟩
theorem relSl_none {b : Option V} : RelSl K H none b := fun y e => nomatch e
theorem StA.set {x : AV} {v : V} (r : RelA K H x v) : ∀ {τ : ASt} {σ : St} (i : Nat), StA K H τ σ → StA K H (τ.set i (some x)) (σ.set i (some v))
  | _, _, _, .nil => .nil
  | _, _, 0, .cons _ t => .cons (relSl_some r) t
  | _, _, i + 1, .cons q t => .cons q (StA.set r i t)
def startA (N : List Str) (xs : List AV) : ASt := xs.map some ++ List.replicate (N.length - xs.length) none
theorem StA.rep : ∀ (n : Nat), StA K H (List.replicate n none) (List.replicate n none)
  | 0 => .nil
  | n + 1 => .cons relSl_none (StA.rep n)
theorem StA.somes : ∀ {xs : List AV} {vs : List V}, RelAs K H xs vs → StA K H (xs.map some) (vs.map some)
  | _, _, .nil => .nil
  | _, _, .cons r t => .cons (relSl_some r) (StA.somes t)
theorem StA.append : ∀ {τ τ' : ASt} {σ σ' : St}, StA K H τ σ → StA K H τ' σ' → StA K H (τ ++ τ') (σ ++ σ')
  | _, _, _, _, .nil, s => s
  | _, _, _, _, .cons r t, s => .cons r (StA.append t s)
theorem StA.begin {N : List Str} {xs : List AV} {vs : List V} (h : RelAs K H xs vs) : StA K H (startA N xs) (start N vs) := by
  unfold startA start
  rw [h.length]
  exact (StA.somes h).append (StA.rep _)
def subA (mp : List (Option Nat)) (τ : ASt) : ASt := mp.map fun o => match o with
  | none => none
  | some j => match τ[j]? with
    | some x => x
    | none => none
theorem StA.sub {τ : ASt} {σ : St} (h : StA K H τ σ) : ∀ (mp : List (Option Nat)), StA K H (subA mp τ) (subS mp σ)
  | [] => .nil
  | none :: mp => .cons relSl_none (StA.sub h mp)
  | some j :: mp => by
    refine .cons (fun x e => ?_) (StA.sub h mp)
    have e' : τ[j]? = some (some x) := by
      dsimp only at e
      cases q : τ[j]? with
      | none => rw [q] at e; cases e
      | some y => rw [q] at e; exact congrArg some e
    obtain ⟨v, hv, r⟩ := h.get e'
    refine ⟨v, ?_, r⟩
    show (σ[j]?).join = some v
    rw [hv]; rfl
end
end L2
namespace L2
open PySem PySem.Spec PyProof.Rows
abbrev AE := ASt → M → (AV → M → Prop) → Prop
abbrev AT := ASt → M → (Bool → M → Prop) → Prop
abbrev AA := ASt → M → (List AV → M → Prop) → Prop
abbrev AO := ASt → M → (Option Int → M → Prop) → Prop
abbrev AS := (ASt → M → Prop) → (AV → M → Prop) → (ASt → M → Prop) → (ASt → M → Prop) → ASt → M → Prop
abbrev AG := AV → ASt → M → (ASt → M → Prop) → Prop
abbrev AGs := List AV → ASt → M → (ASt → M → Prop) → Prop
abbrev A2 := AV → AV → M → (AV → M → Prop) → Prop
abbrev AC := List AV → M → (AV → M → Prop) → Prop
@[irreducible] def brP (b : Bool) (T F : Prop) : Prop := match b with
  | true => T
  | false => F
@[irreducible] def opt {α : Type} (o : Option α) (k : α → Prop) : Prop := match o with
  | some x => k x
  | none => False
theorem br {b : Bool} {T F : Prop} (h1 : b = true → T) (h2 : b = false → F) : brP b T F := by
  unfold brP; cases b with
  | true => exact h1 rfl
  | false => exact h2 rfl
theorem brT {b : Bool} {T F : Prop} (hb : b = true) (h : T) : brP b T F := by subst hb; unfold brP; exact h
theorem brF {b : Bool} {T F : Prop} (hb : b = false) (h : F) : brP b T F := by subst hb; unfold brP; exact h
theorem brP_true {T F : Prop} : brP true T F = T := by unfold brP; rfl
theorem br_e {b : Bool} {T F : Prop} (h : brP b T F) : (b = true ∧ T) ∨ (b = false ∧ F) := by
  unfold brP at h; cases b with
  | true => exact .inl ⟨rfl, h⟩
  | false => exact .inr ⟨rfl, h⟩
theorem opt_i {α : Type} {o : Option α} {x : α} {k : α → Prop} (h : o = some x) (q : k x) : opt o k := by subst h; unfold opt; exact q
theorem opt_e {α : Type} {o : Option α} {k : α → Prop} (h : opt o k) : ∃ x, o = some x ∧ k x := by
  unfold opt at h; cases o with
  | none => exact h.elim
  | some x => exact ⟨x, rfl, h⟩
theorem dif {p : Prop} [Decidable p] {T F : Prop} (h1 : p → T) (h2 : ¬ p → F) : brP (decide p) T F := br (fun h => h1 (of_decide_eq_true h)) (fun h => h2 (of_decide_eq_false h))
def LV (K : PySem.W.Frag) (H : Hp) (R : AV → M → Prop) (Q : VK) : Prop := ∀ x μ v H', Kp H H' → Cn K μ H' → RelA K H' x v → R x μ → Q v H'
def LB (K : PySem.W.Frag) (H : Hp) (R : Bool → M → Prop) (Q : Bool → Hp → Prop) : Prop := ∀ b μ H', Kp H H' → Cn K μ H' → R b μ → Q b H'
def LA (K : PySem.W.Frag) (n : Nat) (H : Hp) (R : List AV → M → Prop) (Q : List V → Hp → Prop) : Prop := ∀ xs μ vs H', Kp H H' → Cn K μ H' → RelAs K H' xs vs → xs.length = n → R xs μ → Q vs H'
def LO (K : PySem.W.Frag) (H : Hp) (R : Option Int → M → Prop) (Q : Option Int → Hp → Prop) : Prop := ∀ b μ H', Kp H H' → Cn K μ H' → R b μ → Q b H'
def LS (K : PySem.W.Frag) (H : Hp) (R : ASt → M → Prop) (Q : St → Hp → Prop) : Prop := ∀ τ μ σ H', Kp H H' → StA K H' τ σ → Cn K μ H' → R τ μ → Q σ H'
theorem LV.kp {K : PySem.W.Frag} {H H' : Hp} {R : AV → M → Prop} {Q : VK} (h : LV K H R Q) (S : Kp H H') : LV K H' R Q := fun x μ v H2 S2 => h x μ v H2 (S.trans S2)
theorem LB.kp {K : PySem.W.Frag} {H H' : Hp} {R : Bool → M → Prop} {Q : Bool → Hp → Prop} (h : LB K H R Q) (S : Kp H H') : LB K H' R Q := fun x μ H2 S2 => h x μ H2 (S.trans S2)
theorem LA.kp {K : PySem.W.Frag} {n : Nat} {H H' : Hp} {R : List AV → M → Prop} {Q : List V → Hp → Prop} (h : LA K n H R Q) (S : Kp H H') : LA K n H' R Q := fun x μ v H2 S2 => h x μ v H2 (S.trans S2)
theorem LO.kp {K : PySem.W.Frag} {H H' : Hp} {R : Option Int → M → Prop} {Q : Option Int → Hp → Prop} (h : LO K H R Q) (S : Kp H H') : LO K H' R Q := fun x μ H2 S2 => h x μ H2 (S.trans S2)
theorem LS.kp {K : PySem.W.Frag} {H H' : Hp} {R : ASt → M → Prop} {Q : St → Hp → Prop} (h : LS K H R Q) (S : Kp H H') : LS K H' R Q := fun x μ v H2 S2 => h x μ v H2 (S.trans S2)
structure LE' (K : PySem.W.Frag) (H : Hp) (k : ASt → M → Prop) (r : AV → M → Prop) (b c : ASt → M → Prop) (D : Ends) : Prop where
  nx : LS K H k D.nx
  rt : LV K H r D.rt
  bk : LS K H b D.bk
  ct : LS K H c D.ct
theorem LE'.kp {K : PySem.W.Frag} {H H' : Hp} {k : ASt → M → Prop} {r : AV → M → Prop} {b c : ASt → M → Prop} {D : Ends} (h : LE' K H k r b c D) (S : Kp H H') : LE' K H' k r b c D := ⟨h.nx.kp S, h.rt.kp S, h.bk.kp S, h.ct.kp S⟩
def cE (K : PySem.W.Frag) (t : AE) : TE := fun σ H Q => ∃ τ μ R, StA K H τ σ ∧ Cn K μ H ∧ t τ μ R ∧ LV K H R Q
def cT (K : PySem.W.Frag) (t : AT) : TT := fun σ H Q => ∃ τ μ R, StA K H τ σ ∧ Cn K μ H ∧ t τ μ R ∧ LB K H R Q
def cA (K : PySem.W.Frag) (n : Nat) (t : AA) : TA := fun σ H Q => ∃ τ μ R, StA K H τ σ ∧ Cn K μ H ∧ t τ μ R ∧ LA K n H R Q
def cO (K : PySem.W.Frag) (t : AO) : TO := fun σ H Q => ∃ τ μ R, StA K H τ σ ∧ Cn K μ H ∧ t τ μ R ∧ LO K H R Q
def cS (K : PySem.W.Frag) (t : AS) : TS := fun D σ H => ∃ τ μ k r b c, StA K H τ σ ∧ Cn K μ H ∧ t k r b c τ μ ∧ LE' K H k r b c D
def cG (K : PySem.W.Frag) (t : AG) : TG := fun v σ H Q => ∃ x τ μ R, RelA K H x v ∧ StA K H τ σ ∧ Cn K μ H ∧ t x τ μ R ∧ LS K H R Q
def cGs (K : PySem.W.Frag) (t : AGs) : TGs := fun vs σ H Q => ∃ xs τ μ R, RelAs K H xs vs ∧ StA K H τ σ ∧ Cn K μ H ∧ t xs τ μ R ∧ LS K H R Q
def cR (K : PySem.W.Frag) (r : A2) : R2 := fun x y H Q => ∃ a b μ R, RelA K H a x ∧ RelA K H b y ∧ Cn K μ H ∧ r a b μ R ∧ LV K H R Q
def cC (K : PySem.W.Frag) (r : AC) : List V → Hp → VK → Prop := fun xs H Q => ∃ as μ R, RelAs K H as xs ∧ Cn K μ H ∧ r as μ R ∧ LV K H R Q
def cM (K : PySem.W.Frag) (r : AV → AC) : V → List V → Hp → VK → Prop := fun x xs H Q => ∃ a as μ R, RelA K H a x ∧ RelAs K H as xs ∧ Cn K μ H ∧ r a as μ R ∧ LV K H R Q
def VE (X : Cx) (e : Expr) (t : AE) : Prop := PE X e (cE X.K t)
def VT (X : Cx) (e : Expr) (t : AT) : Prop := PT X e (cT X.K t)
def VW (X : Cx) (e : Expr) (t : AT) : Prop := PW X e (cT X.K t)
def VA (X : Cx) (es : List Expr) (t : AA) : Prop := PA X es (cA X.K es.length t)
def VO (X : Cx) (e : Option Expr) (t : AO) : Prop := PO X e (cO X.K t)
def VS (X : Cx) (st : Stmt) (t : AS) : Prop := PS X st (cS X.K t)
def VSs (X : Cx) (st : List Stmt) (t : AS) : Prop := PSs X st (cS X.K t)
def VG (X : Cx) (e : Expr) (t : AG) : Prop := PG X e (cG X.K t)
def VGs (X : Cx) (es : List Expr) (t : AGs) : Prop := PGs X es (cGs X.K t)
def VOp (X : Cx) (f : Value → Value → Sem Value) (r : A2) : Prop := OpR X f (cR X.K r)
def VIx (X : Cx) (r : A2) : Prop := IxR X (cR X.K r)
def VCall (X : Cx) (f : Value) (r : AC) : Prop := CallR X f (cC X.K r)
def VMt (X : Cx) (id : String) (r : AV → AC) : Prop := MtR X id (cM X.K r)
section
variable {X : Cx}
theorem PE.imp {e : Expr} {t u : TE} (h : PE X e t) (i : ∀ σ H Q, u σ H Q → t σ H Q) : PE X e u := fun pins s σ H Q I q => h pins s σ H Q I (i σ H Q q)
theorem PT.imp {e : Expr} {t u : TT} (h : PT X e t) (i : ∀ σ H Q, u σ H Q → t σ H Q) : PT X e u := fun pins s σ H Q I q => h pins s σ H Q I (i σ H Q q)
theorem PW.imp {e : Expr} {t u : TT} (h : PW X e t) (i : ∀ σ H Q, u σ H Q → t σ H Q) : PW X e u := fun wh pins s σ H Q I q => h wh pins s σ H Q I (i σ H Q q)
theorem PA.imp {e : List Expr} {t u : TA} (h : PA X e t) (i : ∀ σ H Q, u σ H Q → t σ H Q) : PA X e u := fun pos pins s σ H Q I q => h pos pins s σ H Q I (i σ H Q q)
theorem PO.imp {e : Option Expr} {t u : TO} (h : PO X e t) (i : ∀ σ H Q, u σ H Q → t σ H Q) : PO X e u := fun pins s σ H Q I q => h pins s σ H Q I (i σ H Q q)
theorem PS.imp {e : Stmt} {t u : TS} (h : PS X e t) (i : ∀ D σ H, u D σ H → t D σ H) : PS X e u := fun pins s σ H D I q => h pins s σ H D I (i D σ H q)
theorem PSs.imp {e : List Stmt} {t u : TS} (h : PSs X e t) (i : ∀ D σ H, u D σ H → t D σ H) : PSs X e u := fun pins s σ H D I q => h pins s σ H D I (i D σ H q)
theorem PG.imp {e : Expr} {t u : TG} (h : PG X e t) (i : ∀ v σ H Q, u v σ H Q → t v σ H Q) : PG X e u := fun pins s σ H v w Q I r q => h pins s σ H v w Q I r (i v σ H Q q)
theorem PGs.imp {e : List Expr} {t u : TGs} (h : PGs X e t) (i : ∀ v σ H Q, u v σ H Q → t v σ H Q) : PGs X e u := fun pins s σ H v w Q I r q => h pins s σ H v w Q I r (i v σ H Q q)
def vVar (i : Nat) : AE := fun τ μ R => match τ[i]? with
  | some (some x) => R x μ
  | _ => False
theorem vVar_imp {K : PySem.W.Frag} {i : Nat} {σ : St} {H : Hp} {Q : VK} (h : cE K (vVar i) σ H Q) : tVar i σ H Q := by
  obtain ⟨τ, μ, R, hs, hc, h, hq⟩ := h
  unfold vVar at h
  split at h
  · rename_i x e
    obtain ⟨v, ev, r⟩ := hs.get e
    exact ⟨v, ev, hq _ _ _ _ Kp.refl hc r h⟩
  · exact h.elim
theorem vv (i : Nat) {x : Str} {pos : Pos} (hN : X.N[i]? = some x := by rfl) (hv : Vis X.env.scope x := by first | exact Or.inl rfl | exact Or.inr (Or.inl rfl) | exact Or.inr (Or.inr rfl)) (hd : (x == ("__debug__" : Str)) = false := by decide)
    (hcd : (x == ("__classdict__" : Str)) = false := by decide) : VE X (.Name x pos) (vVar i) := (pe_var hN hv hd hcd).imp fun _ _ _ h => vVar_imp h
def vC (x : AV) : AE := fun _ μ R => R x μ
theorem ve_const {e : Expr} {v : V} {d : PyData} (h : PE X e (tC v)) (r : ∀ H, Dk X.K H d v) : VE X e (vC (.D d)) := h.imp fun σ H Q ⟨τ, μ, R, hs, hc, h, hq⟩ => hq _ _ _ _ Kp.refl hc (ra_D (r H)) h
theorem ve_int {i j pos} : VE X (.Constant (.int i) j pos) (vC (.D (.int i))) := ve_const pe_int fun _ => dk_int
theorem ve_bl {b j pos} : VE X (.Constant (.bool b) j pos) (vC (.D (.bool b))) := ve_const pe_bl fun _ => dk_bl
theorem ve_str {x j pos} : VE X (.Constant (.str x) j pos) (vC (.D (.str x))) := ve_const pe_str fun _ => dk_str
def vOp (r : A2) (ta tb : AE) : AE := fun τ μ R => ta τ μ fun x μ1 => tb τ μ1 fun y μ2 => r x y μ2 R
theorem vOp_imp {K : PySem.W.Frag} {r : A2} {ta tb : AE} {σ : St} {H : Hp} {Q : VK} (h : cE K (vOp r ta tb) σ H Q) : tOp (cR K r) (cE K ta) (cE K tb) σ H Q := by
  obtain ⟨τ, μ, R, hs, hc, h, hq⟩ := h
  exact ⟨τ, μ, _, hs, hc, h, fun x μ1 v H1 S1 c1 rx hx => ⟨τ, μ1, _, hs.kp S1, c1, hx, fun y μ2 u H2 S2 c2 ry hy => ⟨x, y, μ2, R, rx.kp S2, ry, c2, hy, hq.kp (S1.trans S2)⟩⟩⟩
variable {a b c : Expr} {ta tb tc : AE} {pos : Pos}
theorem ve_op {op : Operator} {r : A2} (ho : VOp X (binaryOp op) r) (ha : VE X a ta) (hb : VE X b tb) : VE X (.BinOp a op b pos) (vOp r ta tb) := (pe_op ho ha hb).imp fun _ _ _ h => vOp_imp h
theorem ve_cmp {op : CmpOp} {r : A2} (ho : VOp X (compareOp op) r) (ha : VE X a ta) (hb : VE X b tb) (hm : behindInMarks op b = false) : VE X (.Compare a [op] [b] pos) (vOp r ta tb) := (pe_cmpR ho ha hb hm).imp fun _ _ _ h => vOp_imp h
def vTest (t : AE) : AT := fun τ μ R => t τ μ fun x μ1 => match x with
  | .D (.bool k) => R k μ1
  | _ => False
theorem vTest_imp {K : PySem.W.Frag} {t : AE} {u : TE} (hu : ∀ σ H Q, cE K t σ H Q → u σ H Q) {σ : St} {H : Hp} {Q : Bool → Hp → Prop} (h : cT K (vTest t) σ H Q) : tTest u σ H Q := by
  obtain ⟨τ, μ, R, hs, hc, h, hq⟩ := h
  refine hu _ _ _ ⟨τ, μ, _, hs, hc, h, fun x μ1 v H1 S1 c1 rx hx => ?_⟩
  split at hx
  · cases RelA.bl rx
    exact ⟨_, rfl, hq _ _ _ S1 c1 hx⟩
  · exact hx.elim
theorem vt_cmp {op : CmpOp} {r : A2} (ho : VOp X (compareOp op) r) (ha : VE X a ta) (hb : VE X b tb) (hm : behindInMarks op b = false) : VT X (.Compare a [op] [b] pos) (vTest (vOp r ta tb)) :=
  (pt_cmpR ho ha hb hm).imp fun _ _ _ h => vTest_imp (fun _ _ _ q => vOp_imp q) h
def vAnd (t u : AT) : AT := fun τ μ R => t τ μ fun k μ1 => brP k (u τ μ1 R) (R false μ1)
def vOr (t u : AT) : AT := fun τ μ R => t τ μ fun k μ1 => brP k (R true μ1) (u τ μ1 R)
theorem VW.pt {e : Expr} {t : AT} (h : VW X e t) : VT X e t := PW.pt h
variable {rest : List Expr} {tA tB' : AT}
theorem vw_and1 (ha : VT X a tA) : VW X (.BoolOp .And [a] pos) tA := pw_and1 ha
theorem vw_or1 (ha : VT X a tA) : VW X (.BoolOp .Or [a] pos) tA := pw_or1 ha
theorem vw_and (ha : VT X a tA) (hb : VW X (.BoolOp .And (b :: rest) pos) tB') : VW X (.BoolOp .And (a :: b :: rest) pos) (vAnd tA tB') :=
  (pw_and ha hb).imp fun σ H Q ⟨τ, μ, R, hs, hc, h, hq⟩ => ⟨τ, μ, _, hs, hc, h, fun k μ1 H1 S1 c1 hk => by
    rcases br_e hk with ⟨rfl, hk'⟩ | ⟨rfl, hk'⟩
    · exact ⟨τ, μ1, R, hs.kp S1, c1, hk', hq.kp S1⟩
    · exact hq _ _ _ S1 c1 hk'⟩
theorem vw_or (ha : VT X a tA) (hb : VW X (.BoolOp .Or (b :: rest) pos) tB') : VW X (.BoolOp .Or (a :: b :: rest) pos) (vOr tA tB') :=
  (pw_or ha hb).imp fun σ H Q ⟨τ, μ, R, hs, hc, h, hq⟩ => ⟨τ, μ, _, hs, hc, h, fun k μ1 H1 S1 c1 hk => by
    rcases br_e hk with ⟨rfl, hk'⟩ | ⟨rfl, hk'⟩
    · exact hq _ _ _ S1 c1 hk'
    · exact ⟨τ, μ1, R, hs.kp S1, c1, hk', hq.kp S1⟩⟩
def vNil : AA := fun _ μ R => R [] μ
def vCons (ta : AE) (tr : AA) : AA := fun τ μ R => ta τ μ fun x μ1 => tr τ μ1 fun xs μ2 => R (x :: xs) μ2
theorem va_nil : VA X [] vNil := pa_nil.imp fun σ H Q ⟨τ, μ, R, hs, hc, h, hq⟩ => hq [] μ [] H Kp.refl hc .nil rfl h
theorem va_cons {e : Expr} {es : List Expr} {te : AE} {t : AA} (ha : VE X e te) (hr : VA X es t) (hs : starEach (e :: es) X.env = (false, eval e X.env) :: starEach es X.env := by rfl) : VA X (e :: es) (vCons te t) :=
  (pa_cons ha hr hs).imp fun σ H Q ⟨τ, μ, R, hs, hc, h, hq⟩ => ⟨τ, μ, _, hs, hc, h, fun x μ1 v H1 S1 c1 rx hx => ⟨τ, μ1, _, hs.kp S1, c1, hx, fun xs μ2 vs H2 S2 c2 rs hl hxs =>
    hq (x :: xs) μ2 (v :: vs) H2 (S1.trans S2) c2 (.cons (rx.kp S2) rs) (by rw [List.length_cons, hl]; rfl) hxs⟩⟩
def vTup (t : AA) : AE := fun τ μ R => t τ μ fun xs μ1 => match dats xs with
  | some ds => R (.D (.tuple ds)) μ1
  | none => False
def vLst (t : AA) : AE := fun τ μ R => t τ μ fun xs μ1 => ∀ p, μ1 p = none → R (.R p) (updM μ1 p (.lst xs))
variable {es : List Expr} {t : AA}
theorem ve_tup {k : Nat} (h : VA X es t) (hn : es.length ≤ sizeLine := by decide) : VE X (.Tuple es k pos) (vTup t) :=
  (pe_tup h).imp fun σ H Q ⟨τ, μ, R, hs, hc, h, hq⟩ => ⟨τ, μ, _, hs, hc, h, fun xs μ1 vs H1 S1 c1 rs hl hx => ⟨by rw [← rs.length, hl]; exact hn, fun p hp => by
    split at hx
    · rename_i ds e
      refine hq _ _ _ _ (S1.trans (Kp.new hp _)) (c1.over hp) ?_ hx
      exact dk_tup upd_same (DkAll.kp (Kp.new hp _) _ _ (rs.dats e))
    · exact hx.elim⟩⟩
theorem ve_lst (h : VA X es t) (hn : es.length ≤ sizeLine := by decide) : VE X (.List es pos) (vLst t) :=
  (pe_lst h).imp fun σ H Q ⟨τ, μ, R, hs, hc, h, hq⟩ => ⟨τ, μ, _, hs, hc, h, fun xs μ1 vs H1 S1 c1 rs hl hx => ⟨by rw [← rs.length, hl]; exact hn, fun p hp =>
    hq _ _ _ _ (S1.trans (Kp.new hp _)) (c1.new hp (rm_lst (rs))) ra_ref (hx p (c1.none hp))⟩⟩
mutual
theorem Dk.reads {pins : List (Addr × Obj)} {σ : St} {H : Hp} {s : Shared} (I : Inv X pins σ H s) : ∀ (d : PyData) (x : V) (u : Value), Dk X.K H d x → RelV x u → ∃ as, Reads s.heap u d as
  | .none, x, u, h, r => by cases h.non; cases r; exact ⟨_, .none⟩
  | .bool b, x, u, h, r => by cases h.bl; cases r; exact ⟨_, .bool b⟩
  | .int i, x, u, h, r => by cases h.int; obtain ⟨t, rfl⟩ := r; exact ⟨_, .int i t⟩
  | .str z, x, u, h, r => by cases h.str; obtain ⟨t, rfl⟩ := r; exact ⟨_, .str z t⟩
  | .list ds, x, u, h, r => by
    obtain ⟨a, xs, rfl, q, k⟩ := h.lst
    cases r
    obtain ⟨its, rv, ⟨o, n, e, c, _, d⟩, _⟩ := I.list q.sq
    obtain ⟨as, ra⟩ := DkAll.reads I ds xs its k rv
    exact ⟨_, .list e c d (by simpa using ra)⟩
  | .tuple ds, x, u, h, r => by
    obtain ⟨a, xs, rfl, q, k⟩ := h.tup
    cases r
    obtain ⟨its, rv, ⟨o, e, c, n, d⟩, _⟩ := I.tuple (SqT.of q)
    obtain ⟨as, ra⟩ := DkAll.reads I ds xs its k rv
    exact ⟨_, .tuple e c d (by simpa using ra)⟩
  | .dict _, x, u, h, _ => by simp only [Dk] at h
theorem DkAll.reads {pins : List (Addr × Obj)} {σ : St} {H : Hp} {s : Shared} (I : Inv X pins σ H s) : ∀ (ds : List PyData) (xs : List V) (us : List Value), DkAll X.K H ds xs → Vals xs us → ∃ as, ReadsAll s.heap us ds as
  | [], xs, us, h, r => by
    have e := h.nil
    subst e
    cases r
    exact ⟨_, .nil⟩
  | d :: ds, xs, us, h, r => by
    obtain ⟨x, xr, rfl, h1, h2⟩ := h.cons
    cases r with
    | cons r1 r2 =>
      obtain ⟨as, ra⟩ := Dk.reads I d x _ h1 r1
      obtain ⟨bs, rb⟩ := DkAll.reads I ds xr _ h2 r2
      exact ⟨_, .cons ra rb⟩
end
def see (μ : M) : AV → Option PyData
  | .X _ _ => none
  | .D d => some d
  | .C ds => some (.tuple ds)
  | .R a => match μ a with
    | some (.lst xs) => match dats xs with
      | some ds => some (.list ds)
      | none => none
    | _ => none
@[simp] theorem see_D {μ : M} {d : PyData} : see μ (.D d) = some d := rfl
theorem see_reads {pins : List (Addr × Obj)} {σ : St} {H : Hp} {s : Shared} {μ : M} {x : AV} {v : V} {u : Value} {d : PyData} (I : Inv X pins σ H s) (hc : Cn X.K μ H) (rx : RelA X.K H x v) (r : RelV v u) (e : see μ x = some d) : ∃ as, Reads s.heap u d as := by
  cases x with
  | X C fs => cases e
  | D d' => cases e; exact Dk.reads I _ _ _ rx r
  | C ds =>
    cases e
    obtain ⟨a, xs, rfl, q, k⟩ := rx
    cases r
    obtain ⟨its, rv, ⟨o, e, c, n, d⟩, _⟩ := I.tuple (q H)
    obtain ⟨as, ra⟩ := DkAll.reads I ds xs its k rv
    exact ⟨_, .tuple e c d (by simpa using ra)⟩
  | R a =>
    dsimp only [see] at e
    split at e
    · rename_i xs ex
      split at e
      · rename_i ds ed
        cases e
        cases (show v = .ref a from rx)
        cases r
        obtain ⟨o, ho, vs, rfl, rs⟩ := hc a _ ex
        obtain ⟨its, rv, ⟨o, n, e, c, _, dd⟩, _⟩ := I.list (SqL.of ho)
        obtain ⟨as, ra⟩ := DkAll.reads I ds vs its (rs.dats ed) rv
        exact ⟨_, .list e c dd (by simpa using ra)⟩
      · cases e
    · cases e
def EqOk (d : PyData) : Prop := d.canLay0 = true ∧ d.depth ≤ 64
def aEq : A2 := fun x y μ R => match x, y with
  | .D d, .D e => EqOk d ∧ EqOk e ∧ R (.D (.bool (PyData.eqv d e))) μ
  | x, y => opt (see μ x) fun d => opt (see μ y) fun e => EqOk d ∧ EqOk e ∧ R (.D (.bool (PyData.eqv d e))) μ
theorem aEq_opt {x y : AV} {μ : M} {R : AV → M → Prop} (h : aEq x y μ R) : ∃ d e, see μ x = some d ∧ see μ y = some e ∧ EqOk d ∧ EqOk e ∧ R (.D (.bool (PyData.eqv d e))) μ := by
  unfold aEq at h
  split at h
  · exact ⟨_, _, rfl, rfl, h⟩
  · obtain ⟨d, ed, h⟩ := opt_e h
    obtain ⟨e, ee, h⟩ := opt_e h
    exact ⟨d, e, ed, ee, h⟩
def aNe : A2 := fun x y μ R => match x, y with
  | .D d, .D e => EqOk d ∧ EqOk e ∧ R (.D (.bool (!PyData.eqv d e))) μ
  | x, y => opt (see μ x) fun d => opt (see μ y) fun e => EqOk d ∧ EqOk e ∧ R (.D (.bool (!PyData.eqv d e))) μ
theorem aNe_opt {x y : AV} {μ : M} {R : AV → M → Prop} (h : aNe x y μ R) : ∃ d e, see μ x = some d ∧ see μ y = some e ∧ EqOk d ∧ EqOk e ∧ R (.D (.bool (!PyData.eqv d e))) μ := by
  unfold aNe at h
  split at h
  · exact ⟨_, _, rfl, rfl, h⟩
  · obtain ⟨d, ed, h⟩ := opt_e h
    obtain ⟨e, ee, h⟩ := opt_e h
    exact ⟨d, e, ed, ee, h⟩
variable {k : Nat}
theorem o_eq (hr : Room k X.A) : VOp X (compareOp .Eq) aEq := by
  intro pins s σ H x y v u Q I rx ry ⟨a, b, μ, R, ra, rb, hc, h, hq⟩
  obtain ⟨d, e, ed, ee, h⟩ := aEq_opt h
  · obtain ⟨as, r1⟩ := see_reads I hc ra rx ed
    obtain ⟨bs, r2⟩ := see_reads I hc rb ry ee
    have hu := hr.un
    have := h.1.2
    exact SeqAt.compareEq_reads r1 r2 h.1.1 h.2.1.1 (by omega) ⟨.bl _, H, I, rfl, hq _ _ _ _ Kp.refl hc ra_bl h.2.2⟩
theorem o_ne (hr : Room k X.A) : VOp X (compareOp .NotEq) aNe := by
  intro pins s σ H x y v u Q I rx ry ⟨a, b, μ, R, ra, rb, hc, h, hq⟩
  obtain ⟨d, e, ed, ee, h⟩ := aNe_opt h
  · obtain ⟨as, r1⟩ := see_reads I hc ra rx ed
    obtain ⟨bs, r2⟩ := see_reads I hc rb ry ee
    have hu := hr.un
    have := h.1.2
    exact SeqAt.compareNe_reads r1 r2 h.1.1 h.2.1.1 (by omega) ⟨.bl _, H, I, rfl, hq _ _ _ _ Kp.refl hc ra_bl h.2.2⟩
def keyOf : PyData → Option Key
  | .int i => some (.inl i)
  | .str z => some (.inr z)
  | _ => none
def items (μ : M) : AV → Option (List AV)
  | .D (.tuple ds) => some (ds.map .D)
  | .C ds => some (ds.map .D)
  | .D (.list ds) => some (ds.map .D)
  | .R a => match μ a with
    | some (.lst xs) => some xs
    | _ => none
  | _ => none
theorem items_seq {H : Hp} {μ : M} {x : AV} {v : V} {xs : List AV} (hc : Cn X.K μ H) (rx : RelA X.K H x v) (e : items μ x = some xs) : ∃ p vs, v = .ref p ∧ (SqL X.K H p vs ∨ SqT X.K H p vs) ∧ RelAs X.K H xs vs := by
  unfold items at e
  split at e
  · cases e; obtain ⟨a, vs, rfl, q, r⟩ := RelA.tup rx; exact ⟨a, vs, rfl, .inr (SqT.of q), r.rel⟩
  · cases e; obtain ⟨a, vs, rfl, q, r⟩ := rx; exact ⟨a, vs, rfl, .inr (q H), r.rel⟩
  · cases e; obtain ⟨a, vs, rfl, q, r⟩ := RelA.lst rx; exact ⟨a, vs, rfl, .inl q.sq, r.rel⟩
  · split at e
    · rename_i ys ey
      cases e
      obtain ⟨o, ho, vs, rfl, rs⟩ := hc _ _ ey
      exact ⟨_, vs, rx, .inl (SqL.of ho), rs⟩
    · cases e
  · cases e
def isT : AV → Bool
  | .D (.tuple _) => true
  | .C _ => true
  | _ => false
theorem items_kind {H : Hp} {μ : M} {x : AV} {v : V} {xs : List AV} (hc : Cn X.K μ H) (rx : RelA X.K H x v) (e : items μ x = some xs) : ∃ p vs, v = .ref p ∧ ((isT x = false ∧ SqL X.K H p vs) ∨ (isT x = true ∧ SqT X.K H p vs)) ∧ RelAs X.K H xs vs := by
  unfold items at e
  split at e
  · cases e; obtain ⟨a, vs, rfl, q, r⟩ := RelA.tup rx; exact ⟨a, vs, rfl, .inr ⟨rfl, SqT.of q⟩, r.rel⟩
  · cases e; obtain ⟨a, vs, rfl, q, r⟩ := rx; exact ⟨a, vs, rfl, .inr ⟨rfl, q H⟩, r.rel⟩
  · cases e; obtain ⟨a, vs, rfl, q, r⟩ := RelA.lst rx; exact ⟨a, vs, rfl, .inl ⟨rfl, q.sq⟩, r.rel⟩
  · split at e
    · rename_i ys ey
      cases e
      obtain ⟨o, ho, vs, rfl, rs⟩ := hc _ _ ey
      exact ⟨_, vs, rx, .inl ⟨rfl, SqL.of ho⟩, rs⟩
    · cases e
  · cases e
def aIn (nb : Bool → Bool) : A2 := fun x y μ R => match y with
  | .D (.str j) => match x with
    | .D (.str i) => R (.D (.bool (nb (!(Builtin.Str.occurrences j i 0 j.length 1).isEmpty)))) μ
    | _ => False
  | .C ds => opt (see μ x) fun d => EqOk d ∧ EqOk (.tuple ds) ∧ R (.D (.bool (nb (ds.any fun e => PyData.eqv e d)))) μ
  | .D (.tuple ds) => opt (see μ x) fun d => EqOk d ∧ EqOk (.tuple ds) ∧ R (.D (.bool (nb (ds.any fun e => PyData.eqv e d)))) μ
  | y => opt (see μ x) fun d => opt (items μ y) fun ys => opt (dats ys) fun ds => EqOk d ∧ EqOk (.tuple ds) ∧ R (.D (.bool (nb (ds.any fun e => PyData.eqv e d)))) μ
theorem aIn_opt {nb : Bool → Bool} {x y : AV} {μ : M} {R : AV → M → Prop} (h : aIn nb x y μ R) (hn : ∀ z, y ≠ .D (.str z)) : ∃ d ys ds, see μ x = some d ∧ items μ y = some ys ∧ dats ys = some ds ∧ EqOk d ∧ EqOk (.tuple ds) ∧ R (.D (.bool (nb (ds.any fun e => PyData.eqv e d)))) μ := by
  unfold aIn at h
  split at h
  · exact absurd rfl (hn _)
  · obtain ⟨d, ed, h⟩ := opt_e h
    exact ⟨d, _, _, ed, rfl, dats_map _, h⟩
  · obtain ⟨d, ed, h⟩ := opt_e h
    exact ⟨d, _, _, ed, rfl, dats_map _, h⟩
  · obtain ⟨d, ed, h⟩ := opt_e h
    obtain ⟨ys, ey, h⟩ := opt_e h
    obtain ⟨ds, eds, h⟩ := opt_e h
    exact ⟨d, ys, ds, ed, ey, eds, h⟩
theorem eqOk_all {ds : List PyData} (h : EqOk (.tuple ds)) : PyData.canLayAll0 ds = true ∧ PyData.depthAll ds ≤ 64 := by
  obtain ⟨h1, h2⟩ := h
  simp only [PyData.canLay0] at h1
  simp only [PyData.depth] at h2
  exact ⟨h1, by omega⟩
theorem o_in (hr : Room k X.A) : VOp X (compareOp .In) (aIn fun b => b) := by
  intro pins s σ H x y v u Q I rx ry ⟨a, b, μ, R, ra, rb, hc, h, hq⟩
  by_cases hb : ∃ z, b = .D (.str z)
  · obtain ⟨z, rfl⟩ := hb
    unfold aIn at h
    dsimp only at h
    split at h
    · cases RelA.str ra; cases RelA.str rb
      exact op_in_str pins s σ H _ _ v u Q I rx ry ⟨_, _, rfl, rfl, hq _ _ _ _ Kp.refl hc ra_bl h⟩
    · exact h.elim
  · obtain ⟨d, ys, ds, ed, ey, eds, h⟩ := aIn_opt h fun z e => hb ⟨z, e⟩
    · skip
      obtain ⟨ok1, ok2, h⟩ := h
      obtain ⟨as, r1⟩ := see_reads I hc ra rx ed
      obtain ⟨p, vs, rfl, hp, rs⟩ := items_seq hc rb ey
      cases ry
      obtain ⟨c1, c2⟩ := eqOk_all ok2
      have hs := rs.dats eds
      have hu := hr.un
      have q := hq _ _ _ _ Kp.refl hc ra_bl h
      rcases hp with hp | hp
      · obtain ⟨its, r, pl, hz⟩ := I.list hp
        obtain ⟨bs, rb⟩ := DkAll.reads I ds vs its hs r
        have e := fun A => items_eqR (A := A) r1 ok1.1
        refine SeqAt.in_listAt (eqR s.heap d) pl.isList (fun w hw => (e _ (by first | (show X.A.units + 64 < _; omega) | (show X.A.units + 1 + 64 < _; omega) | (show X.A.units + 1 + 1 + 64 < _; omega)) rb c1 c2).1 w (by simpa using hw)) ⟨.bl _, H, I, rfl, ?_⟩
        rw [show its.toArray.any (eqR s.heap d) = its.any (eqR s.heap d) by simp, (e X.A (by omega) rb c1 c2).2]
        exact q
      · obtain ⟨its, r, pl, hz⟩ := I.tuple hp
        obtain ⟨bs, rb⟩ := DkAll.reads I ds vs its hs r
        have e := fun A => items_eqR (A := A) r1 ok1.1
        refine SeqAt.in_tupleAt (eqR s.heap d) pl (fun w hw => (e _ (by first | (show X.A.units + 64 < _; omega) | (show X.A.units + 1 + 64 < _; omega) | (show X.A.units + 1 + 1 + 64 < _; omega)) rb c1 c2).1 w (by simpa using hw)) ⟨.bl _, H, I, rfl, ?_⟩
        rw [show its.toArray.any (eqR s.heap d) = its.any (eqR s.heap d) by simp, (e X.A (by omega) rb c1 c2).2]
        exact q
theorem o_notIn (hr : Room k X.A) : VOp X (compareOp .NotIn) (aIn fun b => !b) := by
  intro pins s σ H x y v u Q I rx ry ⟨a, b, μ, R, ra, rb, hc, h, hq⟩
  by_cases hb : ∃ z, b = .D (.str z)
  · obtain ⟨z, rfl⟩ := hb
    unfold aIn at h
    dsimp only at h
    split at h
    · cases RelA.str ra; cases RelA.str rb
      exact op_notIn_str pins s σ H _ _ v u Q I rx ry ⟨_, _, rfl, rfl, hq _ _ _ _ Kp.refl hc ra_bl h⟩
    · exact h.elim
  · obtain ⟨d, ys, ds, ed, ey, eds, h⟩ := aIn_opt h fun z e => hb ⟨z, e⟩
    · skip
      obtain ⟨ok1, ok2, h⟩ := h
      obtain ⟨as, r1⟩ := see_reads I hc ra rx ed
      obtain ⟨p, vs, rfl, hp, rs⟩ := items_seq hc rb ey
      cases ry
      obtain ⟨c1, c2⟩ := eqOk_all ok2
      have hs := rs.dats eds
      have hu := hr.un
      have q := hq _ _ _ _ Kp.refl hc ra_bl h
      rcases hp with hp | hp
      · obtain ⟨its, r, pl, hz⟩ := I.list hp
        obtain ⟨bs, rb⟩ := DkAll.reads I ds vs its hs r
        have e := fun A => items_eqR (A := A) r1 ok1.1
        refine SeqAt.notIn_listAt (eqR s.heap d) pl.isList (fun w hw => (e _ (by first | (show X.A.units + 64 < _; omega) | (show X.A.units + 1 + 64 < _; omega) | (show X.A.units + 1 + 1 + 64 < _; omega)) rb c1 c2).1 w (by simpa using hw)) ⟨.bl _, H, I, rfl, ?_⟩
        rw [show its.toArray.any (eqR s.heap d) = its.any (eqR s.heap d) by simp, (e X.A (by omega) rb c1 c2).2]
        exact q
      · obtain ⟨its, r, pl, hz⟩ := I.tuple hp
        obtain ⟨bs, rb⟩ := DkAll.reads I ds vs its hs r
        have e := fun A => items_eqR (A := A) r1 ok1.1
        refine SeqAt.notIn_tupleAt (eqR s.heap d) pl (fun w hw => (e _ (by first | (show X.A.units + 64 < _; omega) | (show X.A.units + 1 + 64 < _; omega) | (show X.A.units + 1 + 1 + 64 < _; omega)) rb c1 c2).1 w (by simpa using hw)) ⟨.bl _, H, I, rfl, ?_⟩
        rw [show its.toArray.any (eqR s.heap d) = its.any (eqR s.heap d) by simp, (e X.A (by omega) rb c1 c2).2]
        exact q
def aI (C : Int → Int → Prop) (g : Int → Int → PyData) : A2 := fun x y μ R => match x, y with
  | .D (.int i), .D (.int j) => C i j ∧ R (.D (g i j)) μ
  | _, _ => False
def aI0 (g : Int → Int → PyData) : A2 := fun x y μ R => match x, y with
  | .D (.int i), .D (.int j) => R (.D (g i j)) μ
  | _, _ => False
theorem o_I {f : Value → Value → Sem Value} {C : Int → Int → Prop} {g : Int → Int → V} {g' : Int → Int → PyData} (h : OpR X f (rI C g)) (hg : ∀ i j H, Dk X.K H (g' i j) (g i j)) : VOp X f (aI C g') := by
  intro pins s σ H x y v u Q I rx ry ⟨a, b, μ, R, ra, rb, hc, h', hq⟩
  unfold aI at h'
  split at h'
  · cases RelA.int ra; cases RelA.int rb
    exact h pins s σ H _ _ v u Q I rx ry ⟨_, _, rfl, rfl, h'.1, hq _ _ _ _ Kp.refl hc (ra_D (hg _ _ _)) h'.2⟩
  · exact h'.elim
theorem o_I0 {f : Value → Value → Sem Value} {g : Int → Int → V} {g' : Int → Int → PyData} (h : OpR X f (rI0 g)) (hg : ∀ i j H, Dk X.K H (g' i j) (g i j)) : VOp X f (aI0 g') := by
  intro pins s σ H x y v u Q I rx ry ⟨a, b, μ, R, ra, rb, hc, h', hq⟩
  unfold aI0 at h'
  split at h'
  · cases RelA.int ra; cases RelA.int rb
    exact h pins s σ H _ _ v u Q I rx ry ⟨_, _, rfl, rfl, hq _ _ _ _ Kp.refl hc (ra_D (hg _ _ _)) h'⟩
  · exact h'.elim
abbrev aSub : A2 := aI0 fun i j => .int (i - j)
abbrev aFdiv : A2 := aI CDiv fun i j => .int (i / j)
abbrev aMod : A2 := aI (fun _ j => 0 < j) fun i j => .int (i % j)
abbrev aPow : A2 := aI CPow fun i j => .int (i ^ j.toNat)
abbrev aLt : A2 := aI0 fun i j => .bool (decide (i < j))
abbrev aGt : A2 := aI0 fun i j => .bool (decide (j < i))
abbrev aGe : A2 := aI0 fun i j => .bool (decide (j ≤ i))
theorem o_sub : VOp X (binaryOp .Sub) aSub := o_I0 op_sub fun _ _ _ => dk_int
theorem o_fdiv : VOp X (binaryOp .FloorDiv) aFdiv := o_I op_fdiv fun _ _ _ => dk_int
theorem o_mod : VOp X (binaryOp .Mod) aMod := o_I op_mod fun _ _ _ => dk_int
theorem o_pow : VOp X (binaryOp .Pow) aPow := o_I op_pow fun _ _ _ => dk_int
theorem o_lt : VOp X (compareOp .Lt) aLt := o_I0 op_lt fun _ _ _ => dk_bl
theorem o_gt : VOp X (compareOp .Gt) aGt := o_I0 op_gt fun _ _ _ => dk_bl
theorem o_ge : VOp X (compareOp .GtE) aGe := o_I0 op_ge fun _ _ _ => dk_bl
def aMul : A2 := fun x y μ R => match x, y with
  | .D (.int i), .D (.int j) => CMul i j ∧ R (.D (.int (i * j))) μ
  | .D (.str z), .D (.int n) => (n = 0 ∨ n = 1) ∧ R (.D (.str (if n = 0 then Str.empty else z))) μ
  | _, _ => False
theorem o_mul : VOp X (binaryOp .Mult) aMul := by
  intro pins s σ H x y v u Q I rx ry ⟨a, b, μ, R, ra, rb, hc, h, hq⟩
  unfold aMul at h
  split at h
  · cases RelA.int ra; cases RelA.int rb
    exact op_mul pins s σ H _ _ v u Q I rx ry ⟨_, _, rfl, rfl, h.1, hq _ _ _ _ Kp.refl hc ra_int h.2⟩
  · cases RelA.str ra; cases RelA.int rb
    exact op_mul_str01 pins s σ H _ _ v u Q I rx ry ⟨_, _, rfl, rfl, h.1, hq _ _ _ _ Kp.refl hc ra_str h.2⟩
  · exact h.elim
def aAdd : A2 := fun x y μ R => match x, y with
  | .D (.int i), .D (.int j) => R (.D (.int (i + j))) μ
  | .D (.str i), .D (.str j) => i.length + j.length ≤ sizeLine ∧ R (.D (.str (i ++ j))) μ
  | .D (.tuple i), .D (.tuple j) => i.length + j.length ≤ sizeLine ∧ R (.D (.tuple (i ++ j))) μ
  | .R i, .R j => opt (μ i) fun m => opt (μ j) fun n => match m, n with
    | .lst xs, .lst ys => xs.length + ys.length ≤ sizeLine ∧ ∀ p, μ p = none → R (.R p) (updM μ p (.lst (xs ++ ys)))
    | _, _ => False
  | _, _ => False
theorem catK {K : PySem.W.Frag} {pins : List (Addr × Obj)} {σ : St} {H : Hp} {s : Shared} {v u : Value} {x y : V} {ds es : List PyData} {Q : VK} (hK : X.K = K) (I : Inv X pins σ H s) (rx : RelV x v) (ry : RelV y u) (hx : Dk K H (.tuple ds) x) (hy : Dk K H (.tuple es) y)
    (hz : ds.length + es.length ≤ sizeLine) (q : ∀ z H', Kp H H' → (∀ μ, Cn K μ H → Cn K μ H') → Dk K H' (.tuple (ds ++ es)) z → Q z H') : wpAny (model X.prog X.w) X.A (binaryOp .Add v u) (EP X pins σ Q) X.xe s := by
  subst hK
  obtain ⟨a, xs, rfl, ha, hxs⟩ := hx.tup
  obtain ⟨b, ys, rfl, hb, hys⟩ := hy.tup
  cases rx
  cases ry
  obtain ⟨its, r1, p1, _⟩ := I.tuple (SqT.of ha)
  obtain ⟨its2, r2, p2, _⟩ := I.tuple (SqT.of hb)
  have l1 := hxs.length
  have l2 := hys.length
  by_cases hv : xs = []
  · subst hv
    have e : its = [] := r1.nil_iff.mpr rfl
    subst e
    have ed : ds = [] := List.length_eq_zero_iff.mp l1.symm
    subst ed
    obtain ⟨⟨cls, dd, data, sl⟩, ho, hc, n, hd⟩ := id p1
    obtain ⟨⟨cls2, dd2, data2, sl2⟩, ho2, hc2, n2, hd2⟩ := id p2
    simp only at hc hd hc2 hd2
    subst hc hd hc2 hd2
    exact concat_meets ⟨_, ho, rfl⟩ ⟨_, ho2, rfl⟩ noFill_tuple_add seq_tuple_add PySem.F.slot_tuple_add PySem.F.entry_tuple_add (PySem.F.args_tuple_add_2 _ _)
      (tuple_addW0 a b [].toArray its2.toArray n n2 dd dd2 sl sl2 rfl) ⟨ho, ho2, .ref b, H, I, rfl, q _ _ Kp.refl (fun _ c => c) (by simpa using hy)⟩
  · refine HT.cat_tup p1 p2 (fun z => hv (r1.nil_iff.mp z)) (fun z => ⟨.ref a, H, I, rfl, q _ _ Kp.refl (fun _ c => c) ?_⟩) (fun z => ?_) (by rw [← r1.length, ← r2.length, l1, l2]; exact hz)
    · have e : ys = [] := r2.nil_iff.mp z
      subst e
      have ed : es = [] := List.length_eq_zero_iff.mp l2.symm
      subst ed
      simpa using hx
    · have hf := I.hok.fresh (Nat.le_refl s.heap.objs.size)
      refine ⟨.ref s.heap.objs.size, _, I.laid (t' := s.toks) (o := .tup (xs ++ ys)) (fun b ob q => Heap.get?_push_of_some _ q) (Nat.le_refl _) ?_, rfl, q _ _ (Kp.new hf _) (fun _ c => c.over hf) ?_⟩
      · exact ⟨by rw [List.length_append, l1, l2]; exact hz, _, r1.append r2, IsTup.new _ _⟩
      · exact dk_tup upd_same (DkAll.kp (Kp.new hf _) _ _ (hxs.append hys))
theorem o_add : VOp X (binaryOp .Add) aAdd := by
  intro pins s σ H x y v u Q I rx ry ⟨a, b, μ, R, ra, rb, hc, h, hq⟩
  unfold aAdd at h
  split at h
  · cases RelA.int ra; cases RelA.int rb
    exact op_add pins s σ H _ _ v u Q I rx ry ⟨_, _, rfl, rfl, hq _ _ _ _ Kp.refl hc ra_int h⟩
  · cases RelA.str ra; cases RelA.str rb
    exact op_add_str pins s σ H _ _ v u Q I rx ry ⟨_, _, rfl, rfl, h.1, hq _ _ _ _ Kp.refl hc ra_str h.2⟩
  · exact catK rfl I rx ry ra rb h.1 fun z H' S c hd => hq _ _ _ _ S (c _ hc) (ra_D hd) h.2
  · rename_i i j
    obtain ⟨m, ei, h⟩ := opt_e h
    obtain ⟨n, ej, h⟩ := opt_e h
    split at h
    · rename_i xs ys
      cases (show x = .ref i from ra); cases (show y = .ref j from rb)
      obtain ⟨o, ho, vs, rfl, rs⟩ := hc i _ ei
      obtain ⟨o', ho', ws, rfl, rs'⟩ := hc j _ ej
      exact op_cat pins s σ H _ _ v u Q I rx ry ⟨i, j, vs, ws, rfl, rfl, ho, ho', by rw [← rs.length, ← rs'.length]; exact h.1, fun p hp => hq _ _ _ _ (Kp.new hp _) (hc.new hp (rm_lst (rs.append rs'))) ra_ref (h.2 p (hc.none hp))⟩
    · exact h.elim
  · exact h.elim
end
end L2
namespace L2
open PySem PySem.Spec PyProof.Rows
section
variable {X : Cx} {a b c : Expr} {ta tb tc : AE} {pos : Pos}
def aIx : A2 := fun x y μ R => match x, y with
  | .D (.str z), .D (.int i) => z.length ≤ sizeLine ∧ opt (atI z.cps.toList i) fun c => R (.D (.str ⟨#[c]⟩)) μ
  | .D (.tuple ds), .D (.int i) => opt (atI ds i) fun d => R (.D d) μ
  | .D (.list ds), .D (.int i) => opt (atI ds i) fun d => R (.D d) μ
  | .R a, .D (.int i) => opt (μ a) fun m => match m with
    | .lst xs => opt (atI xs i) fun w => R w μ
    | _ => False
  | _, _ => False
theorem i_ix : VIx X aIx := by
  intro value slice pins s σ H x y v u Q I rx ry ⟨a, b, μ, R, ra, rb, hc, h, hq⟩ hs
  unfold aIx at h
  split at h
  · cases RelA.str ra; cases RelA.int rb
    obtain ⟨h1, h⟩ := h
    obtain ⟨c, e, h⟩ := opt_e h
    exact ix_str value slice pins s σ H _ _ v u Q I rx ry ⟨_, _, _, rfl, rfl, h1, e, hq _ _ _ _ Kp.refl hc ra_str h⟩ hs
  · cases RelA.int rb
    obtain ⟨d, ed, h⟩ := opt_e h
    obtain ⟨p, vs, rfl, hp, rs⟩ := RelA.tup ra
    obtain ⟨z, ez, rz⟩ := rs.atI ed
    exact ix_tup value slice pins s σ H _ _ v u Q I rx ry ⟨_, _, _, _, rfl, rfl, SqT.of hp, ez, hq _ _ _ _ Kp.refl hc (ra_D rz) h⟩ hs
  · cases RelA.int rb
    obtain ⟨d, ed, h⟩ := opt_e h
    obtain ⟨p, vs, rfl, hp, rs⟩ := RelA.lst ra
    obtain ⟨z, ez, rz⟩ := rs.atI ed
    exact ix_list value slice pins s σ H _ _ v u Q I rx ry ⟨_, _, _, _, rfl, rfl, hp.sq, ez, hq _ _ _ _ Kp.refl hc (ra_D rz) h⟩ hs
  · cases RelA.int rb
    obtain ⟨m, em, h⟩ := opt_e h
    split at h
    · obtain ⟨w, ew, h⟩ := opt_e h
      obtain ⟨o, ho, vs, rfl, rs⟩ := hc _ _ em
      cases (show x = .ref _ from ra)
      obtain ⟨z, ez, rz⟩ := rs.atI ew
      exact ix_list value slice pins s σ H _ _ v u Q I rx ry ⟨_, _, _, _, rfl, rfl, SqL.of ho, ez, hq _ _ _ _ Kp.refl hc rz h⟩ hs
    · exact h.elim
  · exact h.elim
theorem ve_ix {r : A2} (hr : VIx X r) (ha : VE X a ta) (hb : VE X b tb) (hs : PlainIx b := by intro _ _; rfl) : VE X (.Subscript a b pos) (vOp r ta tb) := (pe_ix hr ha hb hs).imp fun _ _ _ h => vOp_imp h
def vNoPart : AO := fun _ μ R => R none μ
def vPart (t : AE) : AO := fun τ μ R => t τ μ fun x μ1 => match x with
  | .D (.int i) => R (some i) μ1
  | _ => False
theorem vo_none : VO X none vNoPart := po_none.imp fun σ H Q ⟨τ, μ, R, hs, hc, h, hq⟩ => hq _ _ _ Kp.refl hc h
theorem vo_some (h : VE X a ta) : VO X (some a) (vPart ta) := (po_some h).imp fun σ H Q ⟨τ, μ, R, hs, hc, h, hq⟩ => ⟨τ, μ, _, hs, hc, h, fun x μ1 v H1 S1 c1 rx hx => by
  split at hx
  · cases RelA.int rx
    exact ⟨_, rfl, hq _ _ _ S1 c1 hx⟩
  · exact hx.elim⟩
def aSl (x : AV) (lo hi : Option Int) : M → (AV → M → Prop) → Prop := fun μ R => match x with
  | .D (.str z) => z.length ≤ sizeLine ∧ R (.D (.str (Txt.slice z lo hi))) μ
  | .D (.tuple ds) => R (.D (.tuple (cutD ds lo hi))) μ
  | .C _ => False
  | x => opt (items μ x) fun xs => ∀ p, μ p = none → R (.R p) (updM μ p (.lst (cutA xs lo hi)))
def cSl (K : PySem.W.Frag) : V → Option Int → Option Int → Hp → VK → Prop := fun x lo hi H Q => ∃ a μ R, RelA K H a x ∧ Cn K μ H ∧ aSl a lo hi μ R ∧ LV K H R Q
theorem s_sl : SlR X (cSl X.K) := by
  intro pins s σ H x v vl vu lo hi sl Q I rx hs pl pu ⟨a, μ, R, ra, hc, h, hq⟩
  unfold aSl at h
  split at h
  · cases RelA.str ra
    exact sl_str pins s σ H _ v vl vu lo hi sl Q I rx hs pl pu ⟨_, rfl, h.1, hq _ _ _ _ Kp.refl hc ra_str h.2⟩
  · rename_i ds
    by_cases hw : HT.sIx ds.length 0 lo = 0 ∧ HT.sIx ds.length ds.length hi = ds.length
    · obtain ⟨a, xs, rfl, ha, hx⟩ := RelA.tup ra
      cases rx
      obtain ⟨its, r, ht, hz⟩ := I.tuple (SqT.of ha)
      have hlen : its.toArray.size = ds.length := by rw [List.size_toArray, ← r.length, hx.length]
      refine ⟨"tuple", _, PyProof.Rows.slot_tuple_getitem.lookup, ht.typeIs, ?_⟩
      refine HT.getItem_tuple_all ht hs pl pu (by rw [hlen]; exact hw) ⟨.ref a, H, I, rfl, hq _ _ _ _ Kp.refl hc ?_ h⟩
      rw [cutD_all hw]
      exact ra
    · obtain ⟨a, xs, rfl, ha, hx⟩ := RelA.tup ra
      refine sl_tup pins s σ H (.ref a) v vl vu lo hi sl Q I rx hs pl pu ⟨a, xs, rfl, SqT.of ha, by rw [hx.length]; exact hw, fun p hp => ?_⟩
      exact hq _ _ _ _ (Kp.new hp _) (hc.over hp) (ra_tup upd_same (DkAll.kp (Kp.new hp _) _ _ (hx.cut lo hi))) h
  · exact h.elim
  · rename_i n1 n2 n3
    obtain ⟨xs, ex, h⟩ := opt_e h
    · obtain ⟨p, vs, rfl, hp, rs⟩ := items_kind hc ra ex
      rcases hp with ⟨_, hp⟩ | ⟨ht, hp⟩
      · exact sl_list pins s σ H _ v vl vu lo hi sl Q I rx hs pl pu ⟨_, _, rfl, hp, fun p hp => hq _ _ _ _ (Kp.new hp _) (hc.new hp (rm_lst (rs.cut lo hi))) ra_ref (h p (hc.none hp))⟩
      · exfalso
        unfold isT at ht
        split at ht
        · exact n2 _ rfl
        · exact n3 _ rfl
        · cases ht
def vSl (te : AE) (tl th : AO) : AE := fun τ μ R => te τ μ fun x μ1 => tl τ μ1 fun l μ2 => th τ μ2 fun u μ3 => aSl x l u μ3 R
theorem ve_slice {lo hi : Option Expr} {tl th : AO} {p2 : Pos} (he : VE X a ta) (hl : VO X lo tl) (hu : VO X hi th) : VE X (.Subscript a (.Slice lo hi none p2) pos) (vSl ta tl th) :=
  (pe_slice s_sl he hl hu).imp fun σ H Q ⟨τ, μ, R, hs, hc, h, hq⟩ => ⟨τ, μ, _, hs, hc, h, fun x μ1 v H1 S1 c1 rx hx => ⟨τ, μ1, _, hs.kp S1, c1, hx, fun l μ2 H2 S2 c2 hl => ⟨τ, μ2, _, hs.kp (S1.trans S2), c2, hl, fun u μ3 H3 S3 c3 hu =>
    ⟨x, μ3, R, rx.kp (S2.trans S3), c3, hu, hq.kp (S1.trans (S2.trans S3))⟩⟩⟩⟩
variable {x : Str} {p : Pos} {e : Expr} {es : List Expr} {t : AA} {fid T : String} {r : AC}
def vCB (r : AC) (t : AA) : AE := fun τ μ R => t τ μ fun xs μ1 => r xs μ1 R
theorem vCB_imp {K : PySem.W.Frag} {n : Nat} {r : AC} {t : AA} {σ : St} {H : Hp} {Q : VK} (h : cE K (vCB r t) σ H Q) : tCB (cC K r) (cA K n t) σ H Q := by
  obtain ⟨τ, μ, R, hs, hc, h, hq⟩ := h
  exact ⟨τ, μ, _, hs, hc, h, fun xs μ1 vs H1 S1 c1 rs hl hx => ⟨xs, μ1, R, rs, c1, hx, hq.kp S1⟩⟩
theorem ve_callB (hc : VCall X (.builtin fid) r) (hg : Gl X x) (hm : X.mg x = none) (hv : bootBuiltins x = some (.builtin fid)) (ha : VA X (e :: es) t) (hn : x ≠ "__name__" := by decide) (hd : (x == ("__debug__" : Str)) = false := by decide)
    (hst : starEach (e :: es) X.env = (false, eval e X.env) :: starEach es X.env := by rfl) (hpl : (backTo pos (starEach es X.env)).any (·.1) = false := by rfl) : VE X (.Call (.Name x p) (e :: es) [] pos) (vCB r t) :=
  (pe_callB hc hg hm hv ha hn hd hst hpl).imp fun _ _ _ h => vCB_imp h
theorem ve_callTy (hc : VCall X (.type T) r) (hg : Gl X x) (hm : X.mg x = none) (hv : bootBuiltins x = some (.type T)) (ha : VA X (e :: es) t) (hn : x ≠ "__name__" := by decide) (hd : (x == ("__debug__" : Str)) = false := by decide)
    (hst : starEach (e :: es) X.env = (false, eval e X.env) :: starEach es X.env := by rfl) (hpl : (backTo pos (starEach es X.env)).any (·.1) = false := by rfl) : VE X (.Call (.Name x p) (e :: es) [] pos) (vCB r t) :=
  (pe_callTy hc hg hm hv ha hn hd hst hpl).imp fun _ _ _ h => vCB_imp h
def aLen : AC := fun xs μ R => match xs with
  | [.D (.str z)] => z.length ≤ sizeLine ∧ R (.D (.int z.length)) μ
  | [.D (.tuple ds)] => R (.D (.int ds.length)) μ
  | [.D (.list ds)] => R (.D (.int ds.length)) μ
  | [.R a] => opt (μ a) fun m => match m with
    | .lst ys => R (.D (.int ys.length)) μ
    | .dk kvs => R (.D (.int kvs.length)) μ
    | _ => False
  | _ => False
theorem c_len : VCall X (.builtin "len") aLen := by
  intro pins s σ H xs us Q I r ⟨as, μ, R, ra, hc, h, hq⟩
  unfold aLen at h
  split at h
  · cases ra with
    | cons r1 r2 =>
      cases r2
      cases RelA.str r1
      exact call_len_str pins s σ H _ us Q I r ⟨_, rfl, h.1, hq _ _ _ _ Kp.refl hc ra_int h.2⟩
  · cases ra with
    | cons r1 r2 =>
      cases r2
      obtain ⟨p, vs, rfl, hp, rs⟩ := RelA.tup r1
      refine call_len_seq pins s σ H _ us Q I r ⟨p, vs, rfl, .inr (SqT.of hp), hq _ _ _ _ Kp.refl hc ?_ h⟩
      rw [rs.length]; exact ra_int
  · cases ra with
    | cons r1 r2 =>
      cases r2
      obtain ⟨p, vs, rfl, hp, rs⟩ := RelA.lst r1
      refine call_len_seq pins s σ H _ us Q I r ⟨p, vs, rfl, .inl hp.sq, hq _ _ _ _ Kp.refl hc ?_ h⟩
      rw [rs.length]; exact ra_int
  · cases ra with
    | cons r1 r2 =>
      cases r2
      obtain ⟨m, em, h⟩ := opt_e h
      cases (show _ = V.ref _ from r1)
      obtain ⟨o, ho, rm⟩ := hc _ _ em
      split at h
      · obtain ⟨vs, rfl, rs⟩ := rm
        refine call_len_seq pins s σ H _ us Q I r ⟨_, vs, rfl, .inl (SqL.of ho), hq _ _ _ _ Kp.refl hc ?_ h⟩
        rw [rs.length]; exact ra_int
      · obtain ⟨vs, rfl, rs⟩ := rm
        refine call_lenD pins s σ H _ us Q I r ⟨_, vs, rfl, ho, hq _ _ _ _ Kp.refl hc ?_ h⟩
        rw [Paired.length rs]; exact ra_int
      · exact h.elim
  · exact h.elim
def aTuple : AC := fun xs μ R => match xs with
  | [.D (.tuple ds)] => R (.D (.tuple ds)) μ
  | [.C _] => False
  | [y] => opt (items μ y) fun ys => opt (dats ys) fun ds => R (.D (.tuple ds)) μ
  | _ => False
theorem c_tuple : VCall X (.type "tuple") aTuple := by
  intro pins s σ H xs us Q I r ⟨as, μ, R, ra, hc, h, hq⟩
  unfold aTuple at h
  split at h
  · cases ra with
    | cons r1 r2 =>
      cases r2
      obtain ⟨p, vs, rfl, hp, rs⟩ := RelA.tup r1
      exact call_tuple_of pins s σ H _ us Q I r ⟨p, vs, rfl, .inr ⟨SqT.of hp, hq _ _ _ _ Kp.refl hc r1 h⟩⟩
  · exact h.elim
  · rename_i y n1 n2
    obtain ⟨ys, ey, h⟩ := opt_e h
    obtain ⟨ds, ed, h⟩ := opt_e h
    cases ra with
    | cons r1 r2 =>
      cases r2
      obtain ⟨p, vs, rfl, hp, rs⟩ := items_kind hc r1 ey
      rcases hp with ⟨_, hp⟩ | ⟨ht, _⟩
      · exact call_tuple_of pins s σ H _ us Q I r ⟨p, vs, rfl, .inl ⟨hp, fun l hl => hq _ _ _ _ (Kp.new hl _) (hc.over hl) (ra_tup upd_same (DkAll.kp (Kp.new hl _) _ _ (rs.dats ed))) h⟩⟩
      · exfalso
        unfold isT at ht
        split at ht
        · exact n1 _ rfl
        · exact n2 _ rfl
        · cases ht
  · exact h.elim
def aMax2 : AC := fun xs μ R => match xs with
  | [.D (.int i), .D (.int j)] => R (.D (.int (if j > i then j else i))) μ
  | _ => False
theorem c_max2 (hcm : X.calm = true) : VCall X (.builtin "max") aMax2 := by
  intro pins s σ H xs us Q I r ⟨as, μ, R, ra, hc, h, hq⟩
  unfold aMax2 at h
  split at h
  · cases ra with
    | cons r1 r2 =>
      cases r2 with
      | cons r2 r3 =>
        cases r3
        cases RelA.int r1; cases RelA.int r2
        exact call_max2 hcm pins s σ H _ us Q I r ⟨_, _, rfl, hq _ _ _ _ Kp.refl hc ra_int h⟩
  · exact h.elim
variable {o : Expr} {to : AE} {name : Str} {apos cpos : Pos} {m : AV → AC}
def isLst (μ : M) : AV → Prop
  | .R a => opt (μ a) fun m => match m with
    | .lst _ => True
    | _ => False
  | .D (.list _) => True
  | _ => False
def isStr : AV → Prop
  | .D (.str _) => True
  | _ => False
theorem isLst.ty {H : Hp} {μ : M} {x : AV} {v : V} (hc : Cn X.K μ H) (rx : RelA X.K H x v) (h : isLst μ x) : tyV X.K "list" v H := by
  unfold isLst at h
  split at h
  · obtain ⟨m, e, h⟩ := opt_e h
    split at h
    · obtain ⟨o, ho, vs, rfl, _⟩ := hc _ _ e
      cases (show v = .ref _ from rx)
      exact .inl ⟨rfl, vs, SqL.of ho⟩
    · exact h.elim
  · obtain ⟨a, xs, rfl, q, _⟩ := RelA.lst rx
    exact .inl ⟨rfl, xs, q.sq⟩
  · exact h.elim
def vBL0 (m : AV → AC) (to : AE) : AE := fun τ μ R => to τ μ fun x μ1 => isLst μ1 x ∧ m x [] μ1 R
def vBL (m : AV → AC) (to : AE) (t : AA) : AE := fun τ μ R => to τ μ fun x μ1 => isLst μ1 x ∧ t τ μ1 fun xs μ2 => m x xs μ2 R
def vBS (m : AV → AC) (to : AE) (t : AA) : AE := fun τ μ R => to τ μ fun x μ1 => isStr x ∧ t τ μ1 fun xs μ2 => m x xs μ2 R
theorem ve_ml0 (slot : Slot "list" name fid) (hty : typeOf (.builtin fid) = pure (.type "method_descriptor")) (hm : VMt X fid m) (ho : VE X o to)
    (hbase : attributeBase o name X.env (eval o X.env) = eval o X.env := by rfl) (hline : (apos.endLine == cpos.line) = true := by rfl) : VE X (.Call (.Attribute o name apos) [] [] cpos) (vBL0 m to) :=
  (pe_bm0 PySem.F.plainAttrs_list slot hty hm ho hbase hline).imp fun σ H Q ⟨τ, μ, R, hs, hc, h, hq⟩ => ⟨τ, μ, _, hs, hc, h, fun x μ1 v H1 S1 c1 rx hx => ⟨hx.1.ty c1 rx, x, [], μ1, R, rx, .nil, c1, hx.2, hq.kp S1⟩⟩
theorem ve_ml (slot : Slot "list" name fid) (hty : typeOf (.builtin fid) = pure (.type "method_descriptor")) (hm : VMt X fid m) (ho : VE X o to) (ha : VA X (e :: es) t)
    (hbase : attributeBase o name X.env (eval o X.env) = eval o X.env := by rfl)
    (hfew : ((backTo cpos (starEach (e :: es) X.env)).all (fun x => !x.1) && (backToKw cpos (keywordEach [] X.env)).all (fun x => x.1.isSome)
      && decide ((e :: es).length + ([] : List Keyword).length + (if ([] : List Keyword).isEmpty then 0 else 1) < 30)) = true := by rfl)
    (hline : (apos.endLine == cpos.line) = true := by rfl) (hs : starEach (e :: es) X.env = (false, eval e X.env) :: starEach es X.env := by rfl) (hplain : (backTo cpos (starEach es X.env)).any (·.1) = false := by rfl) :
    VE X (.Call (.Attribute o name apos) (e :: es) [] cpos) (vBL m to t) :=
  (pe_bm PySem.F.plainAttrs_list slot hty hm ho ha hbase hfew hline hs hplain).imp fun σ H Q ⟨τ, μ, R, hs, hc, h, hq⟩ => ⟨τ, μ, _, hs, hc, h, fun x μ1 v H1 S1 c1 rx hx => ⟨hx.1.ty c1 rx, τ, μ1, _, hs.kp S1, c1, hx.2, fun xs μ2 vs H2 S2 c2 rs hl hxs =>
    ⟨x, xs, μ2, R, rx.kp S2, rs, c2, hxs, hq.kp (S1.trans S2)⟩⟩⟩
theorem ve_ms (slot : Slot "str" name fid) (hty : typeOf (.builtin fid) = pure (.type "method_descriptor")) (hm : VMt X fid m) (ho : VE X o to) (ha : VA X (e :: es) t)
    (hbase : attributeBase o name X.env (eval o X.env) = eval o X.env := by rfl)
    (hfew : ((backTo cpos (starEach (e :: es) X.env)).all (fun x => !x.1) && (backToKw cpos (keywordEach [] X.env)).all (fun x => x.1.isSome)
      && decide ((e :: es).length + ([] : List Keyword).length + (if ([] : List Keyword).isEmpty then 0 else 1) < 30)) = true := by rfl)
    (hline : (apos.endLine == cpos.line) = true := by rfl) (hs : starEach (e :: es) X.env = (false, eval e X.env) :: starEach es X.env := by rfl) (hplain : (backTo cpos (starEach es X.env)).any (·.1) = false := by rfl) :
    VE X (.Call (.Attribute o name apos) (e :: es) [] cpos) (vBS m to t) :=
  (pe_bm PySem.F.plainAttrs_str slot hty hm ho ha hbase hfew hline hs hplain).imp fun σ H Q ⟨τ, μ, R, hs, hc, h, hq⟩ => ⟨τ, μ, _, hs, hc, h, fun x μ1 v H1 S1 c1 rx hx => ⟨by
      obtain ⟨hx, _⟩ := hx
      unfold isStr at hx
      split at hx
      · cases RelA.str rx; rfl
      · exact hx.elim, τ, μ1, _, hs.kp S1, c1, hx.2, fun xs μ2 vs H2 S2 c2 rs hl hxs =>
    ⟨x, xs, μ2, R, rx.kp S2, rs, c2, hxs, hq.kp (S1.trans S2)⟩⟩⟩
def mAppend : AV → AC := fun x xs μ R => match x, xs with
  | .R a, [y] => opt (μ a) fun m => match m with
    | .lst ys => ys.length < sizeLine ∧ R (.D .none) (updM μ a (.lst (ys ++ [y])))
    | _ => False
  | _, _ => False
theorem m_append : VMt X "list.append" mAppend := by
  intro pins s σ H x xs v us Q I rx r ⟨a, as, μ, R, ra, rs, hc, h, hq⟩
  unfold mAppend at h
  split at h
  · rename_i a y
    obtain ⟨m, ey, h⟩ := opt_e h
    split at h
    · cases rs with
      | cons r1 r2 =>
        cases r2
        obtain ⟨o, ho, vs, rfl, rl⟩ := hc _ _ ey
        cases (show x = .ref a from ra)
        exact mt_append pins s σ H _ _ v us Q I rx r ⟨a, vs, _, rfl, rfl, ho, by rw [← rl.length]; exact h.1, hq _ _ _ _ (Kp.put ho trivial _) (hc.put ho trivial (rm_lst (rl.append (.cons r1 .nil)))) ra_non h.2⟩
    · exact h.elim
  · exact h.elim
def mPop : AV → AC := fun x xs μ R => match x, xs with
  | .R a, [] => opt (μ a) fun m => match m with
    | .lst ys => opt ys[ys.length - 1]? fun y => R y (updM μ a (.lst ys.dropLast))
    | _ => False
  | _, _ => False
theorem m_pop : VMt X "list.pop" mPop := by
  intro pins s σ H x xs v us Q I rx r ⟨a, as, μ, R, ra, rs, hc, h, hq⟩
  unfold mPop at h
  split at h
  · rename_i a
    obtain ⟨m, ey, h⟩ := opt_e h
    split at h
    · obtain ⟨y, e1, h⟩ := opt_e h
      · cases rs
        obtain ⟨o, ho, vs, rfl, rl⟩ := hc _ _ ey
        cases (show x = .ref a from ra)
        obtain ⟨z, ez, rz⟩ := rl.get e1
        exact mt_pop pins s σ H _ _ v us Q I rx r ⟨a, vs, z, rfl, rfl, ho, by rw [← rl.length]; exact ez, hq _ _ _ _ (Kp.put ho trivial _) (hc.put ho trivial (rm_lst (rl.dropLast))) (rz.kp (Kp.put ho trivial _)) h⟩
    · exact h.elim
  · exact h.elim
end
end L2
namespace L2
open PySem PySem.Spec PyProof.Rows
section
variable {X : Cx} {a b c : Expr} {ta tb tc : AE} {pos : Pos}
abbrev ASp := List AV → M → (AV → M → Prop) → Prop
def cSp (K : PySem.W.Frag) (n : Nat) (sp : ASp) : Sp := fun vs H Q _ => ∃ xs μ R, xs.length = n ∧ RelAs K H xs vs ∧ Cn K μ H ∧ sp xs μ R ∧ LV K H R Q
def VCal (P : Program) (w : World) (K : PySem.W.Frag) (mg : Str → Option Value) (base : Heap) (k : Nat) (x : Str) (ps : List Str) (sp : ASp) : Prop := Cal P w K mg base k x ps (cSp K ps.length sp)
def vCall (n : Nat) (sp : ASp) (t : AA) : AE := fun τ μ R => t τ μ fun xs μ1 => sp xs μ1 R
variable {x : Str} {p : Pos} {e : Expr} {es : List Expr} {t : AA} {k : Nat} {ps : List Str} {sp : ASp}
theorem ve_call (F : VCal X.prog X.w X.K X.mg X.base k x ps sp) (hr : Room k X.A) (hg : Gl X x) (ha : VA X (e :: es) t) (hl : (e :: es).length = ps.length := by rfl) (hdb : (x == ("__debug__" : Str)) = false := by decide)
    (hst : starEach (e :: es) X.env = (false, eval e X.env) :: starEach es X.env := by rfl) (hpl : (backTo pos (starEach es X.env)).any (·.1) = false := by rfl) : VE X (.Call (.Name x p) (e :: es) [] pos) (vCall ps.length sp t) := by
  obtain ⟨g, gd, G, gb, gk, gm⟩ := F
  refine PE.imp (pe_call (E := E0) G hr hg gm gk gb .nil pass0 ha (hdb := hdb) (he := hst) (hpl := hpl)) fun σ H Q ⟨τ, μ, R, hs, hc, h, hq⟩ => ?_
  exact ⟨τ, μ, _, hs, hc, h, fun xs μ1 vs H1 S1 c1 rs hn hx => ⟨xs, μ1, R, hn.trans hl, by rw [List.append_nil]; exact rs, c1, hx, hq.kp S1⟩⟩
def vNext : AS := fun k _ _ _ τ μ => k τ μ
def vSeq (t u : AS) : AS := fun k r b c τ μ => t (u k r b c) r b c τ μ
variable {st : Stmt} {rest : List Stmt} {s1 s2 : AS}
theorem vss_nil : VSs X [] vNext := pss_nil.imp fun D σ H ⟨τ, μ, nk, nr, nb, nc, hs, hc, h, hq⟩ => hq.nx _ _ _ _ Kp.refl hs hc h
theorem vss_cons (h1 : VS X st s1) (h2 : VSs X rest s2) : VSs X (st :: rest) (vSeq s1 s2) := (pss_cons h1 h2).imp fun D σ H ⟨τ, μ, nk, nr, nb, nc, hs, hc, h, hq⟩ =>
  ⟨τ, μ, _, _, _, _, hs, hc, h, ⟨fun τ' μ' σ' H' S' hs' hc' h' => ⟨τ', μ', nk, nr, nb, nc, hs', hc', h', hq.kp S'⟩, hq.rt, hq.bk, hq.ct⟩⟩
theorem vss_one (h1 : VS X st s1) : VSs X [st] s1 := pss_one h1
def vDrop (te : AE) : AS := fun k _ _ _ τ μ => te τ μ fun _ μ1 => k τ μ1
theorem vs_expr (he : VE X a ta) (hs : swapsWith a none pos.line X.env = pure false := by rfl) : VS X (.Expr a pos) (vDrop ta) := (ps_expr he hs).imp fun D σ H ⟨τ, μ, nk, nr, nb, nc, hs, hc, h, hq⟩ =>
  ⟨τ, μ, _, hs, hc, h, fun x μ1 v H1 S1 c1 rx hx => hq.nx _ _ _ _ S1 (hs.kp S1) c1 hx⟩
def vRet (te : AE) : AS := fun _ r _ _ τ μ => te τ μ r
theorem vs_ret (he : VE X a ta) : VS X (.Return (some a) pos) (vRet ta) := (ps_ret he).imp fun D σ H ⟨τ, μ, nk, nr, nb, nc, hs, hc, h, hq⟩ => ⟨τ, μ, _, hs, hc, h, hq.rt⟩
def vIfS (ct : AT) (t u : AS) : AS := fun k r b c τ μ => ct τ μ fun x μ1 => brP x (t k r b c τ μ1) (u k r b c τ μ1)
theorem vs_if {c : Expr} {a b : List Stmt} {tc : AT} (hc : VT X c tc) (ha : VSs X a s1) (hb : VSs X b s2) : VS X (.If c a b pos) (vIfS tc s1 s2) := (ps_if hc ha hb).imp fun D σ H ⟨τ, μ, nk, nr, nb, nc, hs, hc, h, hq⟩ =>
  ⟨τ, μ, _, hs, hc, h, fun k μ1 H1 S1 c1 hk => by
    rcases br_e hk with ⟨rfl, hk'⟩ | ⟨rfl, hk'⟩
    · exact ⟨τ, μ1, nk, nr, nb, nc, hs.kp S1, c1, hk', hq.kp S1⟩
    · exact ⟨τ, μ1, nk, nr, nb, nc, hs.kp S1, c1, hk', hq.kp S1⟩⟩
def wName (i : Nat) : AG := fun v τ μ R => R (τ.set i (some v)) μ
theorem vg_name {i : Nat} {x : Str} (hN : X.N.Nodup) (hi : X.N[i]? = some x) (hx : Loc X.env.scope x) (hf : X.fn x = true ∨ X.env.scope.names.lookup x = some .local := by first | exact .inl rfl | exact .inr rfl | assumption) : VG X (.Name x pos) (wName i) :=
  (pg_name hN hi hx hf).imp fun v σ H Q ⟨x, τ, μ, R, rx, hs, hc, h, hq⟩ => hq _ _ _ _ Kp.refl (hs.set rx i) hc h
def wNil : AGs := fun vs τ μ R => match vs with
  | [] => R τ μ
  | _ :: _ => False
def wCons (t : AG) (u : AGs) : AGs := fun vs τ μ R => match vs with
  | [] => False
  | v :: r => t v τ μ fun τ' μ' => u r τ' μ' R
theorem vgs_nil : VGs X [] wNil := pgs_nil.imp fun vs σ H Q ⟨xs, τ, μ, R, rx, hs, hc, h, hq⟩ => by
  cases rx with
  | nil => exact ⟨rfl, hq _ _ _ _ Kp.refl hs hc h⟩
  | cons => exact h.elim
theorem vgs_cons {e : Expr} {es : List Expr} {t : AG} {u : AGs} (h1 : VG X e t) (h2 : VGs X es u)
    (hs : (assignEach (e :: es) X.env).map (·.2) = assign e X.env :: (assignEach es X.env).map (·.2) := by rfl) : VGs X (e :: es) (wCons t u) := (pgs_cons h1 h2 hs).imp fun vs σ H Q ⟨xs, τ, μ, R, rx, hs, hc, h, hq⟩ => by
  cases rx with
  | nil => exact h.elim
  | cons r1 r2 => exact ⟨_, _, rfl, _, τ, μ, _, r1, hs, hc, h, fun τ' μ' σ' H' S' hs' hc' h' => ⟨_, τ', μ', R, RelAs.kp S' r2, hs', hc', h', hq.kp S'⟩⟩
def wTup (n : Nat) (t : AGs) : AG := fun v τ μ R => match v with
  | .D (.tuple ds) => ds.length = n ∧ t (ds.map .D) τ μ R
  | _ => False
theorem vg_tup {es : List Expr} {k : Nat} {t : AGs} {n : Nat} (hcm : X.calm = true) (h : VGs X es t)
    (hn : (assignEach es X.env).length = n := by rfl) (hst : (assignEach es X.env).findIdx? (·.1) = none := by rfl) : VG X (.Tuple es k pos) (wTup n t) := (pg_tup hcm h hn hst).imp fun v σ H Q ⟨x, τ, μ, R, rx, hs, hc, h, hq⟩ => by
  unfold wTup at h
  split at h
  · obtain ⟨a, vs, rfl, q, r⟩ := RelA.tup rx
    exact ⟨a, vs, rfl, SqT.of q, by rw [r.length]; exact h.1, _, τ, μ, R, r.rel, hs, hc, h.2, hq⟩
  · exact h.elim
def vAsg (te : AE) (g : AG) : AS := fun k _ _ _ τ μ => te τ μ fun x μ1 => g x τ μ1 k
theorem vAsg_imp {K : PySem.W.Frag} {te : AE} {g : AG} {D : Ends} {σ : St} {H : Hp} (h : cS K (vAsg te g) D σ H) : tAsg (cE K te) (cG K g) D σ H := by
  obtain ⟨τ, μ, nk, nr, nb, nc, hs, hc, h, hq⟩ := h
  exact ⟨τ, μ, _, hs, hc, h, fun x μ1 v H1 S1 c1 rx hx => ⟨x, τ, μ1, _, rx, hs.kp S1, c1, hx, hq.nx.kp S1⟩⟩
theorem vs_asg {tg : Expr} {g : AG} (he : VE X a ta) (hg : VG X tg g) (hs : swapsWithSole [tg] a pos.line X.env = pure false := by rfl) (hw : swappedStores [tg] a X.env = pure none := by rfl)
    (h1 : (assignEach [tg] X.env).map (·.2) = [assign tg X.env] := by rfl) : VS X (.Assign [tg] a pos) (vAsg ta g) := (ps_asg he hg hs hw h1).imp fun _ _ _ h => vAsg_imp h
theorem vs_set {i : Nat} {x : Str} {pos' : Pos} (hN : X.N.Nodup) (hi : X.N[i]? = some x) (hx : Loc X.env.scope x) (he : VE X a ta) (hs : swapsWith a (some (.Name x pos')) pos.line X.env = pure false := by rfl) (hf : X.fn x = true ∨ X.env.scope.names.lookup x = some .local := by first | exact .inl rfl | exact .inr rfl | assumption) :
    VS X (.Assign [.Name x pos'] a pos) (vAsg ta (wName i)) := (ps_set hN hi hx he hs hf).imp fun D σ H ⟨τ, μ, nk, nr, nb, nc, hs, hc, h, hq⟩ =>
  ⟨τ, μ, _, hs, hc, h, fun x μ1 v H1 S1 c1 rx hx => hq.nx _ _ _ _ S1 ((hs.kp S1).set rx i) c1 hx⟩
def vPar3 (i j l : Nat) (t : AA) : AS := fun k _ _ _ τ μ => t τ μ fun xs μ1 => match xs with
  | [u, v, w] => k (((τ.set i (some u)).set j (some v)).set l (some w)) μ1
  | _ => False
theorem vs_par3 {i j l : Nat} {x y z : Str} {t : AA} {px py pz pt : Pos} {kt k2 pt2} (hc : X.calm = true) (hN : X.N.Nodup) (hi : X.N[i]? = some x) (hj : X.N[j]? = some y) (hl : X.N[l]? = some z) (hij : i ≠ j) (hil : i ≠ l) (hjl : j ≠ l)
    (hx : X.env.scope.names.lookup x = some .local) (hy : X.env.scope.names.lookup y = some .local) (hz : X.env.scope.names.lookup z = some .local) (ha : VA X [a, b, c] t)
    (hw : swappedStores [.Tuple [.Name x px, .Name y py, .Name z pz] kt pt] (.Tuple [a, b, c] k2 pt2) X.env = pure (some [x, y, z]))
    (hs : swapsWithSole [.Tuple [.Name x px, .Name y py, .Name z pz] kt pt] (.Tuple [a, b, c] k2 pt2) pos.line X.env = pure false := by rfl) :
    VS X (.Assign [.Tuple [.Name x px, .Name y py, .Name z pz] kt pt] (.Tuple [a, b, c] k2 pt2) pos) (vPar3 i j l t) := (ps_par3 hc hN hi hj hl hij hil hjl hx hy hz ha hw hs).imp fun D σ H ⟨τ, μ, nk, nr, nb, nc, hs, hc, h, hq⟩ =>
  ⟨τ, μ, _, hs, hc, h, fun xs μ1 vs H1 S1 c1 rs hl hx => by
    split at hx
    · cases rs with
      | cons r1 r2 =>
        cases r2 with
        | cons r2 r3 =>
          cases r3 with
          | cons r3 r4 =>
            cases r4
            exact ⟨_, _, _, rfl, hq.nx _ _ _ _ S1 ((((hs.kp S1).set r1 i).set r2 j).set r3 l) c1 hx⟩
    · exact hx.elim⟩
def wl (c : AT) (tb : AS) (k : ASt → M → Prop) (r : AV → M → Prop) : Nat → ASt → M → Prop
  | 0 => fun _ _ => False
  | n + 1 => fun τ μ => c τ μ fun x μ1 => brP x (tb (wl c tb k r n) r k (wl c tb k r n) τ μ1) (k τ μ1)
def vWhile (c : AT) (tb : AS) : AS := fun k r _ _ τ μ => ∃ n, wl c tb k r n τ μ
theorem vs_while {c : Expr} {body : List Stmt} {tc : AT} {tb : AS} (hp : PassesOwn (model X.prog X.w) X.A X.env X.xe) (hc : VT X c tc) (hb : VSs X body tb) : VS X (.While c body [] pos) (vWhile tc tb) := (ps_while hp hc hb).imp fun D σ H ⟨τ, μ, nk, nr, nb, nc, hs, hc, ⟨n, h⟩, hq⟩ => by
  refine ⟨fun m σ1 H1 => ∃ τ1 μ1, Kp H H1 ∧ StA X.K H1 τ1 σ1 ∧ Cn X.K μ1 H1 ∧ wl tc tb nk nr m τ1 μ1, ⟨n, τ, μ, Kp.refl, hs, hc, h⟩, ?_⟩
  rintro m σ1 H1 ⟨τ1, μ1, S1, hs1, hc1, h1⟩
  cases m with
  | zero => exact h1.elim
  | succ m =>
    refine ⟨τ1, μ1, _, hs1, hc1, h1, fun k μ2 H2 S2 c2 hk => ?_⟩
    rcases br_e hk with ⟨rfl, hk'⟩ | ⟨rfl, hk'⟩
    · rw [if_pos rfl]
      refine ⟨fun σ' H' => ∃ τ' μ', Kp H H' ∧ StA X.K H' τ' σ' ∧ Cn X.K μ' H' ∧ wl tc tb nk nr m τ' μ', fun σ' H' ⟨τ', μ', q⟩ => ⟨m, Nat.lt_succ_self _, τ', μ', q⟩, τ1, μ2, _, _, _, _, hs1.kp S2, c2, hk', ?_⟩
      have S := S1.trans S2
      exact ⟨fun τ' μ' σ' H' S' hs' hc' h' => ⟨τ', μ', S.trans S', hs', hc', h'⟩, hq.rt.kp S, hq.nx.kp S, fun τ' μ' σ' H' S' hs' hc' h' => ⟨τ', μ', S.trans S', hs', hc', h'⟩⟩
    · rw [if_neg Bool.false_ne_true]
      exact hq.nx _ _ _ _ (S1.trans S2) (hs1.kp S2) c2 hk'
structure ItOk (K : PySem.W.Frag) (H0 : Hp) (J : It) (xs : List AV) (kp : M → Prop) : Prop where
  go : ∀ i H μ, Kp H0 H → Cn K μ H → kp μ → i < xs.length → J.go i H
  yld : ∀ i H μ v H' x, Kp H0 H → Cn K μ H → kp μ → xs[i]? = some x → J.yld i H v H' → Kp H H' ∧ Cn K μ H' ∧ RelA K H' x v
  stop : ∀ H μ, Kp H0 H → Cn K μ H → kp μ → J.stop xs.length H
abbrev AI := ASt → M → (List AV → (M → Prop) → M → Prop) → Prop
def cI (K : PySem.W.Frag) (wi : AI) : TI := fun σ H R => ∃ τ μ R', StA K H τ σ ∧ Cn K μ H ∧ wi τ μ R' ∧ ∀ xs kp μ' J H', Kp H H' → Cn K μ' H' → ItOk K H' J xs kp → R' xs kp μ' → R J H'
def VI (X : Cx) (tg iter : Expr) (wi : AI) : Prop := PI X tg iter (cI X.K wi)
theorem PI.imp {tg e : Expr} {t u : TI} (h : PI X tg e t) (i : ∀ σ H Q, u σ H Q → t σ H Q) : PI X tg e u := fun pins s σ H Q I q => h pins s σ H Q I (i σ H Q q)
theorem itOk_list {K : PySem.W.Frag} {H0 : Hp} {a : Addr} {xs : List AV} {kp : M → Prop} (h : ∀ H μ, Kp H0 H → Cn K μ H → kp μ → ∃ vs, SqL K H a vs ∧ RelAs K H xs vs) : ItOk K H0 (Itl K a) xs kp := by
  refine ⟨fun i H μ S c k hi => ?_, fun i H μ v H' x S c k e y => ?_, fun H μ S c k => ?_⟩
  · obtain ⟨vs, q, r⟩ := h H μ S c k
    exact ⟨vs, vs[i]'(by rw [← r.length]; exact hi), q, List.getElem?_eq_getElem _⟩
  · obtain ⟨vs, q, r⟩ := h H μ S c k
    obtain ⟨rfl, y⟩ := y
    obtain ⟨u, eu, ru⟩ := r.get e
    rw [y vs q] at eu
    cases eu
    exact ⟨Kp.refl, c, ru⟩
  · obtain ⟨vs, q, r⟩ := h H μ S c k
    exact ⟨vs, q, by rw [r.length]; exact Nat.le_refl _⟩
theorem itOk_tup {K : PySem.W.Frag} {H0 : Hp} {a : Addr} {xs : List AV} {kp : M → Prop} (h : ∀ H μ, Kp H0 H → Cn K μ H → kp μ → ∃ vs, SqT K H a vs ∧ RelAs K H xs vs) : ItOk K H0 (Itt K a) xs kp := by
  refine ⟨fun i H μ S c k hi => ?_, fun i H μ v H' x S c k e y => ?_, fun H μ S c k => ?_⟩
  · obtain ⟨vs, q, r⟩ := h H μ S c k
    exact ⟨vs, vs[i]'(by rw [← r.length]; exact hi), q, List.getElem?_eq_getElem _⟩
  · obtain ⟨vs, q, r⟩ := h H μ S c k
    obtain ⟨rfl, y⟩ := y
    obtain ⟨u, eu, ru⟩ := r.get e
    rw [y vs q] at eu
    cases eu
    exact ⟨Kp.refl, c, ru⟩
  · obtain ⟨vs, q, r⟩ := h H μ S c k
    exact ⟨vs, q, by rw [r.length]; exact Nat.le_refl _⟩
variable {tg : Expr}
def rngA (lo : Int) : Nat → List AV
  | 0 => []
  | n + 1 => .D (.int lo) :: rngA (lo + 1) n
theorem rngA_length : ∀ (n : Nat) (lo : Int), (rngA lo n).length = n
  | 0, _ => rfl
  | n + 1, lo => by rw [rngA, List.length_cons, rngA_length n]
theorem rngA_get : ∀ (n : Nat) (lo : Int) (i : Nat) {x : AV}, (rngA lo n)[i]? = some x → x = .D (.int (lo + i))
  | 0, _, _, _, h => by simp [rngA] at h
  | n + 1, lo, 0, _, h => by simp [rngA] at h; rw [← h]; simp
  | n + 1, lo, i + 1, _, h => by
    rw [rngA, List.getElem?_cons_succ] at h
    rw [rngA_get n (lo + 1) i h]
    congr 2
    omega
theorem itOk_rng {K : PySem.W.Frag} {H0 : Hp} {lo : Int} {n : Nat} : ItOk K H0 (Itr lo n) (rngA lo n) (fun _ => True) := by
  refine ⟨fun i H μ S c k hi => ?_, fun i H μ v H' x S c k e y => ?_, fun H μ S c k => ?_⟩
  · show i < n
    rw [rngA_length] at hi; exact hi
  · obtain ⟨rfl, rfl⟩ := y
    rw [rngA_get n lo i e]
    exact ⟨Kp.refl, c, ra_int⟩
  · show n ≤ _
    rw [rngA_length]; exact Nat.le_refl _
def jRng1 (t : AA) : AI := fun τ μ R => t τ μ fun xs μ1 => match xs with
  | [.D (.int j)] => -(2 ^ 62) ≤ j ∧ j < 2 ^ 62 ∧ R (rngA 0 j.toNat) (fun _ => True) μ1
  | _ => False
theorem vi_range1 {t : AA} {p : Pos} (hg : Gl X "range") (hm : X.mg "range" = none) (ha : VA X [a] t) (hs : starEach [a] X.env = [(false, eval a X.env)] := by rfl) : VI X tg (.Call (.Name "range" p) [a] [] pos) (jRng1 t) :=
  (pi_range1 hg hm ha hs).imp fun σ H Q ⟨τ, μ, R, hs, hc, h, hq⟩ => ⟨τ, μ, _, hs, hc, h, fun xs μ1 vs H1 S1 c1 rs hl hx => by
    split at hx
    · cases rs with
      | cons r1 r2 =>
        cases r2
        cases RelA.int r1
        exact ⟨_, rfl, hx.1, hx.2.1, hq _ _ _ _ _ S1 c1 itOk_rng hx.2.2⟩
    · exact hx.elim⟩
def fl (g : AG) (tb : AS) (k : ASt → M → Prop) (r : AV → M → Prop) (kp : M → Prop) : List AV → ASt → M → Prop
  | [] => fun τ μ => kp μ ∧ k τ μ
  | x :: xs => fun τ μ => kp μ ∧ g x τ μ fun τ2 μ2 => tb (fl g tb k r kp xs) r k (fl g tb k r kp xs) τ2 μ2
def vFor (wi : AI) (g : AG) (tb : AS) : AS := fun k r _ _ τ μ => wi τ μ fun xs kp μ1 => fl g tb k r kp xs τ μ1
theorem fl_kp {g : AG} {tb : AS} {k : ASt → M → Prop} {r : AV → M → Prop} {kp : M → Prop} {xs : List AV} {τ : ASt} {μ : M} (h : fl g tb k r kp xs τ μ) : kp μ := by
  cases xs with
  | nil => exact h.1
  | cons x xs => exact h.1
theorem vs_for {iter : Expr} {body : List Stmt} {wi : AI} {g : AG} {tb : AS} (hp : PassesOwn (model X.prog X.w) X.A X.env X.xe) (hcm : X.calm = true) (hi : VI X tg iter wi) (hg : VG X tg g) (hb : VSs X body tb) (hfs : ∀ x, foldedSetIterable iter X.env x = pure x := by intro _; rfl) :
    VS X (.For tg iter body [] pos) (vFor wi g tb) := (ps_for hp hcm hi hg hb hfs).imp fun D σ H ⟨τ, μ, nk, nr, nb, nc, hs, hc, h, hq⟩ => by
  refine ⟨τ, μ, _, hs, hc, h, fun xs kp μ0 J H0 S0 c0 it h0 => ?_⟩
  refine for_of xs.length (fun i σ1 H1 => ∃ τ1 μ1, Kp H0 H1 ∧ StA X.K H1 τ1 σ1 ∧ Cn X.K μ1 H1 ∧ fl g tb nk nr kp (xs.drop i) τ1 μ1) ⟨τ, μ0, Kp.refl, hs.kp S0, c0, h0⟩ ?_ ?_ ?_
  · rintro i σ1 H1 hi ⟨τ1, μ1, S1, hs1, hc1, h1⟩
    exact it.go i H1 μ1 S1 hc1 (fl_kp h1) hi
  · rintro σ1 H1 ⟨τ1, μ1, S1, hs1, hc1, h1⟩
    rw [List.drop_length] at h1
    exact ⟨it.stop H1 μ1 S1 hc1 h1.1, hq.nx _ _ _ _ (S0.trans S1) hs1 hc1 h1.2⟩
  · rintro i v σ1 H1 H2 hi ⟨τ1, μ1, S1, hs1, hc1, h1⟩ y
    rw [List.drop_eq_getElem_cons hi] at h1
    obtain ⟨hk, h1⟩ := h1
    obtain ⟨S2, c2, rx⟩ := it.yld i H1 μ1 v H2 _ S1 hc1 hk (List.getElem?_eq_getElem hi) y
    refine ⟨_, τ1, μ1, _, rx, hs1.kp S2, c2, h1, fun τ3 μ3 σ3 H3 S3 hs3 hc3 h3 => ⟨τ3, μ3, _, _, _, _, hs3, hc3, h3, ?_⟩⟩
    have S : Kp H0 H3 := S1.trans (S2.trans S3)
    exact ⟨fun τ' μ' σ' H' S' hs' hc' h' => ⟨τ', μ', S.trans S', hs', hc', h'⟩, hq.rt.kp (S0.trans S), hq.nx.kp (S0.trans S), fun τ' μ' σ' H' S' hs' hc' h' => ⟨τ', μ', S.trans S', hs', hc', h'⟩⟩
def VIfs (X : Cx) (ifs : List Expr) (t : AT) : Prop := PIfs X ifs (cT X.K t)
def vYes : AT := fun _ μ R => R true μ
theorem vifs_nil : VIfs X [] vYes := fun pins s σ H Q I ⟨τ, μ, R, hs, hc, h, hq⟩ => pifs_nil pins s σ H Q I (hq _ _ _ Kp.refl hc h)
theorem vifs_one {t : AT} (h : VT X a t) : VIfs X [a] t := pifs_one h
def cl (p : Addr) (g : AG) (tst : AT) (te : AE) (kp : M → Prop) (R : M → Prop) : List AV → List AV → ASt → M → Prop
  | [] => fun _ _ μ => kp μ ∧ R μ
  | x :: xs => fun acc τ μ => kp μ ∧ g x τ μ fun τ1 μ1 => tst τ1 μ1 fun k μ2 =>
    brP k (te τ1 μ2 fun v μ3 => μ3 p = some (.lst acc) ∧ acc.length < sizeLine ∧ cl p g tst te kp R xs (acc ++ [v]) τ1 (updM μ3 p (.lst (acc ++ [v])))) (cl p g tst te kp R xs acc τ1 μ2)
def vComp (mp : List (Option Nat)) (wi : AI) (g : AG) (tst : AT) (te : AE) : AE := fun τ μ R => wi τ μ fun xs kp μ1 => ∀ p, μ1 p = none → cl p g tst te kp (fun μ2 => R (.R p) μ2) xs [] (subA mp τ) (updM μ1 p (.lst []))
theorem cl_kp {p : Addr} {g : AG} {tst : AT} {te : AE} {kp : M → Prop} {R : M → Prop} {xs acc : List AV} {τ : ASt} {μ : M} (h : cl p g tst te kp R xs acc τ μ) : kp μ := by
  cases xs with
  | nil => exact h.1
  | cons x xs => exact h.1
theorem vComp_imp {K : PySem.W.Frag} {mp : List (Option Nat)} {wi : AI} {g : AG} {tst : AT} {te : AE} {σ : St} {H : Hp} {Q : VK} (h : cE K (vComp mp wi g tst te) σ H Q) : tComp mp (cI K wi) (cG K g) (cT K tst) (cE K te) σ H Q := by
  obtain ⟨τ, μ, R, hs, hc, h, hq⟩ := h
  refine ⟨τ, μ, _, hs, hc, h, fun xs kp μ0 J H0 S0 c0 it h0 => ?_⟩
  intro p hp
  have h0 := h0 p (c0.none hp)
  have c0' : Cn K (updM μ0 p (.lst [])) (upd H0 p (.lst [])) := c0.new hp (rm_lst (.nil))
  have S0' : Kp H0 (upd H0 p (.lst [])) := Kp.new hp _
  refine comp_of xs.length (fun i acc σ1 H1 => ∃ τ1 μ1 as, Kp H0 H1 ∧ StA K H1 τ1 σ1 ∧ Cn K μ1 H1 ∧ RelAs K H1 as acc ∧ cl p g tst te kp (fun μ2 => R (.R p) μ2) (xs.drop i) as τ1 μ1) ⟨_, _, [], S0', ((hs.kp S0).kp S0').sub mp, c0', .nil, h0⟩ ?_ ?_ ?_
  · rintro i acc σ1 H1 hi ⟨τ1, μ1, as, S1, hs1, hc1, ra, h1⟩
    exact it.go i H1 μ1 S1 hc1 (cl_kp h1) hi
  · rintro acc σ1 H1 ⟨τ1, μ1, as, S1, hs1, hc1, ra, h1⟩
    rw [List.drop_length] at h1
    exact ⟨it.stop H1 μ1 S1 hc1 h1.1, hq _ _ _ _ (S0.trans S1) hc1 ra_ref h1.2⟩
  · rintro i v acc σ1 H1 H2 hi ⟨τ1, μ1, as, S1, hs1, hc1, ra, h1⟩ y
    rw [List.drop_eq_getElem_cons hi] at h1
    obtain ⟨hk, h1⟩ := h1
    obtain ⟨S2, c2, rx⟩ := it.yld i H1 μ1 v H2 _ S1 hc1 hk (List.getElem?_eq_getElem hi) y
    refine ⟨_, τ1, μ1, _, rx, hs1.kp S2, c2, h1, fun τ3 μ3 σ3 H3 S3 hs3 hc3 h3 => ⟨τ3, μ3, _, hs3, hc3, h3, fun k μ4 H4 S4 c4 h4 => ?_⟩⟩
    rcases br_e h4 with ⟨rfl, h4'⟩ | ⟨rfl, h4'⟩
    · rw [if_pos rfl]
      refine ⟨τ3, μ4, _, hs3.kp S4, c4, h4', fun w μ5 u H5 S5 c5 rw h5 => ?_⟩
      obtain ⟨e5, hl, h5⟩ := h5
      obtain ⟨o, ho, vs, rfl, rs⟩ := c5 _ _ e5
      have S : Kp H1 H5 := S2.trans (S3.trans (S4.trans S5))
      exact ⟨vs, ho, by rw [← rs.length]; exact hl, τ3, _, _, (S1.trans S).trans (Kp.put ho trivial _), (hs3.kp (S4.trans S5)).kp (Kp.put ho trivial _), c5.put ho trivial (rm_lst (rs.append (.cons rw .nil))), (rs.append (.cons rw .nil)).kp (Kp.put ho trivial _), h5⟩
    · rw [if_neg Bool.false_ne_true]
      have S : Kp H1 H4 := S2.trans (S3.trans S4)
      exact ⟨τ3, μ4, as, S1.trans S, hs3.kp S4, c4, ra.kp S, h4'⟩
variable {N' : List Str} {mp : List (Option Nat)} {elt iter : Expr} {ifs : List Expr} {scope : Scope} {wi : AI} {g : AG} {tst : AT} {te : AE}
theorem ve_comp (hc : X.calm = true) (hi : VI X tg iter wi) (hg : ∀ C s H fp, VG (cxComp X N' scope C s H fp) tg g) (ht : ∀ C s H fp, VIfs (cxComp X N' scope C s H fp) ifs tst) (he : ∀ C s H fp, VE (cxComp X N' scope C s H fp) elt te)
    (ok : CompOk X.N X.env.scope.names scope.names N' mp) (hk : scope.kind = .function := by rfl) (hs : ∀ x, foldedSetIterable iter X.env x = pure x := by intro _; rfl) :
    VE X (.ListComp elt [⟨tg, iter, ifs, 0⟩] scope pos) (vComp mp wi g tst te) := (pe_comp (g := cG X.K g) (tst := cT X.K tst) (te := cE X.K te) hc hi (fun C s H fp => hg C s H fp) (fun C s H fp => ht C s H fp) (fun C s H fp => he C s H fp) ok hk hs).imp fun _ _ _ h => vComp_imp h
theorem vs_setC {i : Nat} {y : Str} {py spos : Pos} (hc : X.calm = true) (hN : X.N.Nodup) (hi' : X.N[i]? = some y) (hy : X.env.scope.names.lookup y = some .local)
    (hi : VI X tg iter wi) (hg : ∀ C s H fp, VG (cxComp X N' scope C s H fp) tg g) (ht : ∀ C s H fp, VIfs (cxComp X N' scope C s H fp) ifs tst) (he : ∀ C s H fp, VE (cxComp X N' scope C s H fp) elt te)
    (ok : CompOk X.N X.env.scope.names scope.names N' mp) (hsw : swapsWith (.ListComp elt [⟨tg, iter, ifs, 0⟩] scope pos) (some (.Name y py)) spos.line X.env = pure true := by rfl)
    (hk : scope.kind = .function := by rfl) (hs : ∀ x, foldedSetIterable iter X.env x = pure x := by intro _; rfl) :
    VS X (.Assign [.Name y py] (.ListComp elt [⟨tg, iter, ifs, 0⟩] scope pos) spos) (vAsg (vComp mp wi g tst te) (wName i)) := (ps_setC (g := cG X.K g) (tst := cT X.K tst) (te := cE X.K te) hc hN hi' hy hi (fun C s H fp => hg C s H fp) (fun C s H fp => ht C s H fp) (fun C s H fp => he C s H fp) ok hsw hk hs).imp fun D σ H ⟨τ, μ, nk, nr, nb, nc, hs, hc, h, hq⟩ =>
  vComp_imp (K := X.K) ⟨τ, μ, _, hs, hc, h, fun x μ1 v H1 S1 c1 rx hx => hq.nx _ _ _ _ S1 ((hs.kp S1).set rx i) c1 hx⟩
end
section
variable {P : Program} {w : World} {K : PySem.W.Frag} {mg : Str → Option Value} {base : Heap}
def aNx (R : AV → M → Prop) : ASt → M → Prop := fun _ μ' => ∃ ν, Sub ν μ' ∧ R (.D .none) ν
def aRt (R : AV → M → Prop) : AV → M → Prop := fun v μ' => ∃ ν, Sub ν μ' ∧ R v ν
def aNo : ASt → M → Prop := fun _ _ => False
theorem Fun.vok {x qual : Str} {st : Stmt} {f : Addr} {fd : FuncData} {N ps : List Str} {k : Nat} {sp : ASp} (F : Fun K x qual st f fd) (S : FnScope N ps (defScope st))
    (hbody : ∀ (cdv : Value) (A : Around) (outer : List Env) (s : Shared) (H : Hp) (E : XK), Room k (A.deeper (envOfC qual (defScope st) s.heap.objs.size f cdv)) →
      ∃ t, VSs (cxOf CX0 P w K mg base N qual (defScope st) f cdv A outer s H E).nox (defBody st) t ∧ ∀ xs μ R, xs.length = ps.length → sp xs μ R → t (aNx R) (aRt R) aNo aNo (startA N xs) μ) : FnOk P w K mg base CX0 (k + 1) f fd ps (cSp K ps.length sp) := by
  refine F.ok S (fun vs H Q E h => ?_) (fun cdv A outer s H vs Q E hr h => ?_)
  · obtain ⟨xs, μ, R, hl, rs, _⟩ := h
    rw [← rs.length]; exact hl
  · obtain ⟨xs, μ, R, hl, rs, hc, hsp, hq⟩ := h
    obtain ⟨t, ht, h⟩ := hbody cdv A outer s H E hr
    refine ⟨_, ht, startA N xs, μ, _, _, _, _, StA.begin rs, hc, h xs μ R hl hsp, ⟨fun τ μ' σ H' S' _ c ⟨ν, hν, r⟩ => ?_, fun v μ' u H' S' c rv ⟨ν, hν, r⟩ => ?_, fun _ _ _ _ _ _ _ h => h.elim, fun _ _ _ _ _ _ _ h => h.elim⟩⟩
    · exact hq _ _ _ _ S' (c.sub hν) ra_non r
    · exact hq _ _ _ _ S' (c.sub hν) rv r
end
end L2
namespace L2
open PySem PySem.Spec PyProof.Rows
section
variable {X : Cx} {a b c : Expr} {ta tb tc : AE} {pos : Pos} {tg : Expr}
def jSeq (t : AE) : AI := fun τ μ R => t τ μ fun x μ1 => opt (items μ1 x) fun xs => R xs (fun μ => items μ x = some xs) μ1
theorem vi_seq (hl : VE X a ta) : VI X tg a (jSeq ta) := by
  intro pins s σ H R I ⟨τ, μ, R', hs, hc, h, hq⟩
  refine thn (hl pins s σ H (fun v H1 => ∃ x μ1 xs, Kp H H1 ∧ Cn X.K μ1 H1 ∧ RelA X.K H1 x v ∧ items μ1 x = some xs ∧ R' xs (fun μ => items μ x = some xs) μ1) I ⟨τ, μ, _, hs, hc, h, fun x μ1 v H1 S1 c1 rx hx => ?_⟩) fun v s1 ⟨xv, H1, I1, r1, x, μ1, xs, S1, c1, rx, e, hx⟩ => ?_
  · obtain ⟨xs, e, hx⟩ := opt_e hx
    exact ⟨x, μ1, xs, S1, c1, rx, e, hx⟩
  obtain ⟨p, vs, rfl, hp, rs⟩ := items_kind c1 rx e
  cases r1
  rcases hp with ⟨k, hp⟩ | ⟨k, hp⟩
  · obtain ⟨its, rv, pl, hz⟩ := I1.list hp
    refine wpAny_pyIter_list pl.isList ?_
    refine ⟨s1.heap.objs.size, [s1.heap.objs.size], _, _, H1, rfl, I1.kept (t' := s1.toks) fun b o e => Heap.get?_push_of_some _ e, turn_list p _, ⟨_, Heap.get?_push_size _ rfl, rfl, rfl⟩, fun b hb => ?_, hq _ _ _ _ _ S1 c1 (itOk_list fun H μ S c k2 => ?_) hx⟩
    · have e : b = s1.heap.objs.size := by simpa using hb
      subst e
      exact I1.fpOk (Nat.le_refl _) (I1.hok.fresh (Nat.le_refl _))
    · obtain ⟨q, ws, e, hw, rw⟩ := items_kind c (rx.kp S) k2
      cases e
      rcases hw with ⟨_, hw⟩ | ⟨k3, _⟩
      · exact ⟨ws, hw, rw⟩
      · rw [k] at k3; cases k3
  · obtain ⟨its, rv, pl, hz⟩ := I1.tuple hp
    refine wpAny_pyIter_tuple (show s1.heap.IsTuple p its.toArray from pl) ?_
    refine ⟨s1.heap.objs.size, [s1.heap.objs.size], _, _, H1, rfl, I1.kept (t' := s1.toks) fun b o e => Heap.get?_push_of_some _ e, turn_tuple p _, ⟨_, Heap.get?_push_size _ rfl, rfl, rfl⟩, fun b hb => ?_, hq _ _ _ _ _ S1 c1 (itOk_tup fun H μ S c k2 => ?_) hx⟩
    · have e : b = s1.heap.objs.size := by simpa using hb
      subst e
      exact I1.fpOk (Nat.le_refl _) (I1.hok.fresh (Nat.le_refl _))
    · obtain ⟨q, ws, e, hw, rw⟩ := items_kind c (rx.kp S) k2
      cases e
      rcases hw with ⟨k3, _⟩ | ⟨_, hw⟩
      · rw [k] at k3; cases k3
      · exact ⟨ws, hw, rw⟩
end
section
variable {c : AT} {g : AG} {tb : AS} {k : ASt → M → Prop} {r : AV → M → Prop} {bb cc : ASt → M → Prop} {tst : AT} {te : AE}
theorem while_i {τ : ASt} {μ : M} (I : Nat → ASt → M → Prop) (m : Nat) (h0 : I m τ μ)
    (step : ∀ m τ μ (W : ASt → M → Prop), I m τ μ → (∀ m' τ' μ', m' < m → I m' τ' μ' → W τ' μ') → c τ μ fun x μ1 => brP x (tb W r k W τ μ1) (k τ μ1)) : ∃ n, wl c tb k r n τ μ := by
  have key : ∀ n m τ μ, m < n → I m τ μ → wl c tb k r n τ μ := by
    intro n
    induction n with
    | zero => intro m τ μ h _; omega
    | succ n ih => intro m τ μ h hI; exact step m τ μ (wl c tb k r n) hI fun m' τ' μ' hm hI' => ih m' τ' μ' (by omega) hI'
  exact ⟨m + 1, key (m + 1) m τ μ (Nat.lt_succ_self _) h0⟩
theorem seq_i {t u : AS} {τ : ASt} {μ : M} (J : ASt → M → Prop) (h1 : ∀ W : ASt → M → Prop, (∀ τ' μ', J τ' μ' → W τ' μ') → t W r bb cc τ μ) (h2 : ∀ τ' μ', J τ' μ' → u k r bb cc τ' μ') : vSeq t u k r bb cc τ μ := h1 (u k r bb cc) h2
theorem seq_d {t u : AS} {τ : ASt} {μ : M} (h : t (u k r bb cc) r bb cc τ μ) : vSeq t u k r bb cc τ μ := h
theorem for_i {kp : M → Prop} {xs : List AV} {τ : ASt} {μ : M} (I : Nat → ASt → M → Prop) (h0 : I 0 τ μ) (hk : ∀ i τ μ, I i τ μ → kp μ)
    (step : ∀ i x τ μ (W : ASt → M → Prop), xs[i]? = some x → I i τ μ → (∀ τ' μ', I (i + 1) τ' μ' → W τ' μ') → g x τ μ fun τ2 μ2 => tb W r k W τ2 μ2)
    (done : ∀ τ μ, I xs.length τ μ → k τ μ) : fl g tb k r kp xs τ μ := by
  have key : ∀ n i τ μ, n + i = xs.length → I i τ μ → fl g tb k r kp (xs.drop i) τ μ := by
    intro n
    induction n with
    | zero =>
      intro i τ μ h hI
      have e : i = xs.length := by omega
      subst e
      rw [List.drop_length]
      exact ⟨hk _ _ _ hI, done τ μ hI⟩
    | succ n ih =>
      intro i τ μ h hI
      have hi : i < xs.length := by omega
      rw [List.drop_eq_getElem_cons hi]
      exact ⟨hk _ _ _ hI, step i _ τ μ _ (List.getElem?_eq_getElem hi) hI fun τ' μ' q => ih (i + 1) τ' μ' (by omega) q⟩
  exact key xs.length 0 τ μ rfl h0
theorem comp_i {p : Addr} {kp : M → Prop} {R : M → Prop} {xs : List AV} {τ : ASt} {μ : M} (I : Nat → List AV → ASt → M → Prop) (h0 : I 0 [] τ μ) (hk : ∀ i acc τ μ, I i acc τ μ → kp μ)
    (step : ∀ i x acc τ μ (W : List AV → ASt → M → Prop), xs[i]? = some x → I i acc τ μ → (∀ acc' τ' μ', I (i + 1) acc' τ' μ' → W acc' τ' μ') → g x τ μ fun τ1 μ1 => tst τ1 μ1 fun k μ2 =>
      brP k (te τ1 μ2 fun v μ3 => μ3 p = some (.lst acc) ∧ acc.length < sizeLine ∧ W (acc ++ [v]) τ1 (updM μ3 p (.lst (acc ++ [v])))) (W acc τ1 μ2))
    (done : ∀ acc τ μ, I xs.length acc τ μ → R μ) : cl p g tst te kp R xs [] τ μ := by
  have key : ∀ n i acc τ μ, n + i = xs.length → I i acc τ μ → cl p g tst te kp R (xs.drop i) acc τ μ := by
    intro n
    induction n with
    | zero =>
      intro i acc τ μ h hI
      have e : i = xs.length := by omega
      subst e
      rw [List.drop_length]
      exact ⟨hk _ _ _ _ hI, done acc τ μ hI⟩
    | succ n ih =>
      intro i acc τ μ h hI
      have hi : i < xs.length := by omega
      rw [List.drop_eq_getElem_cons hi]
      exact ⟨hk _ _ _ _ hI, step i _ acc τ μ (fun acc' τ' μ' => cl p g tst te kp R (xs.drop (i + 1)) acc' τ' μ') (List.getElem?_eq_getElem hi) hI fun acc' τ' μ' q => ih (i + 1) acc' τ' μ' (by omega) q⟩
  exact key xs.length 0 [] τ μ rfl h0
end
theorem eqOk_str {z : Str} (h : PyData.canLay0 (.str z) = true) : EqOk (.str z) := ⟨h, by simp [PyData.depth]⟩
theorem eqOk_int (i : Int) : EqOk (.int i) := ⟨rfl, by simp [PyData.depth]⟩
theorem eqv_int (i j : Int) : PyData.eqv (.int i) (.int j) = decide (i = j) := by
  rw [PyData.eqv]; exact Bool.eq_iff_iff.mpr (by simp)
theorem ieq {i j : Int} {T F : Prop} (h1 : i = j → T) (h2 : i ≠ j → F) : EqOk (.int i) ∧ EqOk (.int j) ∧ brP (PyData.eqv (.int i) (.int j)) T F := by
  refine ⟨eqOk_int _, eqOk_int _, ?_⟩
  rw [eqv_int]
  exact dif h1 h2
theorem items_R {μ : M} {p : Addr} {xs : List AV} (h : μ p = some (.lst xs)) : items μ (.R p) = some xs := by
  show (match μ p with | some (.lst xs) => some xs | _ => none) = _
  rw [h]
end L2
namespace L2
open PySem PySem.Spec PyProof.Rows
def valA {κ : Type} [DecidableEq κ] (kvs : List (κ × AV)) (k : κ) : Option AV := (kvs.find? fun kv => decide (kv.1 = k)).map (·.2)
def putA {κ : Type} [DecidableEq κ] (kvs : List (κ × AV)) (k : κ) (v : AV) : List (κ × AV) :=
  if (kvs.any fun kv => decide (kv.1 = k)) = true then kvs.map fun kv => if kv.1 = k then (kv.1, v) else kv else kvs ++ [(k, v)]
def keysOf : List PyData → Option (List Key)
  | [] => some []
  | d :: ds => match keyOf d, keysOf ds with
    | some k, some ks => some (k :: ks)
    | _, _ => none
def dget (m : MO) (d : PyData) : Option (Option AV) := match m with
  | .dk kvs => (keyOf d).map (valA kvs)
  | .dt kvs => match d with
    | .tuple ds => (keysOf ds).map (valA kvs)
    | _ => none
  | .lst _ => none
  | .dd _ => none
def dput (m : MO) (d : PyData) (v : AV) : Option MO := match m with
  | .dk kvs => (keyOf d).map fun k => .dk (putA kvs k v)
  | .dt kvs => match d with
    | .tuple ds => (keysOf ds).map fun k => .dt (putA kvs k v)
    | _ => none
  | .lst _ => none
  | .dd _ => none
def dsize : MO → Nat
  | .dk kvs => kvs.length
  | .dt kvs => kvs.length
  | .lst xs => xs.length
  | .dd kvs => kvs.length
section
variable {X : Cx} {K : PySem.W.Frag} {H : Hp}
def RelOA (K : PySem.W.Frag) (H : Hp) : Option AV → Option V → Prop
  | some x, some v => RelA K H x v
  | none, none => True
  | _, _ => False
theorem RelK.val {κ : Type} [DecidableEq κ] {kvs : List (κ × AV)} {vs : List (κ × V)} (h : RelK K H kvs vs) (k : κ) : RelOA K H (valA kvs k) (valV vs k) := by
  unfold RelK at h
  induction h with
  | nil => exact trivial
  | @cons p q l₁ l₂ r t ih =>
    obtain ⟨p1, p2⟩ := p
    obtain ⟨q1, q2⟩ := q
    obtain ⟨e, r⟩ := r
    dsimp only at e
    subst e
    unfold valA valV at ih ⊢
    by_cases hk : p1 = k
    · simp only [List.find?_cons, decide_eq_true hk]; exact r
    · simp only [List.find?_cons, decide_eq_false hk]; exact ih
theorem RelK.put {κ : Type} [DecidableEq κ] {kvs : List (κ × AV)} {vs : List (κ × V)} (h : RelK K H kvs vs) (k : κ) {x : AV} {v : V} (r : RelA K H x v) : RelK K H (putA kvs k x) (putK vs k v) := by
  have hn : (kvs.any fun kv => decide (kv.1 = k)) = (vs.any fun kv => decide (kv.1 = k)) := by
    unfold RelK at h
    induction h with
    | nil => rfl
    | @cons p q l₁ l₂ rr t ih => rw [List.any_cons, List.any_cons, ih, rr.1]
  have hm : RelK K H (kvs.map fun kv => if kv.1 = k then (kv.1, x) else kv) (vs.map fun kv => if kv.1 = k then (kv.1, v) else kv) := by
    clear hn
    unfold RelK at h ⊢
    induction h with
    | nil => exact .nil
    | @cons p q l₁ l₂ rr t ih =>
      refine .cons ?_ ih
      obtain ⟨e, rr⟩ := rr
      dsimp only
      by_cases hk : p.1 = k
      · rw [if_pos hk, if_pos (e ▸ hk)]; exact ⟨e, r⟩
      · rw [if_neg hk, if_neg (e ▸ hk)]; exact ⟨e, rr⟩
  have ha : RelK K H (kvs ++ [(k, x)]) (vs ++ [(k, v)]) := by
    clear hn hm
    unfold RelK at h ⊢
    exact Paired.snoc h ⟨rfl, r⟩
  unfold putA putK
  rw [hn]
  split
  · exact hm
  · exact ha
theorem keyOf_v {d : PyData} {k : Key} {v : V} (h : Dk K H d v) (e : keyOf d = some k) : v = kV k := by
  unfold keyOf at e
  split at e
  · cases e; exact h.int
  · cases e; exact h.str
  · cases e
theorem keysOf_v : ∀ {ds : List PyData} {ks : List Key} {vs : List V}, DkAll K H ds vs → keysOf ds = some ks → vs = ks.map kV
  | [], ks, vs, h, e => by cases e; exact h.nil
  | d :: ds, ks, vs, h, e => by
    obtain ⟨x, r, rfl, h1, h2⟩ := h.cons
    simp only [keysOf] at e
    split at e
    · rename_i k ks' e1 e2
      cases e
      rw [keyOf_v h1 e1, keysOf_v h2 e2]; rfl
    · cases e
theorem dget_ok {μ : M} {a : Addr} {m : MO} {d : PyData} {v : V} {o : Option AV} (hc : Cn K μ H) (hm : μ a = some m) (hd : Dk K H d v) (e : dget m d = some o) : ∃ r, DGet H a v r ∧ RelOA K H o r := by
  obtain ⟨ob, ho, rm⟩ := hc a m hm
  unfold dget at e
  split at e
  · obtain ⟨k, ek, rfl⟩ := Option.map_eq_some_iff.mp e
    obtain ⟨vs, rfl, rs⟩ := rm
    rw [keyOf_v hd ek]
    exact ⟨_, DGet.k ho, rs.val k⟩
  · split at e
    · obtain ⟨ks, ek, rfl⟩ := Option.map_eq_some_iff.mp e
      obtain ⟨vs, rfl, rs⟩ := rm
      obtain ⟨b, xs, rfl, hb, hx⟩ := hd.tup
      rw [keysOf_v hx ek] at hb
      exact ⟨_, DGet.t ho hb, rs.val ks⟩
    · cases e
  · cases e
  · cases e
theorem dput_ok {μ : M} {a : Addr} {m m' : MO} {d : PyData} {v w : V} {x : AV} (hc : Cn K μ H) (hm : μ a = some m) (hd : Dk K H d v) (hx : RelA K H x w) (e : dput m d x = some m') (hs : dsize m < sizeLine) : ∃ H', DPut H a v w H' ∧ Kp H H' ∧ Cn K (updM μ a m') H' := by
  obtain ⟨ob, ho, rm⟩ := hc a m hm
  unfold dput at e
  split at e
  · obtain ⟨k, ek, rfl⟩ := Option.map_eq_some_iff.mp e
    obtain ⟨vs, rfl, rs⟩ := rm
    rw [keyOf_v hd ek]
    exact ⟨_, DPut.k ho (by rw [← Paired.length rs]; exact hs), Kp.put ho trivial _, hc.put ho trivial ⟨_, rfl, rs.put k hx⟩⟩
  · split at e
    · obtain ⟨ks, ek, rfl⟩ := Option.map_eq_some_iff.mp e
      obtain ⟨vs, rfl, rs⟩ := rm
      obtain ⟨b, xs, rfl, hb, hxs⟩ := hd.tup
      rw [keysOf_v hxs ek] at hb
      exact ⟨_, DPut.t ho hb (by rw [← Paired.length rs]; exact hs), Kp.put ho trivial _, hc.put ho trivial ⟨_, rfl, rs.put ks hx⟩⟩
    · cases e
  · cases e
  · cases e
variable {o i e value : Expr} {pos pos' : Pos} {td ty tv tx : AE}
def vDGet (td ty : AE) : AE := fun τ μ R => td τ μ fun x μ1 => ty τ μ1 fun y μ2 => match x, y with
  | .R a, .D d => opt (μ2 a) fun m => opt (dget m d) fun r => opt r fun v => R v μ2
  | _, _ => False
theorem ve_dget (hu : X.A.units + 1 < cLine) (ho : VE X o td) (hi : VE X i ty) (hs : NoSl i := by intro _ _; rfl) : VE X (.Subscript o i pos) (vDGet td ty) := (pe_dget hu ho hi hs).imp fun σ H Q ⟨τ, μ, R, hs, hc, h, hq⟩ =>
  ⟨τ, μ, _, hs, hc, h, fun x μ1 v H1 S1 c1 rx hx => ⟨τ, μ1, _, hs.kp S1, c1, hx, fun y μ2 u H2 S2 c2 ry hy => by
    split at hy
    · obtain ⟨m, em, hy⟩ := opt_e hy
      obtain ⟨r, er, hy⟩ := opt_e hy
      obtain ⟨w, rfl, hy2⟩ := opt_e hy
      obtain ⟨r', g, ro⟩ := dget_ok c2 em ry er
      cases r' with
      | none => exact ro.elim
      | some z => exact ⟨_, z, (rx.kp S2).ref, g, hq _ _ _ _ (S1.trans S2) c2 ro hy2⟩
    · exact hy.elim⟩⟩
theorem RelOA.some {o : Option AV} {r : Option V} (h : RelOA K H o r) : o.isSome = r.isSome := by
  cases o <;> cases r <;> first | rfl | exact h.elim
def vDPut (td ty tv : AE) : AS := fun k _ _ _ τ μ => tv τ μ fun v μ1 => td τ μ1 fun x μ2 => ty τ μ2 fun y μ3 => match x, y with
  | .R a, .D d => opt (μ3 a) fun m => opt (dput m d v) fun m' => dsize m < sizeLine ∧ k τ (updM μ3 a m')
  | _, _ => False
theorem vs_dput (hu : X.A.units + 1 < cLine) (ho : VE X o td) (hi : VE X i ty) (hv : VE X value tv) (hs : swapsWith value (some (.Subscript o i pos')) pos.line X.env = pure false := by rfl) : VS X (.Assign [.Subscript o i pos'] value pos) (vDPut td ty tv) := (ps_dput hu ho hi hv hs).imp fun D σ H ⟨τ, μ, nk, nr, nb, nc, hs, hc, h, hq⟩ =>
  ⟨τ, μ, _, hs, hc, h, fun v μ1 vv H1 S1 c1 rv h1 => ⟨τ, μ1, _, hs.kp S1, c1, h1, fun x μ2 xv H2 S2 c2 rx h2 => ⟨τ, μ2, _, hs.kp (S1.trans S2), c2, h2, fun y μ3 yv H3 S3 c3 ry h3 => by
    split at h3
    · obtain ⟨m, em, h3⟩ := opt_e h3
      obtain ⟨m', em', h3⟩ := opt_e h3
      obtain ⟨H4, g, S4, c4⟩ := dput_ok c3 em ry (rv.kp (S2.trans S3)) em' h3.1
      have S := S1.trans (S2.trans (S3.trans S4))
      exact ⟨_, H4, (rx.kp S3).ref, g, hq.nx _ _ _ _ S (hs.kp S) c4 h3.2⟩
    · exact h3.elim⟩⟩⟩
theorem rm_dk {kvs : List (Key × AV)} {vs : List (Key × V)} (h : RelK K H kvs vs) : RelM K H (.dk kvs) (.dK vs) := ⟨vs, rfl, h⟩
end
end L2
namespace L2
open PySem PySem.Spec PySem.Calls PyProof.Rows
abbrev AX := Addr → List (Str × PyData) → M → Prop
def XFx (K : PySem.W.Frag) (H : Hp) (d : Option Addr) (fs : List (Str × PyData)) : Prop := match d with
  | none => fs = []
  | some d => ∃ kvs, H d = some (XD d kvs) ∧ FsOk K H fs kvs
def EK (K : PySem.W.Frag) (EX : AX) : XK := fun c oa H => ∃ a C fs μ d, c = .ref C ∧ oa = some a ∧ H a = some (XR a C d) ∧ XFx K H d fs ∧ Cn K μ H ∧ EX C fs μ
def XA (X : Cx) (EX : AX) : Prop := XeOk X (EK X.K EX)
section
variable {K : PySem.W.Frag} {H H' : Hp}
theorem Kp.ext {p : Addr} {φ : Heap → Prop} (h : H p = some (.ext φ)) (o : HO) : Kp H (upd H p o) :=
  ⟨fun b xs e => by rw [upd_ne (ne_of e h (by intro z; cases z))]; exact e, fun b o' u e => by rw [upd_ne (ne_of e h (by intro z; cases z))]; exact e⟩
theorem Cn.ext {μ : M} {p : Addr} {φ : Heap → Prop} (c : Cn K μ H) (h : H p = some (.ext φ)) (o : HO) : Cn K μ (upd H p o) := fun b m e => by
  obtain ⟨o', q, r⟩ := c b m e
  refine ⟨o', ?_, r.kp (Kp.ext h o)⟩
  rw [upd_ne]
  · exact q
  · rintro rfl
    rw [h] at q; cases q
    exact r.mt
theorem FsOk.zip : ∀ (fns : List Str) {ds : List PyData} {vs : List V}, DkAll K H ds vs → FsOk K H (fns.zip ds) (fns.zip vs)
  | [], _, _, _ => .nil
  | _ :: _, [], _, h => by rw [h.nil]; exact .nil
  | f :: fns, _ :: ds, _, h => by
    obtain ⟨x, r, rfl, h1, h2⟩ := h.cons
    exact .cons ⟨rfl, h1⟩ (FsOk.zip fns h2)
theorem FsOk.lookup {f : Str} {d : PyData} : ∀ {fs : List (Str × PyData)} {vs : List (Str × V)}, FsOk K H fs vs → fs.lookup f = some d → ∃ v, vs.lookup f = some v ∧ Dk K H d v
  | _, _, .nil, e => by cases e
  | (g, d') :: _, (g', v') :: _, .cons r t, e => by
    obtain ⟨r1, r2⟩ := r
    dsimp only at r1 r2
    subst r1
    rw [List.lookup_cons] at e ⊢
    split at e
    · cases e
      exact ⟨v', rfl, r2⟩
    · exact FsOk.lookup t e
end
section
variable {X : Cx} {pins : List (Addr × Obj)} {σ : St} {H : Hp} {s : Shared}
theorem XA.le {EX EX' : AX} (h : XA X EX) (i : ∀ C fs μ, EX' C fs μ → EX C fs μ) : XA X EX' := fun pins σ H s a C d vs I q R ⟨a', C', fs, μ, d', e1, e2, e3, e4, e5, e6⟩ => h pins σ H s a C d vs I q R ⟨a', C', fs, μ, d', e1, e2, e3, e4, e5, i _ _ _ e6⟩
end
section
variable {X : Cx} {x : Str} {p pos pos' : Pos} {e : Expr} {es : List Expr} {t : AA} {k : Nat} {C : Addr} {fns : List Str} {EX : AX}
end
abbrev ASpX := List AV → M → (AV → M → Prop) → AX → Prop
def cSpX (K : PySem.W.Frag) (n : Nat) (sp : ASpX) : Sp := fun vs H Q E => ∃ xs μ R EX, xs.length = n ∧ RelAs K H xs vs ∧ Cn K μ H ∧ sp xs μ R EX ∧ LV K H R Q ∧ ∀ c a H', EK K EX c a H' → E c a H'
def VCalX (P : Program) (w : World) (K : PySem.W.Frag) (mg : Str → Option Value) (base : Heap) (k : Nat) (x : Str) (ps : List Str) (sp : ASpX) : Prop :=
  ∃ g gd, FnOk P w K mg base (CX1 P w) k g gd ps (cSpX K ps.length sp) ∧ Binds K gd ps [] ∧ PySem.W.keepIn K (.ref g) = true ∧ mg x = some (.ref g)
theorem VCalX.mono {P : Program} {w : World} {K : PySem.W.Frag} {mg : Str → Option Value} {base : Heap} {n m : Nat} {x : Str} {ps : List Str} {sp : ASpX} (c : VCalX P w K mg base n x ps sp) (h : n ≤ m) : VCalX P w K mg base m x ps sp :=
  let ⟨g, gd, G, r⟩ := c; ⟨g, gd, G.mono h, r⟩
section
variable {X : Cx} {x : Str} {p pos : Pos} {e : Expr} {es : List Expr} {t : AA} {k : Nat} {ps : List Str} {sp : ASpX} {EX : AX}
end
def upX (EX : AX) : AX := fun C fs μ => ∃ ν, Sub ν μ ∧ EX C fs ν
theorem XA.up {X : Cx} {EX : AX} (h : XA X EX) : XA X (upX EX) := fun pins σ H s a C d vs I q R ⟨a', C', fs, _, d', e1, e2, e3, e4, e5, ν, hν, e6⟩ => h pins σ H s a C d vs I q R ⟨a', C', fs, ν, d', e1, e2, e3, e4, e5.sub hν, e6⟩
section
variable {P : Program} {w : World} {K : PySem.W.Frag} {mg : Str → Option Value} {base : Heap}
end
def cS0 (K : PySem.W.Frag) (H0 : Hp) (t : AS) : TS := fun D σ H => ∃ τ μ k r b c, StA K H τ σ ∧ Cn K μ H ∧ t k r b c τ μ ∧ LE' K H0 k r b c D
def VS0 (X : Cx) (st : Stmt) (t : AS) : Prop := PS X st (cS0 X.K X.H₀ t)
def VSs0 (X : Cx) (st : List Stmt) (t : AS) : Prop := PSs X st (cS0 X.K X.H₀ t)
section
variable {X : Cx} {pins : List (Addr × Obj)} {σ : St} {H : Hp} {s : Shared} {st : Stmt} {rest : List Stmt} {t s1 s2 : AS}
theorem Inv.kp0 (I : Inv X pins σ H s) : Kp X.H₀ H := ⟨I.base.tups, I.base.frzs⟩
theorem VS.z (h : VS X st t) : VS0 X st t := fun pins s σ H D I ⟨τ, μ, k, r, b, c, hs, hc, h', hq⟩ => h pins s σ H D I ⟨τ, μ, k, r, b, c, hs, hc, h', hq.kp I.kp0⟩
theorem VSs.z (h : VSs X rest t) : VSs0 X rest t := fun pins s σ H D I ⟨τ, μ, k, r, b, c, hs, hc, h', hq⟩ => h pins s σ H D I ⟨τ, μ, k, r, b, c, hs, hc, h', hq.kp I.kp0⟩
end
section
variable {X : Cx} {a : Expr} {ta : AE} {pos p p2 : Pos} {x : Str}
end
end L2
namespace L2
open PySem PySem.Spec PyProof.Rows
def enumA : Nat → List PyData → List AV
  | _, [] => []
  | i, d :: ds => .D (.tuple [.int i, d]) :: enumA (i + 1) ds
theorem enumA_length : ∀ (ds : List PyData) (k : Nat), (enumA k ds).length = ds.length
  | [], _ => rfl
  | _ :: ds, k => by rw [enumA, List.length_cons, enumA_length ds, List.length_cons]
theorem enumA_get : ∀ {ds : List PyData} {k i : Nat} {x : AV}, (enumA k ds)[i]? = some x → ∃ d, ds[i]? = some d ∧ x = .D (.tuple [.int ((k + i : Nat) : Int), d])
  | [], _, _, _, h => by simp [enumA] at h
  | d :: ds, k, 0, _, h => by simp [enumA] at h; exact ⟨d, rfl, by rw [← h]; simp⟩
  | _ :: ds, k, i + 1, _, h => by
    rw [enumA, List.getElem?_cons_succ] at h
    obtain ⟨d, e, q⟩ := enumA_get h
    refine ⟨d, by simpa using e, ?_⟩
    rw [q]
    have e2 : k + 1 + i = k + (i + 1) := by omega
    rw [e2]
theorem itOk_enumT {K : PySem.W.Frag} {H0 : Hp} {a : Addr} {ys : List AV} {ds : List PyData} {kp : M → Prop} (hd : dats ys = some ds) (h : ∀ H μ, Kp H0 H → Cn K μ H → kp μ → ∃ vs, SqT K H a vs ∧ RelAs K H ys vs) : ItOk K H0 (Ien K a) (enumA 0 ds) kp := by
  have hn : ds.length = ys.length := by rw [dats_eq hd, List.length_map]
  refine ⟨fun i H μ S c k hi => ?_, fun i H μ v H' x S c k e y => ?_, fun H μ S c k => ?_⟩
  · obtain ⟨vs, q, r⟩ := h H μ S c k
    rw [enumA_length, hn] at hi
    exact ⟨vs, vs[i]'(by rw [← r.length]; exact hi), q, List.getElem?_eq_getElem _⟩
  · obtain ⟨vs, q, r⟩ := h H μ S c k
    obtain ⟨T, z, hT, rfl, rfl, y⟩ := y
    obtain ⟨d, e1, rfl⟩ := enumA_get e
    obtain ⟨u, eu, ru⟩ := (r.dats hd).get e1
    rw [y vs q] at eu
    cases eu
    refine ⟨Kp.new hT _, c.over hT, ra_tup upd_same ?_⟩
    rw [Nat.zero_add]
    exact dks_cons dk_int (dks_cons (Dk.kp (Kp.new hT _) _ _ ru) dks_nil)
  · obtain ⟨vs, q, r⟩ := h H μ S c k
    exact ⟨vs, q, by rw [enumA_length, hn, r.length]⟩
theorem itOk_enumL {K : PySem.W.Frag} {H0 : Hp} {a : Addr} {ys : List AV} {ds : List PyData} {kp : M → Prop} (hd : dats ys = some ds) (h : ∀ H μ, Kp H0 H → Cn K μ H → kp μ → ∃ vs, SqL K H a vs ∧ RelAs K H ys vs) : ItOk K H0 (Iel K a) (enumA 0 ds) kp := by
  have hn : ds.length = ys.length := by rw [dats_eq hd, List.length_map]
  refine ⟨fun i H μ S c k hi => ?_, fun i H μ v H' x S c k e y => ?_, fun H μ S c k => ?_⟩
  · obtain ⟨vs, q, r⟩ := h H μ S c k
    rw [enumA_length, hn] at hi
    exact ⟨vs, vs[i]'(by rw [← r.length]; exact hi), q, List.getElem?_eq_getElem _⟩
  · obtain ⟨vs, q, r⟩ := h H μ S c k
    obtain ⟨T, z, hT, rfl, rfl, y⟩ := y
    obtain ⟨d, e1, rfl⟩ := enumA_get e
    obtain ⟨u, eu, ru⟩ := (r.dats hd).get e1
    rw [y vs q] at eu
    cases eu
    refine ⟨Kp.new hT _, c.over hT, ra_tup upd_same ?_⟩
    rw [Nat.zero_add]
    exact dks_cons dk_int (dks_cons (Dk.kp (Kp.new hT _) _ _ ru) dks_nil)
  · obtain ⟨vs, q, r⟩ := h H μ S c k
    exact ⟨vs, q, by rw [enumA_length, hn, r.length]⟩
def jEnum (t : AE) : AI := fun τ μ R => t τ μ fun x μ1 => opt (items μ1 x) fun ys => opt (dats ys) fun ds => R (enumA 0 ds) (fun μ => items μ x = some ys) μ1
section
variable {X : Cx} {a : Expr} {ta : AE} {pos p : Pos}
theorem vi_enum {elts : List Expr} {k : Nat} {tpos : Pos} (hg : Gl X "enumerate") (hm : X.mg "enumerate" = none) (hl : VE X a ta) (hs : starEach [a] X.env = [(false, eval a X.env)] := by rfl) : VI X (.Tuple elts k tpos) (.Call (.Name "enumerate" p) [a] [] pos) (jEnum ta) := by
  intro pins s σ H R I ⟨τ, μ, R', hst, hc, h, hq⟩
  refine wpAny_Call_Name_kw (ld_blt I hg hm boot_enumerate ?_)
  refine PyProof.Rows.callWith_type1 ?_ hs rfl
  rw [hs]
  refine Calls.spliced_cons (thn (hl pins s σ H (fun v H1 => ∃ x μ1 ys ds, Kp H H1 ∧ Cn X.K μ1 H1 ∧ RelA X.K H1 x v ∧ items μ1 x = some ys ∧ dats ys = some ds ∧ R' (enumA 0 ds) (fun μ => items μ x = some ys) μ1) I ⟨τ, μ, _, hst, hc, h, fun x μ1 v H1 S1 c1 rx hx => ?_⟩) fun u s1 ⟨xv, H1, I1, r1, x, μ1, ys, ds, S1, c1, rx, e, ed, hx⟩ => Calls.spliced_nil ?_)
  · obtain ⟨ys, e, hx⟩ := opt_e hx
    obtain ⟨ds, ed, hx⟩ := opt_e hx
    exact ⟨x, μ1, ys, ds, S1, c1, rx, e, ed, hx⟩
  obtain ⟨p, vs, rfl, hp, rs⟩ := items_kind c1 rx e
  cases r1
  have fin : ∀ b ∈ [s1.heap.objs.size + 1, s1.heap.objs.size], FpOk X pins H1 b := fun b hb => by
    have hb' : s1.heap.objs.size ≤ b := by
      rcases List.mem_cons.mp hb with rfl | hb
      · exact Nat.le_succ _
      · have e : b = s1.heap.objs.size := by simpa using hb
        exact Nat.le_of_eq e.symm
    exact I1.fpOk hb' (I1.hok.fresh hb')
  rcases hp with ⟨k, hp⟩ | ⟨k, hp⟩
  · obtain ⟨its, rv, pl, hz⟩ := I1.list hp
    refine call_enumerate_list pl.isList fun h' he hit hsz kk => ?_
    refine wpAny_pyIter_enum he ?_
    refine ⟨s1.heap.objs.size + 1, [s1.heap.objs.size + 1, s1.heap.objs.size], _, _, H1, rfl, I1.kept (t' := s1.toks) kk, turn_enumL p _ _ (Nat.succ_ne_self _), ⟨⟨_, he⟩, hit⟩, fin, hq _ _ _ _ _ S1 c1 (itOk_enumL ed fun H μ S c k2 => ?_) hx⟩
    obtain ⟨q, ws, e, hw, rw⟩ := items_kind c (rx.kp S) k2
    cases e
    rcases hw with ⟨_, hw⟩ | ⟨k3, _⟩
    · exact ⟨ws, hw, rw⟩
    · rw [k] at k3; cases k3
  · obtain ⟨its, rv, pl, hz⟩ := I1.tuple hp
    refine L2_call_enum_tuple pl fun h' he hit hsz kk => ?_
    refine wpAny_pyIter_enum he ?_
    refine ⟨s1.heap.objs.size + 1, [s1.heap.objs.size + 1, s1.heap.objs.size], _, _, H1, rfl, I1.kept (t' := s1.toks) kk, turn_enum p _ _ (Nat.succ_ne_self _), ⟨⟨_, he⟩, hit⟩, fin, hq _ _ _ _ _ S1 c1 (itOk_enumT ed fun H μ S c k2 => ?_) hx⟩
    obtain ⟨q, ws, e, hw, rw⟩ := items_kind c (rx.kp S) k2
    cases e
    rcases hw with ⟨k3, _⟩ | ⟨_, hw⟩
    · rw [k] at k3; cases k3
    · exact ⟨ws, hw, rw⟩
end
theorem putK_fresh {kvs : List (Key × V)} {k : Key} {v : V} (h : k ∉ kvs.map (·.1)) : putK kvs k v = kvs ++ [(k, v)] := by
  unfold putK
  rw [if_neg]
  intro q
  rw [List.any_eq_true] at q
  obtain ⟨x, hx, e⟩ := q
  exact h (List.mem_map.mpr ⟨x, hx, of_decide_eq_true e⟩)
theorem mergeK_nodup : ∀ (more kvs : List (Key × V)), ((kvs ++ more).map (·.1)).Nodup → mergeK kvs more = kvs ++ more
  | [], kvs, _ => by rw [List.append_nil]; rfl
  | (k, v) :: more, kvs, h => by
    show mergeK (putK kvs k v) more = _
    have hk : k ∉ kvs.map (·.1) := fun z => by
      rw [List.map_append, List.nodup_append] at h
      exact h.2.2 k z k (by simp) rfl
    rw [putK_fresh hk, mergeK_nodup more, List.append_assoc]
    · rfl
    · rw [List.append_assoc]; exact h
def vPs : List AE → ASt → M → (List AV → M → Prop) → Prop
  | [], _, μ, R => R [] μ
  | t :: ts, τ, μ, R => t τ μ fun x μ1 => vPs ts τ μ1 fun xs μ2 => R (x :: xs) μ2
def trsOf (K : PySem.W.Frag) (ks : List Key) (ts : List AE) : List (TE × TE) := (ks.zip ts).map fun p => (tC (kV p.1), cE K p.2)
theorem pairs_ok {K : PySem.W.Frag} : ∀ {ks : List Key} {ts : List AE} {τ : ASt} {μ : M} {R : List AV → M → Prop} {σ : St} {H : Hp} {Q : List (V × V) → Hp → Prop}, ks.length = ts.length → StA K H τ σ → Cn K μ H → vPs ts τ μ R →
    (∀ xs μ' vs H', Kp H H' → Cn K μ' H' → RelAs K H' xs vs → xs.length = ts.length → R xs μ' → Q ((ks.zip vs).map fun kv => (kV kv.1, kv.2)) H') → tPairs (trsOf K ks ts) σ H Q
  | [], [], τ, μ, R, σ, H, Q, _, hs, hc, h, q => q [] μ [] H Kp.refl hc .nil rfl h
  | k :: ks, t :: ts, τ, μ, R, σ, H, Q, hl, hs, hc, h, q =>
    ⟨τ, μ, _, hs, hc, h, fun x μ1 v H1 S1 c1 rx hx => pairs_ok (ks := ks) (ts := ts) (by simpa using hl) (hs.kp S1) c1 hx fun xs μ2 vs H2 S2 c2 rs hn hr => q (x :: xs) μ2 (v :: vs) H2 (S1.trans S2) c2 (.cons (rx.kp S2) rs) (by simp [hn]) hr⟩
def VPs (X : Cx) (pos : Pos) (keys : List (Option Expr)) (values : List Expr) (ks : List Key) (ts : List AE) : Prop := PPs X pos keys values (trsOf X.K ks ts)
def vDisp (ks : List Key) (ts : List AE) : AE := fun τ μ R => ∀ p, μ p = none → vPs ts τ (updM μ p (.dk [])) fun xs μ1 => μ1 p = some (.dk []) ∧ R (.R p) (updM μ1 p (.dk (ks.zip xs)))
section
variable {X : Cx} {pos : Pos} {keys : List (Option Expr)} {values : List Expr} {ks : List Key} {ts : List AE}
theorem vps_nil : VPs X pos [] [] [] [] := pps_nil
theorem vps_str {z : Str} {j} {p : Pos} {v : Expr} {t : AE} (hv : VE X v t) (hr : VPs X pos keys values ks ts) : VPs X pos (some (.Constant (.str z) j p) :: keys) (v :: values) (.inr z :: ks) (t :: ts) := pps_cons (tk := tC (kV (.inr z))) pe_str hv hr
theorem RelAs.zipK {K : PySem.W.Frag} {H : Hp} : ∀ (ks : List Key) {xs : List AV} {vs : List V}, RelAs K H xs vs → RelK K H (ks.zip xs) (ks.zip vs)
  | [], _, _, _ => .nil
  | _ :: _, _, _, .nil => .nil
  | _ :: ks, _, _, .cons r t => .cons ⟨rfl, r⟩ (RelAs.zipK ks t)
theorem ve_disp (h : VPs X pos keys values ks ts) (hk : ks.Nodup) (hkl : ks.length = ts.length := by rfl) (h15' : ks.length ≤ 15 := by decide) (hall : keys.all (·.isSome) = true := by rfl) (hl : keys.length = values.length := by rfl) (h0 : keys ≠ [] := by intro z; cases z) (h15 : keys.length ≤ 15 := by decide) : VE X (.Dict keys values pos) (vDisp ks ts) :=
  (pe_disp h hall hl h0 h15).imp fun σ H Q ⟨τ, μ, R, hs, hc, h, hq⟩ => by
    intro p hp
    refine pairs_ok hkl (hs.kp (Kp.new hp _)) (hc.new hp (rm_dk .nil)) (h p (hc.none hp)) fun xs μ1 vs H1 S1 c1 rs hn hx => ?_
    obtain ⟨o, ho, ws, rfl, rk⟩ := c1 _ _ hx.1
    cases rk
    have hn2 : ks.length = vs.length := by rw [← rs.length, hn]; exact hkl
    refine ⟨ho, ks.zip vs, rfl, by rw [List.length_zip]; omega, ?_⟩
    rw [mergeK_nodup _ _ (by rw [List.nil_append, List.map_fst_zip (by omega)]; exact hk), List.nil_append]
    exact hq _ _ _ _ ((Kp.new hp _).trans (S1.trans (Kp.put ho trivial _))) (c1.put ho trivial (rm_dk (rs.zipK ks))) ra_ref hx.2
end
theorem valA_hd {κ : Type} [DecidableEq κ] {k : κ} {v : AV} {r : List (κ × AV)} : valA ((k, v) :: r) k = some v := by
  unfold valA
  simp only [List.find?_cons, decide_eq_true (rfl : k = k)]; rfl
theorem valA_tl {κ : Type} [DecidableEq κ] {k k' : κ} {v : AV} {r : List (κ × AV)} (h : k' ≠ k) : valA ((k', v) :: r) k = valA r k := by
  unfold valA
  simp only [List.find?_cons, decide_eq_false h]
theorem updM_self {μ : M} {p : Addr} {m : MO} (h : μ p = some m) : updM μ p m = μ := by
  funext b
  unfold updM
  split
  · rename_i e; rw [e, h]
  · rfl
theorem cmapf {α : Type} {p : Addr} {g : AG} {tst : AT} {te : AE} {kp : M → Prop} {R : M → Prop} {τ : ASt} {μ : M} (as : List α) (g0 : α → AV) (b : α → Bool) (f : α → AV) (Sh : ASt → Prop) (h0 : Sh τ) (hp : μ p = some (.lst [])) (hn : as.length ≤ sizeLine) (hk : ∀ acc, kp (updM μ p (.lst acc)))
    (step : ∀ (i : Nat) (x : α) (τ' : ASt) (acc : List AV) (W : ASt → AV → M → Prop) (W2 : ASt → M → Prop), as[i]? = some x → Sh τ' → (b x = true → ∀ τ1, Sh τ1 → W τ1 (f x) (updM μ p (.lst acc))) → (b x = false → ∀ τ1, Sh τ1 → W2 τ1 (updM μ p (.lst acc))) →
      g (g0 x) τ' (updM μ p (.lst acc)) fun τ1 μ1 => tst τ1 μ1 fun k μ2 => brP k (te τ1 μ2 (W τ1)) (W2 τ1 μ2))
    (done : R (updM μ p (.lst ((as.filter b).map f)))) : cl p g tst te kp R (as.map g0) [] τ μ := by
  refine comp_i (fun i acc τ' μ' => Sh τ' ∧ acc = ((as.take i).filter b).map f ∧ μ' = updM μ p (.lst acc)) ⟨h0, by simp, (updM_self hp).symm⟩ (fun i acc τ μ' ⟨_, _, e⟩ => by rw [e]; exact hk _) ?_ ?_
  · rintro i y acc τ' μ' W hy ⟨sh, rfl, rfl⟩ hW
    rw [List.getElem?_map] at hy
    obtain ⟨x, hx, rfl⟩ := Option.map_eq_some_iff.mp hy
    have hi : i < as.length := (List.getElem?_eq_some_iff.mp hx).1
    have ht : as.take (i + 1) = as.take i ++ [x] := by rw [List.take_succ, hx]; rfl
    refine step i x τ' _ (fun τ1 v μ3 => μ3 p = some (.lst (((as.take i).filter b).map f)) ∧ (((as.take i).filter b).map f).length < sizeLine ∧ W ((((as.take i).filter b).map f) ++ [v]) τ1 (updM μ3 p (.lst ((((as.take i).filter b).map f) ++ [v])))) (fun τ1 μ2 => W (((as.take i).filter b).map f) τ1 μ2) hx sh (fun hb τ1 s1 => ⟨updM_same, ?_, hW _ _ _ ⟨s1, ?_, updM_updM⟩⟩) (fun hb τ1 s1 => hW _ _ _ ⟨s1, ?_, rfl⟩)
    · rw [List.length_map]
      have h1 := List.length_filter_le b (as.take i)
      rw [List.length_take] at h1
      omega
    · rw [ht, List.filter_append, List.map_append, List.filter_cons, if_pos hb]; rfl
    · rw [ht, List.filter_append, List.map_append, List.filter_cons, if_neg (by rw [hb]; exact Bool.false_ne_true)]; simp
  · rintro acc τ' μ' ⟨_, rfl, rfl⟩
    rw [List.length_map, List.take_length]
    exact done
theorem cmap {α : Type} {p : Addr} {g : AG} {te : AE} {kp : M → Prop} {R : M → Prop} {τ : ASt} {μ : M} (as : List α) (g0 f : α → AV) (Sh : ASt → Prop) (h0 : Sh τ) (hp : μ p = some (.lst [])) (hn : as.length ≤ sizeLine) (hk : ∀ acc, kp (updM μ p (.lst acc)))
    (step : ∀ (i : Nat) (x : α) (τ' : ASt) (acc : List AV) (W : ASt → AV → M → Prop), as[i]? = some x → Sh τ' → (∀ τ1, Sh τ1 → W τ1 (f x) (updM μ p (.lst acc))) → g (g0 x) τ' (updM μ p (.lst acc)) fun τ1 μ1 => te τ1 μ1 (W τ1))
    (done : R (updM μ p (.lst (as.map f)))) : cl p g vYes te kp R (as.map g0) [] τ μ := by
  refine cmapf as g0 (fun _ => true) f Sh h0 hp hn hk (fun i x τ' acc W W2 hx sh h1 _ => ?_) (by rw [List.filter_eq_self.mpr (fun _ _ => rfl)]; exact done)
  have := step i x τ' acc W hx sh (h1 rfl)
  simp only [vYes, brP_true]
  exact this
structure Err (K : PySem.W.Frag) (C D : Addr) (cs : List Addr) : Prop where
  xi : XIs K C
  xc : xcIn K C = true
  kp : PySem.W.keepIn K (.ref C) = true
  un : PySem.W.mroIn K C (.ref D) = some true
  iD : PySem.W.kitOne K (.ref C) (.ref D) = some true
  iV : PySem.W.kitOne K (.ref C) (.type "ValueError") = some true
  no : PySem.W.kitAny K (.ref C) (cs.map Value.ref) = some false
  xD : xcIn K D = true
  mD : PySem.W.mroIn K D (.type "BaseException") = some true
  me : PySem.W.mroIn K C (.ref C) = some true
theorem Err.self {K : PySem.W.Frag} {C D : Addr} {cs : List Addr} (_ : Err K C D cs) : PySem.W.kitOne K (.ref C) (.ref C) = some true := by
  unfold PySem.W.kitOne
  rw [if_pos (beq_iff_eq.mpr rfl)]
section
variable {X : Cx} {K : PySem.W.Frag} {a : Expr} {ta : AE} {pos p p2 : Pos} {x : Str}
end
end L2
namespace L2
open PySem PySem.Spec PyProof.Rows
def rk : PyData → Nat
  | .none => 0 | .bool _ => 1 | .int _ => 2 | .str _ => 3 | .list _ => 4 | .tuple _ => 5 | .dict _ => 6
def ltStr (a b : Str) : Bool := decide (a.cps.toList < b.cps.toList)
mutual
def ltT : PyData → PyData → Bool
  | .int a, .int b => decide (a < b)
  | .str a, .str b => ltStr a b
  | .tuple xs, .tuple ys => ltTs xs ys
  | x, y => decide (rk x < rk y)
def ltTs : List PyData → List PyData → Bool
  | [], [] => false
  | [], _ :: _ => true
  | _ :: _, [] => false
  | x :: xs, y :: ys => if PyData.eqv x y then ltTs xs ys else ltT x y
end
mutual
theorem eqv_eq : ∀ (x y : PyData), Cano x = true → Cano y = true → PyData.eqv x y = true → x = y
  | .int a, .int b, _, _, h => by simp [PyData.eqv] at h; rw [h]
  | .str a, .str b, _, _, h => by simp [PyData.eqv] at h; rw [h]
  | .tuple xs, .tuple ys, h1, h2, h => by
    simp only [Cano] at h1 h2
    rw [PyData.eqv] at h
    rw [eqvs_eq xs ys h1 h2 h]
  | .int _, .str _, _, _, h => by simp [PyData.eqv] at h
  | .int _, .tuple _, _, _, h => by simp [PyData.eqv] at h
  | .str _, .int _, _, _, h => by simp [PyData.eqv] at h
  | .str _, .tuple _, _, _, h => by simp [PyData.eqv] at h
  | .tuple _, .int _, _, _, h => by simp [PyData.eqv] at h
  | .tuple _, .str _, _, _, h => by simp [PyData.eqv] at h
  | .none, _, h, _, _ => by simp [Cano] at h
  | .bool _, _, h, _, _ => by simp [Cano] at h
  | .list _, _, h, _, _ => by simp [Cano] at h
  | .dict _, _, h, _, _ => by simp [Cano] at h
  | .int _, .none, _, h, _ => by simp [Cano] at h
  | .int _, .bool _, _, h, _ => by simp [Cano] at h
  | .int _, .list _, _, h, _ => by simp [Cano] at h
  | .int _, .dict _, _, h, _ => by simp [Cano] at h
  | .str _, .none, _, h, _ => by simp [Cano] at h
  | .str _, .bool _, _, h, _ => by simp [Cano] at h
  | .str _, .list _, _, h, _ => by simp [Cano] at h
  | .str _, .dict _, _, h, _ => by simp [Cano] at h
  | .tuple _, .none, _, h, _ => by simp [Cano] at h
  | .tuple _, .bool _, _, h, _ => by simp [Cano] at h
  | .tuple _, .list _, _, h, _ => by simp [Cano] at h
  | .tuple _, .dict _, _, h, _ => by simp [Cano] at h
theorem eqvs_eq : ∀ (xs ys : List PyData), CanoAll xs = true → CanoAll ys = true → PyData.eqvAll xs ys = true → xs = ys
  | [], [], _, _, _ => rfl
  | [], _ :: _, _, _, h => by simp [PyData.eqvAll] at h
  | _ :: _, [], _, _, h => by simp [PyData.eqvAll] at h
  | x :: xs, y :: ys, h1, h2, h => by
    simp only [CanoAll, Bool.and_eq_true] at h1 h2
    rw [PyData.eqvAll, Bool.and_eq_true] at h
    rw [eqv_eq x y h1.1 h2.1 h.1, eqvs_eq xs ys h1.2 h2.2 h.2]
end
mutual
theorem eqv_self : ∀ (x : PyData), Cano x = true → PyData.eqv x x = true
  | .int a, _ => by simp [PyData.eqv]
  | .str a, _ => by simp [PyData.eqv]
  | .tuple xs, h => by rw [PyData.eqv]; exact eqvs_self xs (by simpa only [Cano] using h)
  | .none, h => by simp [Cano] at h
  | .bool _, h => by simp [Cano] at h
  | .list _, h => by simp [Cano] at h
  | .dict _, h => by simp [Cano] at h
theorem eqvs_self : ∀ (xs : List PyData), CanoAll xs = true → PyData.eqvAll xs xs = true
  | [], _ => rfl
  | x :: xs, h => by
    simp only [CanoAll, Bool.and_eq_true] at h
    rw [PyData.eqvAll, eqv_self x h.1, eqvs_self xs h.2]; rfl
end
theorem eqv_ne {x y : PyData} (hx : Cano x = true) (hy : Cano y = true) : PyData.eqv x y = false ↔ x ≠ y := by
  constructor
  · rintro h rfl
    rw [eqv_self x hx] at h; cases h
  · intro h
    cases e : PyData.eqv x y with
    | false => rfl
    | true => exact absurd (eqv_eq x y hx hy e) h
theorem cano_cases {x : PyData} (h : Cano x = true) : (∃ i, x = .int i) ∨ (∃ z, x = .str z) ∨ ∃ xs, x = .tuple xs ∧ CanoAll xs = true := by
  cases x with
  | int i => exact .inl ⟨i, rfl⟩
  | str z => exact .inr (.inl ⟨z, rfl⟩)
  | tuple xs => exact .inr (.inr ⟨xs, rfl, by simpa only [Cano] using h⟩)
  | none => simp [Cano] at h
  | bool _ => simp [Cano] at h
  | list _ => simp [Cano] at h
  | dict _ => simp [Cano] at h
theorem ltStr_tr {a b c : Str} (h1 : ltStr a b = true) (h2 : ltStr b c = true) : ltStr a c = true := by
  unfold ltStr at *
  exact decide_eq_true (List.lt_trans (of_decide_eq_true h1) (of_decide_eq_true h2))
theorem cps_ext {a b : Str} (h : a.cps.toList = b.cps.toList) : a = b := by
  cases a; cases b
  simp only [Array.toList_inj] at h
  rw [h]
theorem ltStr_tot {a b : Str} (h : a ≠ b) (h1 : ltStr a b = false) : ltStr b a = true := by
  unfold ltStr at *
  have h1 := of_decide_eq_false h1
  refine decide_eq_true ?_
  rcases Decidable.em (b.cps.toList < a.cps.toList) with z | z
  · exact z
  · exact absurd (cps_ext (List.le_antisymm (List.not_lt.mp z) (List.not_lt.mp h1))) h
mutual
theorem ltT_tr : ∀ (x y z : PyData), Cano x = true → Cano y = true → Cano z = true → ltT x y = true → ltT y z = true → ltT x z = true
  | .int a, y, z, _, hy, hz, h1, h2 => by
    rcases cano_cases hy with ⟨b, rfl⟩ | ⟨b, rfl⟩ | ⟨ys, rfl, _⟩ <;> rcases cano_cases hz with ⟨c, rfl⟩ | ⟨c, rfl⟩ | ⟨zs, rfl, _⟩ <;> simp [ltT, rk] at h1 h2 ⊢
    omega
  | .str a, y, z, _, hy, hz, h1, h2 => by
    rcases cano_cases hy with ⟨b, rfl⟩ | ⟨b, rfl⟩ | ⟨ys, rfl, _⟩ <;> rcases cano_cases hz with ⟨c, rfl⟩ | ⟨c, rfl⟩ | ⟨zs, rfl, _⟩ <;> simp [ltT, rk] at h1 h2 ⊢
    exact ltStr_tr h1 h2
  | .tuple xs, y, z, hx, hy, hz, h1, h2 => by
    rcases cano_cases hy with ⟨b, rfl⟩ | ⟨b, rfl⟩ | ⟨ys, rfl, ky⟩ <;> rcases cano_cases hz with ⟨c, rfl⟩ | ⟨c, rfl⟩ | ⟨zs, rfl, kz⟩ <;> simp [ltT, rk] at h1 h2 ⊢
    exact ltTs_tr xs ys zs (by simpa only [Cano] using hx) ky kz h1 h2
  | .none, _, _, h, _, _, _, _ => by simp [Cano] at h
  | .bool _, _, _, h, _, _, _, _ => by simp [Cano] at h
  | .list _, _, _, h, _, _, _, _ => by simp [Cano] at h
  | .dict _, _, _, h, _, _, _, _ => by simp [Cano] at h
theorem ltTs_tr : ∀ (xs ys zs : List PyData), CanoAll xs = true → CanoAll ys = true → CanoAll zs = true → ltTs xs ys = true → ltTs ys zs = true → ltTs xs zs = true
  | [], [], _, _, _, _, h1, _ => by simp [ltTs] at h1
  | [], _ :: _, [], _, _, _, _, h2 => by simp [ltTs] at h2
  | [], _ :: _, _ :: _, _, _, _, _, _ => by simp [ltTs]
  | _ :: _, [], _, _, _, _, h1, _ => by simp [ltTs] at h1
  | _ :: _, _ :: _, [], _, _, _, _, h2 => by simp [ltTs] at h2
  | x :: xs, y :: ys, z :: zs, hx, hy, hz, h1, h2 => by
    simp only [CanoAll, Bool.and_eq_true] at hx hy hz
    simp only [ltTs] at h1 h2 ⊢
    cases e1 : PyData.eqv x y with
    | true =>
      have e := eqv_eq x y hx.1 hy.1 e1
      subst e
      rw [e1] at h1
      cases e2 : PyData.eqv x z with
      | true =>
        rw [e2] at h2
        exact ltTs_tr xs ys zs hx.2 hy.2 hz.2 h1 h2
      | false => rw [e2] at h2; exact h2
    | false =>
      rw [e1] at h1
      cases e2 : PyData.eqv y z with
      | true =>
        have e := eqv_eq y z hy.1 hz.1 e2
        subst e
        rw [e1]; exact h1
      | false =>
        rw [e2] at h2
        have h3 := ltT_tr x y z hx.1 hy.1 hz.1 h1 h2
        cases e3 : PyData.eqv x z with
        | false => exact h3
        | true =>
          have e := eqv_eq x z hx.1 hz.1 e3
          subst e
          exact absurd h3 (by rw [ltT_irr x hx.1]; exact Bool.false_ne_true)
theorem ltT_irr : ∀ (x : PyData), Cano x = true → ltT x x = false
  | .int a, _ => by simp [ltT]
  | .str a, _ => by simp [ltT, ltStr, List.lt_irrefl]
  | .tuple xs, h => by simp only [ltT]; exact ltTs_irr xs (by simpa only [Cano] using h)
  | .none, h => by simp [Cano] at h
  | .bool _, h => by simp [Cano] at h
  | .list _, h => by simp [Cano] at h
  | .dict _, h => by simp [Cano] at h
theorem ltTs_irr : ∀ (xs : List PyData), CanoAll xs = true → ltTs xs xs = false
  | [], _ => by simp [ltTs]
  | x :: xs, h => by
    simp only [CanoAll, Bool.and_eq_true] at h
    simp only [ltTs, eqv_self x h.1, if_true]
    exact ltTs_irr xs h.2
end
mutual
theorem ltT_tot : ∀ (x y : PyData), Cano x = true → Cano y = true → x ≠ y → ltT x y = false → ltT y x = true
  | .int a, y, _, hy, hn, h => by
    rcases cano_cases hy with ⟨b, rfl⟩ | ⟨b, rfl⟩ | ⟨ys, rfl, _⟩ <;> simp [ltT, rk] at h ⊢
    have : a ≠ b := fun z => hn (by rw [z])
    omega
  | .str a, y, _, hy, hn, h => by
    rcases cano_cases hy with ⟨b, rfl⟩ | ⟨b, rfl⟩ | ⟨ys, rfl, _⟩ <;> simp [ltT, rk] at h ⊢
    exact ltStr_tot (fun z => hn (by rw [z])) h
  | .tuple xs, y, hx, hy, hn, h => by
    rcases cano_cases hy with ⟨b, rfl⟩ | ⟨b, rfl⟩ | ⟨ys, rfl, ky⟩ <;> simp [ltT, rk] at h ⊢
    exact ltTs_tot xs ys (by simpa only [Cano] using hx) ky (fun z => hn (by rw [z])) h
  | .none, _, h, _, _, _ => by simp [Cano] at h
  | .bool _, _, h, _, _, _ => by simp [Cano] at h
  | .list _, _, h, _, _, _ => by simp [Cano] at h
  | .dict _, _, h, _, _, _ => by simp [Cano] at h
theorem ltTs_tot : ∀ (xs ys : List PyData), CanoAll xs = true → CanoAll ys = true → xs ≠ ys → ltTs xs ys = false → ltTs ys xs = true
  | [], [], _, _, hn, _ => absurd rfl hn
  | [], _ :: _, _, _, _, h => by simp [ltTs] at h
  | _ :: _, [], _, _, _, _ => by simp [ltTs]
  | x :: xs, y :: ys, hx, hy, hn, h => by
    simp only [CanoAll, Bool.and_eq_true] at hx hy
    simp only [ltTs] at h ⊢
    cases e : PyData.eqv x y with
    | true =>
      have e' := eqv_eq x y hx.1 hy.1 e
      subst e'
      rw [e] at h ⊢
      exact ltTs_tot xs ys hx.2 hy.2 (fun z => hn (by rw [z])) h
    | false =>
      rw [e] at h
      have hne := (eqv_ne hx.1 hy.1).mp e
      rw [(eqv_ne hy.1 hx.1).mpr (Ne.symm hne)]
      exact ltT_tot x y hx.1 hy.1 hne h
end
end L2
namespace L2
open PySem PySem.W PyProof.Rows
section
variable {n : Nat} {lt : Nat → Nat → Bool}
def ask0 (n : Nat) (lt : Nat → Nat → Bool) : Nat → Nat → (Bool → Shared → Prop) → Shared → Prop := fun i j C s => i < n ∧ j < n ∧ C (lt i j) s
structure StrictOrd (n : Nat) (lt : Nat → Nat → Bool) : Prop where
  tr : ∀ a b c, a < n → b < n → c < n → lt a b = true → lt b c = true → lt a c = true
  tot : ∀ a b, a < n → b < n → a ≠ b → lt a b = false → lt b a = true
structure Pm (n : Nat) (p : Array Nat) : Prop where
  size : p.size = n
  lt : ∀ i, i < n → p.getD i 0 < n
  inj : ∀ i j, i < n → j < n → i ≠ j → p.getD i 0 ≠ p.getD j 0
  perm : p.toList.Perm (List.range n)
theorem pm_of {p : Array Nat} (h : p.toList.Perm (List.range n)) : Pm n p := by
  have hs : p.size = n := by
    have := h.length_eq
    simpa using this
  have hg : ∀ i, (hi : i < n) → p.getD i 0 = p[i]'(by omega) := fun i hi => by simp [Array.getD, show i < p.size by omega]
  refine ⟨hs, fun i hi => ?_, fun i j hi hj hij e => ?_, h⟩
  · rw [hg i hi]
    have : p[i]'(by omega) ∈ p.toList := by simp
    exact List.mem_range.mp (h.mem_iff.mp this)
  · rw [hg i hi, hg j hj] at e
    have nd : p.toList.Nodup := h.nodup_iff.mpr List.nodup_range
    have e1 : p.toList[i]? = p.toList[j]? := by
      rw [Array.getElem?_toList, Array.getElem?_toList, Array.getElem?_eq_getElem (by omega), Array.getElem?_eq_getElem (by omega), e]
    exact hij ((List.getElem?_inj (by simpa using (by omega : i < p.size)) nd).mp e1)
def Up (lt : Nat → Nat → Bool) (p : Array Nat) (k : Nat) : Prop := ∀ i j, i < j → j < k → lt (p.getD i 0) (p.getD j 0) = true
def Dn (lt : Nat → Nat → Bool) (p : Array Nat) (k : Nat) : Prop := ∀ i j, i < j → j < k → lt (p.getD j 0) (p.getD i 0) = true
variable {p : Array Nat} {s : Shared}
theorem Up.next {k : Nat} (O : StrictOrd n lt) (P : Pm n p) (h : Up lt p k) (hk : 1 ≤ k) (hkn : k < n) (e : lt (p.getD (k - 1) 0) (p.getD k 0) = true) : Up lt p (k + 1) := fun i j hij hj => by
  by_cases h1 : j < k
  · exact h i j hij h1
  · have : j = k := by omega
    subst this
    by_cases h2 : i = j - 1
    · subst h2; exact e
    · exact O.tr _ _ _ (P.lt i (by omega)) (P.lt (j - 1) (by omega)) (P.lt j hkn) (h i (j - 1) (by omega) (by omega)) e
theorem Dn.next {k : Nat} (O : StrictOrd n lt) (P : Pm n p) (h : Dn lt p k) (hk : 1 ≤ k) (hkn : k < n) (e : lt (p.getD k 0) (p.getD (k - 1) 0) = true) : Dn lt p (k + 1) := fun i j hij hj => by
  by_cases h1 : j < k
  · exact h i j hij h1
  · have : j = k := by omega
    subst this
    by_cases h2 : i = j - 1
    · subst h2; exact e
    · exact O.tr _ _ _ (P.lt j hkn) (P.lt (j - 1) (by omega)) (P.lt i (by omega)) e (h i (j - 1) (by omega) (by omega))
theorem kas_mono {α : Type} {Q Q' : α → Shared → Prop} (h : ∀ a s, Q a s → Q' a s) : ∀ (t : KasT α) (s : Shared), t.kasWp (ask0 n lt) Q s → t.kasWp (ask0 n lt) Q' s
  | .ret a, s, q => h a s q
  | .ask i j k, s, ⟨a, b, q⟩ => ⟨a, b, kas_mono h (k _) s q⟩
theorem asc_ok (O : StrictOrd n lt) (P : Pm n p) : ∀ (f m : Nat), 1 ≤ m → m + f = n → Up lt p m → (kas_asc p f m).kasWp (ask0 n lt) (fun r _ => m ≤ r ∧ r ≤ n ∧ Up lt p r ∧ (r < n → lt (p.getD r 0) (p.getD (r - 1) 0) = true)) s
  | 0, m, h1, h2, h => ⟨Nat.le_refl _, by omega, h, fun z => by omega⟩
  | f + 1, m, h1, h2, h => by
    refine ⟨P.lt m (by omega), P.lt (m - 1) (by omega), ?_⟩
    cases e : lt (p.getD m 0) (p.getD (m - 1) 0) with
    | true => exact ⟨Nat.le_refl _, by omega, h, fun _ => e⟩
    | false =>
      have e2 := O.tot _ _ (P.lt m (by omega)) (P.lt (m - 1) (by omega)) (P.inj m (m - 1) (by omega) (by omega) (by omega)) e
      show (kas_asc p f (m + 1)).kasWp _ _ _
      have ih := asc_ok O P f (m + 1) (by omega) (by omega) (h.next O P h1 (by omega) e2)
      exact kas_mono (fun r _ ⟨a, b⟩ => ⟨by omega, b⟩) _ _ ih
theorem rev_getD {i j : Nat} (hj : j ≤ p.size) (k : Nat) : (kas_rev p i j).getD k 0 = if i ≤ k ∧ k < j then p.getD (i + j - 1 - k) 0 else p.getD k 0 := by
  have h := getElem?_mirror_all (xs := p) (i := i) hj k
  unfold kas_rev
  simp only [Array.getD_eq_getD_getElem?, h]
  split <;> rfl
theorem rev_pm {i j : Nat} (P : Pm n p) : Pm n (kas_rev p i j) := pm_of ((mirror_perm p i j ((j - i) / 2)).toList.trans P.perm)
theorem bub_getD {src d : Nat} (hs : src < p.size) (hd : d ≤ src) (k : Nat) : (bubble p src d).getD k 0 = if k = src - d then p.getD src 0 else if src - d < k ∧ k ≤ src then p.getD (k - 1) 0 else p.getD k 0 := by
  have h := getElem?_bubble hs d hd k
  simp only [Array.getD_eq_getD_getElem?, h]
  split
  · rfl
  · split <;> rfl
theorem bub_pm {src d : Nat} (P : Pm n p) : Pm n (bubble p src d) := pm_of ((bubble_perm p src d).toList.trans P.perm)
theorem desc_ok (O : StrictOrd n lt) (P : Pm n p) : ∀ (f k : Nat), 1 ≤ k → k + f = n → Dn lt p k → (kas_desc f p k 0).kasWp (ask0 n lt) (fun r _ => r.1 = p ∧ r.2.2 = 0 ∧ 1 ≤ r.2.1 ∧ r.2.1 ≤ n ∧ Dn lt p r.2.1) s
  | 0, k, h1, h2, h => ⟨rfl, rfl, h1, by show k ≤ n; omega, h⟩
  | f + 1, k, h1, h2, h => by
    refine ⟨P.lt k (by omega), P.lt (k - 1) (by omega), ?_⟩
    cases e : lt (p.getD k 0) (p.getD (k - 1) 0) with
    | true =>
      show (if (0 : Nat) > 0 then kas_desc f (kas_rev p (k - (0 + 1)) k) (k + 1) 0 else kas_desc f p (k + 1) 0).kasWp _ _ _
      rw [if_neg (by decide)]
      exact desc_ok O P f (k + 1) (by omega) (by omega) (h.next O P h1 (by omega) e)
    | false =>
      have e2 := O.tot _ _ (P.lt k (by omega)) (P.lt (k - 1) (by omega)) (P.inj k (k - 1) (by omega) (by omega) (by omega)) e
      refine ⟨P.lt (k - 1) (by omega), P.lt k (by omega), ?_⟩
      rw [e2]
      exact ⟨rfl, rfl, h1, by show k ≤ n; omega, h⟩
theorem tail3_ok (O : StrictOrd n lt) (P : Pm n p) {k : Nat} (h1 : 1 ≤ k) (hk : k ≤ n) (h : Dn lt p k) : (kas_tail3 k n p).kasWp (ask0 n lt) (fun r _ => 1 ≤ r.1 ∧ r.1 ≤ n ∧ Pm n r.2 ∧ Up lt r.2 r.1) s := by
  have P2 : Pm n (kas_rev p 0 k) := rev_pm P
  have U : Up lt (kas_rev p 0 k) k := fun i j hij hj => by
    rw [rev_getD (by rw [P.size]; exact hk), rev_getD (by rw [P.size]; exact hk), if_pos ⟨Nat.zero_le _, by omega⟩, if_pos ⟨Nat.zero_le _, by omega⟩]
    exact h _ _ (by omega) (by omega)
  unfold kas_tail3
  rw [KasT.kasWp_bind]
  exact kas_mono (fun r s ⟨a, b, c, _⟩ => ⟨by show 1 ≤ r; omega, b, P2, c⟩) _ _ (asc_ok O P2 (n - k) k h1 (by omega) U)
theorem count_ok (O : StrictOrd n lt) (P : Pm n p) (hn : 2 ≤ n) : (kas_count n p).kasWp (ask0 n lt) (fun r _ => 1 ≤ r.1 ∧ r.1 ≤ n ∧ Pm n r.2 ∧ Up lt r.2 r.1) s := by
  unfold kas_count
  rw [KasT.kasWp_bind]
  refine kas_mono (fun r s ⟨a, b, c, d⟩ => ?_) _ _ (asc_ok O P (n - 1) 1 (Nat.le_refl _) (by omega) fun i j hij hj => by omega)
  by_cases e : r = n
  · subst e
    rw [if_pos (beq_self_eq_true _)]
    exact ⟨a, Nat.le_refl _, P, c⟩
  · rw [if_neg (by simpa using e)]
    by_cases e1 : r > 1
    · rw [if_pos e1]
      refine ⟨P.lt 0 (by omega), P.lt (r - 1) (by omega), ?_⟩
      rw [c 0 (r - 1) (by omega) (by omega)]
      exact ⟨a, b, P, c⟩
    · rw [if_neg e1]
      have e2 : r = 1 := by omega
      subst e2
      have D2 : Dn lt p 2 := fun i j hij hj => by
        have : i = 0 ∧ j = 1 := by omega
        obtain ⟨rfl, rfl⟩ := this
        exact d (by omega)
      unfold kas_descPart
      rw [KasT.kasWp_bind]
      refine kas_mono (fun r s ⟨x1, x2, x3, x4, x5⟩ => ?_) _ _ (desc_ok O P (n - 2) 2 (by omega) (by omega) D2)
      rw [x2, if_neg (by decide), x1]
      exact tail3_ok O P x3 x4 x5
theorem place_ok (P : Pm n p) {k : Nat} (hk : k < n) (O : StrictOrd n lt) (U : Up lt p k) : ∀ (f l r : Nat), r - l ≤ f → l ≤ r → r ≤ k → (∀ i, i < l → lt (p.getD i 0) (p.getD k 0) = true) → (∀ i, r ≤ i → i < k → lt (p.getD k 0) (p.getD i 0) = true) →
    (kas_place p k f l r).kasWp (ask0 n lt) (fun m _ => m ≤ k ∧ (∀ i, i < m → lt (p.getD i 0) (p.getD k 0) = true) ∧ (∀ i, m ≤ i → i < k → lt (p.getD k 0) (p.getD i 0) = true)) s
  | 0, l, r, h1, h2, h3, h4, h5 => ⟨by show l ≤ k; omega, h4, fun i hi => h5 i (by show r ≤ i; have : l ≤ i := hi; omega)⟩
  | f + 1, l, r, h1, h2, h3, h4, h5 => by
    unfold kas_place
    by_cases e : l ≥ r
    · rw [if_pos e]
      exact ⟨by show l ≤ k; omega, h4, fun i hi => h5 i (by have : l ≤ i := hi; omega)⟩
    · rw [if_neg e]
      refine ⟨P.lt k hk, P.lt ((l + r) / 2) (by omega), ?_⟩
      cases c : lt (p.getD k 0) (p.getD ((l + r) / 2) 0) with
      | true =>
        refine place_ok P hk O U f l ((l + r) / 2) (by omega) (by omega) (by omega) h4 fun i hi hik => ?_
        by_cases z : i = (l + r) / 2
        · subst z; exact c
        · exact O.tr _ _ _ (P.lt k hk) (P.lt _ (by omega)) (P.lt i (by omega)) c (U _ _ (by omega) hik)
      | false =>
        have c2 := O.tot _ _ (P.lt k hk) (P.lt ((l + r) / 2) (by omega)) (P.inj _ _ hk (by omega) (by omega)) c
        refine place_ok P hk O U f ((l + r) / 2 + 1) r (by omega) (by omega) h3 (fun i hi => ?_) h5
        by_cases z : i = (l + r) / 2
        · subst z; exact c2
        · exact O.tr _ _ _ (P.lt i (by omega)) (P.lt _ (by omega)) (P.lt k hk) (U _ _ (by omega) (by omega)) c2
theorem bin_ok (O : StrictOrd n lt) : ∀ (f : Nat) (p : Array Nat) (k : Nat) (s : Shared), k + f = n → Pm n p → Up lt p k → (kas_bin f p k).kasWp (ask0 n lt) (fun r _ => Pm n r ∧ Up lt r n) s
  | 0, p, k, _, h, P, U => by
    have e : k = n := by omega
    subst e
    exact ⟨P, U⟩
  | f + 1, p, k, _, h, P, U => by
    unfold kas_bin
    rw [KasT.kasWp_bind]
    refine kas_mono (fun l s ⟨a, b, c⟩ => ?_) _ _ (place_ok P (by omega) O U k 0 k (by omega) (Nat.zero_le _) (Nat.le_refl _) (fun i hi => absurd hi (Nat.not_lt_zero _)) fun i hi hik => by omega)
    refine bin_ok O f _ (k + 1) _ (by omega) (bub_pm P) fun i j hij hj => ?_
    have hsz : k < p.size := by rw [P.size]; omega
    have ek : k - (k - l) = l := by omega
    rw [bub_getD hsz (by omega), bub_getD hsz (by omega), ek]
    by_cases i1 : i = l
    · rw [if_pos i1, if_neg (by omega), if_pos ⟨by omega, by omega⟩]
      exact c (j - 1) (by omega) (by omega)
    · rw [if_neg i1]
      by_cases j1 : j = l
      · rw [if_pos j1, if_neg (by omega)]
        exact b i (by omega)
      · rw [if_neg j1]
        by_cases i2 : l < i
        · rw [if_pos ⟨i2, by omega⟩, if_pos ⟨by omega, by omega⟩]
          exact U _ _ (by omega) (by omega)
        · rw [if_neg (by omega)]
          by_cases j2 : l < j
          · rw [if_pos ⟨j2, by omega⟩]
            exact U _ _ (by omega) (by omega)
          · rw [if_neg (by omega)]
            exact U _ _ hij (by omega)
theorem sort_ok (O : StrictOrd n lt) (hn : 2 ≤ n) : (kas_sort n).kasWp (ask0 n lt) (fun r _ => Pm n r ∧ Up lt r n) s := by
  unfold kas_sort
  rw [KasT.kasWp_bind]
  refine kas_mono (fun r s ⟨a, b, c, d⟩ => ?_) _ _ (count_ok O (pm_of (by simp)) hn)
  by_cases e : r.1 < n
  · rw [if_pos e]
    have em : max r.1 1 = r.1 := by omega
    rw [em]
    exact bin_ok O _ _ _ _ (by omega) c d
  · rw [if_neg e]
    have : r.1 = n := by omega
    rw [this] at d
    exact ⟨c, d⟩
end
end L2
namespace L2
open PySem
def LtAt (A : Around) (s : Shared) (u v : Value) (b : Bool) : Prop := ∀ (prog : Program) (w : World) (E : Value → Shared → Prop) (Q : Value → Shared → Prop), Q (.bool b) s → wpAny (model prog w) A (richCompare .Lt u v) Q E s
inductive LexAt (A : Around) (s : Shared) : List Value → List Value → Bool → Prop
  | nil {ys : List Value} : LexAt A s [] ys (decide (0 < ys.length))
  | stop {x : Value} {xs : List Value} : LexAt A s (x :: xs) [] false
  | eq {x y : Value} {xs ys : List Value} {r : Bool} : SeqAt.EqAt A s x y true → LexAt A s xs ys r → LexAt A s (x :: xs) (y :: ys) r
  | ne {x y : Value} {xs ys : List Value} {r : Bool} : SeqAt.EqAt A s x y false → LtAt A s x y r → LexAt A s (x :: xs) (y :: ys) r
section
variable {prog : Program} {w : World} {A : Around} {E : Value → Shared → Prop} {s : Shared}
theorem LexAt.ends {xs ys : List Value} {r : Bool} (h : LexAt A s xs ys r) (e : xs.zip ys = []) : r = decide (xs.length < ys.length) := by
  cases h with
  | nil => simp
  | stop => simp
  | eq => simp at e
  | ne => simp at e
theorem tuple_lt_code {a b : Addr} {oa ob : Obj} {xs ys : Array Value} {n k : Nat} {P : PySem.Fin → Shared → Prop} {r : Bool} (ha : s.heap.get? a = some oa) (hb : s.heap.get? b = some ob) (cb : ob.cls = .type "tuple") (da : oa.data = .seq xs n) (db : ob.data = .seq ys k)
    (h : LexAt A s xs.toList ys.toList r) (q : P (.done (.ret (.bool r))) s) : wpAny (model prog w) A (Builtin.«tuple.__lt__» ⟨[.ref a, .ref b], []⟩) P E s := by
  have tb : s.TypeIs (.ref b) "tuple" := ⟨ob, hb, cb⟩
  refine (show wpAny _ _ (isInstance (.ref b) (.type "tuple") >>= _) _ _ s from wpAny_bind (wpAny_isInstance tb isSubtype_tuple_tuple ?_))
  rw [show (!true) = false from rfl, if_neg Bool.false_ne_true]
  refine wpAny_bind (wpAny_tupleItemsOf ha da (wpAny_bind (wpAny_tupleItemsOf hb db (wpAny_bind ?_))))
  refine wpAny_forIn_list _ (fun left acc s1 => acc.1 = none ∧ s1 = s ∧ ∃ us vs, left = List.zip us vs ∧ LexAt A s us vs r ∧ decide (us.length < vs.length) = decide (xs.size < ys.size)) _ ?_ ?_ _ _ ⟨rfl, rfl, xs.toList, ys.toList, rfl, h, by simp⟩
  · rintro ⟨u, v⟩ left acc s1 ⟨ea, rfl, us, vs, ez, hl, hn⟩
    cases hl with
    | nil => simp at ez
    | stop => simp at ez
    | eq h1 h2 =>
      simp only [List.zip_cons_cons, List.cons.injEq, Prod.mk.injEq] at ez
      obtain ⟨⟨rfl, rfl⟩, rfl⟩ := ez
      refine wpAny_bind (h1 prog w _ _ ?_)
      dsimp only
      rw [show (!true) = false from rfl, if_neg Bool.false_ne_true]
      exact wpAny_pure ⟨rfl, rfl, _, _, rfl, h2, by simpa using hn⟩
    | ne h1 h2 =>
      simp only [List.zip_cons_cons, List.cons.injEq, Prod.mk.injEq] at ez
      obtain ⟨⟨rfl, rfl⟩, rfl⟩ := ez
      refine wpAny_bind (h1 prog w _ _ ?_)
      simp only [Bool.not_false, if_true]
      exact wpAny_bind (wpAny_rule (wpAny_bind (h2 prog w _ _ (wpAny_bind (wpAny_pure (wpAny_pure (wpAny_pure q)))))))
  · rintro ⟨a1, a2⟩ s1 ⟨ea, rfl, us, vs, ez, hl, hn⟩
    simp only at ea
    subst ea
    have e := hl.ends ez.symm
    rw [e, hn] at q
    exact wpAny_pure q
theorem ltAt_tuple {a b : Addr} {oa ob : Obj} {xs ys : Array Value} {n k : Nat} {r : Bool} (ha : s.heap.get? a = some oa) (hb : s.heap.get? b = some ob) (ca : oa.cls = .type "tuple") (cb : ob.cls = .type "tuple") (da : oa.data = .seq xs n) (db : ob.data = .seq ys k)
    (hu : A.units < cLine) (h : LexAt A.in1 s xs.toList ys.toList r) : LtAt A s (.ref a) (.ref b) r := fun prog w E Q q =>
  wpAny_richCompare_same_room (T := "tuple") ⟨oa, ha, ca⟩ ⟨ob, hb, cb⟩ F.slot_tuple_lt (wpAny_call_entry F.slot_tuple_lt ⟨oa, ha, ca⟩ F.entry_tuple_lt (tuple_lt_code ha hb cb da db h ⟨_, rfl, (fun z => nomatch z), q⟩) (F.args_tuple_lt_2 _ _)) hu
end
mutual
def cmpb : PyData → PyData → Bool
  | .int _, .int _ => true
  | .tuple xs, .tuple ys => cmpbs xs ys
  | _, _ => false
def cmpbs : List PyData → List PyData → Bool
  | [], _ => true
  | _ :: _, [] => true
  | x :: xs, y :: ys => if PyData.eqv x y then cmpbs xs ys else cmpb x y
end
theorem min_hd {u a b c d : Nat} (h : u + min (max a b) (max c d) < cLine) : u + min a c < cLine := by omega
theorem min_tl {u a b c d : Nat} (h : u + min (max a b) (max c d) < cLine) : u + min b d < cLine := by omega
mutual
theorem ltAt_reads : ∀ (x y : PyData) (A : Around) (s : Shared) (u v : Value) (as bs : List Addr), Reads s.heap u x as → Reads s.heap v y bs → x.canLay0 = true → y.canLay0 = true → cmpb x y = true → A.units + min x.depth y.depth < cLine → LtAt A s u v (ltT x y)
  | .int a, .int b, A, s, u, v, as, bs, r1, r2, _, _, _, _ => by
    cases r1; cases r2
    intro prog w E Q q
    have e : ltT (.int a) (.int b) = decide (a < b) := by simp [ltT]
    rw [e] at q
    exact wpAny_lt_int q
  | .tuple xs, .tuple ys, A, s, u, v, as, bs, r1, r2, c1, c2, hc, hu => by
    cases r1 with
    | tuple a1 a2 a3 a4 =>
      cases r2 with
      | tuple b1 b2 b3 b4 =>
        have e : ltT (.tuple xs) (.tuple ys) = ltTs xs ys := by simp [ltT]
        rw [e]
        simp only [PyData.canLay0] at c1 c2
        simp only [cmpb] at hc
        simp only [PyData.depth] at hu
        refine ltAt_tuple a1 b1 a2 b2 a3 b3 (by omega) (lexAt_reads xs ys A.in1 s _ _ _ _ a4 b4 c1 c2 hc ?_)
        show A.units + 1 + _ < _
        omega
  | .int _, .none, _, _, _, _, _, _, _, _, _, _, h, _ => by simp [cmpb] at h
  | .int _, .bool _, _, _, _, _, _, _, _, _, _, _, h, _ => by simp [cmpb] at h
  | .int _, .str _, _, _, _, _, _, _, _, _, _, _, h, _ => by simp [cmpb] at h
  | .int _, .list _, _, _, _, _, _, _, _, _, _, _, h, _ => by simp [cmpb] at h
  | .int _, .tuple _, _, _, _, _, _, _, _, _, _, _, h, _ => by simp [cmpb] at h
  | .int _, .dict _, _, _, _, _, _, _, _, _, _, _, h, _ => by simp [cmpb] at h
  | .tuple _, .none, _, _, _, _, _, _, _, _, _, _, h, _ => by simp [cmpb] at h
  | .tuple _, .bool _, _, _, _, _, _, _, _, _, _, _, h, _ => by simp [cmpb] at h
  | .tuple _, .str _, _, _, _, _, _, _, _, _, _, _, h, _ => by simp [cmpb] at h
  | .tuple _, .list _, _, _, _, _, _, _, _, _, _, _, h, _ => by simp [cmpb] at h
  | .tuple _, .int _, _, _, _, _, _, _, _, _, _, _, h, _ => by simp [cmpb] at h
  | .tuple _, .dict _, _, _, _, _, _, _, _, _, _, _, h, _ => by simp [cmpb] at h
  | .none, _, _, _, _, _, _, _, _, _, _, _, h, _ => by simp [cmpb] at h
  | .bool _, _, _, _, _, _, _, _, _, _, _, _, h, _ => by simp [cmpb] at h
  | .str _, _, _, _, _, _, _, _, _, _, _, _, h, _ => by simp [cmpb] at h
  | .list _, _, _, _, _, _, _, _, _, _, _, _, h, _ => by simp [cmpb] at h
  | .dict _, _, _, _, _, _, _, _, _, _, _, _, h, _ => by simp [cmpb] at h
theorem lexAt_reads : ∀ (xs ys : List PyData) (A : Around) (s : Shared) (us vs : List Value) (as bs : List Addr), ReadsAll s.heap us xs as → ReadsAll s.heap vs ys bs → PyData.canLayAll0 xs = true → PyData.canLayAll0 ys = true → cmpbs xs ys = true → A.units + min (PyData.depthAll xs) (PyData.depthAll ys) < cLine → LexAt A s us vs (ltTs xs ys)
  | [], ys, A, s, us, vs, as, bs, r1, r2, _, _, _, _ => by
    cases r1
    have e : ltTs [] ys = decide (0 < vs.length) := by
      cases r2 <;> simp [ltTs]
    rw [e]
    exact .nil
  | x :: xs, [], A, s, us, vs, as, bs, r1, r2, _, _, _, _ => by
    cases r2
    cases r1 with
    | cons a1 a2 =>
      have e : ltTs (x :: xs) [] = false := by simp [ltTs]
      rw [e]
      exact .stop
  | x :: xs, y :: ys, A, s, us, vs, as, bs, r1, r2, c1, c2, hc, hu => by
    simp only [PyData.canLayAll0, Bool.and_eq_true] at c1 c2
    simp only [PyData.depthAll] at hu
    cases r1 with
    | cons a1 a2 =>
      cases r2 with
      | cons b1 b2 =>
        have q := SeqAt.eqAt_reads x y A s _ _ _ _ a1 b1 c1.1 c2.1 (min_hd hu)
        simp only [cmpbs] at hc
        simp only [ltTs]
        cases e : PyData.eqv x y with
        | true =>
          rw [e] at q hc
          exact .eq q (lexAt_reads xs ys A s _ _ _ _ a2 b2 c1.2 c2.2 hc (min_tl hu))
        | false =>
          rw [e] at q hc
          exact .ne q (ltAt_reads x y A s _ _ _ _ a1 b1 c1.1 c2.1 hc (min_hd hu))
end
end L2
namespace L2
open PySem PySem.W PyProof.Rows
section
variable {prog : Program} {w : World} {A : Around} {E : Value → Shared → Prop} {s : Shared}
theorem kas_at {α : Type} {n : Nat} {lt : Nat → Nat → Bool} {cmp : Nat → Nat → (Bool → Shared → Prop) → Shared → Prop} (h : ∀ i j C, i < n → j < n → C (lt i j) s → cmp i j C s) {Q : α → Shared → Prop} : ∀ (t : KasT α), t.kasWp (ask0 n lt) Q s → t.kasWp cmp Q s
  | .ret _, q => q
  | .ask i j k, ⟨a, b, q⟩ => h i j _ a b (kas_at h (k _) q)
theorem kas_same {α : Type} {n : Nat} {lt : Nat → Nat → Bool} {Q : α → Prop} : ∀ {t : KasT α}, t.kasWp (ask0 n lt) (fun r _ => Q r) s → t.kasWp (ask0 n lt) (fun r s1 => s1 = s ∧ Q r) s
  | .ret _, q => ⟨rfl, q⟩
  | .ask _ _ _, ⟨a, b, q⟩ => ⟨a, b, kas_same q⟩
theorem lex_kat {fin b : Bool} {Q : Bool → Shared → Prop} : ∀ {us vs : List Value} {r : Bool}, LexAt A s us vs r → fin = decide (us.length < vs.length) → ∀ i, Q r s → KatLex prog w A b fin Q (us.zip vs) (i + 1) s := by
  intro us vs r h
  induction h with
  | nil =>
    intro e i q
    have e' : fin = decide (0 < _) := e
    rw [← e'] at q
    exact kat_nil q
  | stop =>
    intro e i q
    have e' : fin = false := by rw [e]; simp
    rw [← e'] at q
    exact kat_nil q
  | eq h1 h2 ih =>
    intro e i q
    exact kat_cons (h1 prog w _ _ (kat_yes (ih (by rw [e]; simp) (i + 1) q)))
  | ne h1 h2 =>
    intro e i q
    refine kat_cons (h1 prog w _ _ (kat_no ?_))
    have eb : (b && i + 1 == 0) = false := by simp
    rw [eb]
    exact kat_one _ _ (h2 prog w _ _ (show PySem.W.BoolBack Q (.bool _) s from q))
theorem key_lt {x y : Addr} {a b : Int} {ra rb : List PyData} {as bs : List Addr} {Q : Bool → Shared → Prop} (r1 : Reads s.heap (.ref x) (.tuple (.int a :: ra)) as) (r2 : Reads s.heap (.ref y) (.tuple (.int b :: rb)) bs) (c1 : (PyData.tuple (.int a :: ra)).canLay0 = true) (c2 : (PyData.tuple (.int b :: rb)).canLay0 = true)
    (hc : cmpb (.tuple (.int a :: ra)) (.tuple (.int b :: rb)) = true) (hu : A.units + 64 < cLine) (hd : (PyData.tuple (.int a :: ra)).depth ≤ 64) (q : Q (ltT (.tuple (.int a :: ra)) (.tuple (.int b :: rb))) s) : wpAny (model prog w) A (keyLt' (tuples' true) (.ref x) (.ref y)) Q E s := by
  cases r1 with
  | @tuple _ ox xs n _ _ a1 a2 a3 a4 =>
    cases r2 with
    | @tuple _ oy ys m _ _ b1 b2 b3 b4 =>
      refine kat_lt a1 a3 b1 b3 ?_
      simp only [PyData.canLay0, PyData.canLayAll0, Bool.and_eq_true] at c1 c2
      simp only [PyData.depth, PyData.depthAll] at hd
      simp only [cmpb, cmpbs] at hc
      simp only [ltT, ltTs] at q
      have ex : xs.size = xs.toList.length := by simp
      have ey : ys.size = ys.toList.length := by simp
      rw [ex, ey]
      generalize xs.toList = us at a4 ⊢
      generalize ys.toList = vs at b4 ⊢
      cases a4 with
      | cons u1 u2 =>
        cases b4 with
        | cons v1 v2 =>
          cases u1 with
          | int _ t =>
            cases v1 with
            | int _ t' =>
              rw [List.zip_cons_cons]
              have e0 := SeqAt.eqAt_reads (.int a) (.int b) A s _ _ _ _ (.int a t) (.int b t') rfl rfl (by simp [PyData.depth]; omega)
              cases e : PyData.eqv (.int a) (.int b) with
              | true =>
                rw [e] at e0 hc q
                refine kat_cons (e0 prog w _ _ (kat_yes ?_))
                refine lex_kat (lexAt_reads ra rb A s _ _ _ _ u2 v2 c1.2 c2.2 hc (by omega)) (by simp) 0 q
              | false =>
                rw [e] at e0 hc q
                refine kat_cons (e0 prog w _ _ (kat_no ?_))
                exact kat_lt_int q
theorem list_sort_data {a : Addr} {vs : List Value} {lt : Nat → Nat → Bool} {n : Nat} {P : PySem.Fin → Shared → Prop} (ho : s.heap.get? a = some (seqObj "list" vs.toArray n)) (h64 : vs.length < 64) (O : StrictOrd vs.length lt)
    (hk : 2 ≤ vs.length → ∀ h' : Heap, (∀ b o, b ≠ a → s.heap.get? b = some o → h'.get? b = some o) → ∃ κ, (∀ Q : SortKind → Shared → Prop, Q κ { s with heap := h' } → wpAny (model prog w) A (keyKind' vs.toArray) Q E { s with heap := h' }) ∧
      ∀ i j C, i < vs.length → j < vs.length → C (lt i j) { s with heap := h' } → kas_ask prog w A κ vs i j C { s with heap := h' })
    (h : ∀ (p : Array Nat) (h' : Heap) (c : Nat), Pm vs.length p → Up lt p vs.length → (∀ b o, b ≠ a → s.heap.get? b = some o → h'.get? b = some o) → h'.get? a = some (seqObj "list" (p.toList.map fun i => vs.getD i Value.none).toArray c) → P (.done (.ret .none)) { s with heap := h' }) :
    wpAny (model prog w) A (Builtin.«list.sort» ⟨[.ref a], []⟩) P E s := by
  obtain ⟨e1, ho1⟩ : ∃ e1, (s.heap.update a (Obj.mapSeq fun _ => (#[] : Array Value))).get? a = some (seqObj "list" #[] e1) := ⟨_, get?_update_seq ho fun _ => #[]⟩
  have sz : vs.toArray.size ≤ sizeLine := by rw [List.size_toArray]; exact Nat.le_trans (Nat.le_of_lt h64) (by decide)
  have k2 : ∀ b o, b ≠ a → s.heap.get? b = some o → (((s.heap.update a (Obj.mapSeq fun _ => (#[] : Array Value))).push (seqObj "tuple" vs.toArray 0)).push (seqObj "list" #[] 0)).get? b = some o := fun b o hb e =>
    Heap.get?_push_of_some _ (Heap.get?_push_of_some _ (((Heap.SameBut.update s.heap a _).2 b hb).trans e))
  have ho2 : (((s.heap.update a (Obj.mapSeq fun _ => (#[] : Array Value))).push (seqObj "tuple" vs.toArray 0)).push (seqObj "list" #[] 0)).get? a = some (seqObj "list" #[] e1) := Heap.get?_push_of_some _ (Heap.get?_push_of_some _ ho1)
  rw [list_sort_plain]
  refine wpAny_bind (listItems_at ho rfl (wpAny_bind (listUpdate_at ho rfl (wpAny_bind (seqEpoch_at ho1 rfl (wpAny_bind (wpAny_newTuple (wpAny_bind (wpAny_newList (wpAny_holding ?_) (Nat.zero_le _))) (by simpa using sz))))) sz (Nat.zero_le _))))
  show wpAny (model prog w) A _ P E { s with heap := (((s.heap.update a (Obj.mapSeq fun _ => (#[] : Array Value))).push (seqObj "tuple" vs.toArray 0)).push (seqObj "list" #[] 0)) }
  generalize ((s.heap.update a (Obj.mapSeq fun _ => (#[] : Array Value))).push (seqObj "tuple" vs.toArray 0)).push (seqObj "list" #[] 0) = h2 at k2 ho2 ⊢
  dsimp only
  have fin : ∀ (st : SortSt) (p : Array Nat), (arrOf st).map (·.2) = List.toArray (p.toList.map fun i => vs.getD i Value.none) → failedOf st = none → Pm vs.length p → Up lt p vs.length → ∀ Q : Heap → Prop, (∀ (h' : Heap) (c : Nat), (∀ b o, b ≠ a → s.heap.get? b = some o → h'.get? b = some o) → h'.get? a = some (seqObj "list" (p.toList.map fun i => vs.getD i Value.none).toArray c) → Q h') →
      Q (h2.update a (Obj.mapSeq fun _ => (arrOf st).map (·.2))) := fun st p e _ _ _ Q q => by
    rw [e]
    exact q _ _ (fun b o hb eb => ((Heap.SameBut.update h2 a _).2 b hb).trans (k2 b o hb eb)) (get?_update_seq ho2 _)
  by_cases h1 : vs.toArray.size < 2
  · rw [if_pos h1, if_pos h1]
    refine wpAny_bind (wpAny_pure ?_)
    rw [StateT.run_pure]
    have pm : Pm vs.length (List.range vs.length).toArray := pm_of (by simp)
    have up : Up lt (List.range vs.length).toArray vs.length := fun i j hij hj => by
      rw [List.size_toArray] at h1
      omega
    have ev : (arrOf (SortSt.mk' general' (vs.toArray.zip vs.toArray) #[] 7 none)).map (·.2) = List.toArray ((List.range vs.length).toArray.toList.map fun i => vs.getD i Value.none) := by
      have ek := kat_snds (ks := vs) (vs := vs) (st := SortSt.mk' general' (vs.toArray.zip vs.toArray) #[] 7 none) (p := (List.range vs.length).toArray) rfl (by
        have e := kas_range (vs.toArray.zip vs.toArray)
        rw [show (vs.toArray.zip vs.toArray).size = vs.length by simp] at e
        exact e.symm)
      exact ek
    have fn := fin _ _ ev rfl pm up (fun h' => P (.done (.ret .none)) { s with heap := h' }) (fun h' c k e => h _ h' c pm up k e)
    refine wpAny_bind (wpAny_pure (wpAny_bind (seqEpoch_at ho2 rfl (wpAny_bind (listUpdate_at ho2 rfl ?_ (Nat.zero_le _) ?_)))))
    · rw [show failedOf (SortSt.mk' general' (vs.toArray.zip vs.toArray) #[] 7 none) = none from rfl, bne_self_eq_false, if_neg Bool.false_ne_true]
      exact wpAny_pure fn
    · refine Nat.le_trans ?_ (Nat.le_succ_of_le sz)
      show (Array.map _ _).size ≤ _
      rw [ev]; simp
  · rw [if_neg h1, if_neg h1]
    have hn2 : 2 ≤ vs.length := by rw [List.size_toArray] at h1; omega
    obtain ⟨κ, q1, q2⟩ := hk hn2 h2 k2
    refine wpAny_bind (q1 _ ?_)
    refine wpAny_bind (wpAny_mono (kat_run (κ := κ) (ks := vs) (vs := vs) (Q := fun st s1 => s1 = { s with heap := h2 } ∧ ∃ p : Array Nat, (arrOf st).map (·.2) = List.toArray (p.toList.map fun i => vs.getD i Value.none) ∧ failedOf st = none ∧ Pm vs.length p ∧ Up lt p vs.length) (G := fun p s1 => s1 = { s with heap := h2 } ∧ Pm vs.length p ∧ Up lt p vs.length) rfl hn2 h64
      (fun p st s1 _ ea ef ⟨es, g1, g2⟩ => ⟨es, p, kat_snds rfl ea, ef, g1, g2⟩) (kas_at q2 _ (kas_same (sort_ok O hn2)))) ?_ fun _ _ e => e)
    rintro ⟨⟨⟩, st⟩ s1 ⟨rfl, p, ev, ef, pm, up⟩
    dsimp only
    have fn := fin _ _ ev ef pm up (fun h' => P (.done (.ret .none)) { s with heap := h' }) (fun h' c k e => h _ h' c pm up k e)
    refine wpAny_bind (seqEpoch_at ho2 rfl (wpAny_bind (listUpdate_at ho2 rfl ?_ (Nat.zero_le _) ?_)))
    · rw [ef, bne_self_eq_false, if_neg Bool.false_ne_true]
      exact wpAny_pure fn
    · refine Nat.le_trans ?_ (Nat.le_succ_of_le sz)
      show (Array.map _ _).size ≤ _
      rw [ev]
      simp [pm.size]
theorem sorted_of {v : Value} {vs : List Value} {lt : Nat → Nat → Bool} {h1 : Heap} {t1 : Nat} {Q : Value → Shared → Prop} (hcol : ∀ Q' : List Value → Shared → Prop, Q' vs { s with heap := h1, toks := t1 } → wpAny (model prog w) A.in1 (collect v) Q' E s) (k1 : ∀ b o, s.heap.get? b = some o → h1.get? b = some o) (z1 : s.heap.objs.size ≤ h1.objs.size) (h64 : vs.length < 64) (O : StrictOrd vs.length lt)
    (hk : 2 ≤ vs.length → ∀ h' : Heap, (∀ b o, s.heap.get? b = some o → h'.get? b = some o) → ∃ κ, (∀ Q : SortKind → Shared → Prop, Q κ { s with heap := h', toks := t1 } → wpAny (model prog w) A.in1.in1 (keyKind' vs.toArray) Q E { s with heap := h', toks := t1 }) ∧
      ∀ i j C, i < vs.length → j < vs.length → C (lt i j) { s with heap := h', toks := t1 } → kas_ask prog w A.in1.in1 κ vs i j C { s with heap := h', toks := t1 })
    (h : ∀ (p : Array Nat) (h' : Heap) (l c : Nat), Pm vs.length p → Up lt p vs.length → s.heap.objs.size ≤ l → (∀ b o, s.heap.get? b = some o → h'.get? b = some o) → h'.get? l = some (seqObj "list" (p.toList.map fun i => vs.getD i Value.none).toArray c) → Q (.ref l) { s with heap := h', toks := t1 }) :
    wpAny (model prog w) A (call (.builtin "sorted") [v]) Q E s := by
  have sz : vs.length ≤ sizeLine := Nat.le_trans (Nat.le_of_lt h64) (by decide)
  have hL : (h1.push (seqObj "list" vs.toArray 0)).get? h1.objs.size = some (seqObj "list" vs.toArray 0) := Heap.get?_push_size _ rfl
  refine Calls.call_function_entry kind_sorted plain_sorted entry_sorted (args_sorted1 _) ?_
  unfold Builtin.«sorted»
  refine wpAny_bind (m := checkCount "sorted" 1 1 _) (wpAny_pure (wpAny_bind (hcol _ (wpAny_bind (wpAny_newList ?_ sz)))))
  refine wpAny_bind (wpAny_holding (wpAny_call_entry slot_list_sort ⟨_, hL, rfl⟩ entry_list_sort ?_ (args_list_sort _)))
  refine list_sort_data (s := { s with heap := h1.push (seqObj "list" vs.toArray 0), toks := t1 }) hL h64 O (fun h2 h' k => ?_) fun p h' c pm up k e => ⟨_, rfl, wpAny_pure ⟨_, rfl, ?_⟩⟩
  · exact hk h2 h' fun b o q => k b o (Nat.ne_of_lt (Nat.lt_of_lt_of_le (Heap.lt_size q) z1)) (Heap.get?_push_of_some _ (k1 b o q))
  · exact h p h' _ c pm up z1 (fun b o q => k b o (Nat.ne_of_lt (Nat.lt_of_lt_of_le (Heap.lt_size q) z1)) (Heap.get?_push_of_some _ (k1 b o q))) e
end
end L2
namespace L2
open PySem PySem.Spec PyProof.Rows
structure SortOk (ds : List PyData) : Prop where
  len : ds.length < 64
  can : PyData.canLayAll0 ds = true
  dp : PyData.depthAll ds ≤ 64
  cano : CanoAll ds = true
  nd : ds.Nodup
  fst : 2 ≤ ds.length → ∀ d ∈ ds, ∃ i r, d = .tuple (.int i :: r)
  cmp : ∀ d ∈ ds, ∀ e ∈ ds, cmpb d e = true
def ltI (ds : List PyData) (i j : Nat) : Bool := ltT (ds.getD i .none) (ds.getD j .none)
theorem canoAll_mem : ∀ {ds : List PyData}, CanoAll ds = true → ∀ d ∈ ds, Cano d = true
  | d :: ds, h, e, he => by
    simp only [CanoAll, Bool.and_eq_true] at h
    rcases List.mem_cons.mp he with rfl | he
    · exact h.1
    · exact canoAll_mem h.2 e he
theorem canLay_mem : ∀ {ds : List PyData}, PyData.canLayAll0 ds = true → ∀ d ∈ ds, d.canLay0 = true
  | d :: ds, h, e, he => by
    simp only [PyData.canLayAll0, Bool.and_eq_true] at h
    rcases List.mem_cons.mp he with rfl | he
    · exact h.1
    · exact canLay_mem h.2 e he
theorem depth_mem : ∀ {ds : List PyData}, ∀ d ∈ ds, d.depth ≤ PyData.depthAll ds
  | d :: ds, e, he => by
    simp only [PyData.depthAll]
    rcases List.mem_cons.mp he with rfl | he
    · omega
    · have := depth_mem (ds := ds) e he
      omega
theorem getD_mem {α : Type} {xs : List α} {i : Nat} {d : α} (h : i < xs.length) : xs.getD i d ∈ xs := by
  rw [List.getD_eq_getElem?_getD, List.getElem?_eq_getElem h]; exact List.getElem_mem h
theorem getD_some {α : Type} {xs : List α} {i : Nat} {d : α} (h : i < xs.length) : xs[i]? = some (xs.getD i d) := by
  rw [List.getD_eq_getElem?_getD, List.getElem?_eq_getElem h]; rfl
theorem SortOk.ord {ds : List PyData} (h : SortOk ds) : StrictOrd ds.length (ltI ds) := by
  refine ⟨fun a b c ha hb hc h1 h2 => ?_, fun a b ha hb hab h1 => ?_⟩
  · exact ltT_tr _ _ _ (canoAll_mem h.cano _ (getD_mem ha)) (canoAll_mem h.cano _ (getD_mem hb)) (canoAll_mem h.cano _ (getD_mem hc)) h1 h2
  · refine ltT_tot _ _ (canoAll_mem h.cano _ (getD_mem ha)) (canoAll_mem h.cano _ (getD_mem hb)) (fun e => hab ?_) h1
    refine (List.getElem?_inj ha h.nd).mp ?_
    rw [getD_some (d := PyData.none) ha, getD_some (d := PyData.none) hb, e]
theorem reads_all {h h' : Heap} (hk : ∀ b o, h.get? b = some o → h'.get? b = some o) : ∀ {us : List Value} {ds : List PyData} {as : List Addr}, ReadsAll h us ds as → ReadsAll h' us ds as
  | _, _, _, .nil => .nil
  | _, _, _, .cons r t => .cons (PyProof.Rows.Reads.keeps hk r) (reads_all hk t)
theorem rdAt {h : Heap} : ∀ {us : List Value} {ds : List PyData} {as : List Addr} {i : Nat}, ReadsAll h us ds as → i < ds.length → ∃ bs, Reads h (us.getD i .none) (ds.getD i .none) bs
  | _, _, _, 0, .cons r _, _ => ⟨_, r⟩
  | _, _, _, i + 1, .cons _ t, hi => rdAt (i := i) t (by simpa using hi)
theorem rdLen {h : Heap} : ∀ {us : List Value} {ds : List PyData} {as : List Addr}, ReadsAll h us ds as → us.length = ds.length
  | _, _, _, .nil => rfl
  | _, _, _, .cons _ t => by simp [rdLen t]
theorem kat_tups {h : Heap} : ∀ {us : List Value} {ds : List PyData} {as : List Addr}, ReadsAll h us ds as → (∀ d ∈ ds, ∃ i r, d = .tuple (.int i :: r)) → ∃ fs : List Value, PySem.W.KatTups h us fs ∧ fs.length = us.length ∧ ∀ v ∈ fs, ∃ i t, v = .int i t
  | _, _, _, .nil, _ => ⟨[], PySem.W.KatTups.nil, rfl, fun _ z => nomatch z⟩
  | _, _, _, .cons r t, hd => by
    obtain ⟨fs, k, l, z⟩ := kat_tups t fun d hd' => hd d (List.mem_cons_of_mem _ hd')
    obtain ⟨i, r', rfl⟩ := hd _ List.mem_cons_self
    cases r with
    | @tuple a o vs n xs as a1 a2 a3 a4 =>
      cases hv : vs.toList with
      | nil => rw [hv] at a4; cases a4
      | cons v0 vr =>
        rw [hv] at a4
        cases a4 with
        | cons u1 u2 =>
          cases u1 with
          | int _ t0 =>
            refine ⟨.int i t0 :: fs, PySem.W.KatTups.cons a1 a2 a3 ?_ k, by simp [l], fun v hv' => ?_⟩
            · rw [← Array.getElem?_toList, hv]; rfl
            · rcases List.mem_cons.mp hv' with rfl | hv'
              · exact ⟨_, _, rfl⟩
              · exact z v hv'
def aSorted : AC := fun xs μ R => match xs with
  | [.R a] => opt (μ a) fun m => match m with
    | .lst ys => opt (dats ys) fun ds => SortOk ds ∧ ∀ (es : List PyData) (p : Addr), es.Perm ds → es.Pairwise (fun a b => ltT a b = true) → μ p = none → R (.R p) (updM μ p (.lst (es.map .D)))
    | _ => False
  | _ => False
theorem map_range_getD {α : Type} (xs : List α) (d : α) : (List.range xs.length).map (fun i => xs.getD i d) = xs := by
  apply List.ext_getElem?
  intro i
  rw [List.getElem?_map]
  by_cases h : i < xs.length
  · rw [List.getElem?_range h, getD_some (d := d) h]; rfl
  · rw [List.getElem?_eq_none (by simpa using h), List.getElem?_eq_none (by simpa using h)]; rfl
theorem DkAll.pick {K : PySem.W.Frag} {H : Hp} {ds : List PyData} {vs : List V} (h : DkAll K H ds vs) : ∀ (p : List Nat), (∀ i ∈ p, i < ds.length) → DkAll K H (p.map fun i => ds.getD i .none) (p.map fun i => vs.getD i .non)
  | [], _ => dks_nil
  | i :: p, hp => by
    obtain ⟨x, ex, dx⟩ := h.get (getD_some (d := PyData.none) (hp i List.mem_cons_self))
    refine dks_cons ?_ (h.pick p fun j hj => hp j (List.mem_cons_of_mem _ hj))
    have e : vs.getD i .non = x := by rw [List.getD_eq_getElem?_getD, ex]; rfl
    show Dk K H (ds.getD i .none) (vs.getD i .non)
    rw [e]; exact dx
theorem Vals.pick {xs : List V} {us : List Value} (h : Vals xs us) : ∀ (p : List Nat), (∀ i ∈ p, i < xs.length) → Vals (p.map fun i => xs.getD i .non) (p.map fun i => us.getD i .none)
  | [], _ => .nil
  | i :: p, hp => by
    obtain ⟨u, eu, ru⟩ := h.get (getD_some (d := V.non) (hp i List.mem_cons_self))
    refine .cons ?_ (Vals.pick h p fun j hj => hp j (List.mem_cons_of_mem _ hj))
    have e : us.getD i .none = u := by rw [List.getD_eq_getElem?_getD, eu]; rfl
    show RelV (xs.getD i .non) (us.getD i .none)
    rw [e]; exact ru
section
variable {X : Cx} {k : Nat}
theorem c_sorted (hr : Room k X.A) : VCall X (.builtin "sorted") aSorted := by
  intro pins s σ H xs us Q I r ⟨as, μ, R, ra, hc, h, hq⟩
  unfold aSorted at h
  split at h
  · rename_i a
    cases ra with
    | cons r1 r2 =>
    cases r2
    obtain ⟨m, em, h⟩ := opt_e h
    split at h
    · rename_i ys
      obtain ⟨ds, ed, ok, h⟩ := opt_e h
      obtain ⟨o, ho, ws, rfl, rs⟩ := hc _ _ em
      cases r1
      obtain ⟨u, rfl, rx⟩ := vals1 r
      cases rx
      obtain ⟨its, rv, pl, hz⟩ := I.list (SqL.of (K := X.K) ho)
      have dk := rs.dats ed
      obtain ⟨bs, rd⟩ := DkAll.reads I ds ws its dk rv
      have l1 := rdLen rd
      have l2 := dk.length
      have h64 : its.length < 64 := by rw [l1]; exact ok.len
      have sz : its.length ≤ sizeLine := Nat.le_trans (Nat.le_of_lt h64) (by decide)
      have keep : ∀ b o, s.heap.get? b = some o → ((s.heap.push (seqObj "list" #[] 0)).update s.heap.objs.size (Obj.mapSeq (· ++ its.toArray))).get? b = some o := fun b o q =>
        ((Heap.SameBut.update (s.heap.push (seqObj "list" #[] 0)) s.heap.objs.size _).2 b (Nat.ne_of_lt (Heap.lt_size q))).trans (Heap.get?_push_of_some _ q)
      have hO : StrictOrd its.length (ltI ds) := by rw [l1]; exact ok.ord
      refine sorted_of (t1 := s.toks) (fun Q' q => collect_list pl.isList q sz) keep (by rw [Heap.size_update]; exact Nat.le_trans (Nat.le_succ _) (Nat.le_of_eq (Heap.size_push _ _).symm)) h64 hO (fun h2 h' kp => ?_) fun p h' l c pm up hl kp e => ?_
      · have rd' : ReadsAll h' its ds bs := reads_all kp rd
        obtain ⟨fs, kt, kl, kz⟩ := kat_tups rd' (ok.fst (by omega))
        refine ⟨tuples' true, fun Q q => ?_, fun i j C hi hj q => ?_⟩
        · refine PySem.W.kat_kind (T := .type "int") kt (by omega) (fun v hv => ?_) rfl q
          obtain ⟨i, t, rfl⟩ := kz v hv
          exact PySem.W.Looks.of_pure rfl
        · rw [l1] at hi hj
          obtain ⟨b1, q1⟩ := rdAt rd' hi
          obtain ⟨b2, q2⟩ := rdAt rd' hj
          have m1 := getD_mem (d := PyData.none) hi
          have m2 := getD_mem (d := PyData.none) hj
          obtain ⟨x1, r1, e1⟩ := ok.fst (by omega) _ m1
          obtain ⟨x2, r2, e2⟩ := ok.fst (by omega) _ m2
          have c1 := canLay_mem ok.can _ m1
          have c2 := canLay_mem ok.can _ m2
          have d1 := Nat.le_trans (depth_mem _ m1) ok.dp
          have cm := ok.cmp _ m1 _ m2
          have q' : C (ltT (ds.getD i .none) (ds.getD j .none)) _ := q
          rw [e1] at q1 c1 d1 cm q'
          rw [e2] at q2 c2 cm q'
          have hu := hr.un
          unfold PySem.W.kas_ask
          generalize its.getD i Value.none = u1 at q1 ⊢
          generalize its.getD j Value.none = u2 at q2 ⊢
          cases q1 with
          | tuple a1 a2 a3 a4 =>
            cases q2 with
            | tuple b1 b2 b3 b4 =>
              exact key_lt (.tuple a1 a2 a3 a4) (.tuple b1 b2 b3 b4) c1 c2 cm (by show X.A.units + 1 + 1 + 64 < _; omega) d1 q'
      · have hp : ∀ i ∈ p.toList, i < ds.length := fun i hi => by
          have := pm.perm.mem_iff.mp hi
          rw [l1] at this
          exact List.mem_range.mp this
        have hv := Vals.pick rv p.toList fun i hi => by rw [l2]; exact hp i hi
        have hd := dk.pick p.toList hp
        have hlen : (p.toList.map fun i => ws.getD i .non).length ≤ sizeLine := by
          rw [List.length_map, Array.length_toList, pm.size]; exact sz
        refine ⟨.ref l, _, I.laid (t' := s.toks) kp hl (show ObjOk X.prog X.w _ h' _ (.lst (p.toList.map fun i => ws.getD i .non)) from ⟨hlen, _, c, hv, e⟩), rfl, ?_⟩
        have hn := I.hok.fresh hl
        refine hq _ _ _ _ (Kp.new hn _) (hc.new hn (rm_lst ?_)) ra_ref (h (p.toList.map fun i => ds.getD i .none) l ?_ ?_ (hc.none hn))
        · exact hd.rel
        · have e1 : p.toList.Perm (List.range ds.length) := by rw [← l1]; exact pm.perm
          have e2 := e1.map fun i => ds.getD i PyData.none
          rw [map_range_getD] at e2
          exact e2
        · rw [List.pairwise_map]
          refine List.pairwise_iff_getElem.mpr fun i j hi hj hij => ?_
          have hj' : j < its.length := by rw [← pm.size]; simpa using hj
          have := up i j hij hj'
          have gi : p.getD i 0 = p.toList[i] := by simp [Array.getD, show i < p.size by simpa using hi]
          have gj : p.getD j 0 = p.toList[j] := by simp [Array.getD, show j < p.size by simpa using hj]
          rw [gi, gj] at this
          exact this
    · exact h.elim
  · exact h.elim
end
end L2
namespace L2
open PySem PySem.Spec PyProof.Rows
def IsRvT (h : Heap) (it t : Addr) (i : Int) : Prop := ∃ o, h.get? it = some o ∧ o.cls = .type "reversed" ∧ o.data = .fields #[.ref t, rawInt i]
section
variable {prog : Program} {w : World} {A : Around} {E : Value → Shared → Prop} {s : Shared}
theorem IsRvT.typeIs {it t : Addr} {i : Int} (x : IsRvT s.heap it t i) : s.TypeIs (.ref it) "reversed" := let ⟨o, ho, hc, _⟩ := x; ⟨o, ho, hc⟩
theorem IsRvT.at {h h' : Heap} {it t : Addr} {i : Int} (x : IsRvT h it t i) (e : ∀ o, h.get? it = some o → h'.get? it = some o) : IsRvT h' it t i := let ⟨o, ho, r⟩ := x; ⟨o, e _ ho, r⟩
end
section
variable {X : Cx} {tg a : Expr} {ta : AE} {pos p : Pos}
end
end L2
namespace L2
open PySem PySem.Spec PyProof.Rows
section
variable {X : Cx} {o e f : Expr} {apos cpos : Pos} {td ty tx : AE}
end
section
variable {X : Cx} {e : Expr} {te : AE} {p p2 pos pos2 : Pos}
def vRevL (te : AE) : AE := fun τ μ R => te τ μ fun x μ1 => match x with
  | .R a => opt (μ1 a) fun m => match m with
    | .lst xs => ∀ l, μ1 l = none → R (.R l) (updM μ1 l (.lst xs.reverse))
    | _ => False
  | _ => False
theorem ve_revL (hc : X.calm = true) (hg : Gl X "list") (hm : X.mg "list" = none) (hg2 : Gl X "reversed") (hm2 : X.mg "reversed" = none) (he : VE X e te)
    (hs : starEach [.Call (.Name "reversed" p2) [e] [] pos2] X.env = [(false, eval (.Call (.Name "reversed" p2) [e] [] pos2) X.env)] := by rfl) (hs2 : starEach [e] X.env = [(false, eval e X.env)] := by rfl) :
    VE X (.Call (.Name "list" p) [.Call (.Name "reversed" p2) [e] [] pos2] [] pos) (vRevL te) := (pe_revL hc hg hm hg2 hm2 he hs hs2).imp fun σ H Q ⟨τ, μ, R, hs, hc, h, hq⟩ =>
  ⟨τ, μ, _, hs, hc, h, fun x μ1 v H1 S1 c1 rx hx => by
    split at hx
    · rename_i a
      obtain ⟨m, em, hx⟩ := opt_e hx
      split at hx
      · obtain ⟨ob, ho, ws, rfl, rs⟩ := c1 _ _ em
        cases rx
        exact ⟨a, ws, rfl, SqL.of ho, fun l hl => hq _ _ _ _ (S1.trans (Kp.new hl _)) (c1.new hl (rm_lst rs.rev)) ra_ref (hx l (c1.none hl))⟩
      · exact hx.elim
    · exact hx.elim⟩
end
end L2
namespace L2
open PySem
def RiseA (xs : Array Nat) : Prop := xs.toList.Pairwise (· < ·)
theorem RiseA.lt {xs : Array Nat} (h : RiseA xs) {i j : Nat} {d : Nat} (hij : i < j) (hj : j < xs.size) : xs.getD i d < xs.getD j d := by
  have := List.pairwise_iff_getElem.mp h i j (by simp; omega) (by simpa using hj) hij
  simp only [Array.getElem_toList] at this
  simp only [Array.getD, show i < xs.size by omega, hj, dif_pos]
  exact this
theorem below_go {xs : Array Nat} (h : RiseA xs) {j : Nat} : ∀ (f lo hi : Nat), hi - lo ≤ f → lo ≤ hi → hi ≤ xs.size → (∀ i, i < lo → xs.getD i j < j) → (∀ i, hi ≤ i → i < xs.size → j ≤ xs.getD i j) →
    SetTable.below.go xs j f lo hi ≤ xs.size ∧ (∀ i, i < SetTable.below.go xs j f lo hi → xs.getD i j < j) ∧ ∀ i, SetTable.below.go xs j f lo hi ≤ i → i < xs.size → j ≤ xs.getD i j
  | 0, lo, hi, h1, h2, h3, h4, h5 => by
    have e : lo = hi := by omega
    subst e
    exact ⟨h3, h4, h5⟩
  | f + 1, lo, hi, h1, h2, h3, h4, h5 => by
    rw [SetTable.below.go]
    by_cases c : lo < hi
    · rw [if_pos c]
      dsimp only
      by_cases c2 : xs.getD ((lo + hi) / 2) j < j
      · rw [if_pos c2]
        refine below_go h f _ _ (by omega) (by omega) h3 (fun i hi' => ?_) h5
        by_cases e : i = (lo + hi) / 2
        · rw [e]; exact c2
        · have := h.lt (d := j) (show i < (lo + hi) / 2 by omega) (show (lo + hi) / 2 < xs.size by omega)
          omega
      · rw [if_neg c2]
        refine below_go h f _ _ (by omega) (by omega) (by omega) h4 (fun i hi' hs => ?_)
        by_cases e : i = (lo + hi) / 2
        · rw [e]; omega
        · have := h.lt (d := j) (show (lo + hi) / 2 < i by omega) hs
          omega
    · rw [if_neg c]
      have e : lo = hi := by omega
      subst e
      exact ⟨h3, h4, h5⟩
theorem below_ok {xs : Array Nat} (h : RiseA xs) (j : Nat) : SetTable.below xs j ≤ xs.size ∧ (∀ i, i < SetTable.below xs j → xs.getD i j < j) ∧ ∀ i, SetTable.below xs j ≤ i → i < xs.size → j ≤ xs.getD i j :=
  below_go h xs.size 0 xs.size (by omega) (Nat.zero_le _) (Nat.le_refl _) (fun i hi => absurd hi (Nat.not_lt_zero _)) fun i hi hs => by omega
theorem below_next {xs : Array Nat} (h : RiseA xs) {k : Nat} (hk : k < xs.size) : SetTable.below xs (xs[k] + 1) = k + 1 := by
  obtain ⟨b1, b2, b3⟩ := below_ok h (xs[k] + 1)
  have g : ∀ i, (hi : i < xs.size) → xs.getD i (xs[k] + 1) = xs[i] := fun i hi => by simp [Array.getD, hi]
  rcases Nat.lt_trichotomy (SetTable.below xs (xs[k] + 1)) (k + 1) with c | c | c
  · have := b3 k (by omega) hk
    rw [g k hk] at this
    omega
  · exact c
  · have h1 : k + 1 < xs.size := by omega
    have := b2 (k + 1) c
    rw [g _ h1] at this
    have h2 := h.lt (d := 0) (Nat.lt_succ_self k) h1
    simp only [Array.getD, hk, h1, dif_pos] at h2
    have h3 : xs[k] < xs[k + 1] := h2
    omega
theorem below_zero {xs : Array Nat} (h : RiseA xs) : SetTable.below xs 0 = 0 := by
  obtain ⟨b1, b2, b3⟩ := below_ok h 0
  rcases Nat.eq_zero_or_pos (SetTable.below xs 0) with e | e
  · exact e
  · have := b2 0 e; omega
theorem insert_list {α : Type} (xs : Array α) (p : Nat) (x : α) (hp : p ≤ xs.size) : (SetTable.insertAt xs p x).toList = xs.toList.take p ++ x :: xs.toList.drop p := by
  rw [SetTable.toList_insertAt]
theorem rise_insert {xs : Array Nat} (h : RiseA xs) {j : Nat} (hj : xs[SetTable.below xs j]? ≠ some j) : RiseA (SetTable.insertAt xs (SetTable.below xs j) j) := by
  obtain ⟨b1, b2, b3⟩ := below_ok h j
  unfold RiseA
  rw [insert_list _ _ _ b1]
  have ht : ∀ a ∈ xs.toList.take (SetTable.below xs j), a < j := fun a ha => by
    obtain ⟨i, hi, e⟩ := List.getElem_of_mem ha
    have h1 : i < SetTable.below xs j := by
      rw [List.length_take] at hi; omega
    have := b2 i h1
    simp only [Array.getD, show i < xs.size by omega, dif_pos] at this
    rw [← e]
    simpa using this
  have hd : ∀ a ∈ xs.toList.drop (SetTable.below xs j), j < a := fun a ha => by
    obtain ⟨i, hi, e⟩ := List.getElem_of_mem ha
    have h1 : SetTable.below xs j + i < xs.size := by
      rw [List.length_drop] at hi; simp at hi; omega
    have h2 := b3 _ (Nat.le_add_right _ i) h1
    simp only [Array.getD, h1, dif_pos] at h2
    have e2 : a = xs[SetTable.below xs j + i] := by rw [← e]; simp
    have h3 : a ≠ j := by
      intro z
      by_cases c : i = 0
      · subst c
        apply hj
        rw [Array.getElem?_eq_getElem (by omega)]
        exact congrArg some (e2.symm.trans z)
      · have h0 : SetTable.below xs j < xs.size := by omega
        have h4 := b3 _ (Nat.le_refl _) h0
        simp only [Array.getD, h0, dif_pos] at h4
        have h5 := h.lt (d := 0) (show SetTable.below xs j < SetTable.below xs j + i by omega) h1
        simp only [Array.getD, h0, h1, dif_pos] at h5
        have h5' : xs[SetTable.below xs j] < xs[SetTable.below xs j + i] := h5
        have h4' : j ≤ xs[SetTable.below xs j] := h4
        omega
    have h2' : j ≤ xs[SetTable.below xs j + i] := h2
    omega
  refine List.pairwise_append.mpr ⟨h.sublist (List.take_sublist _ _), List.pairwise_cons.mpr ⟨hd, h.sublist (List.drop_sublist _ _)⟩, fun a ha b hb => ?_⟩
  rcases List.mem_cons.mp hb with rfl | hb
  · exact ht a ha
  · have := ht a ha
    have := hd b hb
    omega
structure TblOk (t : SetTable) (led : Bool) : Prop where
  rise : RiseA t.place
  dum : t.dummies = #[]
  led : t.led = led
theorem TblOk.plain {t : SetTable} {led : Bool} (h : TblOk t led) (b : Bool) : TblOk { t with plain := b } led := ⟨h.rise, h.dum, h.led⟩
theorem has_none (j : Nat) : SetTable.has #[] j = false := by
  unfold SetTable.has
  simp
theorem slot_empty {t : SetTable} {led : Bool} (h : TblOk t led) {j : Nat} (e : t.slot j = .empty) : t.place[SetTable.below t.place j]? ≠ some j := by
  unfold SetTable.slot at e
  dsimp only at e
  split at e
  · cases e
  · rename_i c
    simpa using c
theorem TblOk.put {t : SetTable} {led : Bool} (h : TblOk t led) {s : Nat} (hs : t.place[SetTable.below t.place s]? ≠ some s) : TblOk (t.put s).1 led := by
  refine ⟨rise_insert h.rise hs, ?_, h.led⟩
  show (if SetTable.has t.dummies s then _ else t.dummies) = #[]
  rw [h.dum, has_none]; rfl
theorem TblOk.laid {mask finger moves : Nat} {led plain : Bool} {hs : Array Int} {t : SetTable} {order : Array Nat} (e : SetTable.laid mask finger moves led plain hs = some (t, order)) : TblOk t led := by
  unfold SetTable.laid at e
  cases c : SetTable.layClean mask hs with
  | none => rw [c] at e; cases e
  | some owner =>
    rw [c] at e
    have e' := Option.some.inj e
    injection e' with e1 _
    subst e1
    refine ⟨?_, rfl, rfl⟩
    unfold RiseA
    show (List.map _ _).Pairwise _
    rw [List.pairwise_map]
    refine List.Pairwise.filterMap _ (R := (· < ·)) (fun a a' haa b hb b' hb' => ?_) List.pairwise_lt_range
    obtain ⟨z, _, rfl⟩ := Option.map_eq_some_iff.mp hb
    obtain ⟨z', _, rfl⟩ := Option.map_eq_some_iff.mp hb'
    exact haa
theorem TblOk.fresh (led : Bool) : TblOk (.fresh 0 0 led) led := ⟨List.Pairwise.nil, rfl, rfl⟩
end L2
namespace L2
open PySem
section
variable {prog : Program} {w : World} {Kt : Type} [DecidableEq Kt] {knd : KeyKind prog w Kt} {A : Around} {E : Value → Shared → Prop} {s : Shared} {a : Addr} {led : Bool}
end
end L2
namespace L2
open PySem
theorem ul_plain : plainId "set.update.loop" = true := by decide +kernel
theorem ul_entry : entryFor table "set.update.loop" = some Builtin.«set.update.loop» := entryFor_of_tree (by kernel_rfl)
section
variable {prog : Program} {w : World} {Kt : Type} [DecidableEq Kt] {knd : KeyKind prog w Kt} {A : Around} {R : Result → Shared → Prop} {sa it t : Addr} {led : Bool}
def Unlike (knd : KeyKind prog w Kt) (l : List (Int × Value)) : Prop := l.Pairwise fun e e' => ∀ k, knd.is k e.2 = true → knd.is k e'.2 = false
theorem Unlike.perm {l l' : List (Int × Value)} (h : Unlike knd l) (p : l'.Perm l) : Unlike knd l' := by
  refine (List.Perm.pairwise_iff (R := fun (e e' : Int × Value) => ∀ k, knd.is k e.2 = true → knd.is k e'.2 = false) (fun {e e'} hh k hk => ?_) p.symm).mp h
  cases c : knd.is k e.2 with
  | false => rfl
  | true => rw [hh k c] at hk; cases hk
end
end L2
namespace L2
open PySem
section
variable {prog : Program} {w : World} {A : Around} {E : Value → Shared → Prop} {s : Shared}
theorem si_check {M : Model} {self v : Value} {Q : Unit → Shared → Prop} (hT : s.TypeIs self "set") (q : Q () s) : wpAny M A (checkBuiltinCall "set.__init__" ⟨[self, v], []⟩) Q E s := by
  simp only [checkBuiltinCall, kind_set_init, split_set_init, sig_set_init]
  refine wpAny_bind (wpAny_isInstance hT sub_set_self (show wpAny _ _ _ _ _ _ from ?_))
  rw [show (!true) = false from rfl, if_neg Bool.false_ne_true]
  unfold Bind.checkArgs
  dsimp only
  refine wpAny_bind (m := Bind.printed "set" true _ _) (PyProof.Rows.printed_name (by decide) (wpAny_bind (m := Bind.printed "*" false _ _) (PyProof.Rows.printed_star (self := self) rfl hT fun short => ?_)))
  have e : (if (Manifest.Receiver.self == Manifest.Receiver.none) = true then [self, v].length else [self, v].length - 1) = 1 := rfl
  rw [e]
  have hc : Bind.check ⟨.positional, "set", "*", .self, [⟨"iterable", .posOnly, false⟩]⟩ "set" short 1 [] = pure () := by simp +decide [Bind.check, Bind.checkCount, Bind.isPositional]
  simp only [List.map_nil]
  rw [hc]; exact wpAny_pure q
theorem sc_type (v : Value) : checkTypeCall "set" ⟨[v], []⟩ = pure () := by kernel_rfl
theorem sc_new (v : Value) : checkBuiltinCall "set.__new__" ⟨[.type "set", v], []⟩ = pure () := by kernel_rfl
def ledOf (w : World) : Bool := !(w.params.followText "set-order")
def newSetObj (w : World) : Obj := { cls := .type "set", dict := none, data := .set #[] 0 (.fresh 0 0 (ledOf w)) }
theorem sn_code {v : Value} {Q1 : Value → Shared → Prop} (h : Q1 (.ref s.heap.objs.size) { s with heap := s.heap.push (newSetObj w) }) :
    codeAny (model prog w) A (.call (.builtin "set.__new__") ⟨[.type "set", v], []⟩) (wants Q1 E) s := by
  refine codeAny_of_tree (show wpAny _ A.in1 (do checkBuiltinCall "set.__new__" ⟨[.type "set", v], []⟩; again (.builtin "set.__new__" ⟨[.type "set", v], []⟩)) _ _ s from ?_)
  refine wpAny_bind (wpAny_of_eq (sc_new v) (wpAny_pure ⟨plainId_quiet F.plain_set_new _, codeAny_builtin F.entry_set_new (show wpAny _ _ _ _ _ _ from ?_)⟩))
  rw [Around.under_plainId F.plain_set_new _]
  unfold Builtin.«set.__new__» Builtin.Frozenset.newClass
  have k1 := sub_set_self
  obtain ⟨hp, g, d, tk, os⟩ := s
  dsimp only
  wp_walk
  refine wpAny_askSetting (wpAny_pure (show wpAny _ _ _ _ _ _ from ?_))
  dsimp only
  simp only [newObj]
  exact wpAny_bind (wpAny_alloc (wpAny_pure (wpAny_pure h)))
theorem call_set_1 {v : Value} {Q : Value → Shared → Prop} (h : wpAny (model prog w) A.in1.in1 (Builtin.Frozenset.updateFrom "set.__init__" s.heap.objs.size v) (fun _ s2 => Q (.ref s.heap.objs.size) s2) E { s with heap := s.heap.push (newSetObj w) }) :
    wpAny (model prog w) A (call (.type "set") [v]) Q E s := by
  obtain ⟨c, tl, hmro⟩ := F.called_set.mro
  have k1 := F.called_set.made
  have k2 := F.called_set.sub
  refine wpAny_call (codeAny_of_tree (show wpAny _ _ (callAny (.type "set") _) _ _ _ from ?_))
  refine wpAny_pure ⟨Code.quiet_builtin _ (by decide +kernel), codeAny_builtin F.entry_type_call ?_⟩
  rw [Around.under_plain (weight_type_call_type "set" [v] []) rfl]
  have k3 := F.called_set.notType
  have k4 := F.called_set.canCreate
  have k5 := sc_type v
  repeat any_goals first | assumption | wp_step
  refine codeAny_mono (sn_code (E := E) (Q1 := fun ob s1 => ob = .ref s.heap.objs.size ∧ s1 = { s with heap := s.heap.push (newSetObj w) }) ⟨rfl, rfl⟩) fun r s1 hr => ?_
  cases r with
  | error e => exact hr
  | ok fl =>
    cases fl with
    | ret ob =>
      obtain ⟨rfl, rfl⟩ := hr
      have g : (s.heap.push (newSetObj w)).get? s.heap.objs.size = some (newSetObj w) := Heap.get?_push_size _ rfl
      have T : Shared.TypeIs { s with heap := s.heap.push (newSetObj w) } (.ref s.heap.objs.size) "set" := ⟨_, g, rfl⟩
      have k6 := F.called_set.init.lookup
      have k7 := F.called_set.init.bind (.ref s.heap.objs.size)
      repeat any_goals first | assumption | wp_step
      refine codeAny_mono (codeAny_call_builtin (R := wants (fun r s2 => r = .none ∧ Q (.ref s.heap.objs.size) s2) E) F.called_set.init.plain F.entry_set_init (si_check T ?_)) fun r2 s2 hr2 => ?_
      · unfold Builtin.«set.__init__» noKeywords
        generalize hU : Builtin.Frozenset.updateFrom = U at h ⊢
        unfold newSetObj at g
        wp_walk
        exact wpAny_mono h (fun _ _ q => wpAny_pure ⟨rfl, q⟩) fun _ _ e => e
      · cases r2 with
        | error e => exact hr2
        | ok fl2 =>
          cases fl2 with
          | ret z =>
            obtain ⟨rfl, q⟩ := hr2
            repeat any_goals first | assumption | wp_step
          | _ => exact hr2.elim
    | _ => exact hr.elim
end
end L2
namespace L2
open PySem
section
theorem sub_tup_set : isSubtype (.type "tuple") (.type "set") = pure false := by rw [isSubtype_type]; kernel_rfl
theorem sub_tup_fro : isSubtype (.type "tuple") (.type "frozenset") = pure false := by rw [isSubtype_type]; kernel_rfl
end
section
variable {prog : Program} {w : World} {Kt : Type} [DecidableEq Kt] {knd : KeyKind prog w Kt} {A : Around} {E : Value → Shared → Prop} {s : Shared} {sa t : Addr} {led : Bool}
end
end L2
namespace L2
open PySem
theorem st_owner : Manifest.owners.lookup (String.ofList ['r', 'o', 't', 'a', 'r', 'e', 't', 'i', '_', 't', 'e', 's'].reverse) = some Manifest.sig_set_iterator := by kernel_rfl
theorem st_next : Slot "set_iterator" "__next__" "set_iterator.__next__" := .of (owner := "set_iterator") (n := "__next__") (by rw [typeLookup_type, builtinLookup_eq_fast]; kernel_rfl) (by decide +kernel) (by decide +kernel) (by decide +kernel) (.inl (by decide +kernel)) (by rw [isSubtype_type]; kernel_rfl)
theorem st_entry : entryFor table "set_iterator.__next__" = some Builtin.«set_iterator.__next__» := entryFor_of_tree (by kernel_rfl)
theorem st_args (a : Value) : argsOk "set_iterator.__next__" ⟨[a], []⟩ := by
  rw [argsOk, signature?_of (id := "set_iterator.__next__") (n := ['_', '_', 't', 'x', 'e', 'n', '_', '_']) (o := ['r', 'o', 't', 'a', 'r', 'e', 't', 'i', '_', 't', 'e', 's']) (by kernel_rfl) st_owner]; kernel_rfl
theorem st_iter : Slot "set_iterator" "__iter__" "set_iterator.__iter__" := .of (owner := "set_iterator") (n := "__iter__") (by rw [typeLookup_type, builtinLookup_eq_fast]; kernel_rfl) (by decide +kernel) (by decide +kernel) (by decide +kernel) (.inl (by decide +kernel)) (by rw [isSubtype_type]; kernel_rfl)
theorem st_iargs (a : Value) : argsOk "set_iterator.__iter__" ⟨[a], []⟩ := by
  rw [argsOk, signature?_of (id := "set_iterator.__iter__") (n := ['_', '_', 'r', 'e', 't', 'i', '_', '_']) (o := ['r', 'o', 't', 'a', 'r', 'e', 't', 'i', '_', 't', 'e', 's']) (by kernel_rfl) st_owner]; kernel_rfl
theorem st_ientry : entryFor table "set_iterator.__iter__" = some Builtin.«dict_keyiterator.__iter__» := entryFor_alias (id' := "dict_keyiterator.__iter__") (by kernel_rfl) (by first | rfl | decide +kernel) (by decide +kernel) (by kernel_rfl)
theorem set_ientry : entryFor table "set.__iter__" = some Builtin.«frozenset.__iter__» := entryFor_alias (id' := "frozenset.__iter__") (by kernel_rfl) (by first | rfl | decide +kernel) (by decide +kernel) (by kernel_rfl)
end L2
namespace L2
open PySem
section
variable {prog : Program} {w : World} {A : Around} {E : Value → Shared → Prop} {s : Shared}
theorem any_choose {M : Model} {src : Source} {n : Nat} {Q : Nat → Shared → Prop} (hn : n ≠ 0) (h : ∀ i d', i < n → Q i { s with drawn := d' }) : wpAny M A (choose src n) Q E s := fun Γ p _ => by
  unfold choose
  rw [Sem.wp_choose]
  refine ⟨hn, ?_⟩
  rw [Sem.wp_pure]
  exact h _ _ (Nat.mod_lt _ (Nat.pos_of_ne_zero hn))
theorem perm_pick {α : Type} : ∀ {xs : List α} {i : Nat} {x : α}, xs[i]? = some x → (x :: xs.eraseIdx i).Perm xs
  | _ :: _, 0, _, h => by simp at h; subst h; exact List.Perm.refl _
  | y :: ys, i + 1, x, h => by
    have := perm_pick (xs := ys) (i := i) (x := x) (by simpa using h)
    exact (List.Perm.swap y x _).trans (this.cons y)
theorem draw_order {M : Model} {α : Type} : ∀ (n : Nat) (xs : List α) (s : Shared) (Q : List α → Shared → Prop), xs.length = n → (∀ ys d', ys.Perm xs → Q ys { s with drawn := d' }) → wpAny M A (drawOrder n xs) Q E s
  | 0, xs, s, Q, hn, h => by
    have : xs = [] := List.eq_nil_of_length_eq_zero hn
    subst this
    exact wpAny_pure (h [] s.drawn (List.Perm.refl _))
  | n + 1, [], s, Q, hn, h => by cases hn
  | n + 1, x :: xs, s, Q, hn, h => by
    unfold drawOrder
    refine wpAny_bind (any_choose (by simp) fun i d1 hi => ?_)
    have e : (x :: xs)[i]? = some (x :: xs)[i] := List.getElem?_eq_getElem hi
    rw [e]
    refine wpAny_bind (draw_order n _ _ _ ?_ fun ys d2 hp => wpAny_pure (h _ d2 ((hp.cons _).trans (perm_pick e))))
    rw [List.length_eraseIdx_of_lt hi]; simp at hn ⊢; omega
theorem pick_go {α : Type} (next : Nat → Nat) : ∀ (n k : Nat) (left : List α) (out : Array α), left.length = n → (pickOrder.go next n k left out).toList.Perm (out.toList ++ left)
  | 0, k, left, out, hn => by
    have : left = [] := List.eq_nil_of_length_eq_zero hn
    subst this
    unfold pickOrder.go
    simp
  | n + 1, k, left, out, hn => by
    unfold pickOrder.go
    have hl : next k % left.length < left.length := Nat.mod_lt _ (by omega)
    have e : left[next k % left.length]? = some left[next k % left.length] := List.getElem?_eq_getElem hl
    rw [e]
    dsimp only
    refine (pick_go next n (k + 1) _ _ (by rw [List.length_eraseIdx_of_lt hl]; omega)).trans ?_
    rw [Array.toList_push, List.append_assoc]
    exact (perm_pick e).append_left _
theorem pick_perm {α : Type} (next : Nat → Nat) (xs : Array α) : (pickOrder next xs).toList.Perm xs.toList := by
  unfold pickOrder
  simpa using pick_go next xs.size 0 xs.toList #[] (by simp)
def SetAt (h : Heap) (a : Addr) (es : Array (Int × Value)) (ep : Nat) (t : SetTable) : Prop := ∃ o, h.get? a = some o ∧ o.cls = .type "set" ∧ o.data = .set es ep t ∧ t.fits es.size = true
theorem SetAt.typeIs {a : Addr} {es : Array (Int × Value)} {ep : Nat} {t : SetTable} (x : SetAt s.heap a es ep t) : s.TypeIs (.ref a) "set" := let ⟨o, ho, hc, _⟩ := x; ⟨o, ho, hc⟩
theorem SetAt.at {h h' : Heap} {a : Addr} {es : Array (Int × Value)} {ep : Nat} {t : SetTable} (x : SetAt h a es ep t) (e : ∀ o, h.get? a = some o → h'.get? a = some o) : SetAt h' a es ep t := let ⟨o, ho, r⟩ := x; ⟨o, e _ ho, r⟩
def IsSit (h : Heap) (it a : Addr) (first : Value) (i n ep : Nat) : Prop := ∃ o, h.get? it = some o ∧ o.cls = .type "set_iterator" ∧ o.data = .fields #[first, rawInt i, .ref a, rawInt n, rawInt ep]
theorem IsSit.typeIs {it a : Addr} {first : Value} {i n ep : Nat} (x : IsSit s.heap it a first i n ep) : s.TypeIs (.ref it) "set_iterator" := let ⟨o, ho, hc, _⟩ := x; ⟨o, ho, hc⟩
theorem IsSit.at {h h' : Heap} {it a : Addr} {first : Value} {i n ep : Nat} (x : IsSit h it a first i n ep) (e : ∀ o, h.get? it = some o → h'.get? it = some o) : IsSit h' it a first i n ep := let ⟨o, ho, r⟩ := x; ⟨o, e _ ho, r⟩
def slotAt (pl : Array Nat) : Nat → Nat
  | 0 => 0
  | i + 1 => pl.getD i 0 + 1
inductive Mode (w : World) (a : Addr) (es : Array (Int × Value)) (ep : Nat) (t : SetTable) (h : Heap) : Nat → Value → List Value → Prop
  | text {i : Nat} (hb : w.params.followText "set-order" = true) : Mode w a es ep t h i (rawInt 0) ((pickOrder (w.params.setOrder a ep) es).toList.map (·.2))
  | table {i : Nat} (hb : w.params.followText "set-order" = false) (hd : (!t.plain && decide (es.size > 1)) = false) : Mode w a es ep t h i (rawInt (slotAt t.place i)) (es.toList.map (·.2))
  | drawn {i : Nat} {pt : Addr} {ps : List Nat} (hb : w.params.followText "set-order" = false) (hp : ps.Perm (List.range es.size)) (ht : h.IsTuple pt (ps.map fun (j : Nat) => rawInt j).toArray) : Mode w a es ep t h i (.ref pt) (ps.map fun j => (es.getD j (0, .none)).2)
theorem range_map {α : Type} (xs : Array α) (d : α) : (List.range xs.size).map (fun j => xs.getD j d) = xs.toList := by
  refine List.ext_getElem (by simp) fun i h1 h2 => ?_
  simp at h1 h2 ⊢
  simp [h1]
theorem Mode.perm {a : Addr} {es : Array (Int × Value)} {ep : Nat} {t : SetTable} {h : Heap} {i : Nat} {first : Value} {ord : List Value} (m : Mode w a es ep t h i first ord) : ord.Perm (es.toList.map (·.2)) := by
  cases m with
  | text hb => exact (pick_perm _ _).map _
  | table hb hd => exact List.Perm.refl _
  | @drawn pt ps hb hp ht =>
    have := hp.map fun j => (es.getD j (0, Value.none)).2
    refine this.trans (List.Perm.of_eq ?_)
    rw [← range_map es (0, Value.none), List.map_map]; rfl
theorem sets_text {Q : Bool → Shared → Prop} (h : Q (w.params.followText "set-order") s) : wpAny (model prog w) A setsByText Q E s := by
  unfold setsByText
  exact wpAny_bind (wpAny_askSetting (wpAny_pure h))
theorem pyIter_set {a : Addr} {es : Array (Int × Value)} {ep : Nat} {t : SetTable} {Q : Value → Shared → Prop} (hA : SetAt s.heap a es ep t) (hz : es.size ≤ 1000)
    (h : ∀ it h' d' first ord, s.heap.objs.size ≤ it → (∀ b o, s.heap.get? b = some o → h'.get? b = some o) → IsSit h' it a first 0 es.size ep → Mode w a es ep t h' 0 first ord → (∀ pt, first = .ref pt → s.heap.objs.size ≤ pt ∧ pt ≠ it) → Q (.ref it) { s with heap := h', drawn := d' }) :
    wpAny (model prog w) A (pyIter (.ref a)) Q E s := by
  obtain ⟨o, ho, hc, hd, hf⟩ := id hA
  refine wpAny_pyIter_slot hA.typeIs F.slot_set_iter (wpAny_call_entry F.slot_set_iter hA.typeIs set_ientry ?_ (F.args_set_iter_1 _))
  unfold Builtin.«frozenset.__iter__» Builtin.Frozenset.sizeOf setEntries setDrawn setEpoch
  refine (show wpAny _ _ (_ >>= _) _ _ _ from wpAny_bind (show wpAny _ _ (pure a) _ _ _ from wpAny_pure (wpAny_bind (wpAny_bind (wpAny_bind (wpAny_setState_of ho hd hf (wpAny_pure (wpAny_pure ?_))))))))
  refine wpAny_bind (wpAny_bind (wpAny_setState_of ho hd hf (wpAny_bind (sets_text (wpAny_pure ?_)))))
  cases hb : w.params.followText "set-order" with
  | true =>
    refine (show wpAny _ _ (if (!true && _) = true then _ else _) _ _ _ from ?_)
    rw [Bool.not_true, Bool.false_and, if_neg Bool.false_ne_true]
    refine wpAny_bind (wpAny_pure (wpAny_bind (wpAny_bind (wpAny_setState_of ho hd hf (wpAny_pure (wpAny_bind (wpAny_newObj_type (wpAny_pure ⟨_, rfl, "set_iterator", _, ⟨_, Heap.get?_push_size _ rfl, rfl⟩, st_next.lookup, ?_⟩))))))))
    exact h _ _ s.drawn _ _ (Nat.le_refl _) (fun b o e => Heap.get?_push_of_some _ e) ⟨_, Heap.get?_push_size _ rfl, rfl, rfl⟩ (.text hb) fun pt e => by cases e
  | false =>
    cases hdr : (!t.plain && decide (es.size > 1)) with
    | false =>
      refine (show wpAny _ _ (if (!false && (!t.plain && decide (es.size > 1))) = true then _ else _) _ _ _ from ?_)
      rw [hdr, Bool.not_false, Bool.true_and, if_neg Bool.false_ne_true]
      refine wpAny_bind (wpAny_pure (wpAny_bind (wpAny_bind (wpAny_setState_of ho hd hf (wpAny_pure (wpAny_bind (wpAny_newObj_type (wpAny_pure ⟨_, rfl, "set_iterator", _, ⟨_, Heap.get?_push_size _ rfl, rfl⟩, st_next.lookup, ?_⟩))))))))
      exact h _ _ s.drawn _ _ (Nat.le_refl _) (fun b o e => Heap.get?_push_of_some _ e) ⟨_, Heap.get?_push_size _ rfl, rfl, rfl⟩ (.table hb hdr) fun pt e => by cases e
    | true =>
      refine (show wpAny _ _ (if (!false && (!t.plain && decide (es.size > 1))) = true then _ else _) _ _ _ from ?_)
      rw [hdr, Bool.not_false, Bool.true_and, if_pos rfl]
      refine wpAny_bind (draw_order _ _ _ _ (by simp) fun ps d1 hp => ?_)
      refine wpAny_bind (m := newTuple _) (show wpAny _ _ _ _ _ _ from ?_)
      simp only [newTuple]
      have hps : ps.length ≤ 1000 := by rw [hp.length_eq]; simpa using hz
      refine wpAny_newObj_type ?_ (by size_fits)
      have ho2 := Heap.get?_push_of_some { cls := Value.type "tuple", data := Data.seq (List.map (fun (i : Nat) => rawInt ↑i) ps).toArray } ho
      refine wpAny_bind (wpAny_bind (wpAny_setState_of ho2 hd hf (wpAny_pure (wpAny_bind (wpAny_newObj_type (wpAny_pure ⟨_, rfl, "set_iterator", _, ⟨_, Heap.get?_push_size _ rfl, rfl⟩, st_next.lookup, ?_⟩))))))
      refine h _ _ d1 _ _ (by rw [Heap.size_push]; exact Nat.le_succ _) (fun b o e => Heap.get?_push_of_some _ (Heap.get?_push_of_some _ e)) ⟨_, Heap.get?_push_size _ rfl, rfl, rfl⟩ (.drawn hb hp ⟨_, Heap.get?_push_of_some _ (Heap.get?_push_size _ rfl), rfl, 0, rfl⟩) fun pt e => ?_
      cases e
      exact ⟨Nat.le_refl _, Nat.ne_of_lt (by rw [Heap.size_push]; exact Nat.lt_succ_self _)⟩
theorem slot_below {t : SetTable} (hr : RiseA t.place) {i : Nat} (hi : i ≤ t.place.size) : SetTable.below t.place (slotAt t.place i) = i := by
  cases i with
  | zero => exact below_zero hr
  | succ i =>
    have := below_next hr (k := i) (by omega)
    show SetTable.below t.place (t.place.getD i 0 + 1) = i + 1
    rw [show t.place.getD i 0 = t.place[i] by simp [show i < t.place.size by omega]]
    exact this
theorem next_text {a : Addr} {es : Array (Int × Value)} {ep slot i : Nat} {t : SetTable} {Q : Option (Value × Nat) → Shared → Prop} (hA : SetAt s.heap a es ep t) (hb : w.params.followText "set-order" = true) (h : Q (((pickOrder (w.params.setOrder a ep) es)[i]?).map fun e => (e.2, slot)) s) :
    wpAny (model prog w) A (setNext a slot i ep) Q E s := by
  obtain ⟨oa, hoa, _, hda, hf⟩ := hA
  unfold setNext
  refine wpAny_bind (wpAny_setState_of hoa hda hf (wpAny_bind (sets_text (show wpAny _ _ (if _ = true then _ else _) _ _ _ from ?_))))
  rw [if_pos hb]
  refine (show wpAny _ _ (if (ep != ep) = true then _ else _) _ _ _ from ?_)
  rw [if_neg (by simp)]
  unfold setWalk
  refine wpAny_bind (wpAny_bind (wpAny_setState_of hoa hda hf (wpAny_bind (sets_text (show wpAny _ _ (if _ = true then _ else _) _ _ _ from ?_)))))
  rw [if_pos hb]
  exact wpAny_bind (wpAny_askSetting (wpAny_pure (wpAny_pure h)))
theorem next_table {a : Addr} {es : Array (Int × Value)} {ep i g : Nat} {t : SetTable} {Q : Option (Value × Nat) → Shared → Prop} (hA : SetAt s.heap a es ep t) (hT : TblOk t (ledOf w)) (hb : w.params.followText "set-order" = false) (hdr : (!t.plain && decide (es.size > 1)) = false) (hi : i ≤ es.size)
    (h : Q (match es[i]?, t.place[i]? with | some (_, x), some j => some (x, j + 1) | _, _ => none) s) : wpAny (model prog w) A (setNext a (slotAt t.place i) g ep) Q E s := by
  obtain ⟨oa, hoa, _, hda, hf⟩ := hA
  have hpl : t.place.size = es.size := by simp [SetTable.fits] at hf; exact hf.1
  unfold setNext
  refine wpAny_bind (wpAny_setState_of hoa hda hf (wpAny_bind (sets_text (show wpAny _ _ (if _ = true then _ else _) _ _ _ from ?_))))
  rw [if_neg (by rw [hb]; exact Bool.false_ne_true)]
  refine (show wpAny _ _ (if (!t.plain && decide (es.size > 1)) = true then _ else _) _ _ _ from ?_)
  rw [hdr, if_neg Bool.false_ne_true]
  refine wpAny_bind (show wpAny _ _ (if (!t.led && !es.isEmpty) = true then _ else _) _ _ _ from ?_)
  rw [if_neg (by rw [hT.led, ledOf, hb]; simp)]
  refine wpAny_pure (show wpAny _ _ (pure _) _ _ _ from wpAny_pure ?_)
  rw [slot_below hT.rise (by omega)]
  exact h
theorem put_field {a : Addr} {o : Obj} {vs : Array Value} {i : Nat} {x : Value} {Q : Unit → Shared → Prop} (ho : s.heap.get? a = some o) (hd : o.data = .fields vs) (hi : i < vs.size)
    (h : ∀ h' o', h'.get? a = some o' → o'.cls = o.cls → o'.data = .fields (vs.setIfInBounds i x) → Heap.SameBut a s.heap h' → Q () { s with heap := h' }) : wpAny (model prog w) A (setField (.ref a) i x) Q E s :=
  wpAny_setField ho hd hi (h _ _ (Heap.get?_update_self _ ho (Obj.isFreed_of_fields (Obj.data_mapFields hd _))) (Obj.cls_mapFields ..) (Obj.data_mapFields hd _) (Heap.SameBut.update ..))
theorem sit_item {it a : Addr} {es : Array (Int × Value)} {ep : Nat} {t : SetTable} {first x : Value} {i : Nat} {ord : List Value} {Q : Option Value → Shared → Prop} (hA : SetAt s.heap a es ep t) (hT : TblOk t (ledOf w)) (hI : IsSit s.heap it a first i es.size ep) (hM : Mode w a es ep t s.heap i first ord) (hne : a ≠ it) (hnp : ∀ pt, first = .ref pt → pt ≠ it) (hx : ord[i]? = some x)
    (hQ : ∀ h' first', IsSit h' it a first' (i + 1) es.size ep → Mode w a es ep t h' (i + 1) first' ord → (∀ pt, first' = .ref pt → first = .ref pt) → Heap.SameBut it s.heap h' → Q (some x) { s with heap := h' }) :
    wpAny (model prog w) A (pyNext (.ref it)) Q E s := by
  obtain ⟨o, ho, hc, hd⟩ := id hI
  obtain ⟨oa, hoa, _, hda, hf⟩ := id hA
  have hpl : t.place.size = es.size := by simp [SetTable.fits] at hf; exact hf.1
  unfold pyNext
  refine wpAny_bind (wpAny_attempt (wpAny_callSpecial?_slot (name := Str.ofString "__next__") hI.typeIs st_next (wpAny_call_entry st_next hI.typeIs st_entry ?_ (st_args _))))
  unfold Builtin.«set_iterator.__next__»
  refine (show wpAny _ _ (_ >>= _) _ _ _ from wpAny_bind (show wpAny _ _ (pure (Value.ref it, [])) _ _ _ from wpAny_pure (show wpAny _ _ (fieldsOf (.ref it) >>= _) _ _ _ from wpAny_bind (wpAny_fieldsOf ho hd (show wpAny _ _ (setEntries a >>= _) _ _ _ from wpAny_bind ?_)))))
  refine (show wpAny _ _ (setState a >>= _) _ _ _ from wpAny_bind (wpAny_setState_of hoa hda hf (wpAny_pure (show wpAny _ _ (if ((es.size : Int) != (es.size : Int)) = true then _ else _) _ _ _ from ?_))))
  rw [if_neg (by simp)]
  have fin : ∀ (Q2 : PySem.Fin → Shared → Prop) (E2 : Value → Shared → Prop) (nx : Nat), (∀ h', IsSit h' it a (rawInt nx) (i + 1) es.size ep → Heap.SameBut it s.heap h' → Q2 (.done (.ret x)) { s with heap := h' }) →
      wpAny (model prog w) A.in1 (setField (.ref it) 0 (rawInt (nx : Nat)) >>= fun _ => setField (.ref it) 1 (rawInt ((i : Int) + 1)) >>= fun _ => ret x) Q2 E2 s := fun Q2 E2 nx q => by
    refine wpAny_bind (put_field ho hd (by simp) fun h1 o1 e1 c1 d1 b1 => wpAny_bind (put_field (s := { s with heap := h1 }) e1 d1 (by simp) fun h2 o2 e2 c2 d2 b2 => wpAny_pure (q h2 ⟨o2, e2, c2.trans (c1.trans hc), ?_⟩ (b1.trans b2))))
    rw [d2]; simp [rawInt]
  cases hM with
  | text hb =>
    refine (show wpAny _ _ (setNext a 0 i ep >>= _) _ _ _ from wpAny_bind (next_text hA hb ?_))
    obtain ⟨e, he, rfl⟩ : ∃ e, (pickOrder (w.params.setOrder a ep) es)[i]? = some e ∧ e.2 = x := by
      rw [List.getElem?_map, Option.map_eq_some_iff] at hx
      obtain ⟨e, he, r⟩ := hx
      exact ⟨e, by rw [← Array.getElem?_toList]; exact he, r⟩
    rw [he]
    exact fin _ _ 0 fun h' I' b' => ⟨_, rfl, wpAny_pure (hQ h' _ I' (.text hb) (fun _ z => z) b')⟩
  | table hb hdr =>
    have hlt : i < es.size := by
      rw [List.getElem?_map] at hx
      rcases Nat.lt_or_ge i es.size with c | c
      · exact c
      · simp [List.getElem?_eq_none, c] at hx
    refine (show wpAny _ _ (setNext a (slotAt t.place i) i ep >>= _) _ _ _ from wpAny_bind (next_table hA hT hb hdr (Nat.le_of_lt hlt) ?_))
    have he : es[i]? = some es[i] := Array.getElem?_eq_getElem hlt
    have hp : t.place[i]? = some (t.place.getD i 0) := by simp [hpl, hlt]
    have hx2 : es[i].2 = x := by
      rw [List.getElem?_map, Array.getElem?_toList, he] at hx
      exact Option.some.inj hx
    rw [he, hp]
    dsimp only
    rw [hx2]
    exact fin _ _ (t.place.getD i 0 + 1) fun h' I' b' => ⟨_, rfl, wpAny_pure (hQ h' _ I' (.table (i := i + 1) hb hdr) (fun _ z => by cases z) b')⟩
  | @drawn pt ps hb hp ht =>
    have hlt : i < ps.length := by
      rcases Nat.lt_or_ge i ps.length with c | c
      · exact c
      · rw [List.getElem?_eq_none (by simpa using c)] at hx; cases hx
    have e1 : ps[i]? = some ps[i] := List.getElem?_eq_getElem hlt
    have hin : ps[i] < es.size := by simpa using hp.mem_iff.mp (List.getElem_mem hlt)
    obtain ⟨y, hy, hx2⟩ : ∃ y, es[ps[i]]? = some y ∧ y.2 = x := by
      rw [List.getElem?_map, e1] at hx
      have := Option.some.inj hx
      exact ⟨es[ps[i]], Array.getElem?_eq_getElem hin, by simpa [hin] using this⟩
    obtain ⟨ot, hot, _, nt, hdt⟩ := id ht
    refine (show wpAny _ _ (seqItems? (.ref pt) >>= _) _ _ _ from wpAny_bind (wpAny_seqItems hot hdt (show wpAny _ _ _ _ _ _ from ?_)))
    dsimp only
    have e2 : ((ps.map fun (j : Nat) => rawInt (j : Int)).toArray)[i]? = some (rawInt (ps[i] : Int)) := by
      simp [e1]
    rw [Int.toNat_natCast, e2]
    refine (show wpAny _ _ (setNextDrawn a ps[i] ep >>= _) _ _ _ from wpAny_bind ?_)
    unfold setNextDrawn
    refine wpAny_bind (wpAny_setState_of hoa hda hf (show wpAny _ _ (if (ep != ep) = true then _ else _) _ _ _ from ?_))
    rw [if_neg (by simp), hy]
    refine wpAny_pure ?_
    rw [hx2]
    refine wpAny_bind (put_field ho hd (by simp) fun h1 o1 e1 c1 d1 b1 => wpAny_pure ⟨_, rfl, wpAny_pure (hQ h1 (.ref pt) ⟨o1, e1, c1.trans hc, ?_⟩ (.drawn hb hp (ht.at fun o e => (b1.2 pt (hnp pt rfl)).trans e)) (fun _ z => z) b1)⟩)
    rw [d1]; simp [rawInt]
theorem sit_end {it a : Addr} {es : Array (Int × Value)} {ep : Nat} {t : SetTable} {first : Value} {ord : List Value} {Q : Option Value → Shared → Prop} (hh : A.handled = none) (hA : SetAt s.heap a es ep t) (hT : TblOk t (ledOf w)) (hI : IsSit s.heap it a first es.size es.size ep) (hM : Mode w a es ep t s.heap es.size first ord)
    (hQ : ∀ h', Heap.ExtBut it s.heap h' → Q none { s with heap := h' }) : wpAny (model prog w) A (pyNext (.ref it)) Q E s := by
  obtain ⟨o, ho, hc, hd⟩ := id hI
  obtain ⟨oa, hoa, _, hda, hf⟩ := id hA
  have hpl : t.place.size = es.size := by simp [SetTable.fits] at hf; exact hf.1
  have hlen : ord.length = es.size := by rw [hM.perm.length_eq]; simp
  unfold pyNext
  refine wpAny_bind (wpAny_attempt (wpAny_callSpecial?_slot (name := Str.ofString "__next__") hI.typeIs st_next (wpAny_call_entry st_next hI.typeIs st_entry ?_ (st_args _))))
  unfold Builtin.«set_iterator.__next__»
  refine (show wpAny _ _ (_ >>= _) _ _ _ from wpAny_bind (show wpAny _ _ (pure (Value.ref it, [])) _ _ _ from wpAny_pure (show wpAny _ _ (fieldsOf (.ref it) >>= _) _ _ _ from wpAny_bind (wpAny_fieldsOf ho hd (show wpAny _ _ (setEntries a >>= _) _ _ _ from wpAny_bind ?_)))))
  refine (show wpAny _ _ (setState a >>= _) _ _ _ from wpAny_bind (wpAny_setState_of hoa hda hf (wpAny_pure (show wpAny _ _ (if ((es.size : Int) != (es.size : Int)) = true then _ else _) _ _ _ from ?_))))
  rw [if_neg (by simp)]
  have fin : ∀ (h1 : Heap) (Q2 : PySem.Fin → Shared → Prop) (E2 : Value → Shared → Prop) , (∀ e h', Heap.ExtBut it h1 h' → Shared.TypeIs { s with heap := h' } e "StopIteration" → E2 e { s with heap := h' }) →
      wpAny (model prog w) A.in1 (newExc (.type "StopIteration") [] >>= fun e => raiseNew e) Q2 E2 { s with heap := h1 } := fun h1 Q2 E2 q => by
    refine wpAny_bind ?_
    simp only [newExc, newTuple]
    refine wpAny_bind (wpAny_newObj_type (wpAny_bind (m := firstArgMember _ _) (wpAny_of_eq (a := Value.none) (by first | rfl | (simp only [firstArgMember]; rfl)) (wpAny_newObj_type ?_ (by size_fits)))) (by size_fits))
    simp only [raiseNew]
    refine wpAny_bind (wpAny_handled ?_)
    rw [show A.in1.handled = none from hh]
    have x0 : Heap.ExtBut it h1 h1 := fun b o hb e => e
    refine wpAny_bind (wpAny_pure (wpAny_throw ?_))
    exact q _ _ ((x0.push _).push _) ⟨_, Heap.get?_push_size _ rfl, rfl⟩
  have fin2 : ∀ (h1 : Heap) (e : Value) (h' : Heap), Heap.ExtBut it s.heap h1 → Heap.ExtBut it h1 h' → Shared.TypeIs { s with heap := h' } e "StopIteration" → wpAny (model prog w) A (isInstance e (.type "StopIteration") >>= fun b => if b = true then pure none else throw e) Q E { s with heap := h' } := fun h1 e h' x1 x2 T => by
    refine wpAny_bind (wpAny_isInstance (b := true) T isSubtype_stop ?_)
    exact wpAny_pure (hQ h' fun b o hb e => x2 b o hb (x1 b o hb e))
  cases hM with
  | text hb =>
    refine (show wpAny _ _ (setNext a 0 es.size ep >>= _) _ _ _ from wpAny_bind (next_text hA hb ?_))
    rw [List.length_map, Array.length_toList] at hlen
    rw [Array.getElem?_eq_none (by omega)]
    exact wpAny_bind (put_field ho hd (by simp) fun h1 o1 e1 c1 d1 b1 => fin h1 _ _ fun e h' x T => fin2 h1 e h' b1.extBut x T)
  | table hb hdr =>
    refine (show wpAny _ _ (setNext a (slotAt t.place es.size) es.size ep >>= _) _ _ _ from wpAny_bind (next_table hA hT hb hdr (Nat.le_refl _) ?_))
    rw [Array.getElem?_eq_none (Nat.le_refl _)]
    exact wpAny_bind (put_field ho hd (by simp) fun h1 o1 e1 c1 d1 b1 => fin h1 _ _ fun e h' x T => fin2 h1 e h' b1.extBut x T)
  | @drawn pt ps hb hp ht =>
    obtain ⟨ot, hot, _, nt, hdt⟩ := id ht
    refine (show wpAny _ _ (seqItems? (.ref pt) >>= _) _ _ _ from wpAny_bind (wpAny_seqItems hot hdt (show wpAny _ _ _ _ _ _ from ?_)))
    dsimp only
    rw [Int.toNat_natCast, Array.getElem?_eq_none (by simpa using Nat.le_of_eq (by simpa using hlen))]
    exact wpAny_bind (put_field ho hd (by simp) fun h1 o1 e1 c1 d1 b1 => wpAny_bind (put_field (s := { s with heap := h1 }) e1 d1 (by simp) fun h2 o2 e2 c2 d2 b2 => fin h2 _ _ fun e h' x T => fin2 h2 e h' (b1.trans b2).extBut x T))
end
end L2
namespace L2
open PySem PySem.Spec PyProof.Rows PySem.W
section
variable {prog : Program} {w : World} {A : Around} {E : Value → Shared → Prop} {s : Shared}
theorem Mode.at {a : Addr} {es : Array (Int × Value)} {ep : Nat} {t : SetTable} {h h' : Heap} {i : Nat} {first : Value} {ord : List Value} (m : Mode w a es ep t h i first ord) (hk : ∀ pt, first = .ref pt → ∀ o, h.get? pt = some o → h'.get? pt = some o) : Mode w a es ep t h' i first ord := by
  cases m with
  | text hb => exact .text hb
  | table hb hd => exact .table hb hd
  | @drawn pt ps hb hp ht => exact .drawn hb hp (ht.at fun o e => hk pt rfl o e)
theorem walks_set (hh : A.handled = none) {it a : Addr} {es : Array (Int × Value)} {ep : Nat} {t : SetTable} {ord : List Value} (pts : List Addr) (hT : TblOk t (ledOf w)) (hne : a ≠ it) (hnp : it ∉ pts) (hlen : ord.length = es.size) :
    Walks prog w A it (it :: a :: pts) [it] es.size (fun i v => ord[i]? = some v) (fun i h => SetAt h a es ep t ∧ ∃ first, IsSit h it a first i es.size ep ∧ Mode w a es ep t h i first ord ∧ ∀ pt, first = .ref pt → pt ∈ pts) where
  sub := fun b hb => by simp at hb; simp [hb]
  frame := fun i h h' st hk => by
    obtain ⟨hA, first, hI, hM, hp⟩ := st
    exact ⟨hA.at fun o e => hk a (by simp) o e, first, hI.at fun o e => hk it (by simp) o e, hM.at fun pt z o e => hk pt (by simp [hp pt z]) o e, hp⟩
  item := fun i s Q E hi st hQ => by
    obtain ⟨hA, first, hI, hM, hp⟩ := st
    refine sit_item hA hT hI hM hne (fun pt z q => hnp (q ▸ hp pt z)) (x := ord[i]'(by omega)) (List.getElem?_eq_getElem _) fun h' first' hI' hM' hr hb => ?_
    exact hQ _ h' s.toks (List.getElem?_eq_getElem _) ⟨hA.at fun o e => (hb.2 a hne).trans e, first', hI', hM', fun pt z => hp pt (hr pt z)⟩ fun b o hb' e => hb.extBut b o (fun z => hb' (by simp [z])) e
  done := fun s Q E st hQ => by
    obtain ⟨hA, first, hI, hM, hp⟩ := st
    exact sit_end hh hA hT hI hM fun h' he => hQ h' s.toks fun b o hb e => he b o (fun z => hb (by simp [z])) e
  self := fun i s Q E st hQ => by
    obtain ⟨hA, first, hI, hM, hp⟩ := st
    refine wpAny_pyIter_slot hI.typeIs st_iter (wpAny_call_entry st_iter hI.typeIs st_ientry (show wpAny _ _ (ret (.ref it)) _ _ s from ?_) (st_iargs _))
    exact wpAny_pure ⟨_, rfl, "set_iterator", _, hI.typeIs, st_next.lookup, hQ⟩
theorem hint_set {a : Addr} {Q : Bool → Shared → Prop} (hT : s.TypeIs (.ref a) "set") (h : Q false s) : wpAny (model prog w) A (Builtin.List.listLengthHint (.ref a)) Q E s := by
  unfold Builtin.List.listLengthHint
  refine wpAny_bind (wpAny_specialOf hT PySem.F.slot_set_len.lookup ?_)
  generalize hid : ("set.__len__" : String) = id0
  wp_delta
  rw [show splitId id0 = some ("set", "__len__") from by subst hid; decide +kernel]
  subst hid
  refine wpAny_bind (wpAny_isInstance (T := "set") (b := true) hT sub_set_self (wpAny_ite_split (fun hab => absurd hab (by decide)) fun _ => wpAny_ite_split (fun _ => ?_) (fun hab => absurd (by decide +kernel) hab)))
  exact wpAny_bind (wpAny_typeOf hT (wpAny_pure h))
theorem items_ord {ord : List Value} {acc : Array Value} {n : Nat} (h : ItemsOf (fun i v => ord[i]? = some v) acc n) (hl : ord.length = n) : acc.toList = ord := by
  refine List.ext_getElem? fun i => ?_
  rw [Array.getElem?_toList]
  rcases Nat.lt_or_ge i acc.size with c | c
  · have := h.2 i acc[i] (Array.getElem?_eq_getElem c)
    rw [this, Array.getElem?_eq_getElem c]
  · rw [Array.getElem?_eq_none c, List.getElem?_eq_none (by rw [hl, ← h.1]; exact c)]
theorem collect_set {a : Addr} {es : Array (Int × Value)} {ep : Nat} {t : SetTable} {Q : List Value → Shared → Prop} (hh : A.handled = none) (hA : SetAt s.heap a es ep t) (hT : TblOk t (ledOf w)) (hz : es.size ≤ 1000)
    (h : ∀ h' d' tk ord, (∀ b o, s.heap.get? b = some o → h'.get? b = some o) → s.heap.objs.size ≤ h'.objs.size → ord.Perm (es.toList.map (·.2)) → Q ord { s with heap := h', drawn := d', toks := tk }) :
    wpAny (model prog w) A (collect (.ref a)) Q E s := by
  have la : a < s.heap.objs.size := by obtain ⟨o, e, _⟩ := hA; exact Heap.lt_size e
  unfold collect
  refine wpAny_bind (wpAny_runValue (codeAny_builtin F.entry_proto_collect ?_))
  rw [Around.under_plainId F.plain_proto_collect _]
  refine (show wpAny _ A.in1 (newList [] >>= fun l => again (.builtin "list.__iadd__" ⟨[l, .ref a], []⟩)) _ _ s from wpAny_bind (wpAny_newObj_type (wpAny_pure ⟨plainId_quiet F.plain_list_iadd _, codeAny_builtin F.entry_list_iadd ?_⟩)))
  rw [Around.under_plainId F.plain_list_iadd _]
  generalize hL : s.heap.objs.size = S
  generalize h1e : s.heap.push { cls := .type "list", data := .seq ([] : List Value).toArray } = h1
  have k1 : ∀ b o, s.heap.get? b = some o → h1.get? b = some o := fun b o e => by subst h1e; exact Heap.get?_push_of_some _ e
  have eS : h1.get? S = some { cls := .type "list", data := .seq ([] : List Value).toArray } := by subst h1e; subst hL; exact Heap.get?_push_size _ rfl
  have hSa : S ≠ a := Ne.symm (Nat.ne_of_lt (hL ▸ la))
  have hsame : Builtin.List.listSameRef (.ref S) (.ref a) = false := by simp [Builtin.List.listSameRef, hSa]
  have hA1 : SetAt h1 a es ep t := hA.at fun o e => k1 a o e
  refine (show wpAny _ A.in1 (Builtin.List.listExtendWith (.ref S) (.ref a) (.ref S)) _ _ { s with heap := h1 } from ?_)
  unfold Builtin.List.listExtendWith
  refine wpAny_bind (wpAny_typeOf (SetAt.typeIs (s := { s with heap := h1 }) hA1) (wpAny_ite_split (fun hab => absurd hab (by rw [hsame]; decide)) fun _ => ?_))
  refine wpAny_bind (pyIter_set (s := { s with heap := h1 }) hA1 hz fun it h2 d2 first ord hit k2 hI hM hpt => ?_)
  refine wpAny_bind (wpAny_holding (hint_set (s := { s with heap := h2, drawn := d2 }) (SetAt.typeIs (s := { s with heap := h2, drawn := d2 }) (hA1.at fun o e => k2 a o e)) ?_))
  refine wpAny_ite_split (fun _ => ?_) fun hab => absurd (by decide) hab
  have e2 : h2.get? S = some { cls := .type "list", data := .seq ([] : List Value).toArray } := k2 S _ eS
  refine wpAny_bind (wpAny_rule (wpAny_bind (show wpAny _ _ (updateSeq S (·.push .none) >>= fun _ => updateSeq S (·.pop)) _ _ _ from wpAny_bind (wpAny_updateSeq e2 rfl (wpAny_updateSeq (Heap.get?_update_self (Obj.mapSeq (·.push Value.none)) e2 rfl) rfl ?_)))))
  have e4 := Heap.get?_update_self (Obj.mapSeq (·.pop)) (Heap.get?_update_self (Obj.mapSeq (·.push Value.none)) e2 rfl) rfl
  have k4 : ∀ b o, b ≠ S → h2.get? b = some o → ((h2.update S (Obj.mapSeq (·.push Value.none))).update S (Obj.mapSeq (·.pop))).get? b = some o := fun b o hb e => (Heap.get?_update_other _ _ (Ne.symm hb)).trans ((Heap.get?_update_other _ _ (Ne.symm hb)).trans e)
  generalize ((h2.update S (Obj.mapSeq (·.push Value.none))).update S (Obj.mapSeq (·.pop))) = h4 at e4 k4 ⊢
  have lS : S < h1.objs.size := Heap.lt_size eS
  have hit' : h1.objs.size ≤ it := hit
  have nS : S ≠ it := by intro z; subst z; omega
  have na : a ≠ it := Nat.ne_of_lt (Nat.lt_trans (hL ▸ la) (Nat.lt_of_lt_of_le lS hit'))
  obtain ⟨pts, hp1, hp2⟩ : ∃ pts : List Addr, (∀ pt, first = .ref pt → pt ∈ pts) ∧ ∀ pt ∈ pts, h1.objs.size ≤ pt ∧ pt ≠ it := by
    by_cases hf : ∃ pt, first = .ref pt
    · obtain ⟨pt, hf⟩ := hf
      exact ⟨[pt], fun q hq => by rw [hf] at hq; cases hq; simp, fun q hq => by rw [List.mem_singleton] at hq; subst hq; exact hpt q hf⟩
    · exact ⟨[], fun q hq => absurd ⟨q, hq⟩ hf, fun _ hq => nomatch hq⟩
  have hlen : ord.length = es.size := by rw [hM.perm.length_eq]; simp
  have W := walks_set (prog := prog) (A := A.in1) hh (es := es) (ep := ep) (ord := ord) pts hT na (fun z => (hp2 it z).2 rfl) hlen
  have hSf : S ∉ it :: a :: pts := by
    simp only [List.mem_cons, not_or]
    exact ⟨nS, hSa, fun z => by have := (hp2 S z).1; omega⟩
  refine wpAny_pure ⟨plainId_quiet F.plain_extend_loop _, codeAny_extend_loopS W.toS (Nat.le_trans hz (by decide)) S hSf (.ref S) es.size 0 { s with heap := h4, drawn := d2 } #[] _ rfl (Nat.zero_le _) ?_ e4 (ItemsOf.nil _) fun s' acc' c' hm hS' hacc => ?_⟩
  · refine ⟨hA1.at fun o e => k4 a o (Ne.symm hSa) (k2 a o e), first, hI.at fun o e => k4 it o (Ne.symm nS) e, hM.at fun pt z o e => k4 pt o (fun q => ?_) e, hp1⟩
    have := (hp2 pt (hp1 pt z)).1
    subst q; omega
  · rw [Moved.eq_with hm]
    refine wpAny_bind (wpAny_load hS' (wpAny_pure ?_))
    rw [items_ord hacc hlen]
    refine h s'.heap d2 s'.toks ord (fun b o e => hm.heap b o ?_ (k4 b o ?_ (k2 b o (k1 b o e)))) (Nat.le_of_lt ?_) hM.perm
    · have lb := Heap.lt_size e
      simp only [List.mem_cons, List.not_mem_nil, or_false, not_or]
      rw [hL] at lb
      exact ⟨Nat.ne_of_lt lb, Nat.ne_of_lt (Nat.lt_trans lb (Nat.lt_of_lt_of_le lS hit'))⟩
    · have lb := Heap.lt_size e
      rw [hL] at lb
      exact Nat.ne_of_lt lb
    · rw [hL]; exact Heap.lt_size hS'
theorem sorted_walk {v : Value} {Q : Value → Shared → Prop} (hcol : wpAny (model prog w) A.in1 (collect v) (fun vs s1 => ∃ lt : Nat → Nat → Bool, vs.length < 64 ∧ StrictOrd vs.length lt ∧
      (2 ≤ vs.length → ∀ h' : Heap, (∀ b o, s1.heap.get? b = some o → h'.get? b = some o) → ∃ κ, (∀ Q : SortKind → Shared → Prop, Q κ { s1 with heap := h' } → wpAny (model prog w) A.in1.in1 (keyKind' vs.toArray) Q E { s1 with heap := h' }) ∧
        ∀ i j C, i < vs.length → j < vs.length → C (lt i j) { s1 with heap := h' } → kas_ask prog w A.in1.in1 κ vs i j C { s1 with heap := h' }) ∧
      ∀ (p : Array Nat) (h' : Heap) (l c : Nat), Pm vs.length p → Up lt p vs.length → s1.heap.objs.size ≤ l → (∀ b o, s1.heap.get? b = some o → h'.get? b = some o) → h'.get? l = some (seqObj "list" (p.toList.map fun i => vs.getD i Value.none).toArray c) → Q (.ref l) { s1 with heap := h' }) E s) :
    wpAny (model prog w) A (call (.builtin "sorted") [v]) Q E s := by
  refine Calls.call_function_entry kind_sorted plain_sorted entry_sorted (args_sorted1 _) ?_
  unfold Builtin.«sorted»
  refine wpAny_bind (m := checkCount "sorted" 1 1 _) (wpAny_pure (wpAny_bind (wpAny_mono hcol (fun vs s1 hx => ?_) fun _ _ e => e)))
  obtain ⟨lt, h64, O, hk, h⟩ := hx
  have sz : vs.length ≤ sizeLine := Nat.le_trans (Nat.le_of_lt h64) (by decide)
  have hL : (s1.heap.push (seqObj "list" vs.toArray 0)).get? s1.heap.objs.size = some (seqObj "list" vs.toArray 0) := Heap.get?_push_size _ rfl
  refine wpAny_bind (wpAny_newList (wpAny_bind (wpAny_holding (wpAny_call_entry slot_list_sort ⟨_, hL, rfl⟩ entry_list_sort ?_ (args_list_sort _)))) sz)
  have kk : ∀ (h' : Heap), (∀ b o, b ≠ s1.heap.objs.size → (s1.heap.push (seqObj "list" vs.toArray 0)).get? b = some o → h'.get? b = some o) → ∀ b o, s1.heap.get? b = some o → h'.get? b = some o := fun h' k b o q => k b o (Nat.ne_of_lt (Heap.lt_size q)) (Heap.get?_push_of_some _ q)
  exact list_sort_data (s := { s1 with heap := s1.heap.push (seqObj "list" vs.toArray 0) }) hL h64 O (fun h2 h' k => hk h2 h' (kk h' k)) fun p h' c pm up k e => ⟨_, rfl, wpAny_pure ⟨_, rfl, h p h' _ c pm up (Nat.le_refl _) (kk h' k) e⟩⟩
end
end L2
namespace L2
open PySem PySem.Spec PyProof.Rows
section
variable {X : Cx} {pins : List (Addr × Obj)} {σ : St} {H : Hp} {s : Shared}
theorem Inv.drw (I : Inv X pins σ H s) (d : Drawn) : Inv X pins σ H { s with drawn := d } := ⟨I.ok, I.os, I.bare, I.base, I.loc, I.cell, I.free, I.freeC, I.pin, I.hok, I.len⟩
theorem dk_ints {K : PySem.W.Frag} {H : Hp} : ∀ {ns : List Int} {vs : List V}, DkAll K H (ns.map PyData.int) vs → vs = ns.map V.int
  | [], [], _ => rfl
  | [], _ :: _, h => by simp [DkAll] at h
  | _ :: _, [], h => by simp [DkAll] at h
  | n :: ns, v :: vs, h => by
    obtain ⟨x, r, e, h1, h2⟩ := DkAll.cons (K := K) (H := H) h
    cases e
    rw [Dk.int h1, dk_ints h2]; rfl
end
end L2
namespace L2
open PySem PySem.Spec PyProof.Rows
noncomputable instance decPD : DecidableEq PyData := fun a b => Classical.propDecidable (a = b)
mutual
def drawsD : PyData → Nat
  | .tuple ds => drawsDs ds + 1
  | _ => 1
def drawsDs : List PyData → Nat
  | [] => 0
  | d :: ds => drawsD d + drawsDs ds
end
theorem hashDs_app (w : World) : ∀ (a b : List PyData), hashDs w (a ++ b) = hashDs w a ++ hashDs w b
  | [], b => rfl
  | x :: a, b => by simp only [List.cons_append, hashDs, hashDs_app w a b]
theorem drawsDs_app : ∀ (a b : List PyData), drawsDs (a ++ b) = drawsDs a + drawsDs b
  | [], b => by simp [drawsDs]
  | x :: a, b => by simp only [List.cons_append, drawsDs, drawsDs_app a b]; omega
section
variable {prog : Program} {w : World}
theorem hash_ok : ∀ (n : Nat) (d : PyData) (u : Value) (as : List Addr) (A : Around) (E : Value → Shared → Prop) (s : Shared) (Q : Int → Shared → Prop), d.depth ≤ n → Cano d = true → Reads s.heap u d as → A.units + n < cLine → Q (hashD w d) { s with toks := s.toks + drawsD d } →
    wpAny (model prog w) A (pyHash u) Q E s := by
  intro n
  induction n with
  | zero =>
    intro d u as A E s Q hd hc hr hu h
    cases hr with
    | int i t => exact (mixKind prog w).pyHash (mixKind_int _ _ _ _) h
    | str x t => exact (mixKind prog w).pyHash (mixKind_str _ _ _ _) h
    | tuple a1 a2 a3 a4 => simp [PyData.depth] at hd
    | none => simp [Cano] at hc
    | bool b => simp [Cano] at hc
    | list a1 a2 a3 a4 => simp [Cano] at hc
    | dict a1 a2 a3 a4 a5 => simp [Cano] at hc
  | succ n ih =>
    intro d u as A E s Q hd hc hr hu h
    cases hr with
    | int i t => exact (mixKind prog w).pyHash (mixKind_int _ _ _ _) h
    | str x t => exact (mixKind prog w).pyHash (mixKind_str _ _ _ _) h
    | none => simp [Cano] at hc
    | bool b => simp [Cano] at hc
    | list a1 a2 a3 a4 => simp [Cano] at hc
    | dict a1 a2 a3 a4 a5 => simp [Cano] at hc
    | @tuple a o items m ds as ho hcl hdt hi =>
      have hT : s.TypeIs (.ref a) "tuple" := ⟨o, ho, hcl⟩
      have hd' : PyData.depthAll ds ≤ n := by simp only [PyData.depth] at hd; omega
      have hc' : CanoAll ds = true := hc
      unfold pyHash
      first | unfold pyHashByItsType | skip
      first | refine wpAny_bind (wpAny_cRoomFor_or (.inr (by omega)) ?_) | skip
      refine wpAny_bind (wpAny_specialOf hT F.slot_tuple_hash.lookup (show wpAny _ _ (if (some (Value.builtin "tuple.__hash__") == some Value.none) = true then _ else _) Q E s from ?_))
      rw [if_neg (by rw [beq_builtin_none]; exact Bool.false_ne_true)]
      refine wpAny_bind (wpAny_specialOf hT F.slot_tuple_hash.lookup (show wpAny _ _ (callSpecialIfBoundUnlessNone? (.ref a) "__hash__" _ >>= _) Q E s from ?_))
      refine wpAny_bind (wpAny_callSpecialIfBoundUnlessNone?_slot hT F.slot_tuple_hash (wpAny_call_entry F.slot_tuple_hash hT F.entry_tuple_hash (show wpAny _ _ (Builtin.Tuple.tupleItemsOf (.ref a) >>= _) _ _ s from ?_) (F.args_tuple_hash_1 _)))
      refine wpAny_bind (wpAny_tupleItemsOf ho hdt (wpAny_bind ?_))
      rw [← Array.forIn_toList]
      refine wpAny_forIn_list _ (fun rest (b : Array Int) s' => ∃ dn lf bs, ds = dn ++ lf ∧ ReadsAll s.heap rest lf bs ∧ CanoAll lf = true ∧ PyData.depthAll lf ≤ n ∧ b.toList = hashDs w dn ∧ s' = { s with toks := s.toks + drawsDs dn }) _ ?_ ?_ _ _ ⟨[], ds, as, rfl, hi, hc', hd', rfl, rfl⟩
      · rintro x rest b s' ⟨dn, lf, bs, rfl, hl, hcl, hdl, hb, rfl⟩
        cases hl with
        | @cons _ _ d ds' as1 bs1 h1 hl' =>
          simp only [CanoAll, Bool.and_eq_true] at hcl
          simp only [PyData.depthAll] at hdl
          refine wpAny_bind (ih d x as1 A.in1 _ { s with toks := s.toks + drawsDs dn } _ (by omega) hcl.1 h1 (by show A.units + 1 + n < _; omega) ?_)
          have fin : ∃ dn' lf' bs', dn ++ d :: ds' = dn' ++ lf' ∧ ReadsAll s.heap rest lf' bs' ∧ CanoAll lf' = true ∧ PyData.depthAll lf' ≤ n ∧ (b.push (hashD w d)).toList = hashDs w dn' ∧ ({ s with toks := s.toks + drawsDs dn + drawsD d } : Shared) = { s with toks := s.toks + drawsDs dn' } :=
            ⟨dn ++ [d], ds', bs1, by simp, hl', hcl.2, by omega, by simp [hb, hashDs_app, hashDs], by simp [drawsDs_app, drawsDs, Nat.add_assoc]⟩
          first
            | exact wpAny_pure fin
            | exact wpAny_bind (wpAny_pure (wpAny_pure fin))
      · rintro b s' ⟨dn, lf, bs, rfl, hl, hcl, hdl, hb, rfl⟩
        cases hl
        rw [List.append_nil] at h
        simp only [hashD, drawsD] at h
        refine (show wpAny _ _ (retInt (Builtin.Tuple.tupleHashOf b.toList)) _ _ _ from ?_)
        rw [hb]
        refine wpAny_ret_mkInt (show wpAny _ _ (if (decide (-(2 : Int) ^ 63 ≤ Builtin.Tuple.tupleHashOf (hashDs w dn)) && decide (Builtin.Tuple.tupleHashOf (hashDs w dn) < 2 ^ 63)) = true then _ else _) Q E _ from ?_)
        unfold reduceHash at h
        by_cases hr : (decide (-(2 : Int) ^ 63 ≤ Builtin.Tuple.tupleHashOf (hashDs w dn)) && decide (Builtin.Tuple.tupleHashOf (hashDs w dn) < 2 ^ 63)) = true
        · rw [if_pos hr] at h ⊢
          exact wpAny_pure (by simpa [Nat.add_assoc] using h)
        · rw [if_neg hr] at h ⊢
          exact wpAny_bind (wpAny_rule (wpAny_pure (by simpa [Nat.add_assoc] using h)))
theorem quiet_ok : ∀ (n q : Nat) (d : PyData) (u : Value) (as : List Addr) (A : Around) (E : Value → Shared → Prop) (s : Shared) (Q : Bool → Shared → Prop), d.depth ≤ n → n < q → Cano d = true → Reads s.heap u d as → Q true s → wpAny (model prog w) A (eqIsQuiet q u) Q E s := by
  intro n
  induction n with
  | zero =>
    intro q d u as A E s Q hd hq hc hr h
    cases hr with
    | int i t => rw [eqIsQuiet_byValue _ rfl]; exact wpAny_pure h
    | str x t => rw [eqIsQuiet_byValue _ rfl]; exact wpAny_pure h
    | tuple a1 a2 a3 a4 => simp [PyData.depth] at hd
    | none => simp [Cano] at hc
    | bool b => simp [Cano] at hc
    | list a1 a2 a3 a4 => simp [Cano] at hc
    | dict a1 a2 a3 a4 a5 => simp [Cano] at hc
  | succ n ih =>
    intro q d u as A E s Q hd hq hc hr h
    cases hr with
    | int i t => rw [eqIsQuiet_byValue _ rfl]; exact wpAny_pure h
    | str x t => rw [eqIsQuiet_byValue _ rfl]; exact wpAny_pure h
    | none => simp [Cano] at hc
    | bool b => simp [Cano] at hc
    | list a1 a2 a3 a4 => simp [Cano] at hc
    | dict a1 a2 a3 a4 a5 => simp [Cano] at hc
    | @tuple a o items m ds as ho hcl hdt hi =>
      have hT : s.TypeIs (.ref a) "tuple" := ⟨o, ho, hcl⟩
      have hd' : PyData.depthAll ds ≤ n := by simp only [PyData.depth] at hd; omega
      have hc' : CanoAll ds = true := hc
      obtain ⟨q', rfl⟩ : ∃ q', q = q' + 1 := ⟨q - 1, by omega⟩
      unfold eqIsQuiet
      refine wpAny_bind (wpAny_specialOf hT F.slot_tuple_eq.lookup (show wpAny _ _ (isInstance (.ref a) (.type "tuple") >>= _) _ _ s from wpAny_bind (wpAny_isInstance hT isSubtype_tuple_tuple ?_)))
      simp only [Bool.not_true, Bool.false_eq_true, if_false]
      refine wpAny_bind (wpAny_seqItems ho hdt (wpAny_bind (show wpAny _ _ (forIn items _ _) _ _ s from ?_)))
      rw [← Array.forIn_toList]
      refine wpAny_forIn_list _ (fun rest r s' => r.1 = none ∧ s' = s ∧ ∃ lf bs, ReadsAll s.heap rest lf bs ∧ CanoAll lf = true ∧ PyData.depthAll lf ≤ n) _ ?_ ?_ _ _ ⟨rfl, rfl, ds, as, hi, hc', hd'⟩
      · rintro v rest r s' ⟨hr, rfl, lf, bs, hl, hcl, hdl⟩
        cases hl with
        | @cons _ _ d ds' as1 bs1 h1 hl' =>
          simp only [CanoAll, Bool.and_eq_true] at hcl
          simp only [PyData.depthAll] at hdl
          refine wpAny_bind (ih q' d v as1 A _ s' _ (by omega) (by omega) hcl.1 h1 ?_)
          simp only [Bool.not_true, Bool.false_eq_true, if_false]
          exact wpAny_pure ⟨rfl, rfl, ds', bs1, hl', hcl.2, by omega⟩
      · rintro ⟨r1, r2⟩ s' ⟨hr, rfl, _⟩
        simp only at hr
        subst hr
        exact wpAny_pure h
mutual
theorem reads_inj {h : Heap} : ∀ {v : Value} {d e : PyData} {as bs : List Addr}, Reads h v d as → Reads h v e bs → Cano d = true → Cano e = true → d = e
  | _, _, _, _, _, .int i t, r, _, _ => by cases r; rfl
  | _, _, _, _, _, .str x t, r, _, _ => by cases r; rfl
  | _, _, _, _, _, .tuple a1 a2 a3 a4, r, hc, hc2 => by
    cases r with
    | tuple b1 b2 b3 b4 =>
      rw [a1] at b1; cases b1
      rw [a3] at b3; cases b3
      rw [readsAll_inj a4 b4 hc hc2]
    | list b1 b2 b3 b4 => simp [Cano] at hc2
    | dict b1 b2 b3 b4 b5 => simp [Cano] at hc2
  | _, _, _, _, _, .none, _, hc, _ => by simp [Cano] at hc
  | _, _, _, _, _, .bool b, _, hc, _ => by simp [Cano] at hc
  | _, _, _, _, _, .list a1 a2 a3 a4, _, hc, _ => by simp [Cano] at hc
  | _, _, _, _, _, .dict a1 a2 a3 a4 a5, _, hc, _ => by simp [Cano] at hc
theorem readsAll_inj {h : Heap} : ∀ {vs : List Value} {ds es : List PyData} {as bs : List Addr}, ReadsAll h vs ds as → ReadsAll h vs es bs → CanoAll ds = true → CanoAll es = true → ds = es
  | _, _, _, _, _, .nil, r, _, _ => by cases r; rfl
  | _, _, _, _, _, .cons r1 r2, r, hc, hc2 => by
    cases r with
    | cons q1 q2 =>
      simp only [CanoAll, Bool.and_eq_true] at hc hc2
      rw [reads_inj r1 q1 hc.1 hc2.1, readsAll_inj r2 q2 hc.2 hc2.2]
end
mutual
theorem reads_but {h h' : Heap} {p : Addr} (hk : ∀ b o, b ≠ p → h.get? b = some o → h'.get? b = some o) (hp : ∀ o vs n, h.get? p = some o → o.data ≠ .seq vs n) : ∀ {v : Value} {d : PyData} {as : List Addr}, Reads h v d as → Cano d = true → Reads h' v d as
  | _, _, _, .int i t, _ => .int i t
  | _, _, _, .str x t, _ => .str x t
  | _, _, _, .tuple a1 a2 a3 a4, hc => .tuple (hk _ _ (fun z => by subst z; exact hp _ _ _ a1 a3) a1) a2 a3 (readsAll_but hk hp a4 hc)
  | _, _, _, .none, hc => by simp [Cano] at hc
  | _, _, _, .bool b, hc => by simp [Cano] at hc
  | _, _, _, .list a1 a2 a3 a4, hc => by simp [Cano] at hc
  | _, _, _, .dict a1 a2 a3 a4 a5, hc => by simp [Cano] at hc
theorem readsAll_but {h h' : Heap} {p : Addr} (hk : ∀ b o, b ≠ p → h.get? b = some o → h'.get? b = some o) (hp : ∀ o vs n, h.get? p = some o → o.data ≠ .seq vs n) : ∀ {vs : List Value} {ds : List PyData} {as : List Addr}, ReadsAll h vs ds as → CanoAll ds = true → ReadsAll h' vs ds as
  | _, _, _, .nil, _ => .nil
  | _, _, _, .cons r1 r2, hc => by
    simp only [CanoAll, Bool.and_eq_true] at hc
    exact .cons (reads_but hk hp r1 hc.1) (readsAll_but hk hp r2 hc.2)
end
theorem eqv_dec {x y : PyData} (hx : Cano x = true) (hy : Cano y = true) : PyData.eqv x y = decide (x = y) := by
  by_cases h : x = y
  · subst h; rw [eqv_self x hx, decide_eq_true rfl]
  · rw [decide_eq_false h]; exact (eqv_ne hx hy).mpr h
variable (prog w) in
noncomputable def dataKind : HeapKind prog w PyData where
  is := fun h d a => KeyTree d ∧ ∃ as, Reads h (.ref a) d as
  hash := hashD w
  draws := drawsD
  room := fun A => A.units + 6 < cLine
  inj := fun ⟨kx, _, rx⟩ ⟨ky, _, ry⟩ => reads_inj rx ry kx.can ky.can
  keeps := fun ⟨k, as, r⟩ ho hd hs => ⟨k, as, reads_but (fun b o hb e => (hs.2 b hb).trans e) (fun o' vs n e q => by rw [ho] at e; cases e; rw [hd] at q; cases q) r k.can⟩
  pyHash := fun hu ⟨k, as, r⟩ h => hash_ok 6 _ _ as _ _ _ _ k.dep k.can r hu h
  eqBool := fun hu ⟨kx, as, rx⟩ ⟨ky, bs, ry⟩ h => SeqAt.eqAt_reads _ _ _ _ _ _ _ _ rx ry kx.lay ky.lay (by have := kx.dep; omega) _ _ _ _ (by rw [eqv_dec kx.can ky.can]; exact h)
  quiet := fun ⟨k, as, r⟩ h => quiet_ok 6 8 _ _ as _ _ _ _ k.dep (by decide) k.can r h
end
end L2
namespace L2
open PySem PySem.Spec PyProof.Rows
section
variable {X : Cx} {pins : List (Addr × Obj)} {σ : St} {H : Hp} {s : Shared} {a : Addr} {e : Expr} {te : AE} {τ : ASt} {μ : M}
theorem VE.run {R1 : AV → M → Prop} (he : VE X e te) (I : Inv X pins σ H s) (hs : StA X.K H τ σ) (hc : Cn X.K μ H) (h : te τ μ R1) :
    wpAny (model X.prog X.w) X.A (eval e X.env) (fun u s1 => ∃ x v μ1 H1, Inv X pins σ H1 s1 ∧ RelV v u ∧ Kp H H1 ∧ Cn X.K μ1 H1 ∧ RelA X.K H1 x v ∧ R1 x μ1) X.xe s :=
  wpAny_mono (he pins s σ H (fun v H1 => ∃ x μ1, Kp H H1 ∧ Cn X.K μ1 H1 ∧ RelA X.K H1 x v ∧ R1 x μ1) I ⟨τ, μ, R1, hs, hc, h, fun x μ1 v H1 S c r q => ⟨x, μ1, S, c, r, q⟩⟩)
    (fun _ _ ⟨v, H1, I1, rv, x, μ1, S, c, r, q⟩ => ⟨x, v, μ1, H1, I1, rv, S, c, r, q⟩) fun _ _ e => e
theorem RelD.mem {K : PySem.W.Frag} {H : Hp} {kvs : List (PyData × AV)} {xs : List (PyData × Addr × Value)} (h : RelD K H kvs xs) : ∀ x ∈ xs, KeyTree x.1 ∧ Dk K H x.1 (.ref x.2.1) := by
  unfold RelD at h
  induction h with
  | nil => exact fun _ h => nomatch h
  | @cons p q l1 l2 r t ih =>
    intro x hx
    rcases List.mem_cons.mp hx with rfl | hx
    · obtain ⟨e, k, d, _⟩ := r
      rw [← e]; exact ⟨k, d⟩
    · exact ih x hx
theorem RelD.val {K : PySem.W.Frag} {H : Hp} {kvs : List (PyData × AV)} {xs : List (PyData × Addr × Value)} (h : RelD K H kvs xs) (d : PyData) : match valA kvs d with | some x => ∃ p v, atKey xs d = some p ∧ RelA K H x v ∧ RelV v p.2 | none => atKey xs d = none := by
  unfold RelD at h
  induction h with
  | nil => exact rfl
  | @cons p q l1 l2 r t ih =>
    obtain ⟨p1, p2⟩ := p
    obtain ⟨q1, q2⟩ := q
    obtain ⟨e, k, dk, v, ra, rv⟩ := r
    dsimp only at e
    subst e
    unfold valA atKey at ih ⊢
    by_cases hk : p1 = d
    · simp only [List.find?_cons, decide_eq_true hk]; exact ⟨q2, v, rfl, ra, rv⟩
    · simp only [List.find?_cons, decide_eq_false hk]; exact ih
theorem RelD.len {K : PySem.W.Frag} {H : Hp} {kvs : List (PyData × AV)} {xs : List (PyData × Addr × Value)} (h : RelD K H kvs xs) : kvs.length = xs.length := Paired.length h
theorem RelD.any {K : PySem.W.Frag} {H : Hp} {kvs : List (PyData × AV)} {xs : List (PyData × Addr × Value)} (h : RelD K H kvs xs) (d : PyData) : (kvs.any fun kv => decide (kv.1 = d)) = (atKey xs d).isSome := by
  unfold RelD at h
  induction h with
  | nil => rfl
  | @cons p q l1 l2 r t ih =>
    obtain ⟨p1, p2⟩ := p
    obtain ⟨q1, q2⟩ := q
    have e : p1 = q1 := r.1
    subst e
    rw [List.any_cons, ih]
    unfold atKey
    by_cases hk : p1 = d
    · simp only [List.find?_cons, decide_eq_true hk, Bool.true_or]; rfl
    · simp only [List.find?_cons, decide_eq_false hk, Bool.false_or]
theorem RelD.put {K : PySem.W.Frag} {H : Hp} {kvs : List (PyData × AV)} {xs : List (PyData × Addr × Value)} (h : RelD K H kvs xs) {d : PyData} {b : Addr} {x : AV} {v : V} {u : Value} (k : KeyTree d) (dk : Dk K H d (.ref b)) (ra : RelA K H x v) (rv : RelV v u) : RelD K H (putA kvs d x) (storedH xs d b u) := by
  have hm : RelD K H (kvs.map fun kv => if kv.1 = d then (kv.1, x) else kv) (xs.map (putAt d u)) := by
    unfold RelD at h ⊢
    induction h with
    | nil => exact .nil
    | @cons p q l1 l2 r t ih =>
      refine .cons ?_ ih
      obtain ⟨e, k', dk', v', ra', rv'⟩ := r
      unfold putAt
      dsimp only
      by_cases hk : p.1 = d
      · rw [if_pos hk, if_pos (e ▸ hk)]; exact ⟨e, k', dk', v, ra, rv⟩
      · rw [if_neg hk, if_neg (e ▸ hk)]; exact ⟨e, k', dk', v', ra', rv'⟩
  unfold putA storedH
  rw [h.any d]
  split
  · exact hm
  · exact Paired.snoc h ⟨rfl, k, dk, v, ra, rv⟩
variable {o i value : Expr} {pos pos' : Pos} {td ty tv : AE}
end
end L2
namespace L2
open PySem PySem.Spec PyProof.Rows
abbrev ZObj (h : Heap) (z TI TO : Addr) (f0 : Value) (b1 : Bool) : Prop :=
  h.get? z = some { cls := .type "zip", dict := none, data := .fields #[f0, .bool b1, .bool false, .ref TI, .ref TO], slots := #[] }
section
variable {prog : Program} {w : World} {A : Around} {E : Value → Shared → Prop} {s : Shared}
theorem any_alive {M : Model} {a : Addr} {Q : Option Obj → Shared → Prop} (h : Q (s.heap.get? a) s) : wpAny M A (loadIfAlive a) Q E s := fun _ _ _ => h
theorem owned_busy {z TI TO T : Addr} {b1 : Bool} {Q : Bool → Shared → Prop} (hz : ZObj s.heap z TI TO (rawInt T) b1) (hT : ∃ o, s.heap.get? T = some o) (h : ∀ h', ZObj h' z TI TO (rawInt T) true → Heap.SameBut z s.heap h' → Q false { s with heap := h' }) :
    wpAny (model prog w) A (Builtin.SmallTypes.ownedTupleIsFree (.ref z)) Q E s := by
  obtain ⟨oT, hoT⟩ := hT
  unfold Builtin.SmallTypes.ownedTupleIsFree
  refine wpAny_bind (wpAny_field hz rfl (x := rawInt T) rfl (show wpAny _ _ (loadIfAlive ((T : Int).toNat) >>= _) _ _ _ from wpAny_bind (any_alive ?_)))
  rw [Int.toNat_natCast, hoT]
  refine (show wpAny _ _ (field (.ref z) 1 >>= _) _ _ _ from wpAny_bind (wpAny_field hz rfl (x := .bool b1) rfl ?_))
  cases b1 with
  | true => exact wpAny_pure (h s.heap hz (Heap.SameBut.refl _ _))
  | false => exact wpAny_bind (wpAny_setField_rec hz (by simp) fun h1 hz1 hs1 => wpAny_pure (h h1 hz1 hs1))
theorem zip_more {z TI TO i1 i2 l1 l2 T : Addr} {k1 k2 : Nat} {b1 : Bool} {xs ys : Array Value} {x y : Value} {Q : Value → Shared → Prop} (D : ZipApart z TI TO i1 i2 l1 l2)
    (hz : ZObj s.heap z TI TO (rawInt T) b1) (hT : ∃ o, s.heap.get? T = some o) (hTI : IsPair s.heap TI (.ref i1) (.ref i2))
    (h1 : s.heap.IsListIter i1 l1 k1) (h2 : s.heap.IsListIter i2 l2 k2) (hl1 : s.heap.IsList l1 xs) (hl2 : s.heap.IsList l2 ys) (hx : xs[k1]? = some x) (hy : ys[k2]? = some y)
    (hQ : ∀ h', ZObj h' z TI TO (rawInt T) true → h'.IsListIter i1 l1 (k1 + 1) → h'.IsListIter i2 l2 (k2 + 1) → IsPair h' s.heap.objs.size x y →
      (∀ c o, c ≠ z → c ≠ i1 → c ≠ i2 → s.heap.get? c = some o → h'.get? c = some o) → Q (.ref s.heap.objs.size) { s with heap := h' }) :
    wpAny (model prog w) A (Builtin.«zip.__next__» ⟨[.ref z], []⟩) (fun fin s' => ∃ v, fin = .done (.ret v) ∧ Q v s') E s := by
  refine (show wpAny _ _ (field (.ref z) 2 >>= _) _ _ _ from wpAny_bind (wpAny_field hz rfl (x := .bool false) rfl (show wpAny _ _ (field (.ref z) 3 >>= _) _ _ _ from wpAny_bind (wpAny_field hz rfl (x := .ref TI) rfl (wpAny_bind (wpAny_seqItems hTI rfl (show wpAny _ _ (Builtin.SmallTypes.ownedTupleIsFree (.ref z) >>= _) _ _ _ from wpAny_bind (owned_busy hz hT fun g1 hz1 hs1 => ?_))))))))
  simp only [Bool.false_eq_true, if_false]
  refine wpAny_bind ?_
  rw [← Array.forIn_toList]
  simp only [List.forIn_cons, List.forIn_nil]
  refine wpAny_bind (wpAny_bind (wpAny_holding (show wpAny _ _ (Builtin.SmallTypes.nextOf (.ref i1) >>= _) _ _ _ from wpAny_bind (wpAny_nextOf_list_item (h1.extBut hs1.extBut D.i1z) (hl1.extBut hs1.extBut D.l1z) hx fun g2 h12 hs2 => wpAny_pure (wpAny_pure ?_)))))
  refine wpAny_bind (wpAny_bind (wpAny_holding (show wpAny _ _ (Builtin.SmallTypes.nextOf (.ref i2) >>= _) _ _ _ from wpAny_bind (wpAny_nextOf_list_item ((h2.extBut hs1.extBut D.i2z).extBut hs2.extBut D.i12.symm) ((hl2.extBut hs1.extBut D.l2z).extBut hs2.extBut D.l2i1) hy fun g3 h23 hs3 => wpAny_pure (wpAny_pure (wpAny_pure (wpAny_bind (wpAny_newTuple (wpAny_pure ⟨_, rfl, ?_⟩) (hsz := (show 2 ≤ sizeLine by decide))))))))))
  have sz : g3.objs.size = s.heap.objs.size := by rw [hs3.1, hs2.1, hs1.1]
  rw [sz]
  have up : ∀ c o, c ≠ z → c ≠ i1 → c ≠ i2 → s.heap.get? c = some o → g3.get? c = some o := fun c o c1 c2 c3 e => hs3.extBut _ _ c3 (hs2.extBut _ _ c2 (hs1.extBut _ _ c1 e))
  refine hQ _ (Heap.get?_push_of_some _ (hs3.extBut _ _ D.i2z.symm (hs2.extBut _ _ D.i1z.symm hz1))) ((h12.extBut hs3.extBut D.i12).at fun o e => Heap.get?_push_of_some _ e) (h23.at fun o e => Heap.get?_push_of_some _ e) ?_ fun c o c1 c2 c3 e => Heap.get?_push_of_some _ (up c o c1 c2 c3 e)
  rw [← sz]
  exact Heap.get?_push_size _ rfl
theorem zip_over {z TI TO i1 i2 l1 l2 T : Addr} {k1 : Nat} {b1 : Bool} {xs : Array Value} {Q : PySem.Fin → Shared → Prop} (hh : A.handled = none) (D : ZipApart z TI TO i1 i2 l1 l2)
    (hz : ZObj s.heap z TI TO (rawInt T) b1) (hT : ∃ o, s.heap.get? T = some o) (hTI : IsPair s.heap TI (.ref i1) (.ref i2))
    (h1 : s.heap.IsListIter i1 l1 k1) (hl1 : s.heap.IsList l1 xs) (hx : xs[k1]? = none)
    (hE : ∀ h' e, (∀ c o, c ≠ z → c ≠ i1 → c ≠ i2 → s.heap.get? c = some o → h'.get? c = some o) → (∃ o, h'.get? e = some o ∧ o.cls = .type "StopIteration") → E (.ref e) { s with heap := h' }) :
    wpAny (model prog w) A (Builtin.«zip.__next__» ⟨[.ref z], []⟩) Q E s := by
  refine (show wpAny _ _ (field (.ref z) 2 >>= _) _ _ _ from wpAny_bind (wpAny_field hz rfl (x := .bool false) rfl (show wpAny _ _ (field (.ref z) 3 >>= _) _ _ _ from wpAny_bind (wpAny_field hz rfl (x := .ref TI) rfl (wpAny_bind (wpAny_seqItems hTI rfl (show wpAny _ _ (Builtin.SmallTypes.ownedTupleIsFree (.ref z) >>= _) _ _ _ from wpAny_bind (owned_busy hz hT fun g1 hz1 hs1 => ?_))))))))
  simp only [Bool.false_eq_true, if_false]
  refine wpAny_bind ?_
  rw [← Array.forIn_toList]
  simp only [List.forIn_cons, List.forIn_nil]
  refine wpAny_bind (wpAny_bind (wpAny_holding (show wpAny _ _ (Builtin.SmallTypes.nextOf (.ref i1) >>= _) _ _ _ from wpAny_bind (wpAny_nextOf_list_end hh (h1.extBut hs1.extBut D.i1z) (hl1.extBut hs1.extBut D.l1z) hx fun g2 e hs2 he => ?_))))
  exact hE g2 e (fun c o c1 c2 c3 q => hs2 c o c2 (hs1.extBut _ _ c1 q)) he
theorem zt_len : typeLookup (.type "zip") "__len__" = pure none := by rw [typeLookup_type, builtinLookup_eq_fast]; kernel_rfl
theorem zt_hint : typeLookup (.type "zip") "__length_hint__" = pure none := by rw [typeLookup_type, builtinLookup_eq_fast]; kernel_rfl
structure PairsAt (h : Heap) (no : List Addr) (base : Nat) (as : List Addr) (ps : List (Value × Value)) : Prop where
  rise : as.Pairwise (· < ·)
  new : ∀ T ∈ as, base ≤ T ∧ T ∉ no
  at_ : Paired (fun T p => IsPair h T p.1 p.2) as ps
theorem PairsAt.kp {h h' : Heap} {no : List Addr} {base : Nat} {as : List Addr} {ps : List (Value × Value)} (x : PairsAt h no base as ps) (hk : ∀ b o, b ∉ no → h.get? b = some o → h'.get? b = some o) : PairsAt h' no base as ps := by
  obtain ⟨a, b, c⟩ := x
  refine ⟨a, b, ?_⟩
  clear a
  induction c with
  | nil => exact .nil
  | @cons T p l1 l2 r t ih => exact .cons (hk T _ (b T List.mem_cons_self).2 r) (ih fun U hU => b U (List.mem_cons_of_mem _ hU))
theorem paired_mem {α β : Type} {F : α → β → Prop} {xs : List α} {ys : List β} (h : Paired F xs ys) : ∀ x ∈ xs, ∃ y, F x y := by
  induction h with
  | nil => exact fun _ h => nomatch h
  | @cons a b l1 l2 r t ih =>
    intro x hx
    rcases List.mem_cons.mp hx with rfl | hx
    · exact ⟨b, r⟩
    · exact ih x hx
def ZSt (h : Heap) (z TI TO i1 i2 l1 l2 : Addr) (xs ys : Array Value) (i : Nat) : Prop :=
  IsPair h TI (.ref i1) (.ref i2) ∧ h.IsListIter i1 l1 i ∧ h.IsListIter i2 l2 i ∧ h.IsList l1 xs ∧ h.IsList l2 ys ∧ ((ZObj h z TI TO .none false ∧ ∃ a b, IsPair h TO a b) ∨ ∃ (T : Addr) (b1 : Bool), ZObj h z TI TO (rawInt T) b1 ∧ (∃ o, h.get? T = some o) ∧ (∃ o, h.get? TO = some o) ∧ T ≠ z ∧ T ≠ TO ∧ T ≠ i1 ∧ T ≠ i2)
theorem zip_step {z TI TO i1 i2 l1 l2 : Addr} {i : Nat} {xs ys : Array Value} {x y : Value} {Q : Option Value → Shared → Prop} (D : ZipApart z TI TO i1 i2 l1 l2) (st : ZSt s.heap z TI TO i1 i2 l1 l2 xs ys i) (hx : xs[i]? = some x) (hy : ys[i]? = some y)
    (hQ : ∀ h' T, ZSt h' z TI TO i1 i2 l1 l2 xs ys (i + 1) → IsPair h' T x y → s.heap.objs.size ≤ T → (∀ c o, c ≠ z → c ≠ TO → c ≠ i1 → c ≠ i2 → s.heap.get? c = some o → h'.get? c = some o) → Q (some (.ref T)) { s with heap := h' }) :
    wpAny (model prog w) A (pyNext (.ref z)) Q E s := by
  obtain ⟨a1, a2, a3, a4, a5, a6⟩ := st
  have lz : ∀ {c o}, s.heap.get? c = some o → s.heap.objs.size ≠ c := fun e => Nat.ne_of_gt (Heap.lt_size e)
  have li1 : s.heap.objs.size ≠ i1 := by obtain ⟨_, e, _⟩ := a2; exact lz e
  have li2 : s.heap.objs.size ≠ i2 := by obtain ⟨_, e, _⟩ := a3; exact lz e
  rcases a6 with ⟨hz, a, b, hTO⟩ | ⟨T, b1, hz, hT, ⟨oO, hoO⟩, t1, t2, t3, t4⟩
  · refine wpAny_pyNext_zip_item D hz a1 hTO a2 a3 a4 a5 hx hy fun h' z1 z2 z3 z4 z5 _ hk => ?_
    refine hQ h' _ ⟨hk _ _ D.TIz D.TITO D.TIi1 D.TIi2 a1, z3, z4, a4.at fun o e => hk _ o D.l1z D.l1TO D.l1i1 D.l1i2 e, a5.at fun o e => hk _ o D.l2z D.l2TO D.l2i1 D.l2i2 e, .inr ⟨_, false, z1, ⟨_, z5⟩, ⟨_, z2⟩, lz hz, lz hTO, li1, li2⟩⟩ z5 (Nat.le_refl _) hk
  · have hTy : s.TypeIs (.ref z) "zip" := ⟨_, hz, rfl⟩
    unfold pyNext
    refine wpAny_bind (wpAny_attempt (wpAny_callSpecial?_slot (name := Str.ofString "__next__") hTy F.slot_zip_next (wpAny_call_entry F.slot_zip_next hTy F.entry_zip_next (zip_more D hz hT a1 a2 a3 a4 a5 hx hy fun h' z1 z3 z4 z5 hk => ?_) (F.args_zip_next_1 _))))
    have hk2 : ∀ c o, c ≠ z → c ≠ TO → c ≠ i1 → c ≠ i2 → s.heap.get? c = some o → h'.get? c = some o := fun c o c1 _ c3 c4 e => hk c o c1 c3 c4 e
    obtain ⟨oT, hoT⟩ := hT
    exact wpAny_pure (hQ h' _ ⟨hk _ _ D.TIz D.TIi1 D.TIi2 a1, z3, z4, a4.at fun o e => hk2 _ o D.l1z D.l1TO D.l1i1 D.l1i2 e, a5.at fun o e => hk2 _ o D.l2z D.l2TO D.l2i1 D.l2i2 e, .inr ⟨T, true, z1, ⟨oT, hk _ _ t1 t3 t4 hoT⟩, ⟨oO, hk _ _ D.TOz D.TOi1 D.TOi2 hoO⟩, t1, t2, t3, t4⟩⟩ z5 (Nat.le_refl _) hk2)
theorem zip_stop {z TI TO i1 i2 l1 l2 : Addr} {xs ys : Array Value} {i : Nat} {Q : Option Value → Shared → Prop} (hh : A.handled = none) (D : ZipApart z TI TO i1 i2 l1 l2) (st : ZSt s.heap z TI TO i1 i2 l1 l2 xs ys i) (hx : xs[i]? = none)
    (hQ : ∀ h', (∀ c o, c ≠ z → c ≠ TO → c ≠ i1 → c ≠ i2 → s.heap.get? c = some o → h'.get? c = some o) → Q none { s with heap := h' }) : wpAny (model prog w) A (pyNext (.ref z)) Q E s := by
  obtain ⟨a1, a2, a3, a4, a5, a6⟩ := st
  rcases a6 with ⟨hz, a, b, hTO⟩ | ⟨T, b1, hz, hT, ⟨oO, hoO⟩, t1, t2, t3, t4⟩
  · exact wpAny_pyNext_zip_end hh D hz a1 hTO a2 a3 a4 a5 (.inl hx) hQ
  · have hTy : s.TypeIs (.ref z) "zip" := ⟨_, hz, rfl⟩
    unfold pyNext
    refine wpAny_bind (wpAny_attempt (wpAny_callSpecial?_slot (name := Str.ofString "__next__") hTy F.slot_zip_next (wpAny_call_entry F.slot_zip_next hTy F.entry_zip_next (zip_over hh D hz hT a1 a2 a4 hx fun h' e hk he => ?_) (F.args_zip_next_1 _))))
    obtain ⟨o, ho, hc⟩ := he
    refine wpAny_bind (wpAny_isInstance (T := "StopIteration") (b := true) ⟨o, ho, hc⟩ isSubtype_stop ?_)
    exact wpAny_pure (hQ _ fun c o c1 _ c3 c4 e => hk c o c1 c3 c4 e)
theorem zip_loop {R : Result → Shared → Prop} {base : Nat} {z TI TO i1 i2 l1 l2 S : Addr} {xs ys : Array Value} {res : Value} (hh : A.handled = none) (D : ZipApart z TI TO i1 i2 l1 l2) (hSn : S ∉ [z, TI, TO, i1, i2, l1, l2]) (hz : xs.size = ys.size) (hn : xs.size ≤ 1000) :
    ∀ (m i : Nat) (s : Shared) (acc : Array Value) (c : Nat) (as : List Addr), m + i = xs.size → ZSt s.heap z TI TO i1 i2 l1 l2 xs ys i → s.heap.get? S = some { cls := .type "list", dict := none, data := .seq acc c, slots := #[] } → acc.toList = as.map Value.ref → PairsAt s.heap [S, z, TO, i1, i2] base as ((xs.toList.zip ys.toList).take i) → base ≤ s.heap.objs.size →
      (∀ h' acc' c' as', (∀ b o, b ∉ [S, z, TO, i1, i2] → s.heap.get? b = some o → h'.get? b = some o) → h'.get? S = some { cls := .type "list", dict := none, data := .seq acc' c', slots := #[] } → acc'.toList = as'.map Value.ref → PairsAt h' [S, z, TO, i1, i2] base as' (xs.toList.zip ys.toList) → R (.ok (.ret res)) { s with heap := h' }) →
      codeAny (model prog w) A (.builtin "list.extend.loop" ⟨[.ref S, .ref z, res], []⟩) R s := by
  simp only [List.mem_cons, List.not_mem_nil, or_false, not_or] at hSn
  obtain ⟨n1, n2, n3, n4, n5, n6, n7⟩ := hSn
  intro m
  induction m with
  | zero =>
    intro i s acc c as hm st hS eA hP hB hR
    refine codeAny_builtin F.entry_extend_loop ?_
    rw [Around.under_plainId F.plain_extend_loop _]
    refine (show wpAny _ A.in1 (pyNext (.ref z) >>= _) _ _ s from wpAny_bind (zip_stop (show A.in1.handled = none from hh) D st (by rw [Array.getElem?_eq_none (by omega)]) fun h' hk => ?_))
    have hk2 : ∀ b o, b ∉ [S, z, TO, i1, i2] → s.heap.get? b = some o → h'.get? b = some o := fun b o hb e => by
      simp only [List.mem_cons, List.not_mem_nil, or_false, not_or] at hb
      exact hk b o hb.2.1 hb.2.2.1 hb.2.2.2.1 hb.2.2.2.2 e
    refine wpAny_pure (hR h' acc c as hk2 (hk S _ n1 n3 n4 n5 hS) eA ?_)
    have := hP.kp hk2
    rwa [List.take_of_length_le (by simp; omega)] at this
  | succ m ih =>
    intro i s acc c as hm st hS eA hP hB hR
    have hlt : i < xs.size := by omega
    have hx : xs[i]? = some xs[i] := Array.getElem?_eq_getElem hlt
    have hlt2 : i < ys.size := by omega
    have hy : ys[i]? = some ys[i] := Array.getElem?_eq_getElem hlt2
    have hacc : acc.size = i := by
      have h1 := Paired.length hP.at_
      have h2 := congrArg List.length eA
      simp at h1 h2; omega
    refine codeAny_builtin F.entry_extend_loop ?_
    rw [Around.under_plainId F.plain_extend_loop _]
    refine (show wpAny _ A.in1 (pyNext (.ref z) >>= _) _ _ s from wpAny_bind (zip_step D st hx hy fun h' T st' hp hT hk => ?_))
    have hS' := hk S _ n1 n3 n4 n5 hS
    have up : ∀ b o, b ≠ S → h'.get? b = some o → (h'.update S (Obj.mapSeq (·.push (Value.ref T)))).get? b = some o := fun b o hb e => (Heap.get?_update_other _ _ (Ne.symm hb)).trans e
    have kk : ∀ b o, b ∉ [S, z, TO, i1, i2] → s.heap.get? b = some o → (h'.update S (Obj.mapSeq (·.push (Value.ref T)))).get? b = some o := fun b o hb e => by
      simp only [List.mem_cons, List.not_mem_nil, or_false, not_or] at hb
      exact up b o hb.1 (hk b o hb.2.1 hb.2.2.1 hb.2.2.2.1 hb.2.2.2.2 e)
    refine (show wpAny _ A.in1 (updateSeq S (·.push (.ref T)) >>= _) _ _ _ from wpAny_bind (wpAny_updateSeq hS' rfl (wpAny_pure ⟨plainId_quiet F.plain_extend_loop _, ih (i + 1) _ (acc.push (.ref T)) _ (as ++ [T]) (by omega) ?_ (Heap.get?_update_self _ hS' rfl) (by rw [Array.toList_push, eA, List.map_append]; rfl) ?_ ?_ fun h2 acc' c' as' hk2 hS2 eA2 hP2 => ?_⟩) (by rw [hacc]; exact Nat.le_trans (by omega) (show 1000 ≤ sizeLine by decide)) (by show (acc.push _).size ≤ sizeLine + 1; rw [Array.size_push, hacc]; exact Nat.le_trans (by omega) (show 1001 ≤ sizeLine + 1 by decide))))
    · obtain ⟨a1, a2, a3, a4, a5, a6⟩ := st'
      refine ⟨up _ _ (Ne.symm n2) a1, a2.at fun o e => up _ o (Ne.symm n4) e, a3.at fun o e => up _ o (Ne.symm n5) e, a4.at fun o e => up _ o (Ne.symm n6) e, a5.at fun o e => up _ o (Ne.symm n7) e, ?_⟩
      rcases a6 with ⟨hz, a, b, hTO⟩ | ⟨T, b1, hz, ⟨oT, hoT⟩, ⟨oO, hoO⟩, t1⟩
      · exact .inl ⟨up _ _ (Ne.symm n1) hz, a, b, up _ _ (Ne.symm n3) hTO⟩
      · refine .inr ⟨T, b1, up _ _ (Ne.symm n1) hz, ?_, ⟨oO, up _ _ (Ne.symm n3) hoO⟩, t1⟩
        by_cases hTS : T = S
        · subst hTS; exact ⟨_, Heap.get?_update_self _ hS' rfl⟩
        · exact ⟨oT, up _ _ hTS hoT⟩
    · have lt : ∀ {c o}, s.heap.get? c = some o → T ≠ c := fun e => Nat.ne_of_gt (Nat.lt_of_lt_of_le (Heap.lt_size e) hT)
      have t0 : T ≠ S := lt hS
      have e1 : (xs.toList.zip ys.toList).take (i + 1) = (xs.toList.zip ys.toList).take i ++ [(xs[i], ys[i])] := by
        rw [List.take_succ]
        have : (xs.toList.zip ys.toList)[i]? = some (xs[i], ys[i]) := by
          rw [List.getElem?_eq_getElem (by simp; omega), List.getElem_zip]; rfl
        rw [this]; rfl
      obtain ⟨_, ⟨_, b2, _⟩, ⟨_, b3, _⟩, _, _, b6⟩ := st
      have tz : T ≠ z ∧ T ≠ TO := by
        rcases b6 with ⟨hz, a, b, hTO⟩ | ⟨T, b1, hz, _, ⟨oO, hoO⟩, _⟩
        · exact ⟨lt hz, lt hTO⟩
        · exact ⟨lt hz, lt hoO⟩
      have hP' := hP.kp kk
      rw [e1]
      refine ⟨?_, fun U hU => ?_, Paired.snoc hP'.at_ (up _ _ t0 hp)⟩
      · rw [List.pairwise_append]
        refine ⟨hP.rise, List.pairwise_singleton _ _, fun U hU V hV => ?_⟩
        rw [List.mem_singleton.mp hV]
        obtain ⟨_, q⟩ := paired_mem hP.at_ U hU
        exact Nat.lt_of_lt_of_le (Heap.lt_size q) hT
      · rcases List.mem_append.mp hU with hU | hU
        · exact hP.new U hU
        · rw [List.mem_singleton.mp hU]
          refine ⟨Nat.le_trans hB hT, ?_⟩
          simp only [List.mem_cons, List.not_mem_nil, or_false, not_or]
          exact ⟨t0, tz.1, tz.2, lt b2, lt b3⟩
    · have := Heap.lt_size hp
      rw [Heap.size_update]
      exact Nat.le_trans hB (Nat.le_trans hT (Nat.le_of_lt this))
    · exact hR h2 acc' c' as' (fun b o hb e => hk2 b o hb (kk b o hb e)) hS2 eA2 hP2
theorem collect_zip {z TI TO i1 i2 l1 l2 : Addr} {xs ys : Array Value} {Q : List Value → Shared → Prop} (hh : A.handled = none) (D : ZipApart z TI TO i1 i2 l1 l2) (st : ZSt s.heap z TI TO i1 i2 l1 l2 xs ys 0) (hz : xs.size = ys.size) (hn : xs.size ≤ 1000) (hzT : s.TypeIs (.ref z) "zip")
    (h : ∀ h' as, (∀ b o, b ∉ [s.heap.objs.size, z, TO, i1, i2] → s.heap.get? b = some o → h'.get? b = some o) → PairsAt h' [s.heap.objs.size, z, TO, i1, i2] s.heap.objs.size as (xs.toList.zip ys.toList) → Q (as.map Value.ref) { s with heap := h' }) :
    wpAny (model prog w) A (collect (.ref z)) Q E s := by
  have lz : ∀ {c o}, s.heap.get? c = some o → s.heap.objs.size ≠ c := fun e => Nat.ne_of_gt (Heap.lt_size e)
  unfold collect
  refine wpAny_bind (wpAny_runValue (codeAny_builtin F.entry_proto_collect ?_))
  rw [Around.under_plainId F.plain_proto_collect _]
  refine (show wpAny _ A.in1 (newList [] >>= fun l => again (.builtin "list.__iadd__" ⟨[l, .ref z], []⟩)) _ _ s from wpAny_bind (wpAny_newObj_type (wpAny_pure ⟨plainId_quiet F.plain_list_iadd _, codeAny_builtin F.entry_list_iadd ?_⟩)))
  rw [Around.under_plainId F.plain_list_iadd _]
  obtain ⟨a1, a2, a3, a4, a5, a6⟩ := st
  have nz : s.heap.objs.size ≠ z := by
    obtain ⟨o, e, _⟩ := (show ∃ o, s.heap.get? z = some o ∧ _ from hzT)
    exact lz e
  have ni1 : s.heap.objs.size ≠ i1 := by obtain ⟨_, e, _⟩ := a2; exact lz e
  have ni2 : s.heap.objs.size ≠ i2 := by obtain ⟨_, e, _⟩ := a3; exact lz e
  have nl1 : s.heap.objs.size ≠ l1 := by obtain ⟨_, e, _⟩ := a4; exact lz e
  have nl2 : s.heap.objs.size ≠ l2 := by obtain ⟨_, e, _⟩ := a5; exact lz e
  have nTI : s.heap.objs.size ≠ TI := lz a1
  have nTO : s.heap.objs.size ≠ TO := by
    rcases a6 with ⟨_, a, b, e⟩ | ⟨T, b1, _, _, ⟨oO, e⟩, _⟩
    · exact lz e
    · exact lz e
  generalize hS : s.heap.objs.size = S at nz ni1 ni2 nl1 nl2 nTI nTO h ⊢
  generalize h1e : s.heap.push { cls := .type "list", data := .seq ([] : List Value).toArray } = h1
  have k1 : ∀ b o, s.heap.get? b = some o → h1.get? b = some o := fun b o e => by subst h1e; exact Heap.get?_push_of_some _ e
  have eS : h1.get? S = some { cls := .type "list", data := .seq ([] : List Value).toArray } := by subst h1e; subst hS; exact Heap.get?_push_size _ rfl
  have T1 : Shared.TypeIs { s with heap := h1 } (.ref z) "zip" := by
    obtain ⟨o, e, c⟩ := (show ∃ o, s.heap.get? z = some o ∧ _ from hzT)
    exact ⟨o, k1 z o e, c⟩
  have hsame : Builtin.List.listSameRef (.ref S) (.ref z) = false := by simp [Builtin.List.listSameRef, nz]
  refine (show wpAny _ A.in1 (Builtin.List.listExtendWith (.ref S) (.ref z) (.ref S)) _ _ { s with heap := h1 } from ?_)
  unfold Builtin.List.listExtendWith
  refine wpAny_bind (wpAny_typeOf T1 (wpAny_ite_split (fun hab => absurd hab (by rw [hsame]; decide)) fun _ => wpAny_bind ?_))
  refine wpAny_pyIter_slot T1 F.slot_zip_iter (wpAny_call_entry F.slot_zip_iter T1 F.entry_zip_iter (show wpAny _ _ (ret (.ref z)) _ _ _ from wpAny_pure ⟨_, rfl, "zip", _, T1, F.slot_zip_next.lookup, ?_⟩) (F.args_zip_iter_1 _))
  refine wpAny_bind (wpAny_holding ?_)
  unfold Builtin.List.listLengthHint
  refine wpAny_bind (wpAny_specialOf T1 zt_len (show wpAny _ A.in1 (specialOf (Value.ref z) (Str.ofString "__length_hint__") >>= _) _ _ _ from wpAny_bind (wpAny_specialOf T1 zt_hint (wpAny_pure ?_))))
  refine (show wpAny _ A.in1 (rule "list.extend.makes-room" >>= fun _ => Builtin.List.listTouch (.ref S) >>= fun _ => again (.builtin "list.extend.loop" ⟨[.ref S, .ref z, .ref S], []⟩)) _ _ _ from wpAny_bind (wpAny_rule (wpAny_bind (show wpAny _ _ (updateSeq S (·.push .none) >>= fun _ => updateSeq S (·.pop)) _ _ _ from wpAny_bind (wpAny_updateSeq eS rfl (wpAny_updateSeq (Heap.get?_update_self (Obj.mapSeq (·.push Value.none)) eS rfl) rfl ?_))))))
  have e4 := Heap.get?_update_self (Obj.mapSeq (·.pop)) (Heap.get?_update_self (Obj.mapSeq (·.push Value.none)) eS rfl) rfl
  have k4 : ∀ b o, b ≠ S → h1.get? b = some o → ((h1.update S (Obj.mapSeq (·.push Value.none))).update S (Obj.mapSeq (·.pop))).get? b = some o := fun b o hb e => (Heap.get?_update_other _ _ (Ne.symm hb)).trans ((Heap.get?_update_other _ _ (Ne.symm hb)).trans e)
  have z4 : S ≤ ((h1.update S (Obj.mapSeq (·.push Value.none))).update S (Obj.mapSeq (·.pop))).objs.size := by
    rw [Heap.size_update, Heap.size_update]; exact Nat.le_of_lt (Heap.lt_size eS)
  generalize ((h1.update S (Obj.mapSeq (·.push Value.none))).update S (Obj.mapSeq (·.pop))) = h4 at e4 k4 z4 ⊢
  have kk : ∀ b o, b ≠ S → s.heap.get? b = some o → h4.get? b = some o := fun b o hb e => k4 b o hb (k1 b o e)
  refine wpAny_pure ⟨plainId_quiet F.plain_extend_loop _, zip_loop (base := S) hh D ?_ hz hn xs.size 0 { s with heap := h4 } #[] _ [] (by omega) ⟨kk _ _ (Ne.symm nTI) a1, a2.at fun o e => kk _ o (Ne.symm ni1) e, a3.at fun o e => kk _ o (Ne.symm ni2) e, a4.at fun o e => kk _ o (Ne.symm nl1) e, a5.at fun o e => kk _ o (Ne.symm nl2) e, ?_⟩ e4 rfl ⟨List.Pairwise.nil, (fun _ h => nomatch h), .nil⟩ z4 fun h' acc' c' as' hk' hS' eA hP => ?_⟩
  · simp only [List.mem_cons, List.not_mem_nil, or_false, not_or]
    exact ⟨nz, nTI, nTO, ni1, ni2, nl1, nl2⟩
  · rcases a6 with ⟨q1, a, b, q2⟩ | ⟨T, b1, q1, ⟨oT, q2⟩, ⟨oO, q3⟩, q4⟩
    · exact .inl ⟨kk _ _ (Ne.symm nz) q1, a, b, kk _ _ (Ne.symm nTO) q2⟩
    · exact .inr ⟨T, b1, kk _ _ (Ne.symm nz) q1, ⟨oT, kk _ _ (fun z => by subst z; exact absurd (Heap.lt_size q2) (by rw [hS]; exact Nat.lt_irrefl _)) q2⟩, ⟨oO, kk _ _ (Ne.symm nTO) q3⟩, q4⟩
  · refine wpAny_bind (wpAny_load hS' (wpAny_pure ?_))
    rw [eA]
    refine h h' as' (fun b o hb e => hk' b o hb (kk b o ?_ e)) hP
    exact fun z => hb (by simp [z])
theorem tuple_zip (z TI TO i1 i2 l1 l2 : Addr) (xs ys : Array Value) (D : ZipApart z TI TO i1 i2 l1 l2) (hz : xs.size = ys.size) (hn : xs.size ≤ 1000) :
    MeetsIn prog w (Builtin.«tuple.__new__» ⟨[.type "tuple", .ref z], []⟩) (fun A R s => A.handled = none ∧ ZSt s.heap z TI TO i1 i2 l1 l2 xs ys 0 ∧ (∃ f0 b1, ZObj s.heap z TI TO f0 b1) ∧
      ∀ (h' : Heap) (as : List Addr), (∀ b o, b ∉ [s.heap.objs.size, z, TO, i1, i2] → s.heap.get? b = some o → h'.get? b = some o) → PairsAt h' [s.heap.objs.size, z, TO, i1, i2] s.heap.objs.size as (xs.toList.zip ys.toList) →
        R (.ok (.ret (.ref h'.objs.size))) { s with heap := h'.push { cls := .type "tuple", data := .seq (as.map Value.ref).toArray } }) :=
  .of_wp fun A R s h => by
    obtain ⟨hp, g, dr, tk, os⟩ := s
    obtain ⟨hh, st, ⟨f0, b1, ho⟩, h⟩ := h
    have q1 := sub_tuple_self
    have q2 := init_tuple_lookup
    have q3 := madeHere_tuple
    have hT : Shared.TypeIs ⟨hp, g, dr, tk, os⟩ (.ref z) "zip" := ⟨_, ho, rfl⟩
    wp_walk using wpAny_loadPart' ho, wpAny_typeOf hT, collect_zip (A := A.in1) (s := ⟨hp, g, dr, tk, os⟩) hh D st hz hn hT
    intro h' as hk hP
    have hlen : (as.map Value.ref).toArray.size ≤ sizeLine := by
      have := Paired.length hP.at_
      simp at this ⊢
      exact Nat.le_trans (by omega) (show 1000 ≤ sizeLine by decide)
    refine (show wpAny _ _ (Builtin.Tuple.tupleExact (as.map Value.ref).toArray >>= fun v => ret v) _ _ _ from ?_)
    unfold Builtin.Tuple.tupleExact
    exact wpAny_bind (wpAny_newObj_type (wpAny_pure ⟨_, rfl, h h' as hk hP⟩) hlen)
end
end L2
namespace L2
open PySem PySem.Spec PyProof.Rows
section
variable {X : Cx} {pins : List (Addr × Obj)} {σ : St} {s : Shared}
theorem Inv.trackP : ∀ {as : List Addr} {ps : List (V × V)} {us : List (Value × Value)} {H : Hp}, Inv X pins σ H s → as.Pairwise (· < ·) → (∀ a ∈ as, FpOk X pins H a) → Paired (fun T p => IsPair s.heap T p.1 p.2) as us → Paired (fun (p : V × V) (u : Value × Value) => RelV p.1 u.1 ∧ RelV p.2 u.2) ps us →
    ∃ H', Inv X pins σ H' s ∧ (∀ b o, H b = some o → H' b = some o) ∧ Paired (fun a (p : V × V) => H' a = some (.tup [p.1, p.2])) as ps ∧ ∀ b, b ∉ as → H' b = H b
  | [], _, _, H, I, _, _, h1, h2 => by cases h1; cases h2; exact ⟨H, I, fun _ _ e => e, .nil, fun _ _ => rfl⟩
  | a :: as, _, _, H, I, hp, hf, h1, h2 => by
    cases h1 with
    | @cons _ u _ us r1 t1 =>
    cases h2 with
    | @cons p _ ps _ r2 t2 =>
      have fa := hf a List.mem_cons_self
      have I1 : Inv X pins σ (upd H a (.tup [p.1, p.2])) s := I.track fa ⟨by show 2 ≤ sizeLine; decide, [u.1, u.2], .cons r2.1 (.cons r2.2 .nil), _, r1, rfl, _, rfl⟩
      have hlt := (List.pairwise_cons.mp hp).1
      obtain ⟨H', I', k', q', o'⟩ := Inv.trackP I1 (List.pairwise_cons.mp hp).2 (fun b hb => by
        obtain ⟨f0, f1⟩ := hf b (List.mem_cons_of_mem _ hb)
        exact ⟨by rw [upd_ne (Nat.ne_of_gt (hlt b hb))]; exact f0, f1⟩) t1 t2
      have na : a ∉ as := fun h => Nat.lt_irrefl _ (hlt a h)
      refine ⟨H', I', fun b o e => k' b o (by rw [upd_ne (ne_of_none e fa.1)]; exact e), .cons (by rw [o' a na]; exact upd_same) q', fun b hb => ?_⟩
      rw [o' b (fun h => hb (List.mem_cons_of_mem _ h)), upd_ne (fun z => hb (by simp [z]))]
theorem Kp.all {H H' : Hp} (h : ∀ b o, H b = some o → H' b = some o) : Kp H H' := ⟨fun b xs e => h b _ e, fun b o u e => h b _ e⟩
theorem Cn.allK {K : PySem.W.Frag} {μ : M} {H H' : Hp} (c : Cn K μ H) (h : ∀ b o, H b = some o → H' b = some o) : Cn K μ H' := fun a m e => by
  obtain ⟨o, ho, r⟩ := c a m e
  exact ⟨o, h a o ho, r.kp (Kp.all h)⟩
def vTZip (ta tb : AE) : AE := fun τ μ R => ta τ μ fun x μ1 => tb τ μ1 fun y μ2 => match x, y with
  | .R a, .R b => opt (μ2 a) fun m => opt (μ2 b) fun n => match m, n with
    | .lst us, .lst vs => opt (dats us) fun ds => opt (dats vs) fun es => (ds.length = es.length ∧ ds.length ≤ 1000) ∧ R (.D (.tuple (List.zipWith (fun d e => PyData.tuple [d, e]) ds es))) μ2
    | _, _ => False
  | _, _ => False
theorem pair_vals : ∀ {xs ys : List V} {us vs : List Value}, Vals xs us → Vals ys vs → Paired (fun (p : V × V) (u : Value × Value) => RelV p.1 u.1 ∧ RelV p.2 u.2) (xs.zip ys) (us.zip vs)
  | _, _, _, _, .nil, _ => by simp; exact .nil
  | _, _, _, _, .cons _ _, .nil => by simp; exact .nil
  | _, _, _, _, .cons r1 t1, .cons r2 t2 => .cons ⟨r1, r2⟩ (pair_vals t1 t2)
theorem dk_pairs {K : PySem.W.Frag} {H' : Hp} : ∀ {as : List Addr} {xs ys : List V} {ds es : List PyData}, Paired (fun a (p : V × V) => H' a = some (.tup [p.1, p.2])) as (xs.zip ys) → DkAll K H' ds xs → DkAll K H' es ys → DkAll K H' (List.zipWith (fun d e => PyData.tuple [d, e]) ds es) (as.map V.ref)
  | as, xs, ys, [], es, h, h1, h2 => by
    have := h1.nil
    subst this
    simp at h
    cases h
    exact dks_nil
  | as, xs, ys, d :: ds, [], h, h1, h2 => by
    have := h2.nil
    subst this
    simp at h
    cases h
    exact dks_nil
  | as, xs, ys, d :: ds, e :: es, h, h1, h2 => by
    obtain ⟨x, r, rfl, a1, a2⟩ := h1.cons
    obtain ⟨y, q, rfl, b1, b2⟩ := h2.cons
    cases h with
    | cons r1 t1 => exact dks_cons (dk_tup r1 (dks_cons a1 (dks_cons b1 dks_nil))) (dk_pairs t1 a2 b2)
theorem ve_tzip {e1 e2 : Expr} {ta tb : AE} {p p2 pos pos2 : Pos} (hc : X.calm = true) (hg : Gl X "tuple") (hm : X.mg "tuple" = none) (hg2 : Gl X "zip") (hm2 : X.mg "zip" = none) (h1 : VE X e1 ta) (h2 : VE X e2 tb)
    (hs : starEach [.Call (.Name "zip" p2) [e1, e2] [] pos2] X.env = [(false, eval (.Call (.Name "zip" p2) [e1, e2] [] pos2) X.env)] := by rfl) (hs2 : starEach [e1, e2] X.env = (false, eval e1 X.env) :: starEach [e2] X.env := by rfl) (hs3 : starEach [e2] X.env = [(false, eval e2 X.env)] := by rfl) (hpl : (backTo pos2 (starEach [e2] X.env)).any (·.1) = false := by rfl) :
    VE X (.Call (.Name "tuple" p) [.Call (.Name "zip" p2) [e1, e2] [] pos2] [] pos) (vTZip ta tb) := by
  intro pins s σ H Q I ⟨τ, μ, R, hst, hcn, h, hq⟩
  refine wpAny_Call_Name_kw (ld_blt I hg hm boot_tuple (PyProof.Rows.callWith_type1 ?_ hs rfl))
  rw [hs]
  refine Calls.spliced_cons (wpAny_Call_Name_kw (ld_blt I hg2 hm2 boot_zip (PyProof.Rows.callWith_type1 ?_ hs2 hpl)))
  rw [hs2]
  refine Calls.spliced_cons (wpAny_mono (h1.run I hst hcn h) (fun u1 s1 ⟨x, v, μ1, H1, I1, rv, S1, c1, rx, q1⟩ => ?_) fun _ _ e => e)
  rw [hs3]
  refine Calls.spliced_cons (wpAny_mono (h2.run I1 (hst.kp S1) c1 q1) (fun u2 s2 ⟨y, v2, μ2, H2, I2, rv2, S2, c2, ry, q2⟩ => Calls.spliced_nil ?_) fun _ _ e => e)
  split at q2
  · rename_i a b _
    obtain ⟨m, em, q2⟩ := opt_e q2
    obtain ⟨n, en, q2⟩ := opt_e q2
    split at q2
    · rename_i us vs
      obtain ⟨ds, ed, q2⟩ := opt_e q2
      obtain ⟨es, ee, q2⟩ := opt_e q2
      obtain ⟨⟨hlen, hmax⟩, q2⟩ := q2
      obtain ⟨oa, ha, ws, rfl, ra⟩ := c2 _ _ em
      obtain ⟨ob, hb, zs, rfl, rb⟩ := c2 _ _ en
      have rx2 := rx.kp S2
      cases rx2
      cases rv
      cases ry
      cases rv2
      obtain ⟨its1, r1, pl1, _⟩ := I2.list (SqL.of (K := X.K) ha)
      obtain ⟨its2, r2, pl2, _⟩ := I2.list (SqL.of (K := X.K) hb)
      have da := ra.dats ed
      have db := rb.dats ee
      have l1 := r1.length
      have l2 := r2.length
      have l3 := da.length
      have l4 := db.length
      have la : a < s2.heap.objs.size := by obtain ⟨o, _, e, _⟩ := pl1; exact Heap.lt_size e
      have lb : b < s2.heap.objs.size := by obtain ⟨o, _, e, _⟩ := pl2; exact Heap.lt_size e
      refine call_zip_2 pl1.isList pl2.isList fun h' z1 z2 z3 z4 z5 z6 kz => Calls.spliced_nil ?_
      generalize hB : s2.heap.objs.size = B at la lb z1 z2 z3 z4 z5 z6
      have D : ZipApart (B + 4) (B + 2) (B + 3) B (B + 1) a b := by
        have f : ∀ {c : Addr} (k : Nat), c < B → c ≠ B + k := fun k h => Nat.ne_of_lt (Nat.lt_of_lt_of_le h (Nat.le_add_right B k))
        exact ⟨(show (B + 2 : Nat) ≠ B + 4 by omega), (show (B + 3 : Nat) ≠ B + 4 by omega), (show (B : Nat) ≠ B + 4 by omega), (show (B + 1 : Nat) ≠ B + 4 by omega), (show (B + 2 : Nat) ≠ B + 3 by omega), (show (B + 2 : Nat) ≠ B by omega), (show (B + 2 : Nat) ≠ B + 1 by omega), (show (B + 3 : Nat) ≠ B by omega), (show (B + 3 : Nat) ≠ B + 1 by omega), (show (B : Nat) ≠ B + 1 by omega), f 4 la, f 3 la, f 0 la, f 1 la, f 4 lb, f 3 lb, f 0 lb, f 1 lb⟩
      have hz1 : its1.toArray.size = its2.toArray.size := by simp; omega
      have hz2 : its1.toArray.size ≤ 1000 := by simp; omega
      refine callType_newIn F.called_tuple (by decide) (F.typeCall_tuple_1 _) (F.newCall_tuple_1 _) (fun obj => F.args_object_init_2 obj _) F.entry_tuple_new
        (tuple_zip (B + 4) (B + 2) (B + 3) B (B + 1) a b its1.toArray its2.toArray D hz1 hz2) ⟨I.ok.hd hc, ⟨z2, z4, z5, pl1.isList.at fun o e => kz _ o e, pl2.isList.at fun o e => kz _ o e, .inl ⟨z1, _, _, z3⟩⟩, ⟨_, _, z1⟩, fun h3 as hk hP => ⟨⟨_, Heap.get?_push_size _ rfl, rfl⟩, ?_⟩⟩
      have kk : ∀ c o, s2.heap.get? c = some o → h3.get? c = some o := fun c o e => by
        have lc := Heap.lt_size e
        rw [hB] at lc
        refine hk c o ?_ (kz c o e)
        simp only [List.mem_cons, List.not_mem_nil, or_false, not_or]
        have z6' : h'.objs.size = B + 5 := z6
        refine ⟨?_, ?_, ?_, ?_, ?_⟩
        · show ¬ c = h'.objs.size
          rw [z6']; exact Nat.ne_of_lt (Nat.lt_of_lt_of_le lc (by omega))
        all_goals exact Nat.ne_of_lt (Nat.lt_of_lt_of_le lc (by omega))
      have I3 : Inv X pins σ H2 { s2 with heap := h3 } := I2.kept kk
      have hfp : ∀ T ∈ as, FpOk X pins H2 T := fun T hT => by
        have hge : s2.heap.objs.size ≤ T := by
          have := (hP.new T hT).1
          have z6' : h'.objs.size = B + 5 := z6
          have : h'.objs.size ≤ T := this
          rw [hB]; omega
        exact I2.fpOk hge (I2.hok.fresh hge)
      have hpv := pair_vals r1 r2
      obtain ⟨H4, I4, k4, p4, _⟩ := Inv.trackP (s := { s2 with heap := h3 }) I3 hP.rise hfp hP.at_ (by simpa using hpv)
      have S4 := Kp.all k4
      have hn4 := I4.hok.fresh (Nat.le_refl h3.objs.size)
      have dk := dk_pairs p4 (DkAll.kp S4 _ _ da) (DkAll.kp S4 _ _ db)
      have hal : (as.map V.ref).length ≤ sizeLine := by
        have := Paired.length hP.at_
        simp at this ⊢
        exact Nat.le_trans (by omega) (show 1000 ≤ sizeLine by decide)
      refine ⟨.ref h3.objs.size, _, I4.laid (a := h3.objs.size) (o := .tup (as.map V.ref)) (t' := s2.toks) (fun b o e => Heap.get?_push_of_some _ e) (Nat.le_refl _) ⟨hal, as.map Value.ref, refsV as, IsTup.new _ _⟩, rfl, ?_⟩
      have S5 : Kp H4 (upd H4 h3.objs.size (.tup (as.map V.ref))) := Kp.new hn4 _
      exact hq (.D (.tuple (List.zipWith (fun d e => PyData.tuple [d, e]) ds es))) _ _ _ (((S1.trans S2).trans S4).trans S5) ((c2.allK k4).over hn4) (dk_tup (K := X.K) upd_same (DkAll.kp S5 _ _ dk)) q2
    · exact q2.elim
  · exact q2.elim
where
  refsV : ∀ (as : List Addr), Vals (as.map V.ref) (as.map Value.ref)
    | [] => .nil
    | a :: as => .cons rfl (refsV as)
def aInt : AC := fun xs μ R => match xs with
  | [.D (.bool b)] => R (.D (.int (if b then 1 else 0))) μ
  | [.D (.int i)] => R (.D (.int i)) μ
  | _ => False
theorem c_int : VCall X (.type "int") aInt := by
  intro pins s σ H xs us Q I r ⟨as, μ, R, ra, hc, h, hq⟩
  unfold aInt at h
  split at h
  · cases ra with
    | cons r1 r2 =>
      cases r2
      cases RelA.bl r1
      exact call_int1 pins s σ H _ us Q I r (.inr ⟨_, rfl, hq _ _ _ _ Kp.refl hc ra_int h⟩)
  · cases ra with
    | cons r1 r2 =>
      cases r2
      cases RelA.int r1
      exact call_int1 pins s σ H _ us Q I r (.inl ⟨_, rfl, hq _ _ _ _ Kp.refl hc ra_int h⟩)
  · exact h.elim
def txts : List AV → Option (List Str)
  | [] => some []
  | .D (.str z) :: xs => (txts xs).map (z :: ·)
  | _ :: _ => none
theorem txts_rel {K : PySem.W.Frag} {H : Hp} : ∀ {xs : List AV} {vs : List V} {zs : List Str}, RelAs K H xs vs → txts xs = some zs → vs = zs.map V.str
  | [], _, zs, r, e => by cases r; cases e; rfl
  | x :: xs, _, zs, r, e => by
    cases r with
    | cons r1 r2 =>
      unfold txts at e
      split at e
      · rename_i h; cases h
      · rename_i z xs' h
        cases h
        obtain ⟨ys, ey, rfl⟩ := Option.map_eq_some_iff.mp e
        cases RelA.str r1
        rw [txts_rel r2 ey]; rfl
      · cases e
def mJoin : AV → AC := fun x xs μ R => match x, xs with
  | .D (.str z), [.R p] => opt (μ p) fun m => match m with
    | .lst ys => opt (txts ys) fun zs => (zs.map (·.length)).sum + zs.length * z.length ≤ 16777216 ∧ R (.D (.str (Txt.join z zs))) μ
    | _ => False
  | _, _ => False
theorem m_join : VMt X "str.join" mJoin := by
  intro pins s σ H x xs v us Q I rx r ⟨a, as, μ, R, ra, rs, hc, h, hq⟩
  unfold mJoin at h
  split at h
  · obtain ⟨m, em, h⟩ := opt_e h
    split at h
    · obtain ⟨zs, ez, h⟩ := opt_e h
      obtain ⟨o, ho, ws, rfl, rr⟩ := hc _ _ em
      cases RelA.str ra
      cases rs with
      | cons r1 r2 =>
        cases r2
        cases r1
        rw [txts_rel rr ez] at ho
        exact mt_join_h pins s σ H _ _ v us Q I rx r ⟨_, _, zs, rfl, rfl, ho, h.1, hq _ _ _ _ Kp.refl hc ra_str h.2⟩
    · exact h.elim
  · exact h.elim
def vLRng1 (ta : AE) : AE := fun τ μ R => ta τ μ fun x μ1 => match x with
  | .D (.int n) => (0 ≤ n ∧ n ≤ 1000) ∧ ∀ p, μ1 p = none → R (.R p) (updM μ1 p (.lst (rngA 0 n.toNat)))
  | _ => False
theorem rng_rel {K : PySem.W.Frag} {H : Hp} : ∀ (n : Nat) (lo : Int), RelAs K H (rngA lo n) ((List.range n).map fun (i : Nat) => V.int (lo + i))
  | 0, lo => .nil
  | n + 1, lo => by
    rw [List.range_succ_eq_map, List.map_cons, List.map_map]
    refine .cons (by simpa using ra_int) ?_
    have := rng_rel (K := K) (H := H) n (lo + 1)
    have e : (fun (i : Nat) => V.int (lo + 1 + i)) = (fun (i : Nat) => V.int (lo + i)) ∘ Nat.succ := by
      funext i
      simp only [Function.comp]
      congr 1
      omega
    rw [e] at this
    exact this
theorem rng_vals {acc : Array Value} {n : Nat} {lo : Int} (h : ItemsOf (fun i v => ∃ t, v = .int (lo + i * 1) t) acc n) : Vals ((List.range n).map fun (i : Nat) => V.int (lo + i)) acc.toList := by
  obtain ⟨h1, h2⟩ := h
  have go : ∀ (m : Nat) (us : List Value), us.length = m → (∀ j v, us[j]? = some v → ∃ t, v = Value.int (lo + (j : Nat) * 1) t) → Vals ((List.range m).map fun (i : Nat) => V.int (lo + i)) us := by
    intro m
    induction m with
    | zero => intro us hl _; rw [List.eq_nil_of_length_eq_zero hl]; exact .nil
    | succ m ih =>
      intro us hl hu
      have hne : us ≠ [] := by intro z; rw [z] at hl; cases hl
      rw [← List.dropLast_concat_getLast hne, List.range_succ, List.map_append]
      have hd : us.dropLast.length = m := by rw [List.length_dropLast]; omega
      refine Paired.snoc (ih us.dropLast hd fun j v e => ?_) ?_
      · have hj : j < us.dropLast.length := (List.getElem?_eq_some_iff.mp e).1
        rw [List.getElem?_dropLast, if_pos (by omega)] at e
        exact hu j v e
      · obtain ⟨t, e⟩ := hu m (us.getLast hne) (by rw [List.getLast_eq_getElem]; simp [hl])
        rw [e]
        exact ⟨t, by rw [Int.mul_one]⟩
  exact go n acc.toList (by simpa using h1) fun j v e => h2 j v (by rw [← Array.getElem?_toList]; exact e)
theorem rng_made {H1 : Hp} {lo hi : Int} {tk : Nat} {t u v : Tok} {Q : VK} {s1 : Shared} (hcm : X.calm = true) (I1 : Inv X pins σ H1 s1) (hlo : -1000 ≤ lo) (hle : lo ≤ hi) (hhi : hi ≤ 1000)
    (q : ∀ l, H1 l = none → Q (.ref l) (upd H1 l (.lst ((List.range (hi - lo).toNat).map fun (i : Nat) => V.int (lo + i))))) :
    wpAny (model X.prog X.w) X.A (call (.type "list") [.ref s1.heap.objs.size]) (EP X pins σ Q) X.xe { s1 with heap := s1.heap.push { cls := .type "range", data := .fields #[.int lo t, .int hi u, .int 1 v] }, toks := tk } := by
  have hsize : Builtin.Range.rangeSize lo hi 1 = ((hi - lo).toNat : Nat) := by rw [rangeSize_one]; split <;> omega
  have hn : (hi - lo).toNat ≤ 2000 := by omega
  refine call_list_range (s := { s1 with heap := s1.heap.push { cls := .type "range", data := .fields #[.int lo t, .int hi u, .int 1 v] }, toks := tk }) (I1.ok.hd hcm) (IsRange.new ..) (small_one (by omega) (by omega) (by omega) (by omega)) hsize (Nat.le_trans hn (by decide)) fun h2 t2 acc c k2 e2 ia => ?_
  have hp : s1.heap.objs.size ≤ (s1.heap.push { cls := .type "range", data := .fields #[.int lo t, .int hi u, .int 1 v] }).objs.size := by rw [Heap.size_push]; exact Nat.le_succ _
  have hz : ((List.range (hi - lo).toNat).map fun (i : Nat) => V.int (lo + i)).length ≤ sizeLine := by rw [List.length_map, List.length_range]; exact Nat.le_trans hn (show 2000 ≤ sizeLine by decide)
  refine ⟨.ref _, _, I1.laid (t' := t2) (o := .lst _) (fun b o e => k2 b o (Heap.get?_push_of_some _ e)) hp ⟨hz, acc.toList, c, rng_vals ia, by simpa using e2⟩, rfl, q _ (I1.hok.fresh hp)⟩
theorem ve_lrng1 {e1 : Expr} {ta : AE} {p p2 pos pos2 : Pos} (hc : X.calm = true) (hg : Gl X "list") (hm : X.mg "list" = none) (hg2 : Gl X "range") (hm2 : X.mg "range" = none) (h1 : VE X e1 ta)
    (hs : starEach [.Call (.Name "range" p2) [e1] [] pos2] X.env = [(false, eval (.Call (.Name "range" p2) [e1] [] pos2) X.env)] := by rfl) (hs2 : starEach [e1] X.env = [(false, eval e1 X.env)] := by rfl) :
    VE X (.Call (.Name "list" p) [.Call (.Name "range" p2) [e1] [] pos2] [] pos) (vLRng1 ta) := by
  intro pins s σ H Q I ⟨τ, μ, R, hst, hcn, h, hq⟩
  refine wpAny_Call_Name_kw (ld_blt I hg hm boot_list (PyProof.Rows.callWith_type1 ?_ hs rfl))
  rw [hs]
  refine Calls.spliced_cons (wpAny_Call_Name_kw (ld_blt I hg2 hm2 boot_range (PyProof.Rows.callWith_type1 ?_ hs2 rfl)))
  rw [hs2]
  refine Calls.spliced_cons (wpAny_mono (h1.run I hst hcn h) (fun u1 s1 ⟨x, v, μ1, H1, I1, rv, S1, c1, rx, q1⟩ => Calls.spliced_nil ?_) fun _ _ e => e)
  split at q1
  · rename_i n _
    obtain ⟨⟨n0, n1⟩, q1⟩ := q1
    cases RelA.int rx
    obtain ⟨t, rfl⟩ := rv
    refine call_range_1 (Calls.spliced_nil (rng_made hc I1 (by omega) n0 n1 fun l hl => ?_))
    refine hq _ _ _ _ (S1.trans (Kp.new hl _)) (c1.new hl (rm_lst (rng_rel _ 0))) ra_ref ?_
    rw [Int.sub_zero]
    exact q1 l (c1.none hl)
  · exact q1.elim
end
end L2
namespace L2
open PySem PySem.Spec PyProof.Rows
section
variable {prog : Program} {w : World} {A : Around} {E : Value → Shared → Prop} {s : Shared}
end
section
variable {X : Cx} {e st : Expr} {te ts : AE} {p2 pos : Pos}
end
end L2
namespace L2
open PySem PySem.Spec PyProof.Rows
section
variable {X : Cx} {tg : Expr}
end
end L2
namespace L2
open PySem PySem.Spec PyProof.Rows
def lets (z : Str) : Prop := ∀ c ∈ z.cps.toList, 97 ≤ c ∧ c ≤ 122
theorem cps_app (a b : Str) : (a ++ b).cps.toList = a.cps.toList ++ b.cps.toList := by
  show (a.cps ++ b.cps).toList = _
  simp
theorem len_cps (z : Str) : z.length = z.cps.toList.length := by simp [Str.length]
theorem lets_app {a b : Str} (ha : lets a) (hb : lets b) : lets (a ++ b) := fun c hc => by
  rw [cps_app] at hc
  rcases List.mem_append.mp hc with h | h
  · exact ha c h
  · exact hb c h
theorem slice_to {x : Str} {j : Int} (h0 : 0 ≤ j) (h1 : j ≤ (x.length : Int)) : (Txt.slice x none (some j)).cps.toList = x.cps.toList.take j.toNat := by
  have := StrLaws.sliceText_to (x := x) (j := j) ⟨h0, by rw [← len_cps]; exact h1⟩
  show (StrLaws.sliceText x none (some j)).cps.toList = _
  rw [this]
  simp
theorem slice_from {x : Str} {j : Int} (h0 : 0 ≤ j) (h1 : j ≤ (x.length : Int)) : (Txt.slice x (some j) none).cps.toList = x.cps.toList.drop j.toNat := by
  have h1' : j ≤ (x.cps.toList.length : Int) := by rw [← len_cps]; exact h1
  have := StrLaws.sliceText_from (x := x) (i := j) ⟨h0, h1'⟩
  show (StrLaws.sliceText x (some j) none).cps.toList = _
  rw [this]
  show (((x.cps.toList.drop j.toNat).take ((x.cps.toList.length : Int) - j).toNat).toArray).toList = _
  rw [List.toList_toArray, List.take_of_length_le (by rw [List.length_drop]; omega)]
theorem e0_cps : ("" : Str).cps.toList = [] := by decide +kernel
theorem lets_join : ∀ {zs : List Str}, (∀ z ∈ zs, lets z) → lets (Txt.join "" zs) := fun {zs} h => by
  show lets (PySem.Builtin.Str.glued "" zs)
  rw [StrLaws.glued_eq_join]
  induction zs with
  | nil => exact fun c hc => by simp [Str.join, Str.empty] at hc
  | cons x zs ih =>
    cases zs with
    | nil => exact h x List.mem_cons_self
    | cons y zs =>
      show lets (x ++ "" ++ Str.join "" (y :: zs))
      exact lets_app (lets_app (h x List.mem_cons_self) (fun c hc => by rw [e0_cps] at hc; simp at hc)) (ih fun z hz => h z (List.mem_cons_of_mem _ hz))
section
variable {core lg : Str} {at' turn : Int}
theorem q_cps : ("q" : Str).cps.toList = [113] := by decide +kernel
end
theorem abc_at {i : Int} {c : Nat} (h0 : 0 ≤ i) (h1 : i < 26) (h : atI ("abcdefghijklmnopqrstuvwxyz" : Str).cps.toList i = some c) : c = 97 + i.toNat := by
  obtain ⟨j, rfl⟩ := Int.eq_ofNat_of_zero_le h0
  have hj : j < 26 := by omega
  have key : ∀ j : _root_.Fin 26, ("abcdefghijklmnopqrstuvwxyz" : Str).cps.toList[j.val]? = some (97 + j.val) := by decide +kernel
  have e := atI_nat (key ⟨j, hj⟩)
  rw [e] at h
  rw [Int.toNat_natCast]
  exact (Option.some.inj h).symm
end L2
namespace L2
open PySem PySem.SetTable
theorem sub_len2 {α : Type} [DecidableEq α] : ∀ {xs ys : List α}, xs.Nodup → (∀ x ∈ xs, x ∈ ys) → xs.length ≤ ys.length
  | [], _, _, _ => Nat.zero_le _
  | x :: xs, ys, hn, h => by
    have hn' := List.nodup_cons.mp hn
    have hx := h x (.head _)
    have := sub_len2 (ys := ys.erase x) hn'.2 fun z hz => (List.mem_erase_of_ne (by rintro rfl; exact hn'.1 hz)).mpr (h z (.tail _ hz))
    rw [List.length_erase_of_mem hx] at this
    have : 0 < ys.length := List.length_pos_of_mem hx
    rw [List.length_cons]; omega
def advM (mask : Nat) (p : Probe) : Probe :=
  if p.more > 0 then { p with j := p.j + 1, more := p.more - 1 } else
  { p with j := (leap mask p.i p.perturb).1, more := runEnd mask (leap mask p.i p.perturb).1 - (leap mask p.i p.perturb).1, i := (leap mask p.i p.perturb).1, perturb := (leap mask p.i p.perturb).2 }
theorem advM_eq (t : SetTable) (p : Probe) : t.advance p = advM t.mask p := rfl
def runP (mask i perturb l : Nat) : Probe := { j := i + l, more := runEnd mask i - i - l, i := i, perturb := perturb, dummy := none }
def pAt (mask : Nat) (h : Int) : Nat → Probe
  | 0 => runP mask (bits h % (mask + 1)) (bits h) 0
  | n + 1 => advM mask (pAt mask h n)
def sq (mask : Nat) (h : Int) (n : Nat) : Nat := (pAt mask h n).j
def rn (mask : Nat) (h : Int) : Nat → Nat × Nat
  | 0 => (bits h % (mask + 1), bits h)
  | r + 1 => leap mask (rn mask h r).1 (rn mask h r).2
def nr (mask : Nat) (h : Int) : Nat → Nat
  | 0 => 0
  | r + 1 => nr mask h r + (runEnd mask (rn mask h r).1 - (rn mask h r).1) + 1
theorem run_le (mask i : Nat) : runEnd mask i - i ≤ 9 := by unfold runEnd; split <;> omega
theorem run_ge (mask i : Nat) : i ≤ runEnd mask i := by unfold runEnd; split <;> omega
theorem run_mask {mask i : Nat} (h : i ≤ mask) : runEnd mask i ≤ mask := by unfold runEnd; split <;> omega
theorem nr_le (mask : Nat) (h : Int) : ∀ r, nr mask h r ≤ 10 * r
  | 0 => Nat.le_refl _
  | r + 1 => by
    have := nr_le mask h r
    have := run_le mask (rn mask h r).1
    rw [nr]; omega
theorem rn_le (mask : Nat) (h : Int) : ∀ r, (rn mask h r).1 ≤ mask
  | 0 => by have := Nat.mod_lt (bits h) (show 0 < mask + 1 by omega); rw [rn]; dsimp only; omega
  | r + 1 => by
    rw [rn, leap]
    have := Nat.mod_lt ((rn mask h r).1 * 5 + 1 + (rn mask h r).2 / 32) (show 0 < mask + 1 by omega)
    dsimp only; omega
theorem pAt_go {mask : Nat} {h : Int} {n i pt : Nat} (e : pAt mask h n = runP mask i pt 0) : ∀ l, l ≤ runEnd mask i - i → pAt mask h (n + l) = runP mask i pt l
  | 0, _ => e
  | l + 1, hl => by
    rw [← Nat.add_assoc, pAt, pAt_go e l (by omega)]
    unfold advM
    rw [if_pos (show (runP mask i pt l).more > 0 by show _ - l > 0; omega)]
    show Probe.mk _ _ _ _ _ = Probe.mk _ _ _ _ _
    congr 1
theorem pAt_run (mask : Nat) (h : Int) : ∀ r, pAt mask h (nr mask h r) = runP mask (rn mask h r).1 (rn mask h r).2 0
  | 0 => rfl
  | r + 1 => by
    rw [nr, pAt, pAt_go (pAt_run mask h r) _ (Nat.le_refl _)]
    unfold advM
    rw [if_neg (show ¬ (runP mask (rn mask h r).1 (rn mask h r).2 (runEnd mask (rn mask h r).1 - (rn mask h r).1)).more > 0 by show ¬ (_ - _ - _ > 0); omega)]
    rfl
theorem sq_run {mask : Nat} {h : Int} {r l : Nat} (hl : l ≤ runEnd mask (rn mask h r).1 - (rn mask h r).1) : sq mask h (nr mask h r + l) = (rn mask h r).1 + l := by
  unfold sq
  rw [pAt_go (pAt_run mask h r) l hl]; rfl
theorem pAt_dummy (mask : Nat) (h : Int) : ∀ n, (pAt mask h n).dummy = none
  | 0 => rfl
  | n + 1 => by
    rw [pAt, advM]
    split
    · exact pAt_dummy mask h n
    · exact pAt_dummy mask h n
theorem rn_pt (mask : Nat) (h : Int) : ∀ r, (rn mask h r).2 = bits h / 32 ^ r
  | 0 => by rw [rn, Nat.pow_zero, Nat.div_one]
  | r + 1 => by
    rw [rn, leap]
    dsimp only
    rw [rn_pt mask h r, Nat.div_div_eq_div_mul, Nat.pow_succ]
theorem bits_lt (h : Int) : bits h < 2 ^ 64 := by
  unfold bits
  have h1 := Int.emod_lt_of_pos h (show (0 : Int) < 2 ^ 64 by decide)
  have h2 := Int.emod_nonneg h (show (2 ^ 64 : Int) ≠ 0 by decide)
  omega
theorem rn_late (mask : Nat) (h : Int) (r : Nat) : (rn mask h (13 + r + 1)).1 = ((rn mask h (13 + r)).1 * 5 + 1) % (mask + 1) := by
  rw [rn, leap]
  dsimp only
  have e : (rn mask h (13 + r)).2 = 0 := by
    rw [rn_pt]
    refine Nat.div_eq_of_lt (Nat.lt_of_lt_of_le (bits_lt h) ?_)
    exact Nat.le_trans (show 2 ^ 64 ≤ 32 ^ 13 by decide) (Nat.pow_le_pow_right (by decide) (by omega))
  rw [e]
def cyc (mask : Nat) (i : Nat) : Nat → Nat
  | 0 => i
  | b + 1 => (cyc mask i b * 5 + 1) % (mask + 1)
theorem rn_cyc (mask : Nat) (h : Int) : ∀ b, (rn mask h (13 + b)).1 = cyc mask (rn mask h 13).1 b
  | 0 => rfl
  | b + 1 => by rw [← Nat.add_assoc, rn_late, rn_cyc mask h b]; rfl
theorem cyc_add (mask i : Nat) (a : Nat) : ∀ b, cyc mask (cyc mask i a) b = cyc mask i (a + b)
  | 0 => rfl
  | b + 1 => by rw [cyc, cyc_add mask i a b]; rfl
def Msk (mask : Nat) : Prop := mask = 7 ∨ mask = 31 ∨ mask = 127
def orbit (mask : Nat) : Nat → Nat → List Nat
  | 0, _ => []
  | n + 1, i => i :: orbit mask n ((i * 5 + 1) % (mask + 1))
theorem orbit_mem (mask : Nat) : ∀ (n i x : Nat), x ∈ orbit mask n i → ∃ b, b < n ∧ cyc mask i b = x
  | 0, _, _, h => by cases h
  | n + 1, i, x, h => by
    rcases List.mem_cons.mp h with rfl | h
    · exact ⟨0, by omega, rfl⟩
    · obtain ⟨b, hb, e⟩ := orbit_mem mask n _ x h
      refine ⟨b + 1, by omega, ?_⟩
      rw [show b + 1 = 1 + b by omega, ← cyc_add]
      exact e
theorem orb7 : ((List.range 8).all fun x => (orbit 7 8 0).contains x) = true ∧ cyc 7 0 8 = 0 := by decide +kernel
theorem orb31 : ((List.range 32).all fun x => (orbit 31 32 0).contains x) = true ∧ cyc 31 0 32 = 0 := by decide +kernel
theorem orb127 : ((List.range 128).all fun x => (orbit 127 128 0).contains x) = true ∧ cyc 127 0 128 = 0 := by decide +kernel
theorem orb {mask : Nat} (hm : Msk mask) : ((List.range (mask + 1)).all fun x => (orbit mask (mask + 1) 0).contains x) = true ∧ cyc mask 0 (mask + 1) = 0 := by
  rcases hm with rfl | rfl | rfl
  · exact orb7
  · exact orb31
  · exact orb127
theorem cyc_all {mask : Nat} (hm : Msk mask) {i x : Nat} (hi : i ≤ mask) (hx : x ≤ mask) : ∃ b, b ≤ mask + 1 ∧ cyc mask i b = x := by
  obtain ⟨h1, h2⟩ := orb hm
  have key : ∀ y, y ≤ mask → ∃ b, b < mask + 1 ∧ cyc mask 0 b = y := fun y hy => orbit_mem mask _ 0 y (by
    have := List.all_eq_true.mp h1 y (List.mem_range.mpr (by omega))
    exact List.contains_iff_mem.mp this)
  obtain ⟨a, ha, ea⟩ := key i hi
  obtain ⟨c, hc, ec⟩ := key x hx
  rcases Nat.lt_or_ge c a with h | h
  · refine ⟨mask + 1 - a + c, by omega, ?_⟩
    rw [← ea, cyc_add, show a + (mask + 1 - a + c) = (mask + 1) + c by omega, ← cyc_add, h2, ec]
  · refine ⟨c - a, by omega, ?_⟩
    rw [← ea, cyc_add, show a + (c - a) = c by omega, ec]
theorem reach {mask : Nat} (hm : Msk mask) (h : Int) {x : Nat} (hx : x ≤ mask) : ∃ r, r ≤ mask + 14 ∧ (rn mask h r).1 = x := by
  obtain ⟨b, hb, e⟩ := cyc_all hm (rn_le mask h 13) hx
  exact ⟨13 + b, by omega, by rw [rn_cyc, e]⟩
theorem sq_le (mask : Nat) (h : Int) : ∀ n, ∃ r l, l ≤ runEnd mask (rn mask h r).1 - (rn mask h r).1 ∧ n = nr mask h r + l
  | 0 => ⟨0, 0, Nat.zero_le _, rfl⟩
  | n + 1 => by
    obtain ⟨r, l, hl, rfl⟩ := sq_le mask h n
    rcases Nat.lt_or_ge l (runEnd mask (rn mask h r).1 - (rn mask h r).1) with c | c
    · exact ⟨r, l + 1, c, rfl⟩
    · exact ⟨r + 1, 0, Nat.zero_le _, by rw [nr]; omega⟩
theorem sq_mask (mask : Nat) (h : Int) (n : Nat) : sq mask h n ≤ mask := by
  obtain ⟨r, l, hl, rfl⟩ := sq_le mask h n
  rw [sq_run hl]
  have := run_mask (rn_le mask h r)
  have := run_ge mask (rn mask h r).1
  omega
theorem first_free {mask : Nat} (hm : Msk mask) (h : Int) (occ : Nat → Prop) [DecidablePred occ] {x : Nat} (hx : x ≤ mask) (hn : ¬ occ x) : ∃ n, n < 10 * turns mask ∧ ¬ occ (sq mask h n) ∧ ∀ m, m < n → occ (sq mask h m) := by
  obtain ⟨r, hr, e⟩ := reach hm h hx
  have h0 : ¬ occ (sq mask h (nr mask h r)) := by
    rw [show nr mask h r = nr mask h r + 0 from rfl, sq_run (Nat.zero_le _), e]; exact hn
  have h1 : nr mask h r < 10 * turns mask := by have := nr_le mask h r; unfold turns; omega
  generalize nr mask h r = k at h0 h1
  induction k using Nat.strongRecOn with
  | _ k ih =>
    by_cases c : ∀ m, m < k → occ (sq mask h m)
    · exact ⟨k, h1, h0, c⟩
    · have ⟨m, hm1, hm2⟩ : ∃ m, m < k ∧ ¬ occ (sq mask h m) := by
        refine Classical.byContradiction fun z => c fun m hm' => Classical.byContradiction fun y => z ⟨m, hm', y⟩
      exact ih m hm1 hm2 (by omega)
theorem free_go {mask : Nat} (h : Int) (owner : Array (Option Nat)) (hs : owner.size = mask + 1) : ∀ (fuel r : Nat), (∃ k, r ≤ k ∧ k < r + fuel ∧ owner.getD (rn mask h k).1 none = none) → (∀ m, m < nr mask h r → (owner.getD (sq mask h m) none).isSome = true) →
    ∃ n, layClean.free mask owner fuel (rn mask h r).1 (rn mask h r).2 = some (sq mask h n) ∧ owner.getD (sq mask h n) none = none ∧ ∀ m, m < n → (owner.getD (sq mask h m) none).isSome = true
  | 0, r, ⟨k, h1, h2, _⟩, _ => by omega
  | fuel + 1, r, hk, ho => by
    have hd : ∀ j, j ≤ mask → owner.getD j (some 0) = owner.getD j none := fun j hj => by
      simp only [Array.getD, show j < owner.size by omega, dite_true]
    have hrl := rn_le mask h r
    have hre := run_mask hrl
    have hrg := run_ge mask (rn mask h r).1
    rw [layClean.free]
    cases c : (List.range (runEnd mask (rn mask h r).1 + 1 - (rn mask h r).1)).find? fun k => (owner.getD ((rn mask h r).1 + k) (some 0)).isNone with
    | some k =>
      obtain ⟨c1, c2, c3⟩ := List.find?_range_eq_some.mp c
      have hk2 := List.mem_range.mp c2
      refine ⟨nr mask h r + k, ?_, ?_, fun m hm => ?_⟩
      · rw [sq_run (by omega)]
      · rw [sq_run (by omega), ← hd _ (by omega)]
        exact Option.isNone_iff_eq_none.mp c1
      · rcases Nat.lt_or_ge m (nr mask h r) with z | z
        · exact ho m z
        · have e : m = nr mask h r + (m - nr mask h r) := by omega
          rw [e, sq_run (by omega), ← hd _ (by omega)]
          have := c3 (m - nr mask h r) (by omega)
          cases q : owner.getD ((rn mask h r).1 + (m - nr mask h r)) (some 0) with
          | none => rw [q] at this; cases this
          | some _ => rfl
    | none =>
      have c' := List.find?_range_eq_none.mp c
      have hocc : ∀ l, l ≤ runEnd mask (rn mask h r).1 - (rn mask h r).1 → (owner.getD ((rn mask h r).1 + l) none).isSome = true := fun l hl => by
        have := c' l (by omega)
        rw [hd _ (by omega)] at this
        cases q : owner.getD ((rn mask h r).1 + l) none with
        | none => rw [q] at this; cases this
        | some _ => rfl
      refine free_go h owner hs fuel (r + 1) ?_ fun m hm => ?_
      · obtain ⟨k, h1, h2, h3⟩ := hk
        rcases Nat.eq_or_lt_of_le h1 with rfl | h1
        · have := hocc 0 (Nat.zero_le _)
          rw [Nat.add_zero, h3] at this; cases this
        · exact ⟨k, h1, by omega, h3⟩
      · rcases Nat.lt_or_ge m (nr mask h r) with z | z
        · exact ho m z
        · have e : m = nr mask h r + (m - nr mask h r) := by omega
          rw [nr] at hm
          rw [e, sq_run (by omega)]
          exact hocc _ (by omega)
structure Own (mask : Nat) (hs : List Int) (owner : Array (Option Nat)) (k : Nat) : Prop where
  size : owner.size = mask + 1
  lt : ∀ j x, owner.getD j none = some x → x < k
  has : ∀ x, x < k → ∃ j, owner.getD j none = some x
  inj : ∀ j j' x, owner.getD j none = some x → owner.getD j' none = some x → j = j'
  path : ∀ j x h, owner.getD j none = some x → hs[x]? = some h → ∃ n, sq mask h n = j ∧ ∀ m, m < n → (owner.getD (sq mask h m) none).isSome = true
theorem getD_set (o : Array (Option Nat)) (j : Nat) (v : Option Nat) (hj : j < o.size) (i : Nat) : (o.setIfInBounds j v).getD i none = if i = j then v else o.getD i none := by
  rw [Array.getD_eq_getD_getElem?, Array.getD_eq_getD_getElem?, Array.getElem?_setIfInBounds]
  by_cases e : i = j
  · subst e
    rw [if_pos rfl, if_pos hj, if_pos rfl]; rfl
  · rw [if_neg (fun z => e z.symm), if_neg e]
theorem getD_lt {o : Array (Option Nat)} {j x : Nat} (h : o.getD j none = some x) : j < o.size := by
  rw [Array.getD_eq_getD_getElem?] at h
  cases c : o[j]? with
  | none => rw [c] at h; cases h
  | some y => exact (Array.getElem?_eq_some_iff.mp c).1
theorem own_room {mask k : Nat} {hs : List Int} {owner : Array (Option Nat)} (o : Own mask hs owner k) (hk : k ≤ mask) : ∃ x, x ≤ mask ∧ owner.getD x none = none := by
  refine Classical.byContradiction fun z => ?_
  have hall : ∀ j, j ≤ mask → ∃ x, owner.getD j none = some x := fun j hj => by
    cases c : owner.getD j none with
    | none => exact absurd ⟨j, hj, c⟩ z
    | some x => exact ⟨x, rfl⟩
  have h1 : ((List.range (mask + 1)).map fun j => (owner.getD j none).getD 0).Nodup := by
    rw [List.Nodup, List.pairwise_map]
    refine List.Pairwise.imp_of_mem (R := (· < ·)) (fun {a b} ha hb hab e => ?_) List.pairwise_lt_range
    obtain ⟨x, ex⟩ := hall a (by have := List.mem_range.mp ha; omega)
    obtain ⟨y, ey⟩ := hall b (by have := List.mem_range.mp hb; omega)
    rw [ex, ey] at e
    have e' : x = y := e
    subst e'
    have := o.inj a b x ex ey
    omega
  have h2 := sub_len2 (ys := List.range k) h1 fun y hy => by
    obtain ⟨j, hj, rfl⟩ := List.mem_map.mp hy
    obtain ⟨x, ex⟩ := hall j (by have := List.mem_range.mp hj; omega)
    rw [ex]
    exact List.mem_range.mpr (o.lt j x ex)
  rw [List.length_map, List.length_range, List.length_range] at h2
  omega
theorem own_step {mask k : Nat} {hs : List Int} {owner : Array (Option Nat)} {h : Int} (hm : Msk mask) (o : Own mask hs owner k) (hk : k ≤ mask) (hh : hs[k]? = some h) : ∃ j, layClean.free mask owner (turns mask) (bits h % (mask + 1)) (bits h) = some j ∧ Own mask hs (owner.setIfInBounds j (some k)) (k + 1) := by
  obtain ⟨x, hx, ex⟩ := own_room o hk
  obtain ⟨r, hr, er⟩ := reach hm h hx
  obtain ⟨n, e1, e2, e3⟩ := free_go h owner o.size (turns mask) 0 ⟨r, Nat.zero_le _, by unfold turns; omega, by rw [er]; exact ex⟩ (fun m hm' => absurd hm' (Nat.not_lt_zero _))
  have hj : sq mask h n < owner.size := by have := sq_mask mask h n; rw [o.size]; omega
  have hg := getD_set owner (sq mask h n) (some k) hj
  refine ⟨_, e1, by rw [Array.size_setIfInBounds]; exact o.size, fun j y e => ?_, fun y hy => ?_, fun j j' y a b => ?_, fun j y g a b => ?_⟩
  · rw [hg] at e
    split at e
    · cases e; omega
    · have := o.lt j y e; omega
  · rcases (show y < k ∨ y = k by omega) with h' | rfl
    · obtain ⟨j, ej⟩ := o.has y h'
      refine ⟨j, ?_⟩
      rw [hg, if_neg (by rintro rfl; rw [e2] at ej; cases ej)]; exact ej
    · exact ⟨_, by rw [hg, if_pos rfl]⟩
  · rw [hg] at a b
    split at a
    · rename_i q1
      split at b
      · rename_i q2; exact q1.trans q2.symm
      · cases a; have := o.lt _ _ b; omega
    · split at b
      · cases b; have := o.lt _ _ a; omega
      · exact o.inj j j' y a b
  · have up : ∀ i, (owner.getD i none).isSome = true → ((owner.setIfInBounds (sq mask h n) (some k)).getD i none).isSome = true := fun i hi => by
      rw [hg]
      split
      · rfl
      · exact hi
    rw [hg] at a
    split at a
    · rename_i q1
      cases a
      rw [hh] at b
      cases b
      exact ⟨n, q1.symm, fun m hm' => up _ (e3 m hm')⟩
    · obtain ⟨n', f1, f2⟩ := o.path j y g a b
      exact ⟨n', f1, fun m hm' => up _ (f2 m hm')⟩
def layF (mask : Nat) (acc : Option (Array (Option Nat) × Nat)) (h : Int) : Option (Array (Option Nat) × Nat) := do
  let (owner, k) ← acc
  let j ← layClean.free mask owner (turns mask) (bits h % (mask + 1)) (bits h)
  pure (owner.setIfInBounds j (some k), k + 1)
theorem fold_own {mask : Nat} (hm : Msk mask) {hs : List Int} (hl : hs.length ≤ mask + 1) : ∀ (rest dn : List Int) (owner : Array (Option Nat)), hs = dn ++ rest → Own mask hs owner dn.length → ∃ owner', rest.foldl (layF mask) (some (owner, dn.length)) = some (owner', hs.length) ∧ Own mask hs owner' hs.length
  | [], dn, owner, e, o => by
    rw [List.append_nil] at e
    subst e
    exact ⟨owner, rfl, o⟩
  | h :: rest, dn, owner, e, o => by
    have hk : dn.length ≤ mask := by rw [e, List.length_append, List.length_cons] at hl; omega
    obtain ⟨j, e1, o1⟩ := own_step hm o hk (h := h) (by rw [e]; simp)
    have e2 : layF mask (some (owner, dn.length)) h = some (owner.setIfInBounds j (some dn.length), (dn ++ [h]).length) := by
      unfold layF
      simp only [Option.bind_eq_bind, Option.bind_some, e1, List.length_append]
      rfl
    rw [List.foldl_cons, e2]
    exact fold_own hm hl rest (dn ++ [h]) _ (by rw [e]; simp) (by rw [List.length_append]; exact o1)
theorem lay_ok {mask : Nat} (hm : Msk mask) (hs : Array Int) (hl : hs.size ≤ mask + 1) : ∃ owner, layClean mask hs = some owner ∧ Own mask hs.toList owner hs.size := by
  have o0 : Own mask hs.toList (Array.replicate (mask + 1) none) 0 := by
    have hg : ∀ j, (Array.replicate (mask + 1) (none : Option Nat)).getD j none = none := fun j => by
      rw [Array.getD_eq_getD_getElem?, Array.getElem?_replicate]
      split <;> rfl
    exact ⟨by simp, fun j x e => (by rw [hg] at e; cases e), fun x hx => absurd hx (Nat.not_lt_zero _), fun j j' x e => (by rw [hg] at e; cases e), fun j x h e => (by rw [hg] at e; cases e)⟩
  obtain ⟨owner, e, o⟩ := fold_own hm (hs := hs.toList) (by simpa using hl) hs.toList [] _ rfl o0
  refine ⟨owner, ?_, by simpa using o⟩
  unfold layClean
  rw [← Array.foldl_toList]
  have e' : List.foldl (layF mask) (some (Array.replicate (mask + 1) none, 0)) hs.toList = some (owner, hs.toList.length) := e
  exact (congrArg (Option.map (·.1)) e').trans rfl
structure TabQ (t : SetTable) (hs : List Int) : Prop where
  msk : Msk t.mask
  len : t.place.size = hs.length
  le : ∀ j ∈ t.place.toList, j ≤ t.mask
  path : ∀ z ∈ t.place.toList.zip hs, ∃ n, sq t.mask z.2 n = z.1 ∧ ∀ m, m < n → sq t.mask z.2 m ∈ t.place.toList
theorem laid_ok {mask f mv : Nat} {led pl : Bool} (hm : Msk mask) (hs : Array Int) (hl : hs.size ≤ mask + 1) : ∃ t order, laid mask f mv led pl hs = some (t, order) ∧ t.mask = mask ∧ order.toList.Perm (List.range hs.size) ∧ TabQ t (order.toList.map fun i => hs.getD i 0) := by
  obtain ⟨owner, e, o⟩ := lay_ok hm hs hl
  have hlive : ∀ j x, (j, x) ∈ ((List.range (mask + 1)).filterMap fun j => (owner.getD j none).map (j, ·)) ↔ owner.getD j none = some x := fun j x => by
    rw [List.mem_filterMap]
    constructor
    · rintro ⟨a, ha, q⟩
      obtain ⟨y, ey, q2⟩ := Option.map_eq_some_iff.mp q
      cases q2; exact ey
    · intro q
      refine ⟨j, List.mem_range.mpr ?_, by rw [q]; rfl⟩
      have := getD_lt q; rw [o.size] at this; exact this
  have hnd : ((List.range (mask + 1)).filterMap fun j => (owner.getD j none).map (j, ·)).Pairwise fun p q => p.2 ≠ q.2 := by
    refine List.Pairwise.filterMap _ (R := (· < ·)) (fun a a' haa b hb b' hb' => ?_) List.pairwise_lt_range
    obtain ⟨z, hz, rfl⟩ := Option.map_eq_some_iff.mp hb
    obtain ⟨z', hz', rfl⟩ := Option.map_eq_some_iff.mp hb'
    intro q
    have q' : z = z' := q
    subst q'
    have := o.inj a a' z hz hz'
    omega
  refine ⟨_, _, by unfold laid; rw [e]; rfl, rfl, ?_, ?_⟩
  · show (List.map (fun p : Nat × Nat => p.2) _).Perm _
    refine (List.perm_ext_iff_of_nodup ?_ List.nodup_range).mpr fun x => ?_
    · rw [List.Nodup, List.pairwise_map]; exact hnd
    · rw [List.mem_map, List.mem_range]
      constructor
      · rintro ⟨⟨j, y⟩, hy, rfl⟩
        exact o.lt j y ((hlive j y).mp hy)
      · intro hx
        obtain ⟨j, ej⟩ := o.has x hx
        exact ⟨(j, x), (hlive j x).mpr ej, rfl⟩
  · refine ⟨hm, ?_, fun j hj => ?_, fun z hz => ?_⟩
    · show (List.map _ _).toArray.size = (List.map _ (List.map _ _)).length
      simp
    · have hj' : j ∈ List.map (·.1) ((List.range (mask + 1)).filterMap fun j => (owner.getD j none).map (j, ·)) := hj
      obtain ⟨⟨a, b⟩, q, rfl⟩ := List.mem_map.mp hj'
      have := getD_lt ((hlive a b).mp q)
      rw [o.size] at this
      show a ≤ mask
      omega
    · have hz' : z ∈ List.zip (List.map (·.1) ((List.range (mask + 1)).filterMap fun j => (owner.getD j none).map (j, ·))) (List.map (fun i => hs.getD i 0) (List.map (·.2) ((List.range (mask + 1)).filterMap fun j => (owner.getD j none).map (j, ·)))) := hz
      rw [List.map_map, List.zip_map', List.mem_map] at hz'
      obtain ⟨⟨a, b⟩, q, rfl⟩ := hz'
      have qa := (hlive a b).mp q
      have hb := o.lt a b qa
      obtain ⟨n, e1, e2⟩ := o.path a b (hs.getD b 0) qa (by rw [Array.getElem?_toList, Array.getD_eq_getD_getElem?, Array.getElem?_eq_getElem hb]; rfl)
      refine ⟨n, e1, fun m hm' => ?_⟩
      obtain ⟨y, ey⟩ := Option.isSome_iff_exists.mp (e2 m hm')
      exact List.mem_map.mpr ⟨(_, y), (hlive _ y).mpr ey, rfl⟩
theorem below_at {xs : Array Nat} (h : RiseA xs) {j k : Nat} (e : xs[k]? = some j) : SetTable.below xs j = k := by
  obtain ⟨hk, ej⟩ := Array.getElem?_eq_some_iff.mp e
  obtain ⟨h1, h2, h3⟩ := below_ok h j
  have gk : xs.getD k j = j := by rw [Array.getD_eq_getD_getElem?, e]; rfl
  rcases Nat.lt_trichotomy (SetTable.below xs j) k with c | c | c
  · have := h.lt (d := j) c hk
    have := h3 _ (Nat.le_refl _) (by omega)
    omega
  · exact c
  · have := h2 k c
    omega
theorem slot_in {t : SetTable} {led : Bool} (h : TblOk t led) {j : Nat} (hj : j ∈ t.place.toList) : ∃ i, t.slot j = .live i ∧ t.place[i]? = some j := by
  obtain ⟨i, hi⟩ := List.getElem?_of_mem hj
  rw [Array.getElem?_toList] at hi
  refine ⟨i, ?_, hi⟩
  unfold SetTable.slot
  dsimp only
  rw [below_at h.rise hi, hi]
  simp
theorem slot_out {t : SetTable} {led : Bool} (h : TblOk t led) {j : Nat} (hj : j ∉ t.place.toList) : t.slot j = .empty := by
  unfold SetTable.slot
  dsimp only
  rw [h.dum, has_none, if_neg]
  · rfl
  · intro c
    have c' : t.place[SetTable.below t.place j]? = some j := by simpa using c
    rw [← Array.getElem?_toList] at c'
    exact hj (List.mem_of_getElem? c')
theorem zip_insert {α β : Type} (a : α) (b : β) : ∀ (p : Nat) (xs : List α) (ys : List β), xs.length = ys.length → (xs.take p ++ a :: xs.drop p).zip (ys.take p ++ b :: ys.drop p) = (xs.zip ys).take p ++ (a, b) :: (xs.zip ys).drop p
  | 0, xs, ys, _ => by simp
  | p + 1, [], [], _ => by simp
  | p + 1, x :: xs, y :: ys, h => by
    have := zip_insert a b p xs ys (by simpa using h)
    simpa using this
  | _ + 1, [], _ :: _, h => by simp at h
  | _ + 1, _ :: _, [], h => by simp at h
theorem TabQ.put {t : SetTable} {led : Bool} {hs : List Int} {h : Int} {n : Nat} (q : TabQ t hs) (T : TblOk t led) (ho : ∀ m, m < n → sq t.mask h m ∈ t.place.toList) : TabQ (t.put (sq t.mask h n)).1 (hs.take (SetTable.below t.place (sq t.mask h n)) ++ h :: hs.drop (SetTable.below t.place (sq t.mask h n))) := by
  have hp : SetTable.below t.place (sq t.mask h n) ≤ t.place.size := (below_ok T.rise _).1
  have e : (t.put (sq t.mask h n)).1.place.toList = t.place.toList.take (SetTable.below t.place (sq t.mask h n)) ++ sq t.mask h n :: t.place.toList.drop (SetTable.below t.place (sq t.mask h n)) := insert_list _ _ _ hp
  have hm : (t.put (sq t.mask h n)).1.mask = t.mask := rfl
  have hlen := q.len
  have up : ∀ j, j ∈ t.place.toList → j ∈ (t.put (sq t.mask h n)).1.place.toList := fun j hj => by
    rw [e]
    rw [← List.take_append_drop (SetTable.below t.place (sq t.mask h n)) t.place.toList] at hj
    rcases List.mem_append.mp hj with hj | hj
    · exact List.mem_append_left _ hj
    · exact List.mem_append_right _ (List.mem_cons_of_mem _ hj)
  have dn : ∀ j, j ∈ (t.put (sq t.mask h n)).1.place.toList → j = sq t.mask h n ∨ j ∈ t.place.toList := fun j hj => by
    rw [e] at hj
    rcases List.mem_append.mp hj with hj | hj
    · exact .inr (List.mem_of_mem_take hj)
    · rcases List.mem_cons.mp hj with hj | hj
      · exact .inl hj
      · exact .inr (List.mem_of_mem_drop hj)
  refine ⟨q.msk, ?_, fun j hj => ?_, fun z hz => ?_⟩
  · rw [← Array.length_toList, e]
    simp only [List.length_append, List.length_cons, List.length_take, List.length_drop, Array.length_toList]
    omega
  · rcases dn j hj with rfl | hj
    · exact sq_mask _ _ _
    · exact q.le j hj
  · rw [e, zip_insert _ _ _ _ _ (by rw [Array.length_toList]; exact hlen)] at hz
    rw [hm]
    have old : z ∈ t.place.toList.zip hs → ∃ n', sq t.mask z.2 n' = z.1 ∧ ∀ m, m < n' → sq t.mask z.2 m ∈ (t.put (sq t.mask h n)).1.place.toList := fun hz => by
      obtain ⟨n', a, b⟩ := q.path z hz
      exact ⟨n', a, fun m hm' => up _ (b m hm')⟩
    rcases List.mem_append.mp hz with hz | hz
    · exact old (List.mem_of_mem_take hz)
    · rcases List.mem_cons.mp hz with rfl | hz
      · exact ⟨n, rfl, fun m hm' => up _ (ho m hm')⟩
      · exact old (List.mem_of_mem_drop hz)
theorem tab_room {t : SetTable} {led : Bool} {hs : List Int} (q : TabQ t hs) (T : TblOk t led) (hl : hs.length ≤ t.mask) : ∃ x, x ≤ t.mask ∧ x ∉ t.place.toList := by
  refine Classical.byContradiction fun z => ?_
  have := sub_len2 (ys := t.place.toList) (List.nodup_range (n := t.mask + 1)) fun x hx => Classical.byContradiction fun y => z ⟨x, by have := List.mem_range.mp hx; omega, y⟩
  rw [List.length_range, Array.length_toList, q.len] at this
  omega
theorem probe_ok {t : SetTable} {led : Bool} (T : TblOk t led) {hashAt : Nat → Int} {h : Int} {e : Nat} (he : sq t.mask h e ∉ t.place.toList) (hb : ∀ m, m < e → sq t.mask h m ∈ t.place.toList) : ∀ (f n : Nat), n ≤ e → e < n + f →
    (SetTable.probe.go t hashAt h f (pAt t.mask h n) = some (.empty (sq t.mask h e) none) ∧ ∀ m i, n ≤ m → m < e → t.place[i]? = some (sq t.mask h m) → hashAt i ≠ h) ∨
    ∃ k i, n ≤ k ∧ k < e ∧ t.place[i]? = some (sq t.mask h k) ∧ hashAt i = h ∧ SetTable.probe.go t hashAt h f (pAt t.mask h n) = some (.candidate (sq t.mask h k) i (pAt t.mask h (k + 1))) ∧ ∀ m i, n ≤ m → m < k → t.place[i]? = some (sq t.mask h m) → hashAt i ≠ h
  | 0, n, h1, h2 => by omega
  | f + 1, n, h1, h2 => by
    rw [SetTable.probe.go]
    have uniq : ∀ {i i' j : Nat}, t.place[i]? = some j → t.place[i']? = some j → i = i' := fun a b => (below_at T.rise a).symm.trans (below_at T.rise b)
    rcases Nat.eq_or_lt_of_le h1 with rfl | h1
    · rw [show t.slot (pAt t.mask h n).j = .empty from slot_out T he]
      dsimp only
      rw [pAt_dummy]
      exact .inl ⟨rfl, fun m i a b => by omega⟩
    · obtain ⟨i, hi, hp⟩ := slot_in T (hb n h1)
      rw [show t.slot (pAt t.mask h n).j = .live i from hi]
      dsimp only
      by_cases c : hashAt i = h
      · rw [if_pos (by simpa using c)]
        exact .inr ⟨n, i, Nat.le_refl _, h1, hp, c, rfl, fun m i a b => by omega⟩
      · rw [if_neg (by simpa using c), advM_eq]
        have hnx : ∀ i', t.place[i']? = some (sq t.mask h n) → hashAt i' ≠ h := fun i' hi' => by rw [uniq hi' hp]; exact c
        rcases probe_ok T he hb f (n + 1) h1 (by omega) with ⟨a, b⟩ | ⟨k, i', a1, a2, a3, a4, a5, a6⟩
        · refine .inl ⟨a, fun m i' m1 m2 m3 => ?_⟩
          rcases Nat.eq_or_lt_of_le m1 with rfl | m1
          · exact hnx i' m3
          · exact b m i' m1 m2 m3
        · refine .inr ⟨k, i', by omega, a2, a3, a4, a5, fun m i'' m1 m2 m3 => ?_⟩
          rcases Nat.eq_or_lt_of_le m1 with rfl | m1
          · exact hnx i'' m3
          · exact a6 m i'' m1 m2 m3
end L2
namespace L2
open PySem
section
variable {prog : Program} {w : World}
theorem cls_ok : ∀ (n q : Nat) (d : PyData) (u : Value) (as : List Addr) (A : Around) (E : Value → Shared → Prop) (s : Shared) (Q : Bool → Shared → Prop), d.depth ≤ n → n < q → Cano d = true → Reads s.heap u d as → Q false s → wpAny (model prog w) A (ofAClassStatement q u) Q E s := by
  intro n
  induction n with
  | zero =>
    intro q d u as A E s Q hd hq hc hr h
    cases hr with
    | int i t => unfold ofAClassStatement; exact wpAny_pure h
    | str x t => unfold ofAClassStatement; exact wpAny_pure h
    | tuple a1 a2 a3 a4 => simp [PyData.depth] at hd
    | none => simp [Cano] at hc
    | bool b => simp [Cano] at hc
    | list a1 a2 a3 a4 => simp [Cano] at hc
    | dict a1 a2 a3 a4 a5 => simp [Cano] at hc
  | succ n ih =>
    intro q d u as A E s Q hd hq hc hr h
    cases hr with
    | int i t => unfold ofAClassStatement; exact wpAny_pure h
    | str x t => unfold ofAClassStatement; exact wpAny_pure h
    | none => simp [Cano] at hc
    | bool b => simp [Cano] at hc
    | list a1 a2 a3 a4 => simp [Cano] at hc
    | dict a1 a2 a3 a4 a5 => simp [Cano] at hc
    | @tuple a o items m ds as ho hcl hdt hi =>
      have hT : s.TypeIs (.ref a) "tuple" := ⟨o, ho, hcl⟩
      have hd' : PyData.depthAll ds ≤ n := by simp only [PyData.depth] at hd; omega
      have hc' : CanoAll ds = true := hc
      obtain ⟨q', rfl⟩ : ∃ q', q = q' + 1 := ⟨q - 1, by omega⟩
      unfold ofAClassStatement
      refine wpAny_bind (wpAny_typeOf hT ?_)
      dsimp only
      rw [if_pos (by decide : ("tuple" == "tuple") = true)]
      refine wpAny_bind (wpAny_pure ?_)
      simp only [Bool.not_true, Bool.false_eq_true, if_false]
      refine wpAny_bind (wpAny_seqItems ho hdt ?_)
      dsimp only
      refine wpAny_bind (show wpAny _ _ (forIn items _ _) _ _ s from ?_)
      rw [← Array.forIn_toList]
      refine wpAny_forIn_list _ (fun rest r s' => r.1 = none ∧ s' = s ∧ ∃ lf bs, ReadsAll s.heap rest lf bs ∧ CanoAll lf = true ∧ PyData.depthAll lf ≤ n) _ ?_ ?_ _ _ ⟨rfl, rfl, ds, as, hi, hc', hd'⟩
      · rintro v rest r s' ⟨hr, rfl, lf, bs, hl, hcl, hdl⟩
        cases hl with
        | @cons _ _ d ds' as1 bs1 h1 hl' =>
          simp only [CanoAll, Bool.and_eq_true] at hcl
          simp only [PyData.depthAll] at hdl
          refine wpAny_bind (ih q' d v as1 A _ s' _ (by omega) (by omega) hcl.1 h1 ?_)
          simp only [Bool.false_eq_true, if_false]
          exact wpAny_pure ⟨rfl, rfl, ds', bs1, hl', hcl.2, by omega⟩
      · rintro ⟨r1, r2⟩ s' ⟨hr, rfl, _⟩
        simp only at hr
        subst hr
        exact wpAny_pure h
theorem byv_ok : ∀ (n q : Nat) (d : PyData) (u : Value) (as : List Addr) (A : Around) (E : Value → Shared → Prop) (s : Shared) (Q : Bool → Shared → Prop), d.depth ≤ n → Cano d = true → Reads s.heap u d as → (∀ b, Q b s) → wpAny (model prog w) A (hashByValue q u) Q E s := by
  intro n
  induction n with
  | zero =>
    intro q d u as A E s Q hd hc hr h
    cases hr with
    | int i t => unfold hashByValue; exact wpAny_pure (h _)
    | str x t => unfold hashByValue; exact wpAny_pure (h _)
    | tuple a1 a2 a3 a4 => simp [PyData.depth] at hd
    | none => simp [Cano] at hc
    | bool b => simp [Cano] at hc
    | list a1 a2 a3 a4 => simp [Cano] at hc
    | dict a1 a2 a3 a4 a5 => simp [Cano] at hc
  | succ n ih =>
    intro q d u as A E s Q hd hc hr h
    cases hr with
    | int i t => unfold hashByValue; exact wpAny_pure (h _)
    | str x t => unfold hashByValue; exact wpAny_pure (h _)
    | none => simp [Cano] at hc
    | bool b => simp [Cano] at hc
    | list a1 a2 a3 a4 => simp [Cano] at hc
    | dict a1 a2 a3 a4 a5 => simp [Cano] at hc
    | @tuple a o items m ds as ho hcl hdt hi =>
      have hT : s.TypeIs (.ref a) "tuple" := ⟨o, ho, hcl⟩
      have hd' : PyData.depthAll ds ≤ n := by simp only [PyData.depth] at hd; omega
      have hc' : CanoAll ds = true := hc
      cases q with
      | zero => unfold hashByValue; exact wpAny_pure (h _)
      | succ q' =>
        unfold hashByValue
        refine wpAny_bind (wpAny_specialOf hT F.slot_tuple_hash.lookup (show wpAny _ _ (seqItems? (.ref a) >>= _) _ _ s from ?_))
        refine wpAny_bind (wpAny_seqItems ho hdt (wpAny_bind (show wpAny _ _ (forIn items _ _) _ _ s from ?_)))
        rw [← Array.forIn_toList]
        refine wpAny_forIn_list _ (fun rest r s' => r.1 = none ∧ s' = s ∧ ∃ lf bs, ReadsAll s.heap rest lf bs ∧ CanoAll lf = true ∧ PyData.depthAll lf ≤ n) _ ?_ ?_ _ _ ⟨rfl, rfl, ds, as, hi, hc', hd'⟩
        · rintro v rest r s' ⟨hr, rfl, lf, bs, hl, hcl, hdl⟩
          cases hl with
          | @cons _ _ d ds' as1 bs1 h1 hl' =>
            simp only [CanoAll, Bool.and_eq_true] at hcl
            simp only [PyData.depthAll] at hdl
            refine wpAny_bind (ih q' d v as1 A _ s' _ (by omega) hcl.1 h1 fun b => ?_)
            cases b
            · exact wpAny_pure (wpAny_pure (h _))
            · exact wpAny_pure ⟨rfl, rfl, ds', bs1, hl', hcl.2, by omega⟩
        · rintro ⟨r1, r2⟩ s' ⟨hr, rfl, _⟩
          simp only at hr
          subst hr
          exact wpAny_pure (h _)
def TrAt (h : Heap) (d : PyData) (b : Addr) : Prop := KeyTree d ∧ ∃ as, Reads h (.ref b) d as
variable {A : Around} {E : Value → Shared → Prop} {s : Shared}
theorem seen_ok {d : PyData} {b : Addr} (hx : TrAt s.heap d b) : ∀ {vs : List Value} {Q : Bool → Shared → Prop}, (∀ v ∈ vs, ∃ e c, v = .ref c ∧ TrAt s.heap e c) → Q false s → wpAny (model prog w) A (searchCouldBeSeen (.ref b) vs) Q E s := by
  intro vs Q hv h
  obtain ⟨kx, as, rx⟩ := hx
  unfold searchCouldBeSeen
  refine wpAny_bind (wpAny_forIn_list _ (fun rest r s' => r.1 = none ∧ s' = s ∧ ∀ v ∈ rest, ∃ e c, v = .ref c ∧ TrAt s.heap e c) _ ?_ ?_ _ _ ⟨rfl, rfl, hv⟩)
  · rintro v rest ⟨r1, r2⟩ s' ⟨hr, rfl, hv'⟩
    obtain ⟨e, c, rfl, ke, bs, re⟩ := hv' v (.head _)
    have hrest : ∀ v ∈ rest, ∃ e c, v = .ref c ∧ TrAt s'.heap e c := fun v h => hv' v (.tail _ h)
    dsimp only
    split
    · exact wpAny_pure ⟨rfl, rfl, hrest⟩
    · refine wpAny_bind (quiet_ok 6 8 _ _ as _ _ _ _ kx.dep (by decide) kx.can rx ?_)
      simp only [Bool.not_true, Bool.false_eq_true, if_false]
      refine wpAny_bind (quiet_ok 6 8 _ _ bs _ _ _ _ ke.dep (by decide) ke.can re ?_)
      simp only [Bool.not_true, Bool.false_eq_true, if_false]
      refine wpAny_bind (cls_ok 6 8 _ _ as _ _ _ _ kx.dep (by decide) kx.can rx ?_)
      simp only [Bool.false_eq_true, if_false]
      refine wpAny_bind (cls_ok 6 8 _ _ bs _ _ _ _ ke.dep (by decide) ke.can re ?_)
      simp only [Bool.false_eq_true, if_false]
      exact wpAny_pure ⟨rfl, rfl, hrest⟩
  · rintro ⟨r1, r2⟩ s' ⟨hr, rfl, _⟩
    simp only at hr
    subst hr
    exact wpAny_pure h
def entT (w : World) (x : PyData × Addr) : Int × Value := (hashD w x.1, .ref x.2)
def SetT (w : World) (h : Heap) (a : Addr) (xs : List (PyData × Addr)) (led : Bool) : Prop :=
  ∃ o es ep t, h.get? a = some o ∧ o.ExactSet ∧ o.data = .set es ep t ∧ es.toList = xs.map (entT w) ∧ (∀ x ∈ xs, TrAt h x.1 x.2) ∧ t.fits es.size = true ∧ TblOk t led ∧ TabQ t (xs.map fun x => hashD w x.1) ∧ xs.length * 5 < t.mask * 3
theorem probe_hash {t : SetTable} {f g : Nat → Int} {h : Int} {p : SetTable.Probe} (e : ∀ i, f i = g i) : t.probe f h p = t.probe g h p := by rw [funext e]
theorem gave_no {t : SetTable} {hs : List Int} (q : TabQ t hs) : t.gaveWay = false := by
  unfold SetTable.gaveWay
  rcases q.msk with h | h | h <;> rw [h] <;> decide
theorem search_ok {a : Addr} {o : Obj} {es : Array (Int × Value)} {ep : Nat} {t : SetTable} {xs : List (PyData × Addr)} {led : Bool} {d : PyData} {b : Addr} {Q : SetFound → Shared → Prop} {fr : Nat} (hu : A.units + 6 < cLine) (ho : s.heap.get? a = some o) (hd : o.data = .set es ep t) (hl : es.toList = xs.map (entT w)) (hX : ∀ x ∈ xs, TrAt s.heap x.1 x.2) (hf : t.fits es.size = true) (hT : TblOk t led) (hQ : TabQ t (xs.map fun x => hashD w x.1)) (hx : TrAt s.heap d b)
    (he : sq t.mask (hashD w d) fr ∉ t.place.toList) (hb : ∀ m, m < fr → sq t.mask (hashD w d) m ∈ t.place.toList) (hfr : fr < 10 * SetTable.turns t.mask)
    (h1 : d ∈ xs.map (·.1) → Q (.there none) s) (h2 : d ∉ xs.map (·.1) → Q (.free (sq t.mask (hashD w d) fr) false) s) :
    ∀ (k n fuel : Nat) (stand : Option SetTable.Probe), n + k = fr → k < fuel → (stand = some (pAt t.mask (hashD w d) n) ∨ stand = none ∧ n = 0) → (∀ (m i : Nat) (x : PyData × Addr), m < n → t.place[i]? = some (sq t.mask (hashD w d) m) → xs[i]? = some x → x.1 ≠ d) →
      wpAny (model prog w) A (setSearchFrom a (.ref b) (hashD w d) true fuel stand) Q E s := by
  intro k
  induction k using Nat.strongRecOn with
  | _ k ih =>
  intro n fuel stand hn hfu hst hpass
  obtain ⟨fuel, rfl⟩ : ∃ f, fuel = f + 1 := ⟨fuel - 1, by omega⟩
  have hei : ∀ {i : Nat} {x : PyData × Addr}, xs[i]? = some x → es[i]? = some (entT w x) := fun {i x} h => by
    rw [← Array.getElem?_toList, hl, List.getElem?_map, h]; rfl
  have hxi : ∀ {i j : Nat}, t.place[i]? = some j → ∃ x, xs[i]? = some x := fun {i j} h => by
    have hi := (Array.getElem?_eq_some_iff.mp h).1
    have := hQ.len
    rw [List.length_map] at this
    exact ⟨_, List.getElem?_eq_getElem (by omega)⟩
  unfold setSearchFrom
  refine wpAny_bind (wpAny_setState_of ho hd hf ?_)
  dsimp only
  rw [gave_no hQ, if_neg Bool.false_ne_true]
  have hst' : stand.getD (t.probeStart (hashD w d)) = pAt t.mask (hashD w d) n := by
    rcases hst with rfl | ⟨rfl, rfl⟩
    · rfl
    · rfl
  rw [hst', probe_hash (g := fun i => ((xs.map fun x => hashD w x.1)[i]?).getD 0) ?_]
  · have key := probe_ok (hashAt := fun i => ((xs.map fun x => hashD w x.1)[i]?).getD 0) hT he hb (10 * SetTable.turns t.mask) n (by omega) (by omega)
    rcases key with ⟨a1, a2⟩ | ⟨k', i, b1, b2, b3, b4, b5, b6⟩
    · rw [show t.probe (fun i => ((xs.map fun x => hashD w x.1)[i]?).getD 0) (hashD w d) (pAt t.mask (hashD w d) n) = _ from a1]
      dsimp only
      refine wpAny_pure (h2 fun hin => ?_)
      obtain ⟨x, hxm, rfl⟩ := List.mem_map.mp hin
      obtain ⟨i, hi⟩ := List.getElem?_of_mem hxm
      have hil : i < t.place.size := by
        have := hQ.len
        have := (List.getElem?_eq_some_iff.mp hi).1
        rw [List.length_map] at *
        omega
      have hpi : t.place[i]? = some t.place[i] := Array.getElem?_eq_getElem hil
      obtain ⟨n', e1, e2⟩ := hQ.path (t.place[i], hashD w x.1) (List.mem_of_getElem? (i := i) (by
        rw [List.getElem?_zip_eq_some]
        exact ⟨by rw [Array.getElem?_toList]; exact hpi, by rw [List.getElem?_map, hi]; rfl⟩))
      dsimp only at e1 e2
      have hlt : n' < fr := by
        rcases Nat.lt_trichotomy n' fr with c | c | c
        · exact c
        · subst c
          rw [e1] at he
          exact absurd (by rw [← Array.getElem?_toList] at hpi; exact List.mem_of_getElem? hpi) he
        · exact absurd (e2 fr c) he
      rw [← e1] at hpi
      rcases Nat.lt_or_ge n' n with c | c
      · exact hpass n' i x c hpi hi rfl
      · exact a2 n' i c hlt hpi (by rw [List.getElem?_map, hi]; rfl)
    · rw [show t.probe (fun i => ((xs.map fun x => hashD w x.1)[i]?).getD 0) (hashD w d) (pAt t.mask (hashD w d) n) = _ from b5]
      obtain ⟨x, hi⟩ := hxi b3
      have hxm := List.mem_of_getElem? hi
      dsimp only
      rw [hei hi]
      dsimp only [entT]
      split
      · refine wpAny_bind (seen_ok hx (fun v hv => ?_) ?_)
        · obtain ⟨e, he', rfl⟩ := List.mem_map.mp hv
          have hm := (Array.mem_filter.mp (Array.mem_toList_iff.mp he')).1
          rw [← Array.mem_toList_iff, hl] at hm
          obtain ⟨y, hy, rfl⟩ := List.mem_map.mp hm
          exact ⟨y.1, y.2, rfl, hX y hy⟩
        rw [if_neg Bool.false_ne_true]
        refine wpAny_bind (wpAny_holding ((dataKind prog w).eqBool hu (hX x hxm) hx ?_))
        refine wpAny_bind (wpAny_setState_of ho hd hf ?_)
        dsimp only
        by_cases ceq : x.1 = d
        · rw [decide_eq_true ceq, if_pos (by rfl)]
          exact wpAny_pure (h1 (List.mem_map.mpr ⟨x, hxm, ceq⟩))
        · rw [decide_eq_false ceq, if_neg (by decide), show t.sameMemory t.moves t.mask = some true by unfold SetTable.sameMemory; rw [if_pos (by simp)]]
          dsimp only
          obtain ⟨i2, hs2, hp2⟩ := slot_in hT (hb k' b2)
          have hi2 : i2 = i := (below_at hT.rise hp2).symm.trans (below_at hT.rise b3)
          subst hi2
          rw [if_pos rfl, hs2]
          dsimp only
          rw [hei hi]
          dsimp only [entT]
          refine wpAny_bind (wpAny_isSame_ref_self (wpAny_bind (wpAny_pure ?_)))
          show wpAny _ _ (if false = true then _ else setSearchFrom a (.ref b) (hashD w d) true fuel (some (pAt t.mask (hashD w d) (k' + 1)))) _ _ _
          rw [if_neg Bool.false_ne_true]
          refine ih (fr - (k' + 1)) (by omega) (k' + 1) fuel _ (by omega) (by omega) (.inl rfl) fun m i3 y hm h3 h4 => ?_
          rcases Nat.lt_or_ge m n with c | c
          · exact hpass m i3 y c h3 h4
          · rcases Nat.lt_or_ge m k' with c2 | c2
            · intro e5
              refine b6 m i3 c c2 h3 ?_
              rw [List.getElem?_map, h4, ← e5]; rfl
            · have e6 : m = k' := by omega
              subst e6
              have e7 : i3 = i2 := (below_at hT.rise h3).symm.trans (below_at hT.rise b3)
              subst e7
              rw [hi] at h4
              cases h4
              exact ceq
      · refine wpAny_bind (wpAny_holding ((dataKind prog w).eqBool hu (hX x hxm) hx ?_))
        refine wpAny_bind (wpAny_setState_of ho hd hf ?_)
        dsimp only
        by_cases ceq : x.1 = d
        · rw [decide_eq_true ceq, if_pos (by rfl)]
          exact wpAny_pure (h1 (List.mem_map.mpr ⟨x, hxm, ceq⟩))
        · rw [decide_eq_false ceq, if_neg (by decide), show t.sameMemory t.moves t.mask = some true by unfold SetTable.sameMemory; rw [if_pos (by simp)]]
          dsimp only
          obtain ⟨i2, hs2, hp2⟩ := slot_in hT (hb k' b2)
          have hi2 : i2 = i := (below_at hT.rise hp2).symm.trans (below_at hT.rise b3)
          subst hi2
          rw [if_pos rfl, hs2]
          dsimp only
          rw [hei hi]
          dsimp only [entT]
          refine wpAny_bind (wpAny_isSame_ref_self (wpAny_bind (wpAny_pure ?_)))
          show wpAny _ _ (if false = true then _ else setSearchFrom a (.ref b) (hashD w d) true fuel (some (pAt t.mask (hashD w d) (k' + 1)))) _ _ _
          rw [if_neg Bool.false_ne_true]
          refine ih (fr - (k' + 1)) (by omega) (k' + 1) fuel _ (by omega) (by omega) (.inl rfl) fun m i3 y hm h3 h4 => ?_
          rcases Nat.lt_or_ge m n with c | c
          · exact hpass m i3 y c h3 h4
          · rcases Nat.lt_or_ge m k' with c2 | c2
            · intro e5
              refine b6 m i3 c c2 h3 ?_
              rw [List.getElem?_map, h4, ← e5]; rfl
            · have e6 : m = k' := by omega
              subst e6
              have e7 : i3 = i2 := (below_at hT.rise h3).symm.trans (below_at hT.rise b3)
              subst e7
              rw [hi] at h4
              cases h4
              exact ceq
  · intro i
    show (es[i]?.map (·.1)).getD 0 = _
    rw [← Array.getElem?_toList, hl, List.getElem?_map, List.getElem?_map]
    cases xs[i]? <;> rfl
theorem TrAt.but {h h' : Heap} {p : Addr} {d : PyData} {b : Addr} (x : TrAt h d b) (hk : ∀ c o, c ≠ p → h.get? c = some o → h'.get? c = some o) (hp : ∀ o vs n, h.get? p = some o → o.data ≠ .seq vs n) : TrAt h' d b := let ⟨k, as, r⟩ := x; ⟨k, as, reads_but hk hp r k.can⟩
theorem setT_store {a : Addr} {led : Bool} {h : Heap} {o : Obj} {es : Array (Int × Value)} {ep : Nat} {t : SetTable} (ho : h.get? a = some o) (hex : o.ExactSet) (hd : o.data = .set es ep t) {es' : Array (Int × Value)} {t' : SetTable} {xs' : List (PyData × Addr)} (hl : es'.toList = xs'.map (entT w)) (hX : ∀ x ∈ xs', TrAt h x.1 x.2) (hf : t'.fits es'.size = true) (hT : TblOk t' led) (hQ : TabQ t' (xs'.map fun x => hashD w x.1)) :
    (h.update a (Obj.putSet es' t')).get? a = some { o with data := .set es' (ep + 1) t' } ∧ (∀ x ∈ xs', TrAt (h.update a (Obj.putSet es' t')) x.1 x.2) ∧ (xs'.length * 5 < t'.mask * 3 → SetT w (h.update a (Obj.putSet es' t')) a xs' led) := by
  have e := Heap.get?_update_self (Obj.putSet es' t') ho (by rw [putSet_of es' t' hd]; rfl)
  rw [putSet_of es' t' hd] at e
  have hX' : ∀ x ∈ xs', TrAt (h.update a (Obj.putSet es' t')) x.1 x.2 := fun x hx => (hX x hx).but (p := a) (fun c o hc e => ((Heap.SameBut.update h a (Obj.putSet es' t')).2 c hc).trans e) (fun o' vs n e' q => by rw [ho] at e'; cases e'; rw [hd] at q; cases q)
  exact ⟨e, hX', fun hB => ⟨_, es', ep + 1, t', e, hex, rfl, hl, hX', hf, hT, hQ, hB⟩⟩
theorem range_pick {α : Type} : ∀ (ys pre : List α), (List.range' pre.length ys.length).filterMap (fun i => (pre ++ ys)[i]?) = ys
  | [], pre => rfl
  | y :: ys, pre => by
    have := range_pick ys (pre ++ [y])
    rw [List.length_append, List.append_assoc] at this
    rw [List.length_cons, List.range'_succ, List.filterMap_cons, List.getElem?_append_right (Nat.le_refl _), Nat.sub_self]
    show y :: _ = _
    exact congrArg (y :: ·) this
theorem pick_perm2 {α : Type} {xs : List α} {l : List Nat} (hp : l.Perm (List.range xs.length)) : (l.filterMap fun i => xs[i]?).Perm xs := by
  have h1 := hp.filterMap fun i => xs[i]?
  have h2 := range_pick xs []
  rw [List.nil_append, List.length_nil, ← List.range_eq_range'] at h2
  rwa [h2] at h1
theorem pick_hash {xs : List (PyData × Addr)} {hs : Array Int} (hh : hs.toList = xs.map fun x => hashD w x.1) : ∀ (l : List Nat), (∀ i ∈ l, i < xs.length) → (l.map fun i => hs.getD i 0) = (l.filterMap fun i => xs[i]?).map fun x => hashD w x.1
  | [], _ => rfl
  | i :: l, hl => by
    have hi := hl i (.head _)
    have e : xs[i]? = some xs[i] := List.getElem?_eq_getElem hi
    rw [List.map_cons, List.filterMap_cons, e, List.map_cons, pick_hash hh l fun j hj => hl j (.tail _ hj)]
    rw [Array.getD_eq_getD_getElem?, ← Array.getElem?_toList, hh, List.getElem?_map, e]; rfl
theorem relay_ok {a : Addr} {led : Bool} {o : Obj} {es : Array (Int × Value)} {ep : Nat} {t : SetTable} {xs : List (PyData × Addr)} {wanted : Nat} {Q : Unit → Shared → Prop} (ho : s.heap.get? a = some o) (hex : o.ExactSet) (hd : o.data = .set es ep t) (hl : es.toList = xs.map (entT w)) (hX : ∀ x ∈ xs, TrAt s.heap x.1 x.2) (hf : t.fits es.size = true) (hT : TblOk t led)
    (hm : Msk (SetTable.sizeAbove wanted - 1)) (hz : SetTable.sizeAbove wanted ≤ sizeLine) (hn : xs.length * 5 < (SetTable.sizeAbove wanted - 1) * 3)
    (h : ∀ h' xs', Heap.SameBut a s.heap h' → SetT w h' a xs' led → xs'.Perm xs → Q () { s with heap := h' }) : wpAny (model prog w) A (setRelay a wanted) Q E s := by
  have hes : es.size = xs.length := by rw [← Array.length_toList, hl, List.length_map]
  have hhs : (es.map (·.1)).toList = xs.map fun x => hashD w x.1 := by rw [Array.toList_map, hl, List.map_map]; rfl
  obtain ⟨t', order, e1, e2, e3, e4⟩ := laid_ok (f := t.finger) (mv := t.movedTo (SetTable.sizeAbove wanted - 1)) (led := t.led) (pl := t.plain) hm (es.map (·.1)) (by rw [Array.size_map, hes]; omega)
  rw [Array.size_map, hes] at e3
  have hT' : TblOk t' led := by have := TblOk.laid e1; rw [hT.led] at this; exact this
  have hlt : ∀ i ∈ order.toList, i < xs.length := fun i hi => List.mem_range.mp (e3.mem_iff.mp hi)
  rw [pick_hash hhs order.toList hlt] at e4
  have hxp := pick_perm2 e3
  have hes' : (order.filterMap fun i => es[i]?).toList = (order.toList.filterMap fun i => xs[i]?).map (entT w) := by
    rw [Array.toList_filterMap, List.map_filterMap]
    congr 1
    funext i
    rw [← Array.getElem?_toList, hl, List.getElem?_map]
  have hsz' : (order.filterMap fun i => es[i]?).size = es.size := by rw [← Array.length_toList, hes', List.length_map, hxp.length_eq, hes]
  unfold setRelay
  refine wpAny_bind (wpAny_setState_of ho hd hf (show wpAny _ _ _ _ _ _ from ?_))
  dsimp only
  rw [if_neg (Nat.not_lt.mpr hz), show t.relaid (es.map (·.1)) wanted = some (t', order) from e1]
  refine wpAny_bind (show wpAny _ _ (if ((order.filterMap fun i => es[i]?).size != es.size) = true then _ else pure (order.filterMap fun i => es[i]?, t')) _ _ _ from ?_)
  rw [if_neg (by rw [hsz']; simp)]
  refine wpAny_pure (show wpAny _ _ (storeSet a (order.filterMap fun i => es[i]?) t') _ _ _ from ?_)
  generalize (order.filterMap fun i => es[i]?) = es2 at hes' hsz'
  generalize (order.toList.filterMap fun i => xs[i]?) = xs2 at hes' hxp e4
  have hl2 := hxp.length_eq
  have hf2 : t'.fits es2.size = true := by
    have := e4.len
    rw [List.length_map] at this
    simp only [SetTable.fits, SetTable.fill, hT'.dum, Bool.and_eq_true, beq_iff_eq, decide_eq_true_eq]
    rw [e2, hsz']
    refine ⟨by omega, ?_⟩
    show t'.place.size + 0 ≤ _
    omega
  obtain ⟨g1, g2, g3⟩ := setT_store (led := led) ho hex hd hes' (fun x hx => hX x (hxp.mem_iff.mp hx)) hf2 hT' e4
  exact wpAny_storeSet_of ho hd (h _ _ (Heap.SameBut.update _ _ _) (g3 (by rw [e2]; omega)) hxp) (by rw [hsz', hes]; have : sizeLine = 16777216 := rfl; omega)
theorem TabQ.pln {t : SetTable} {hs : List Int} (q : TabQ t hs) (b : Bool) : TabQ { t with plain := b } hs := ⟨q.msk, q.len, q.le, q.path⟩
theorem add_tree {a : Addr} {led : Bool} {xs : List (PyData × Addr)} {d : PyData} {b : Addr} {Q : Bool → Shared → Prop} (hu : A.units + 6 < cLine) (hx : TrAt s.heap d b) (hS : SetT w s.heap a xs led) (hn : xs.length < 70)
    (h1 : d ∈ xs.map (·.1) → Q false s) (h2 : d ∉ xs.map (·.1) → ∀ h' xs', Heap.SameBut a s.heap h' → SetT w h' a xs' led → xs'.Perm ((d, b) :: xs) → Q true { s with heap := h' }) :
    wpAny (model prog w) A (setAddHashed a (.ref b) (hashD w d)) Q E s := by
  obtain ⟨o, es, ep, t, ho, hex, hd, hl, hX, hf, hT, hQ, hB⟩ := hS
  have hes : es.size = xs.length := by rw [← Array.length_toList, hl, List.length_map]
  have hpl : t.place.size = xs.length := by have := hQ.len; rwa [List.length_map] at this
  obtain ⟨x0, hx1, hx2⟩ := tab_room hQ hT (by rw [List.length_map]; omega)
  obtain ⟨fr, f1, f2, f3⟩ := first_free hQ.msk (hashD w d) (fun j => j ∈ t.place.toList) hx1 hx2
  unfold setAddHashed setAddHashedIn
  refine wpAny_holding (wpAny_bind (wpAny_setState_of ho hd hf (show wpAny _ _ _ _ _ _ from ?_)))
  dsimp only
  rw [show byScan (.ref b) es = false from rfl, if_neg Bool.false_ne_true]
  unfold setSearch
  refine wpAny_bind (search_ok hu ho hd hl hX hf hT hQ hx f2 f3 f1 (fun hin => ?_) (fun hni => ?_) fr 0 100000 none (by omega) ?_ (.inr ⟨rfl, rfl⟩) (fun m i x hm => absurd hm (Nat.not_lt_zero _)))
  · exact wpAny_pure (h1 hin)
  · dsimp only
    refine wpAny_bind (wpAny_setState_of ho hd hf ?_)
    dsimp only
    have hp : SetTable.below t.place (sq t.mask (hashD w d) fr) ≤ t.place.size := (below_ok hT.rise _).1
    have hQ1 := hQ.put (h := hashD w d) (n := fr) hT f3
    have hT1 := hT.put (slot_empty hT (slot_out hT f2))
    have e2 : (t.put (sq t.mask (hashD w d) fr)).2 = SetTable.below t.place (sq t.mask (hashD w d) fr) := rfl
    have e3 : (t.put (sq t.mask (hashD w d) fr)).1.mask = t.mask := rfl
    rw [e2]
    have hsz : (t.put (sq t.mask (hashD w d) fr)).1.place.size = xs.length + 1 := by
      have := hQ1.len
      rw [this]
      simp only [List.length_append, List.length_cons, List.length_take, List.length_drop, List.length_map]
      omega
    generalize hpp : SetTable.below t.place (sq t.mask (hashD w d) fr) = p at hp hQ1 ⊢
    generalize (t.put (sq t.mask (hashD w d) fr)).1 = t1 at hQ1 hT1 e3 hsz ⊢
    have hl1 : (SetTable.insertAt es p (hashD w d, .ref b)).toList = (xs.take p ++ (d, b) :: xs.drop p).map (entT w) := by
      rw [insert_list _ _ _ (by omega), hl, List.map_append, List.map_cons, List.map_take, List.map_drop]; rfl
    have hQ2 : TabQ t1 ((xs.take p ++ (d, b) :: xs.drop p).map fun x => hashD w x.1) := by
      rw [List.map_append, List.map_cons, List.map_take, List.map_drop]; exact hQ1
    have hperm : (xs.take p ++ (d, b) :: xs.drop p).Perm ((d, b) :: xs) := by
      refine List.perm_middle.trans ?_
      rw [List.take_append_drop]
    have hlen := hperm.length_eq
    rw [List.length_cons] at hlen
    have hX1 : ∀ x ∈ xs.take p ++ (d, b) :: xs.drop p, TrAt s.heap x.1 x.2 := fun x hx' => by
      rcases List.mem_cons.mp (hperm.mem_iff.mp hx') with rfl | hx'
      · exact hx
      · exact hX x hx'
    have hsz1 : (SetTable.insertAt es p (hashD w d, .ref b)).size = xs.length + 1 := by rw [← Array.length_toList, hl1, List.length_map, hlen]
    generalize SetTable.insertAt es p (hashD w d, .ref b) = es1 at hl1 hsz1 ⊢
    generalize xs.take p ++ (d, b) :: xs.drop p = xs1 at hl1 hQ2 hperm hlen hX1
    clear hpp hp hQ1 e2
    have hsl : sizeLine = 16777216 := rfl
    have fin : ∀ t2 : SetTable, t2.mask = t.mask → t2.place.size = xs.length + 1 → TblOk t2 led → TabQ t2 (xs1.map fun x => hashD w x.1) → wpAny (model prog w) A (do
        storeSet a es1 t2
        if (!false && t2.tooFull) = true then do
          setRelay a (SetTable.grown (es.size + 1))
          pure true
        else pure true) Q E s := fun t2 g1 g2 g3 g4 => by
      have hf2 : t2.fits es1.size = true := by
        simp only [SetTable.fits, SetTable.fill, g3.dum, Bool.and_eq_true, beq_iff_eq, decide_eq_true_eq]
        refine ⟨by omega, ?_⟩
        show t2.place.size + 0 ≤ _
        rcases hQ.msk with c | c | c <;> omega
      obtain ⟨k1, k2, k3⟩ := setT_store (led := led) ho hex hd hl1 hX1 hf2 g3 g4
      have b1 := Heap.SameBut.update s.heap a (Obj.putSet es1 t2)
      refine wpAny_bind (wpAny_storeSet_of ho hd ?_ (by omega))
      have hfull : t2.tooFull = decide ((xs.length + 1) * 5 ≥ t.mask * 3) := by
        unfold SetTable.tooFull SetTable.fill
        rw [g1, g2, g3.dum]; rfl
      by_cases c : (xs.length + 1) * 5 ≥ t.mask * 3
      · rw [if_pos (by rw [hfull, decide_eq_true c]; rfl)]
        have hcase : (t.mask = 7 ∧ es.size + 1 = 5) ∨ (t.mask = 31 ∧ es.size + 1 = 19) := by
          rcases hQ.msk with q | q | q
          · exact .inl ⟨q, by omega⟩
          · exact .inr ⟨q, by omega⟩
          · omega
        have hw : Msk (SetTable.sizeAbove (SetTable.grown (es.size + 1)) - 1) ∧ SetTable.sizeAbove (SetTable.grown (es.size + 1)) ≤ sizeLine ∧ xs1.length * 5 < (SetTable.sizeAbove (SetTable.grown (es.size + 1)) - 1) * 3 := by
          rcases hcase with ⟨_, q⟩ | ⟨_, q⟩
          · rw [q, show SetTable.sizeAbove (SetTable.grown 5) = 32 by decide +kernel]
            exact ⟨.inr (.inl rfl), by omega, by omega⟩
          · rw [q, show SetTable.sizeAbove (SetTable.grown 19) = 128 by decide +kernel]
            exact ⟨.inr (.inr rfl), by omega, by omega⟩
        refine wpAny_bind (relay_ok (s := { s with heap := s.heap.update a (Obj.putSet es1 t2) }) (o := { o with data := .set es1 (ep + 1) t2 }) k1 hex rfl hl1 k2 hf2 g3 hw.1 hw.2.1 hw.2.2 fun h' xs' c1 c2 c3 => wpAny_pure ?_)
        exact h2 hni h' xs' (b1.trans c1) c2 (c3.trans hperm)
      · rw [if_neg (by rw [hfull, decide_eq_false c]; decide)]
        exact wpAny_pure (h2 hni _ _ b1 (k3 (by rw [g1]; omega)) hperm)
    split
    · obtain ⟨kx, as, rx⟩ := hx
      refine wpAny_bind (byv_ok 6 8 _ _ as _ _ _ _ kx.dep kx.can rx fun bv => ?_)
      cases bv
      · exact fin _ e3 hsz (hT1.plain false) (hQ2.pln false)
      · exact fin _ e3 hsz hT1 hQ2
    · exact wpAny_bind (wpAny_pure (fin _ e3 hsz hT1 hQ2))
  · have : SetTable.turns t.mask ≤ 142 := by unfold SetTable.turns; rcases hQ.msk with c | c | c <;> omega
    omega
end
end L2
namespace L2
open PySem PySem.Spec PyProof.Rows
section
variable {prog : Program} {w : World} {A : Around} {R : Result → Shared → Prop} {sa it t : Addr} {led : Bool}
structure StepIt (prog : Program) (w : World) (it t : Addr) (items : Array Value) (St : Nat → Heap → Prop) : Prop where
  item : ∀ {A : Around} {E : Value → Shared → Prop} {s : Shared} {i : Nat} {x : Value} {Q : Option Value → Shared → Prop}, St i s.heap → items[i]? = some x → (∀ h', St (i + 1) h' → Heap.SameBut it s.heap h' → Q (some x) { s with heap := h' }) → wpAny (model prog w) A (pyNext (.ref it)) Q E s
  fin : ∀ {A : Around} {E : Value → Shared → Prop} {s : Shared} {i : Nat} {Q : Option Value → Shared → Prop}, A.handled = none → St i s.heap → items[i]? = none → (∀ h', Heap.ExtBut it s.heap h' → Q none { s with heap := h' }) → wpAny (model prog w) A (pyNext (.ref it)) Q E s
  keep : ∀ {i : Nat} {h h' : Heap} {p : Addr}, it ≠ p → t ≠ p → St i h → Heap.SameBut p h h' → St i h'
  noseq : ∀ {i : Nat} {h : Heap} {o : Obj} {vs : Array Value} {n : Nat}, St i h → h.get? it = some o → o.data ≠ .seq vs n
theorem step_list {items : Array Value} (hit : t ≠ it) : StepIt prog w it t items fun i h => h.IsListIter it t i ∧ h.IsList t items where
  item := fun st hx q => wpAny_pyNext_list_item st.1 st.2 hx fun h' s1 sb => q h' ⟨s1, let ⟨o, e, r⟩ := st.2; ⟨o, (sb.2 t hit).trans e, r⟩⟩ sb
  fin := fun hh st hx q => wpAny_pyNext_list_end hh st.1 st.2 hx q
  keep := fun h1 h2 st sb => ⟨st.1.at fun o e => (sb.2 it h1).trans e, let ⟨o, e, r⟩ := st.2; ⟨o, (sb.2 t h2).trans e, r⟩⟩
  noseq := fun st e q => by
    obtain ⟨⟨o, e', c, d⟩, _⟩ := st
    rw [e] at e'; cases e'
    rw [d] at q; cases q
theorem step_tuple {items : Array Value} (hit : t ≠ it) : StepIt prog w it t items fun i h => h.IsTupleIter it t i ∧ h.IsTuple t items where
  item := fun st hx q => wpAny_pyNext_tuple_item st.1 st.2 hx fun h' s1 sb => q h' ⟨s1, st.2.at fun o e => (sb.2 t hit).trans e⟩ sb
  fin := fun hh st hx q => wpAny_pyNext_tuple_end hh st.1 st.2 hx q
  keep := fun h1 h2 st sb => ⟨st.1.at fun o e => (sb.2 it h1).trans e, st.2.at fun o e => (sb.2 t h2).trans e⟩
  noseq := fun st e q => by
    obtain ⟨⟨o, e', c, d⟩, _⟩ := st
    rw [e] at e'; cases e'
    rw [d] at q; cases q
theorem SetT.at {h h' : Heap} {xs : List (PyData × Addr)} (x : SetT w h sa xs led) (hs : ∀ o, h.get? sa = some o → h'.get? sa = some o) (hX : ∀ x ∈ xs, TrAt h x.1 x.2 → TrAt h' x.1 x.2) : SetT w h' sa xs led := by
  obtain ⟨o, es, ep, tt, e, a1, a2, a3, a4, r⟩ := x
  exact ⟨o, es, ep, tt, hs o e, a1, a2, a3, fun x hx => hX x hx (a4 x hx), r⟩
theorem SetT.noseq {h : Heap} {xs : List (PyData × Addr)} (x : SetT w h sa xs led) {o : Obj} {vs : Array Value} {n : Nat} (e : h.get? sa = some o) : o.data ≠ .seq vs n := fun q => by
  obtain ⟨o', es, ep, tt, e', _, a2, _⟩ := x
  rw [e] at e'; cases e'
  rw [a2] at q; cases q
theorem tree_loop {St : Nat → Heap → Prop} {items : Array Value} (S : StepIt prog w it t items St) (hh : A.handled = none) (hu : A.units + 20 < cLine) (hne : sa ≠ it) (hst : sa ≠ t) {ks : List (PyData × Addr)} (hks : items.toList = ks.map fun x => .ref x.2) (hsz : items.size < 64) :
    ∀ (m i : Nat) (s : Shared) (xs : List (PyData × Addr)), m + i = items.size → St i s.heap → SetT w s.heap sa xs led → (∀ x ∈ ks, TrAt s.heap x.1 x.2) → (xs.map (·.1)).Nodup → (∀ d, d ∈ xs.map (·.1) ↔ d ∈ (ks.take i).map (·.1)) → (∀ x ∈ xs, x ∈ ks) → xs.length ≤ i →
      (∀ h' tk xs', (∀ b o, b ≠ sa → b ≠ it → s.heap.get? b = some o → h'.get? b = some o) → SetT w h' sa xs' led → (xs'.map (·.1)).Nodup → (∀ d, d ∈ xs'.map (·.1) ↔ d ∈ ks.map (·.1)) → (∀ x ∈ xs', x ∈ ks) → xs'.length ≤ items.size → R (.ok (.ret .none)) { s with heap := h', toks := tk }) →
      codeAny (model prog w) A (.builtin "set.update.loop" ⟨[.ref sa, .ref it], []⟩) R s := by
  have hkl : ks.length = items.size := by rw [← Array.length_toList, hks, List.length_map]
  intro m
  induction m with
  | zero =>
    intro i s xs hm hI hS hX hN hd hin hl q
    refine codeAny_builtin ul_entry ?_
    rw [Around.under_plainId ul_plain _]
    refine (show wpAny _ A.in1 (pyNext (.ref it) >>= _) _ _ s from wpAny_bind (S.fin (show A.in1.handled = none from hh) hI (by rw [Array.getElem?_eq_none (by omega)]) fun h' hx => ?_))
    refine wpAny_pure (q h' s.toks xs (fun b o h1 h2 e => hx b o h2 e) ?_ hN (fun d => ?_) hin (by omega))
    · exact hS.at (fun o e => hx sa o hne e) fun x _ tr => tr.but (p := it) (fun c o hc e => hx c o hc e) fun o vs n e => S.noseq hI e
    · rw [hd d, List.take_of_length_le (by omega)]
  | succ m ih =>
    intro i s xs hm hI hS hX hN hd hin hl q
    have hi : i < items.size := by omega
    have hki : i < ks.length := by omega
    have hx : items[i]? = some (.ref ks[i].2) := by
      rw [← Array.getElem?_toList, hks, List.getElem?_map, List.getElem?_eq_getElem hki]; rfl
    have htk : ∀ d, d ∈ (ks.take (i + 1)).map (·.1) ↔ d = ks[i].1 ∨ d ∈ (ks.take i).map (·.1) := fun d => by
      rw [List.take_succ, List.getElem?_eq_getElem hki, List.map_append, List.mem_append]
      simp only [Option.toList_some, List.map_cons, List.map_nil, List.mem_singleton]
      exact Or.comm
    have hkm := List.getElem_mem hki
    generalize ks[i] = kx at hx htk hkm
    obtain ⟨d0, b0⟩ := kx
    refine codeAny_builtin ul_entry ?_
    rw [Around.under_plainId ul_plain _]
    refine (show wpAny _ A.in1 (pyNext (.ref it) >>= _) _ _ s from wpAny_bind (S.item hI hx fun h1 st1 sb1 => ?_))
    have tr1 : ∀ {d : PyData} {b : Addr}, TrAt s.heap d b → TrAt h1 d b := fun tr => tr.but (p := it) (fun c o hc e => (sb1.2 c hc).trans e) fun o vs n e => S.noseq hI e
    have hS1 : SetT w h1 sa xs led := hS.at (fun o e => (sb1.2 sa hne).trans e) fun x _ tr => tr1 tr
    have hT0 : TrAt h1 d0 b0 := tr1 (hX _ hkm)
    refine (show wpAny _ A.in1 (holding [.ref b0] (setAdd sa (.ref b0)) >>= _) _ _ _ from wpAny_bind (wpAny_holding ?_))
    unfold setAdd
    have hu1 : A.in1.units + 6 < cLine := by show A.units + 1 + 6 < cLine; omega
    refine wpAny_holding (wpAny_bind ((dataKind prog w).pyHash (s := { s with heap := h1 }) hu1 hT0 ?_))
    refine add_tree (s := { s with heap := h1, toks := s.toks + drawsD d0 }) hu1 hT0 hS1 (by omega) (fun hex => ?_) (fun hno h2 xs' sb2 hS2 hp => ?_)
    · refine wpAny_pure ⟨plainId_quiet ul_plain _, ih (i + 1) _ xs (by omega) st1 hS1 (fun x hx' => tr1 (hX x hx')) hN (fun d => ?_) hin (by omega) fun h' tk xs'' hkeep a1 a2 a3 a4 a5 => ?_⟩
      · rw [htk d, ← hd d]
        exact ⟨.inr, fun h => h.elim (fun e => by rw [e]; exact hex) id⟩
      · exact q h' tk xs'' (fun b o b1 b2 e => hkeep b o b1 b2 ((sb1.2 b b2).trans e)) a1 a2 a3 a4 a5
    · have hlen : xs'.length = xs.length + 1 := hp.length_eq
      have tr2 : ∀ {d : PyData} {b : Addr}, TrAt h1 d b → TrAt h2 d b := fun tr => tr.but (p := sa) (fun c o hc e => (sb2.2 c hc).trans e) fun o vs n e => hS1.noseq e
      have hpm := hp.map (·.1)
      refine wpAny_pure ⟨plainId_quiet ul_plain _, ih (i + 1) _ xs' (by omega) (S.keep hne.symm hst.symm st1 sb2) hS2 (fun x hx' => tr2 (tr1 (hX x hx'))) (hpm.nodup_iff.mpr (List.nodup_cons.mpr ⟨hno, hN⟩)) (fun d => ?_) (fun x hx' => ?_) (by omega) fun h' tk xs'' hkeep a1 a2 a3 a4 a5 => ?_⟩
      · rw [hpm.mem_iff, htk d, ← hd d]
        exact List.mem_cons
      · rcases List.mem_cons.mp (hp.mem_iff.mp hx') with rfl | hx'
        · exact hkm
        · exact hin x hx'
      · exact q h' tk xs'' (fun b o b1 b2 e => hkeep b o b1 b2 ((sb2.2 b b1).trans ((sb1.2 b b2).trans e))) a1 a2 a3 a4 a5
theorem sub_lst_set : isSubtype (.type "list") (.type "set") = pure false := by rw [isSubtype_type]; kernel_rfl
theorem sub_lst_fro : isSubtype (.type "list") (.type "frozenset") = pure false := by rw [isSubtype_type]; kernel_rfl
theorem new_setT {h : Heap} : SetT w (h.push (newSetObj w)) h.objs.size [] (ledOf w) :=
  ⟨_, #[], 0, _, Heap.get?_push_size _ rfl, ⟨rfl, rfl, rfl⟩, rfl, rfl, (fun _ z => nomatch z), rfl, TblOk.fresh _, ⟨.inl rfl, rfl, (fun _ z => nomatch z), (fun _ z => nomatch z)⟩, (show 0 * 5 < 7 * 3 by decide)⟩
theorem upT_list {E : Value → Shared → Prop} {s : Shared} {id : String} {items : Array Value} {ks : List (PyData × Addr)} {Q : Unit → Shared → Prop} (hh : A.handled = none) (hu : A.units + 20 < cLine) (ht : s.heap.IsList t items) (hks : items.toList = ks.map fun x => .ref x.2) (hX : ∀ x ∈ ks, TrAt s.heap x.1 x.2) (hsz : items.size < 64)
    (hS : SetT w s.heap sa [] led) (hst : sa ≠ t)
    (h : ∀ h' tk xs', (∀ b o, b ≠ sa → s.heap.get? b = some o → h'.get? b = some o) → SetT w h' sa xs' led → (xs'.map (·.1)).Nodup → (∀ d, d ∈ xs'.map (·.1) ↔ d ∈ ks.map (·.1)) → (∀ x ∈ xs', x ∈ ks) → xs'.length ≤ items.size → Q () { s with heap := h', toks := tk }) :
    wpAny (model prog w) A (Builtin.Frozenset.updateFrom id sa (.ref t)) Q E s := by
  have T : s.TypeIs (.ref t) "list" := ht.typeIs
  have k1 := sub_lst_set
  have k2 := sub_lst_fro
  have k3 : (Value.type "list" == Value.type "dict") = false := by decide
  unfold Builtin.Frozenset.updateFrom
  generalize hPI : pyIter = PI
  wp_walk
  subst hPI
  refine wpAny_pyIter_list ht (show wpAny _ _ _ _ _ _ from wpAny_bind (wpAny_runValue ?_))
  have lt1 : t < s.heap.objs.size := by obtain ⟨o, e, _⟩ := ht; exact Heap.lt_size e
  have lt2 : sa < s.heap.objs.size := by obtain ⟨o, _, _, _, e, _⟩ := hS; exact Heap.lt_size e
  have up : ∀ {d : PyData} {b : Addr}, TrAt s.heap d b → TrAt (s.heap.push { cls := .type "list_iterator", data := .fields #[.ref t, .int 0 0] }) d b := fun ⟨k, as, r⟩ => ⟨k, as, PyProof.Rows.Reads.keeps (fun b o e => Heap.get?_push_of_some _ e) r⟩
  refine tree_loop (led := led) (step_list (items := items) (Nat.ne_of_lt lt1)) hh hu (Nat.ne_of_lt lt2) hst hks hsz items.size 0 _ [] (by omega) ⟨⟨_, Heap.get?_push_size _ rfl, rfl, rfl⟩, let ⟨o, e, r⟩ := ht; ⟨o, Heap.get?_push_of_some _ e, r⟩⟩ (hS.at (fun o e => Heap.get?_push_of_some _ e) fun _ _ tr => up tr) (fun x hx => up (hX x hx)) List.nodup_nil (fun d => by simp) (fun _ z => nomatch z) (Nat.zero_le _) fun h' tk xs' a1 a2 a3 a4 a5 a6 => ?_
  exact wpAny_pure (h h' tk xs' (fun b o n e => a1 b o n (Nat.ne_of_lt (Heap.lt_size e)) (Heap.get?_push_of_some _ e)) a2 a3 a4 a5 a6)
theorem upT_tuple {E : Value → Shared → Prop} {s : Shared} {id : String} {items : Array Value} {ks : List (PyData × Addr)} {Q : Unit → Shared → Prop} (hh : A.handled = none) (hu : A.units + 20 < cLine) (ht : s.heap.IsTuple t items) (hks : items.toList = ks.map fun x => .ref x.2) (hX : ∀ x ∈ ks, TrAt s.heap x.1 x.2) (hsz : items.size < 64)
    (hS : SetT w s.heap sa [] led) (hst : sa ≠ t)
    (h : ∀ h' tk xs', (∀ b o, b ≠ sa → s.heap.get? b = some o → h'.get? b = some o) → SetT w h' sa xs' led → (xs'.map (·.1)).Nodup → (∀ d, d ∈ xs'.map (·.1) ↔ d ∈ ks.map (·.1)) → (∀ x ∈ xs', x ∈ ks) → xs'.length ≤ items.size → Q () { s with heap := h', toks := tk }) :
    wpAny (model prog w) A (Builtin.Frozenset.updateFrom id sa (.ref t)) Q E s := by
  have T : s.TypeIs (.ref t) "tuple" := ht.typeIs
  have k1 := sub_tup_set
  have k2 := sub_tup_fro
  have k3 : (Value.type "tuple" == Value.type "dict") = false := by decide
  unfold Builtin.Frozenset.updateFrom
  generalize hPI : pyIter = PI
  wp_walk
  subst hPI
  refine wpAny_pyIter_tuple ht (show wpAny _ _ _ _ _ _ from wpAny_bind (wpAny_runValue ?_))
  have lt1 : t < s.heap.objs.size := by obtain ⟨o, e, _⟩ := ht; exact Heap.lt_size e
  have lt2 : sa < s.heap.objs.size := by obtain ⟨o, _, _, _, e, _⟩ := hS; exact Heap.lt_size e
  have up : ∀ {u : Obj} {d : PyData} {b : Addr}, TrAt s.heap d b → TrAt (s.heap.push u) d b := fun ⟨k, as, r⟩ => ⟨k, as, PyProof.Rows.Reads.keeps (fun b o e => Heap.get?_push_of_some _ e) r⟩
  refine tree_loop (led := led) (step_tuple (items := items) (Nat.ne_of_lt lt1)) hh hu (Nat.ne_of_lt lt2) hst hks hsz items.size 0 _ [] (by omega) ⟨⟨_, Heap.get?_push_size _ rfl, rfl, rfl⟩, ht.push _⟩ (hS.at (fun o e => Heap.get?_push_of_some _ e) fun _ _ tr => up tr) (fun x hx => up (hX x hx)) List.nodup_nil (fun d => by simp) (fun _ z => nomatch z) (Nat.zero_le _) fun h' tk xs' a1 a2 a3 a4 a5 a6 => ?_
  exact wpAny_pure (h h' tk xs' (fun b o n e => a1 b o n (Nat.ne_of_lt (Heap.lt_size e)) (Heap.get?_push_of_some _ e)) a2 a3 a4 a5 a6)
theorem TrAt.keeps {h h' : Heap} {d : PyData} {b : Addr} (x : TrAt h d b) (hk : ∀ b o, h.get? b = some o → h'.get? b = some o) : TrAt h' d b := let ⟨k, as, r⟩ := x; ⟨k, as, PyProof.Rows.Reads.keeps hk r⟩
theorem perm_map_inv {α β : Type} {f : α → β} {l m : List β} (h : l.Perm m) : ∀ xs : List α, m = xs.map f → ∃ ys : List α, l = ys.map f ∧ ys.Perm xs := by
  induction h with
  | nil =>
    intro xs e
    have : xs = [] := by simpa using e.symm
    subst this
    exact ⟨[], rfl, .nil⟩
  | cons a h ih =>
    intro xs e
    cases xs with
    | nil => cases e
    | cons x xs =>
      injection e with e1 e2
      obtain ⟨ys, rfl, p⟩ := ih xs e2
      exact ⟨x :: ys, by rw [e1]; rfl, p.cons x⟩
  | swap a b l =>
    intro xs e
    match xs, e with
    | x :: y :: xs, e =>
      injection e with e1 e2
      injection e2 with e2 e3
      exact ⟨y :: x :: xs, by rw [e1, e2, e3]; rfl, .swap x y xs⟩
  | trans h1 h2 ih1 ih2 =>
    intro xs e
    obtain ⟨ys, e1, p1⟩ := ih2 xs e
    obtain ⟨zs, e2, p2⟩ := ih1 ys e1
    exact ⟨zs, e2, p2.trans p1⟩
theorem trees_reads {h : Heap} : ∀ {zs : List (PyData × Addr)}, (∀ x ∈ zs, TrAt h x.1 x.2) → ∃ as, ReadsAll h (zs.map fun x => .ref x.2) (zs.map (·.1)) as
  | [], _ => ⟨_, .nil⟩
  | z :: zs, hx => by
    obtain ⟨as, r⟩ := trees_reads fun x hx' => hx x (.tail _ hx')
    obtain ⟨_, bs, r1⟩ := hx z (.head _)
    exact ⟨_, .cons r1 r⟩
theorem sorted_tree {E : Value → Shared → Prop} {s : Shared} {a : Addr} {xs : List (PyData × Addr)} {Q : Value → Shared → Prop} (hh : A.handled = none) (hu : A.units + 100 < cLine) (hS : SetT w s.heap a xs (ledOf w)) (hok : ∀ ys : List (PyData × Addr), ys.Perm xs → SortOk (ys.map (·.1)))
    (h : ∀ (h' : Heap) (d' : Drawn) (tk p c : Nat) (zs : List (PyData × Addr)), (∀ b o, s.heap.get? b = some o → h'.get? b = some o) → s.heap.objs.size ≤ p → h'.get? p = some (seqObj "list" (zs.map fun x => Value.ref x.2).toArray c) → zs.Perm xs → (zs.map (·.1)).Pairwise (fun a b => ltT a b = true) → Q (.ref p) { s with heap := h', drawn := d', toks := tk }) :
    wpAny (model prog w) A (call (.builtin "sorted") [.ref a]) Q E s := by
  obtain ⟨o, es, ep, t, ho, hex, hd, hl, hX, hf, hT, hQ, hB⟩ := hS
  have hes : es.size = xs.length := by rw [← Array.length_toList, hl, List.length_map]
  have hx64 : xs.length < 64 := by have := (hok xs (.refl _)).len; rwa [List.length_map] at this
  refine sorted_walk (collect_set (show A.in1.handled = none from hh) ⟨o, ho, hex.1, hd, hf⟩ hT (by omega) fun h1 d1 t1 ord k1 z1 hp => ?_)
  rw [hl, List.map_map] at hp
  obtain ⟨ys, rfl, py⟩ := perm_map_inv hp xs (f := fun x => Value.ref x.2) rfl
  have ok := hok ys py
  have hly : ys.length < 64 := by rw [py.length_eq]; exact hx64
  have l1 : (ys.map fun x => Value.ref x.2).length = (ys.map (·.1)).length := by rw [List.length_map, List.length_map]
  have hXy : ∀ x ∈ ys, TrAt h1 x.1 x.2 := fun x hx => (hX x (py.mem_iff.mp hx)).keeps k1
  refine ⟨ltI (ys.map (·.1)), by rw [List.length_map]; exact hly, by rw [l1]; exact ok.ord, fun h2 h' kp => ?_, fun p h' l c pm up hlb kp e => ?_⟩
  · obtain ⟨bs, rd'⟩ := trees_reads (h := h') fun x hx => (hXy x hx).keeps kp
    obtain ⟨fs, kt, kl, kz⟩ := kat_tups rd' (ok.fst (by rw [← l1]; exact h2))
    refine ⟨tuples' true, fun Q q => ?_, fun i j C hi hj q => ?_⟩
    · refine PySem.W.kat_kind (T := .type "int") kt (by omega) (fun v hv => ?_) rfl q
      obtain ⟨i, t, rfl⟩ := kz v hv
      exact PySem.W.Looks.of_pure rfl
    · rw [l1] at hi hj
      obtain ⟨b1, q1⟩ := rdAt rd' hi
      obtain ⟨b2, q2⟩ := rdAt rd' hj
      have m1 := getD_mem (d := PyData.none) hi
      have m2 := getD_mem (d := PyData.none) hj
      obtain ⟨x1, r1, e1⟩ := ok.fst (by rw [← l1]; exact h2) _ m1
      obtain ⟨x2, r2, e2⟩ := ok.fst (by rw [← l1]; exact h2) _ m2
      have c1 := canLay_mem ok.can _ m1
      have c2 := canLay_mem ok.can _ m2
      have d1 := Nat.le_trans (depth_mem _ m1) ok.dp
      have cm := ok.cmp _ m1 _ m2
      have q' : C (ltT ((ys.map (·.1)).getD i .none) ((ys.map (·.1)).getD j .none)) _ := q
      rw [e1] at q1 c1 d1 cm q'
      rw [e2] at q2 c2 cm q'
      unfold PySem.W.kas_ask
      generalize (ys.map fun x => Value.ref x.2).getD i Value.none = u1 at q1 ⊢
      generalize (ys.map fun x => Value.ref x.2).getD j Value.none = u2 at q2 ⊢
      cases q1 with
      | tuple a1 a2 a3 a4 =>
        cases q2 with
        | tuple b1 b2 b3 b4 =>
          exact key_lt (.tuple a1 a2 a3 a4) (.tuple b1 b2 b3 b4) c1 c2 cm (by show A.units + 1 + 1 + 64 < _; omega) d1 q'
  · have hp1 : ∀ i ∈ p.toList, i < ys.length := fun i hi => by
      have := pm.perm.mem_iff.mp hi
      rw [List.length_map] at this
      exact List.mem_range.mp this
    have ev : (p.toList.map fun i => (ys.map fun x => Value.ref x.2).getD i Value.none) = (p.toList.map fun i => ys.getD i (.none, 0)).map fun x => Value.ref x.2 := by
      rw [List.map_map]
      refine List.map_congr_left fun i hi => ?_
      have := hp1 i hi
      simp [List.getD_eq_getElem?_getD, this]
    rw [ev] at e
    have e2 : (p.toList.map fun i => ys.getD i (.none, 0)).Perm ys := by
      have e1 : p.toList.Perm (List.range ys.length) := by have := pm.perm; rwa [List.length_map] at this
      have e2 := e1.map fun i => ys.getD i (PyData.none, 0)
      rwa [map_range_getD] at e2
    refine h h' d1 t1 l c _ (fun b o q => kp b o (k1 b o q)) (Nat.le_trans z1 hlb) e (e2.trans py) ?_
    rw [List.map_map, List.pairwise_map]
    refine List.pairwise_iff_getElem.mpr fun i j hi hj hij => ?_
    have hj' : j < (ys.map fun x => Value.ref x.2).length := by rw [← pm.size]; simpa using hj
    have := up i j hij hj'
    have gi : p.getD i 0 = p.toList[i] := by simp [Array.getD, show i < p.size by simpa using hi]
    have gj : p.getD j 0 = p.toList[j] := by simp [Array.getD, show j < p.size by simpa using hj]
    rw [gi, gj] at this
    have a1 := hp1 _ (List.getElem_mem hi)
    have a2 := hp1 _ (List.getElem_mem hj)
    unfold ltI at this
    simp only [List.getD_eq_getElem?_getD, List.getElem?_map, List.getElem?_eq_getElem a1, List.getElem?_eq_getElem a2] at this
    simp only [Function.comp, List.getD_eq_getElem?_getD, List.getElem?_eq_getElem a1, List.getElem?_eq_getElem a2]
    exact this
end
section
variable {X : Cx} {pins : List (Addr × Obj)} {σ : St} {H : Hp} {s : Shared} {k : Nat}
structure TOk (ds : List PyData) : Prop where
  len : ds.length < 60
  key : ∀ d ∈ ds, KeyTree d
  fst : ∀ d ∈ ds, ∃ i r, d = .tuple (.int i :: r)
  cmp : ∀ d ∈ ds, ∀ e ∈ ds, cmpb d e = true
theorem tok_all : ∀ {ds : List PyData}, (∀ d ∈ ds, KeyTree d) → PyData.canLayAll0 ds = true ∧ PyData.depthAll ds ≤ 6 ∧ CanoAll ds = true
  | [], _ => ⟨rfl, Nat.zero_le _, rfl⟩
  | d :: ds, h => by
    obtain ⟨a, b, c⟩ := tok_all fun e he => h e (.tail _ he)
    have k := h d (.head _)
    refine ⟨?_, ?_, ?_⟩
    · simp only [PyData.canLayAll0, k.lay, a]; rfl
    · simp only [PyData.depthAll]; have := k.dep; omega
    · simp only [CanoAll, k.can, c]; rfl
theorem TOk.sort {ds es : List PyData} (h : TOk ds) (hs : ∀ d ∈ es, d ∈ ds) (hn : es.Nodup) : SortOk es := by
  obtain ⟨a, b, c⟩ := tok_all fun d hd => h.key d (hs d hd)
  have := sub_len2 hn hs
  have := h.len
  exact ⟨by omega, a, by omega, c, hn, fun _ d hd => h.fst d (hs d hd), fun d hd e he => h.cmp d (hs d hd) e (hs e he)⟩
theorem ks_of (I : Inv X pins σ H s) : ∀ (ds : List PyData) (ws : List V) (its : List Value), DkAll X.K H ds ws → Vals ws its → (∀ d ∈ ds, KeyTree d) → (∀ d ∈ ds, ∃ i r, d = .tuple (.int i :: r)) → ∃ ks : List (PyData × Addr), ks.map (·.1) = ds ∧ its = ks.map (fun x => .ref x.2) ∧ ∀ x ∈ ks, TrAt s.heap x.1 x.2 ∧ Dk X.K H x.1 (.ref x.2)
  | [], ws, its, h, r, _, _ => by
    have e := h.nil
    subst e
    cases r
    exact ⟨[], rfl, rfl, fun _ z => nomatch z⟩
  | d :: ds, ws, its, h, r, hk, hf => by
    obtain ⟨x, rw', rfl, h1, h2⟩ := DkAll.cons (K := X.K) (H := H) h
    cases r with
    | @cons _ _ u us r1 r2 =>
      obtain ⟨ks, e1, e2, e3⟩ := ks_of I ds rw' us h2 r2 (fun d hd => hk d (.tail _ hd)) (fun d hd => hf d (.tail _ hd))
      obtain ⟨i, tl, rfl⟩ := hf d (.head _)
      obtain ⟨a, xs, rfl, ha, hd⟩ := Dk.tup (K := X.K) (H := H) h1
      cases r1
      refine ⟨(.tuple (.int i :: tl), a) :: ks, by rw [List.map_cons, e1], by rw [List.map_cons, ← e2], fun y hy => ?_⟩
      rcases List.mem_cons.mp hy with rfl | hy
      · exact ⟨⟨hk _ (.head _), Dk.reads I _ _ _ h1 rfl⟩, h1⟩
      · exact e3 y hy
theorem dks_of {K : PySem.W.Frag} : ∀ {zs : List (PyData × Addr)}, (∀ x ∈ zs, Dk K H x.1 (.ref x.2)) → DkAll K H (zs.map (·.1)) (zs.map fun x => .ref x.2)
  | [], _ => dks_nil
  | z :: zs, h => dks_cons (h z (.head _)) (dks_of fun x hx => h x (.tail _ hx))
theorem vals_zs : ∀ (zs : List (PyData × Addr)), Vals (zs.map fun x => V.ref x.2) (zs.map fun x => Value.ref x.2)
  | [] => .nil
  | z :: zs => .cons rfl (vals_zs zs)
def vTSet (te : AE) : AE := fun τ μ R => te τ μ fun x μ1 => opt (items μ1 x) fun ys => opt (dats ys) fun ds => TOk ds ∧ ∀ (es : List PyData) (p : Addr), es.Nodup → (∀ d, d ∈ es ↔ d ∈ ds) → es.Pairwise (fun a b => ltT a b = true) → μ1 p = none → R (.R p) (updM μ1 p (.lst (es.map .D)))
theorem ve_tset {e : Expr} {te : AE} {p p2 pos pos2 : Pos} (hr : Room k X.A) (hg : Gl X "sorted") (hm : X.mg "sorted" = none) (hg2 : Gl X "set") (hm2 : X.mg "set" = none) (he : VE X e te)
    (hs : starEach [.Call (.Name "set" p2) [e] [] pos2] X.env = [(false, eval (.Call (.Name "set" p2) [e] [] pos2) X.env)] := by rfl) (hs2 : starEach [e] X.env = [(false, eval e X.env)] := by rfl) :
    VE X (.Call (.Name "sorted" p) [.Call (.Name "set" p2) [e] [] pos2] [] pos) (vTSet te) := by
  intro pins s σ H Q I ⟨τ, μ, R, hst, hcn, h, hq⟩
  refine wpAny_Call_Name_kw (ld_blt I hg hm boot_sorted (PyProof.Rows.callWith_builtin1 ?_ hs rfl))
  rw [hs]
  refine Calls.spliced_cons (wpAny_Call_Name_kw (ld_blt I hg2 hm2 boot_set (PyProof.Rows.callWith_type1 ?_ hs2 rfl)))
  rw [hs2]
  refine Calls.spliced_cons (wpAny_mono (he.run I hst hcn h) (fun u s1 ⟨x, v, μ1, H1, I1, rv, S1, c1, rx, h1⟩ => Calls.spliced_nil ?_) fun _ _ e => e)
  obtain ⟨ys, ey, h1⟩ := opt_e h1
  obtain ⟨ds, ed, ok, h1⟩ := opt_e h1
  obtain ⟨p0, ws, rfl, hk, rs⟩ := items_kind c1 rx ey
  cases rv
  have dk := rs.dats ed
  have hd : X.A.handled = none := hr.hd
  have hun := hr.un
  have l2 := dk.length
  have hlen := ok.len
  have fin : ∀ (ks : List (PyData × Addr)), ks.map (·.1) = ds → (∀ x ∈ ks, TrAt s1.heap x.1 x.2 ∧ Dk X.K H1 x.1 (.ref x.2)) → ∀ (h1 : Heap) (tk : Nat) (xs : List (PyData × Addr)), (∀ b o, s1.heap.get? b = some o → h1.get? b = some o) → SetT X.w h1 s1.heap.objs.size xs (ledOf X.w) → (xs.map (·.1)).Nodup → (∀ d, d ∈ xs.map (·.1) ↔ d ∈ ks.map (·.1)) → (∀ x ∈ xs, x ∈ ks) →
      wpAny (model X.prog X.w) X.A (call (.builtin "sorted") [.ref s1.heap.objs.size]) (EP X pins σ Q) X.xe { s1 with heap := h1, toks := tk } := fun ks e1 hks h2 tk xs k1 S2 N2 M2 hin => by
    rw [e1] at M2
    refine sorted_tree (s := { s1 with heap := h2, toks := tk }) hd (by omega) S2 (fun ys py => ok.sort (fun d hd => (M2 d).mp ((py.map (·.1)).mem_iff.mp hd)) ((py.map (·.1)).nodup_iff.mpr N2)) fun h3 d3 t3 q c zs k2 hp e3 pz hup => ?_
    have lS : s1.heap.objs.size < h2.objs.size := by obtain ⟨o, _, _, _, e, _⟩ := S2; exact Heap.lt_size e
    have hp' : s1.heap.objs.size ≤ q := Nat.le_trans (Nat.le_of_lt lS) hp
    have hzl : zs.length < 64 := by
      have := (ok.sort (es := zs.map (·.1)) (fun d hd => (M2 d).mp ((pz.map (·.1)).mem_iff.mp hd)) ((pz.map (·.1)).nodup_iff.mpr N2)).len
      rwa [List.length_map] at this
    have hz : (zs.map fun x => V.ref x.2).length ≤ sizeLine := by rw [List.length_map]; exact Nat.le_trans (Nat.le_of_lt hzl) (by decide)
    have hn := I1.hok.fresh hp'
    refine ⟨.ref q, _, (Inv.drw I1 d3).laid (t' := t3) (fun b o e => k2 b o (k1 b o e)) hp' (show ObjOk X.prog X.w _ h3 _ (.lst (zs.map fun x => V.ref x.2)) from ⟨hz, _, c, vals_zs zs, e3⟩), rfl, ?_⟩
    refine hq _ _ _ _ (S1.trans (Kp.new hn _)) (c1.new hn (rm_lst ?_)) ra_ref (h1 (zs.map (·.1)) q ((pz.map (·.1)).nodup_iff.mpr N2) (fun d => ((pz.map (·.1)).mem_iff).trans (M2 d)) hup (c1.none hn))
    exact (dks_of fun x hx => (hks x (hin x (pz.mem_iff.mp hx))).2).rel
  refine call_set_1 (s := s1) ?_
  rcases hk with ⟨_, hk⟩ | ⟨_, hk⟩
  · obtain ⟨its, r', pl, hz⟩ := I1.list hk
    obtain ⟨ks, e1, e2, e3⟩ := ks_of I1 ds ws its dk r' ok.key ok.fst
    have la : p0 < s1.heap.objs.size := by obtain ⟨o, e, _⟩ := pl.isList; exact Heap.lt_size e
    have hsz : its.toArray.size < 64 := by have := r'.length; simp only [List.size_toArray]; omega
    refine upT_list (s := { s1 with heap := s1.heap.push (newSetObj X.w) }) (show X.A.in1.in1.handled = none from hd) (show X.A.units + 1 + 1 + 20 < cLine by omega) (let ⟨o, e, r⟩ := pl.isList; ⟨o, Heap.get?_push_of_some _ e, r⟩) (ks := ks) (by simpa using e2) (fun x hx => (e3 x hx).1.keeps fun b o e => Heap.get?_push_of_some _ e) hsz new_setT (Ne.symm (Nat.ne_of_lt la)) fun h2 tk xs k1 S2 N2 M2 hin L2 => Calls.spliced_nil ?_
    exact fin ks e1 e3 h2 tk xs (fun b o e => k1 b o (Nat.ne_of_lt (Heap.lt_size e)) (Heap.get?_push_of_some _ e)) S2 N2 M2 hin
  · obtain ⟨its, r', pl, hz⟩ := I1.tuple hk
    obtain ⟨ks, e1, e2, e3⟩ := ks_of I1 ds ws its dk r' ok.key ok.fst
    have la : p0 < s1.heap.objs.size := by obtain ⟨o, e, _⟩ := pl; exact Heap.lt_size e
    have hsz : its.toArray.size < 64 := by have := r'.length; simp only [List.size_toArray]; omega
    refine upT_tuple (s := { s1 with heap := s1.heap.push (newSetObj X.w) }) (show X.A.in1.in1.handled = none from hd) (show X.A.units + 1 + 1 + 20 < cLine by omega) (Heap.IsTuple.push pl _) (ks := ks) (by simpa using e2) (fun x hx => (e3 x hx).1.keeps fun b o e => Heap.get?_push_of_some _ e) hsz new_setT (Ne.symm (Nat.ne_of_lt la)) fun h2 tk xs k1 S2 N2 M2 hin L2 => Calls.spliced_nil ?_
    exact fin ks e1 e3 h2 tk xs (fun b o e => k1 b o (Nat.ne_of_lt (Heap.lt_size e)) (Heap.get?_push_of_some _ e)) S2 N2 M2 hin
end
end L2
namespace L2
open PySem PySem.Spec PyProof.Rows
section
variable {X : Cx} {tg : Expr}
end
end L2
namespace L2
open PySem PySem.Spec PyProof.Rows
section
variable {prog : Program} {w : World} {A : Around} {E : Value → Shared → Prop}
end
section
variable {X : Cx} {pos : Pos}
end
end L2
namespace L2
open PySem PySem.W PyProof.Rows
section
variable {n : Nat} {lt : Nat → Nat → Bool}
structure WeakOrd (n : Nat) (lt : Nat → Nat → Bool) : Prop where
  tr : ∀ a b c, a < n → b < n → c < n → lt b a = false → lt c b = false → lt c a = false
  asy : ∀ a b, a < n → b < n → lt a b = true → lt b a = false
theorem WeakOrd.irr {a : Nat} (O : WeakOrd n lt) (ha : a < n) : lt a a = false := by
  cases c : lt a a with
  | false => rfl
  | true => have := O.asy a a ha ha c; rw [c] at this; cases this
theorem WeakOrd.low {a b c : Nat} (O : WeakOrd n lt) (ha : a < n) (hb : b < n) (hc : c < n) (h1 : lt a b = true) (h2 : lt c b = false) : lt a c = true := by
  cases e : lt a c with
  | true => rfl
  | false => rw [O.tr b c a hb hc ha h2 e] at h1; cases h1
def UpW (lt : Nat → Nat → Bool) (p : Array Nat) (k : Nat) : Prop := ∀ i j, i < j → j < k → lt (p.getD j 0) (p.getD i 0) = false
def DnW (lt : Nat → Nat → Bool) (p : Array Nat) (k : Nat) : Prop := ∀ i j, i < j → j < k → lt (p.getD i 0) (p.getD j 0) = false
def EqW (lt : Nat → Nat → Bool) (p : Array Nat) (a k : Nat) : Prop := ∀ i j, a ≤ i → i < k → a ≤ j → j < k → lt (p.getD i 0) (p.getD j 0) = false
variable {p : Array Nat} {s : Shared}
theorem UpW.next {k : Nat} (O : WeakOrd n lt) (P : Pm n p) (h : UpW lt p k) (hk : 1 ≤ k) (hkn : k < n) (e : lt (p.getD k 0) (p.getD (k - 1) 0) = false) : UpW lt p (k + 1) := fun i j hij hj => by
  by_cases h1 : j < k
  · exact h i j hij h1
  · have : j = k := by omega
    subst this
    by_cases h2 : i = j - 1
    · subst h2; exact e
    · exact O.tr _ _ _ (P.lt i (by omega)) (P.lt (j - 1) (by omega)) (P.lt j hkn) (h i (j - 1) (by omega) (by omega)) e
theorem DnW.next {k : Nat} (O : WeakOrd n lt) (P : Pm n p) (h : DnW lt p k) (hk : 1 ≤ k) (hkn : k < n) (e : lt (p.getD (k - 1) 0) (p.getD k 0) = false) : DnW lt p (k + 1) := fun i j hij hj => by
  by_cases h1 : j < k
  · exact h i j hij h1
  · have : j = k := by omega
    subst this
    by_cases h2 : i = j - 1
    · subst h2; exact e
    · exact O.tr _ _ _ (P.lt j hkn) (P.lt (j - 1) (by omega)) (P.lt i (by omega)) e (h i (j - 1) (by omega) (by omega))
theorem ascW_ok (O : WeakOrd n lt) (P : Pm n p) : ∀ (f m : Nat), 1 ≤ m → m + f = n → UpW lt p m → (kas_asc p f m).kasWp (ask0 n lt) (fun r _ => m ≤ r ∧ r ≤ n ∧ UpW lt p r ∧ (r < n → lt (p.getD r 0) (p.getD (r - 1) 0) = true)) s
  | 0, m, h1, h2, h => ⟨Nat.le_refl _, by omega, h, fun z => by omega⟩
  | f + 1, m, h1, h2, h => by
    refine ⟨P.lt m (by omega), P.lt (m - 1) (by omega), ?_⟩
    cases e : lt (p.getD m 0) (p.getD (m - 1) 0) with
    | true => exact ⟨Nat.le_refl _, by omega, h, fun _ => e⟩
    | false =>
      show (kas_asc p f (m + 1)).kasWp _ _ _
      have ih := ascW_ok O P f (m + 1) (by omega) (by omega) (h.next O P h1 (by omega) e)
      exact kas_mono (fun r _ ⟨a, b⟩ => ⟨by omega, b⟩) _ _ ih
theorem DnW.turn {a k : Nat} (O : WeakOrd n lt) (P : Pm n p) (hk : k ≤ n) (h : DnW lt p k) (e : EqW lt p a k) : DnW lt (kas_rev p a k) k := fun i j hij hj => by
  rw [rev_getD (by rw [P.size]; exact hk), rev_getD (by rw [P.size]; exact hk)]
  by_cases h1 : a ≤ i
  · rw [if_pos ⟨h1, by omega⟩, if_pos ⟨by omega, hj⟩]
    exact e _ _ (by omega) (by omega) (by omega) (by omega)
  · rw [if_neg (by omega)]
    by_cases h2 : a ≤ j
    · rw [if_pos ⟨h2, hj⟩]
      exact h _ _ (by omega) (by omega)
    · rw [if_neg (by omega)]
      exact h _ _ hij hj
theorem rev_hi {a k m : Nat} (P : Pm n p) (hk : k ≤ n) (hm : k ≤ m) : (kas_rev p a k).getD m 0 = p.getD m 0 := by
  rw [rev_getD (by rw [P.size]; exact hk), if_neg (by omega)]
theorem descW_ok (O : WeakOrd n lt) : ∀ (f : Nat) (p : Array Nat) (k q : Nat) (s : Shared), Pm n p → q + 1 ≤ k → k + f = n → DnW lt p k → EqW lt p (k - (q + 1)) k → (kas_desc f p k q).kasWp (ask0 n lt) (fun r _ => Pm n r.1 ∧ r.2.2 + 1 ≤ r.2.1 ∧ r.2.1 ≤ n ∧ DnW lt r.1 r.2.1 ∧ EqW lt r.1 (r.2.1 - (r.2.2 + 1)) r.2.1) s
  | 0, p, k, q, s, P, h1, h2, h, e => ⟨P, h1, by show k ≤ n; omega, h, e⟩
  | f + 1, p, k, q, s, P, h1, h2, h, e => by
    refine ⟨P.lt k (by omega), P.lt (k - 1) (by omega), ?_⟩
    have one : ∀ p' : Array Nat, Pm n p' → EqW lt p' (k + 1 - (0 + 1)) (k + 1) := fun p' P' i j a1 a2 a3 a4 => by
      have hi : i = k := by omega
      have hj : j = k := by omega
      rw [hi, hj]
      exact O.irr (P'.lt k (by omega))
    cases c : lt (p.getD k 0) (p.getD (k - 1) 0) with
    | true =>
      have c2 := O.asy _ _ (P.lt k (by omega)) (P.lt (k - 1) (by omega)) c
      show (if q > 0 then kas_desc f (kas_rev p (k - (q + 1)) k) (k + 1) 0 else kas_desc f p (k + 1) 0).kasWp _ _ _
      by_cases hq : q > 0
      · rw [if_pos hq]
        have P2 : Pm n (kas_rev p (k - (q + 1)) k) := rev_pm P
        have h' := h.turn O P (by omega) e
        refine descW_ok O f _ (k + 1) 0 s P2 (by omega) (by omega) (h'.next O P2 (by omega) (by omega) ?_) (one _ P2)
        rw [rev_hi P (by omega) (Nat.le_refl _), rev_getD (by rw [P.size]; omega), if_pos ⟨by omega, by omega⟩]
        have hz : k - (q + 1) + k - 1 - (k - 1) = k - (q + 1) := by omega
        rw [hz]
        exact O.tr _ _ _ (P.lt k (by omega)) (P.lt (k - 1) (by omega)) (P.lt _ (by omega)) c2 (e _ _ (by omega) (by omega) (by omega) (by omega))
      · rw [if_neg hq]
        exact descW_ok O f p (k + 1) 0 s P (by omega) (by omega) (h.next O P (by omega) (by omega) c2) (one p P)
    | false =>
      refine ⟨P.lt (k - 1) (by omega), P.lt k (by omega), ?_⟩
      cases c2 : lt (p.getD (k - 1) 0) (p.getD k 0) with
      | true => exact ⟨P, h1, by show k ≤ n; omega, h, e⟩
      | false =>
        show (kas_desc f p (k + 1) (q + 1)).kasWp _ _ _
        refine descW_ok O f p (k + 1) (q + 1) s P (by omega) (by omega) (h.next O P (by omega) (by omega) c2) fun i j a1 a2 a3 a4 => ?_
        have self : lt (p.getD k 0) (p.getD k 0) = false := one p P k k (by omega) (by omega) (by omega) (by omega)
        by_cases hi : i = k
        · subst hi
          by_cases hj : j = i
          · subst hj; exact self
          · exact O.tr _ _ _ (P.lt j (by omega)) (P.lt (i - 1) (by omega)) (P.lt i (by omega)) (e (i - 1) j (by omega) (by omega) (by omega) (by omega)) c
        · by_cases hj : j = k
          · subst hj
            exact O.tr _ _ _ (P.lt j (by omega)) (P.lt (j - 1) (by omega)) (P.lt i (by omega)) c2 (e i (j - 1) (by omega) (by omega) (by omega) (by omega))
          · exact e i j (by omega) (by omega) (by omega) (by omega)
theorem tail3W_ok (O : WeakOrd n lt) (P : Pm n p) {k : Nat} (h1 : 1 ≤ k) (hk : k ≤ n) (h : DnW lt p k) : (kas_tail3 k n p).kasWp (ask0 n lt) (fun r _ => 1 ≤ r.1 ∧ r.1 ≤ n ∧ Pm n r.2 ∧ UpW lt r.2 r.1) s := by
  have P2 : Pm n (kas_rev p 0 k) := rev_pm P
  have U : UpW lt (kas_rev p 0 k) k := fun i j hij hj => by
    rw [rev_getD (by rw [P.size]; exact hk), rev_getD (by rw [P.size]; exact hk), if_pos ⟨Nat.zero_le _, by omega⟩, if_pos ⟨Nat.zero_le _, by omega⟩]
    exact h _ _ (by omega) (by omega)
  unfold kas_tail3
  rw [KasT.kasWp_bind]
  exact kas_mono (fun r s ⟨a, b, c, _⟩ => ⟨by show 1 ≤ r; omega, b, P2, c⟩) _ _ (ascW_ok O P2 (n - k) k h1 (by omega) U)
theorem descPartW_ok (O : WeakOrd n lt) (P : Pm n p) {k : Nat} (h1 : 1 ≤ k) (hk : k < n) (h : DnW lt p (k + 1)) : (kas_descPart k n p).kasWp (ask0 n lt) (fun r _ => 1 ≤ r.1 ∧ r.1 ≤ n ∧ Pm n r.2 ∧ UpW lt r.2 r.1) s := by
  unfold kas_descPart
  rw [KasT.kasWp_bind]
  have one : EqW lt p (k + 1 - (0 + 1)) (k + 1) := fun i j a1 a2 a3 a4 => by
    have hi : i = k := by omega
    have hj : j = k := by omega
    rw [hi, hj]
    exact O.irr (P.lt k (by omega))
  refine kas_mono (fun r s ⟨x1, x2, x3, x4, x5⟩ => ?_) _ _ (descW_ok O (n - (k + 1)) p (k + 1) 0 _ P (by omega) (by omega) h one)
  by_cases hq : r.2.2 > 0
  · rw [if_pos hq]
    exact tail3W_ok O (rev_pm x1) (by omega) x3 (x4.turn O x1 x3 x5)
  · rw [if_neg hq]
    exact tail3W_ok O x1 (by omega) x3 x4
theorem countW_ok (O : WeakOrd n lt) (P : Pm n p) (hn : 2 ≤ n) : (kas_count n p).kasWp (ask0 n lt) (fun r _ => 1 ≤ r.1 ∧ r.1 ≤ n ∧ Pm n r.2 ∧ UpW lt r.2 r.1) s := by
  unfold kas_count
  rw [KasT.kasWp_bind]
  refine kas_mono (fun r s ⟨a, b, c, d⟩ => ?_) _ _ (ascW_ok O P (n - 1) 1 (Nat.le_refl _) (by omega) fun i j hij hj => by omega)
  by_cases e : r = n
  · subst e
    rw [if_pos (beq_self_eq_true _)]
    exact ⟨a, Nat.le_refl _, P, c⟩
  · rw [if_neg (by simpa using e)]
    have hrn : r < n := by omega
    by_cases e1 : r > 1
    · rw [if_pos e1]
      refine ⟨P.lt 0 (by omega), P.lt (r - 1) (by omega), ?_⟩
      cases c0 : lt (p.getD 0 0) (p.getD (r - 1) 0) with
      | true => exact ⟨a, b, P, c⟩
      | false =>
        show (kas_descPart r n (kas_rev p 0 r)).kasWp _ _ _
        have P2 : Pm n (kas_rev p 0 r) := rev_pm P
        have al : ∀ i, i < r → lt (p.getD i 0) (p.getD (r - 1) 0) = false ∧ lt (p.getD 0 0) (p.getD i 0) = false := fun i hi => by
          have u1 : lt (p.getD i 0) (p.getD 0 0) = false := by
            by_cases z : i = 0
            · subst z
              exact O.irr (P.lt 0 (by omega))
            · exact c 0 i (by omega) hi
          have u2 : lt (p.getD (r - 1) 0) (p.getD i 0) = false := by
            by_cases z : i = r - 1
            · subst z
              exact O.irr (P.lt (r - 1) (by omega))
            · exact c i (r - 1) (by omega) (by omega)
          have w1 : lt (p.getD 0 0) (p.getD i 0) = false := O.tr _ _ _ (P.lt i (by omega)) (P.lt (r - 1) (by omega)) (P.lt 0 (by omega)) u2 c0
          exact ⟨O.tr _ _ _ (P.lt (r - 1) (by omega)) (P.lt 0 (by omega)) (P.lt i (by omega)) c0 u1, w1⟩
        have D : DnW lt (kas_rev p 0 r) (r + 1) := by
          have D0 : DnW lt (kas_rev p 0 r) r := fun i j hij hj => by
            rw [rev_getD (by rw [P.size]; omega), rev_getD (by rw [P.size]; omega), if_pos ⟨Nat.zero_le _, by omega⟩, if_pos ⟨Nat.zero_le _, hj⟩]
            exact c _ _ (by omega) (by omega)
          refine D0.next O P2 a hrn ?_
          rw [rev_hi P (by omega) (Nat.le_refl _), rev_getD (by rw [P.size]; omega), if_pos ⟨Nat.zero_le _, by omega⟩]
          have hz : 0 + r - 1 - (r - 1) = 0 := by omega
          rw [hz]
          have d1 := O.asy _ _ (P.lt r hrn) (P.lt (r - 1) (by omega)) (d hrn)
          exact O.tr _ _ _ (P.lt r hrn) (P.lt (r - 1) (by omega)) (P.lt 0 (by omega)) d1 c0
        exact descPartW_ok O P2 a hrn D
    · rw [if_neg e1]
      have e2 : r = 1 := by omega
      subst e2
      refine descPartW_ok O P (Nat.le_refl _) (by omega) fun i j hij hj => ?_
      have : i = 0 ∧ j = 1 := by omega
      obtain ⟨rfl, rfl⟩ := this
      exact O.asy _ _ (P.lt 1 (by omega)) (P.lt 0 (by omega)) (d (by omega))
theorem placeW_ok (P : Pm n p) {k : Nat} (hk : k < n) (O : WeakOrd n lt) (U : UpW lt p k) : ∀ (f l r : Nat), r - l ≤ f → l ≤ r → r ≤ k → (∀ i, i < l → lt (p.getD k 0) (p.getD i 0) = false) → (∀ i, r ≤ i → i < k → lt (p.getD k 0) (p.getD i 0) = true) →
    (kas_place p k f l r).kasWp (ask0 n lt) (fun m _ => m ≤ k ∧ (∀ i, i < m → lt (p.getD k 0) (p.getD i 0) = false) ∧ (∀ i, m ≤ i → i < k → lt (p.getD k 0) (p.getD i 0) = true)) s
  | 0, l, r, h1, h2, h3, h4, h5 => ⟨by show l ≤ k; omega, h4, fun i hi => h5 i (by show r ≤ i; have : l ≤ i := hi; omega)⟩
  | f + 1, l, r, h1, h2, h3, h4, h5 => by
    unfold kas_place
    by_cases e : l ≥ r
    · rw [if_pos e]
      exact ⟨by show l ≤ k; omega, h4, fun i hi => h5 i (by have : l ≤ i := hi; omega)⟩
    · rw [if_neg e]
      refine ⟨P.lt k hk, P.lt ((l + r) / 2) (by omega), ?_⟩
      cases c : lt (p.getD k 0) (p.getD ((l + r) / 2) 0) with
      | true =>
        refine placeW_ok P hk O U f l ((l + r) / 2) (by omega) (by omega) (by omega) h4 fun i hi hik => ?_
        by_cases z : i = (l + r) / 2
        · subst z; exact c
        · exact O.low (P.lt k hk) (P.lt _ (by omega)) (P.lt i (by omega)) c (U _ _ (by omega) hik)
      | false =>
        refine placeW_ok P hk O U f ((l + r) / 2 + 1) r (by omega) (by omega) h3 (fun i hi => ?_) h5
        by_cases z : i = (l + r) / 2
        · subst z; exact c
        · exact O.tr _ _ _ (P.lt i (by omega)) (P.lt _ (by omega)) (P.lt k hk) (U _ _ (by omega) (by omega)) c
theorem binW_ok (O : WeakOrd n lt) : ∀ (f : Nat) (p : Array Nat) (k : Nat) (s : Shared), k + f = n → Pm n p → UpW lt p k → (kas_bin f p k).kasWp (ask0 n lt) (fun r _ => Pm n r ∧ UpW lt r n) s
  | 0, p, k, _, h, P, U => by
    have e : k = n := by omega
    subst e
    exact ⟨P, U⟩
  | f + 1, p, k, _, h, P, U => by
    unfold kas_bin
    rw [KasT.kasWp_bind]
    refine kas_mono (fun l s ⟨a, b, c⟩ => ?_) _ _ (placeW_ok P (by omega) O U k 0 k (by omega) (Nat.zero_le _) (Nat.le_refl _) (fun i hi => absurd hi (Nat.not_lt_zero _)) fun i hi hik => by omega)
    refine binW_ok O f _ (k + 1) _ (by omega) (bub_pm P) fun i j hij hj => ?_
    have hsz : k < p.size := by rw [P.size]; omega
    have ek : k - (k - l) = l := by omega
    rw [bub_getD hsz (by omega), bub_getD hsz (by omega), ek]
    by_cases i1 : i = l
    · rw [if_pos i1, if_neg (by omega), if_pos ⟨by omega, by omega⟩]
      exact O.asy _ _ (P.lt k (by omega)) (P.lt (j - 1) (by omega)) (c (j - 1) (by omega) (by omega))
    · rw [if_neg i1]
      by_cases j1 : j = l
      · rw [if_pos j1, if_neg (by omega)]
        exact b i (by omega)
      · rw [if_neg j1]
        by_cases i2 : l < i
        · rw [if_pos (show l < i ∧ i ≤ k from ⟨i2, by omega⟩), if_pos (show l < j ∧ j ≤ k from ⟨by omega, by omega⟩)]
          exact U _ _ (by omega) (by omega)
        · rw [if_neg (show ¬ (l < i ∧ i ≤ k) by omega)]
          by_cases j2 : l < j
          · rw [if_pos (show l < j ∧ j ≤ k from ⟨j2, by omega⟩)]
            exact U _ _ (by omega) (by omega)
          · rw [if_neg (show ¬ (l < j ∧ j ≤ k) by omega)]
            exact U _ _ hij (by omega)
theorem sortW_ok (O : WeakOrd n lt) (hn : 2 ≤ n) : (kas_sort n).kasWp (ask0 n lt) (fun r _ => Pm n r ∧ UpW lt r n) s := by
  unfold kas_sort
  rw [KasT.kasWp_bind]
  refine kas_mono (fun r s ⟨a, b, c, d⟩ => ?_) _ _ (countW_ok O (pm_of (by simp)) hn)
  by_cases e : r.1 < n
  · rw [if_pos e]
    have em : max r.1 1 = r.1 := by omega
    rw [em]
    exact binW_ok O _ _ _ _ (by omega) c d
  · rw [if_neg e]
    have : r.1 = n := by omega
    rw [this] at d
    exact ⟨c, d⟩
end
end L2
namespace L2
open PySem PySem.W PyProof.Rows
section
variable {prog : Program} {w : World} {A : Around} {E : Value → Shared → Prop} {s : Shared}
theorem list_sort_dataW {a : Addr} {vs : List Value} {lt : Nat → Nat → Bool} {n : Nat} {P : PySem.Fin → Shared → Prop} (ho : s.heap.get? a = some (seqObj "list" vs.toArray n)) (h64 : vs.length < 64) (O : WeakOrd vs.length lt)
    (hk : 2 ≤ vs.length → ∀ h' : Heap, (∀ b o, b ≠ a → s.heap.get? b = some o → h'.get? b = some o) → ∃ κ, (∀ Q : SortKind → Shared → Prop, Q κ { s with heap := h' } → wpAny (model prog w) A (keyKind' vs.toArray) Q E { s with heap := h' }) ∧
      ∀ i j C, i < vs.length → j < vs.length → C (lt i j) { s with heap := h' } → kas_ask prog w A κ vs i j C { s with heap := h' })
    (h : ∀ (p : Array Nat) (h' : Heap) (c : Nat), Pm vs.length p → UpW lt p vs.length → (∀ b o, b ≠ a → s.heap.get? b = some o → h'.get? b = some o) → h'.get? a = some (seqObj "list" (p.toList.map fun i => vs.getD i Value.none).toArray c) → P (.done (.ret .none)) { s with heap := h' }) :
    wpAny (model prog w) A (Builtin.«list.sort» ⟨[.ref a], []⟩) P E s := by
  obtain ⟨e1, ho1⟩ : ∃ e1, (s.heap.update a (Obj.mapSeq fun _ => (#[] : Array Value))).get? a = some (seqObj "list" #[] e1) := ⟨_, get?_update_seq ho fun _ => #[]⟩
  have sz : vs.toArray.size ≤ sizeLine := by rw [List.size_toArray]; exact Nat.le_trans (Nat.le_of_lt h64) (by decide)
  have k2 : ∀ b o, b ≠ a → s.heap.get? b = some o → (((s.heap.update a (Obj.mapSeq fun _ => (#[] : Array Value))).push (seqObj "tuple" vs.toArray 0)).push (seqObj "list" #[] 0)).get? b = some o := fun b o hb e =>
    Heap.get?_push_of_some _ (Heap.get?_push_of_some _ (((Heap.SameBut.update s.heap a _).2 b hb).trans e))
  have ho2 : (((s.heap.update a (Obj.mapSeq fun _ => (#[] : Array Value))).push (seqObj "tuple" vs.toArray 0)).push (seqObj "list" #[] 0)).get? a = some (seqObj "list" #[] e1) := Heap.get?_push_of_some _ (Heap.get?_push_of_some _ ho1)
  rw [list_sort_plain]
  refine wpAny_bind (listItems_at ho rfl (wpAny_bind (listUpdate_at ho rfl (wpAny_bind (seqEpoch_at ho1 rfl (wpAny_bind (wpAny_newTuple (wpAny_bind (wpAny_newList (wpAny_holding ?_) (Nat.zero_le _))) (by simpa using sz))))) sz (Nat.zero_le _))))
  show wpAny (model prog w) A _ P E { s with heap := (((s.heap.update a (Obj.mapSeq fun _ => (#[] : Array Value))).push (seqObj "tuple" vs.toArray 0)).push (seqObj "list" #[] 0)) }
  generalize ((s.heap.update a (Obj.mapSeq fun _ => (#[] : Array Value))).push (seqObj "tuple" vs.toArray 0)).push (seqObj "list" #[] 0) = h2 at k2 ho2 ⊢
  dsimp only
  have fin : ∀ (st : SortSt) (p : Array Nat), (arrOf st).map (·.2) = List.toArray (p.toList.map fun i => vs.getD i Value.none) → failedOf st = none → Pm vs.length p → UpW lt p vs.length → ∀ Q : Heap → Prop, (∀ (h' : Heap) (c : Nat), (∀ b o, b ≠ a → s.heap.get? b = some o → h'.get? b = some o) → h'.get? a = some (seqObj "list" (p.toList.map fun i => vs.getD i Value.none).toArray c) → Q h') →
      Q (h2.update a (Obj.mapSeq fun _ => (arrOf st).map (·.2))) := fun st p e _ _ _ Q q => by
    rw [e]
    exact q _ _ (fun b o hb eb => ((Heap.SameBut.update h2 a _).2 b hb).trans (k2 b o hb eb)) (get?_update_seq ho2 _)
  by_cases h1 : vs.toArray.size < 2
  · rw [if_pos h1, if_pos h1]
    refine wpAny_bind (wpAny_pure ?_)
    rw [StateT.run_pure]
    have pm : Pm vs.length (List.range vs.length).toArray := pm_of (by simp)
    have up : UpW lt (List.range vs.length).toArray vs.length := fun i j hij hj => by
      rw [List.size_toArray] at h1
      omega
    have ev : (arrOf (SortSt.mk' general' (vs.toArray.zip vs.toArray) #[] 7 none)).map (·.2) = List.toArray ((List.range vs.length).toArray.toList.map fun i => vs.getD i Value.none) := by
      have ek := kat_snds (ks := vs) (vs := vs) (st := SortSt.mk' general' (vs.toArray.zip vs.toArray) #[] 7 none) (p := (List.range vs.length).toArray) rfl (by
        have e := kas_range (vs.toArray.zip vs.toArray)
        rw [show (vs.toArray.zip vs.toArray).size = vs.length by simp] at e
        exact e.symm)
      exact ek
    have fn := fin _ _ ev rfl pm up (fun h' => P (.done (.ret .none)) { s with heap := h' }) (fun h' c k e => h _ h' c pm up k e)
    refine wpAny_bind (wpAny_pure (wpAny_bind (seqEpoch_at ho2 rfl (wpAny_bind (listUpdate_at ho2 rfl ?_ (Nat.zero_le _) ?_)))))
    · rw [show failedOf (SortSt.mk' general' (vs.toArray.zip vs.toArray) #[] 7 none) = none from rfl, bne_self_eq_false, if_neg Bool.false_ne_true]
      exact wpAny_pure fn
    · refine Nat.le_trans ?_ (Nat.le_succ_of_le sz)
      show (Array.map _ _).size ≤ _
      rw [ev]; simp
  · rw [if_neg h1, if_neg h1]
    have hn2 : 2 ≤ vs.length := by rw [List.size_toArray] at h1; omega
    obtain ⟨κ, q1, q2⟩ := hk hn2 h2 k2
    refine wpAny_bind (q1 _ ?_)
    refine wpAny_bind (wpAny_mono (kat_run (κ := κ) (ks := vs) (vs := vs) (Q := fun st s1 => s1 = { s with heap := h2 } ∧ ∃ p : Array Nat, (arrOf st).map (·.2) = List.toArray (p.toList.map fun i => vs.getD i Value.none) ∧ failedOf st = none ∧ Pm vs.length p ∧ UpW lt p vs.length) (G := fun p s1 => s1 = { s with heap := h2 } ∧ Pm vs.length p ∧ UpW lt p vs.length) rfl hn2 h64
      (fun p st s1 _ ea ef ⟨es, g1, g2⟩ => ⟨es, p, kat_snds rfl ea, ef, g1, g2⟩) (kas_at q2 _ (kas_same (sortW_ok O hn2)))) ?_ fun _ _ e => e)
    rintro ⟨⟨⟩, st⟩ s1 ⟨rfl, p, ev, ef, pm, up⟩
    dsimp only
    have fn := fin _ _ ev ef pm up (fun h' => P (.done (.ret .none)) { s with heap := h' }) (fun h' c k e => h _ h' c pm up k e)
    refine wpAny_bind (seqEpoch_at ho2 rfl (wpAny_bind (listUpdate_at ho2 rfl ?_ (Nat.zero_le _) ?_)))
    · rw [ef, bne_self_eq_false, if_neg Bool.false_ne_true]
      exact wpAny_pure fn
    · refine Nat.le_trans ?_ (Nat.le_succ_of_le sz)
      show (Array.map _ _).size ≤ _
      rw [ev]
      simp [pm.size]
theorem sorted_ofW {v : Value} {vs : List Value} {lt : Nat → Nat → Bool} {h1 : Heap} {t1 : Nat} {Q : Value → Shared → Prop} (hcol : ∀ Q' : List Value → Shared → Prop, Q' vs { s with heap := h1, toks := t1 } → wpAny (model prog w) A.in1 (collect v) Q' E s) (k1 : ∀ b o, s.heap.get? b = some o → h1.get? b = some o) (z1 : s.heap.objs.size ≤ h1.objs.size) (h64 : vs.length < 64) (O : WeakOrd vs.length lt)
    (hk : 2 ≤ vs.length → ∀ h' : Heap, (∀ b o, s.heap.get? b = some o → h'.get? b = some o) → ∃ κ, (∀ Q : SortKind → Shared → Prop, Q κ { s with heap := h', toks := t1 } → wpAny (model prog w) A.in1.in1 (keyKind' vs.toArray) Q E { s with heap := h', toks := t1 }) ∧
      ∀ i j C, i < vs.length → j < vs.length → C (lt i j) { s with heap := h', toks := t1 } → kas_ask prog w A.in1.in1 κ vs i j C { s with heap := h', toks := t1 })
    (h : ∀ (p : Array Nat) (h' : Heap) (l c : Nat), Pm vs.length p → UpW lt p vs.length → s.heap.objs.size ≤ l → (∀ b o, s.heap.get? b = some o → h'.get? b = some o) → h'.get? l = some (seqObj "list" (p.toList.map fun i => vs.getD i Value.none).toArray c) → Q (.ref l) { s with heap := h', toks := t1 }) :
    wpAny (model prog w) A (call (.builtin "sorted") [v]) Q E s := by
  have sz : vs.length ≤ sizeLine := Nat.le_trans (Nat.le_of_lt h64) (by decide)
  have hL : (h1.push (seqObj "list" vs.toArray 0)).get? h1.objs.size = some (seqObj "list" vs.toArray 0) := Heap.get?_push_size _ rfl
  refine Calls.call_function_entry kind_sorted plain_sorted entry_sorted (args_sorted1 _) ?_
  unfold Builtin.«sorted»
  refine wpAny_bind (m := checkCount "sorted" 1 1 _) (wpAny_pure (wpAny_bind (hcol _ (wpAny_bind (wpAny_newList ?_ sz)))))
  refine wpAny_bind (wpAny_holding (wpAny_call_entry slot_list_sort ⟨_, hL, rfl⟩ entry_list_sort ?_ (args_list_sort _)))
  refine list_sort_dataW (s := { s with heap := h1.push (seqObj "list" vs.toArray 0), toks := t1 }) hL h64 O (fun h2 h' k => ?_) fun p h' c pm up k e => ⟨_, rfl, wpAny_pure ⟨_, rfl, ?_⟩⟩
  · exact hk h2 h' fun b o q => k b o (Nat.ne_of_lt (Nat.lt_of_lt_of_le (Heap.lt_size q) z1)) (Heap.get?_push_of_some _ (k1 b o q))
  · exact h p h' _ c pm up z1 (fun b o q => k b o (Nat.ne_of_lt (Nat.lt_of_lt_of_le (Heap.lt_size q) z1)) (Heap.get?_push_of_some _ (k1 b o q))) e
def IsInts (d : PyData) : Prop := ∃ ns : List Int, d = .tuple (ns.map .int)
theorem first_at {h : Heap} {u : Value} {d : PyData} {as : List Addr} (r : Reads h u d as) (hd : IsInts d) : ∃ (b : Addr) (o : Obj) (xs : Array Value) (n : Nat), u = .ref b ∧ h.get? b = some o ∧ o.cls = .type "tuple" ∧ o.data = .seq xs n ∧ (xs[0]?.isSome = true ↔ ∃ i r, d = .tuple (.int i :: r)) := by
  obtain ⟨ns, rfl⟩ := hd
  cases r with
  | @tuple b o xs n ds as' h1 h2 h3 h4 =>
    refine ⟨b, o, xs, n, rfl, h1, h2, h3, ?_⟩
    rw [← Array.getElem?_toList]
    cases ns with
    | nil =>
      cases h4' : xs.toList with
      | nil => simp
      | cons x l => rw [h4'] at h4; cases h4
    | cons i ns =>
      cases h4' : xs.toList with
      | nil => rw [h4'] at h4; cases h4
      | cons x l => simp
theorem firsts_any : ∀ {us : List Value} {ds : List PyData} {as : List Addr}, ReadsAll s.heap us ds as → (∀ d ∈ ds, IsInts d) → ∃ fs : List (Option Value), fs.length = us.length ∧ (∀ i, i < ds.length → ((fs.getD i none).isSome = true ↔ ∃ k r, ds.getD i .none = .tuple (.int k :: r))) ∧ ∀ Q : List (Option Value) → Shared → Prop, Q fs s → wpAny (model prog w) A (us.mapM firstOfTuple') Q E s
  | _, _, _, .nil, _ => ⟨[], rfl, fun i hi => by simp at hi, fun Q q => by rw [List.mapM_nil]; exact wpAny_pure q⟩
  | _, _, _, .cons (v := u) (d := d) r t, hd => by
    obtain ⟨fs, f1, f2, f3⟩ := firsts_any t fun e he => hd e (.tail _ he)
    obtain ⟨b, o, xs, n, rfl, h1, h2, h3, h4⟩ := first_at r (hd _ (.head _))
    refine ⟨xs[0]? :: fs, by simp [f1], fun i hi => ?_, fun Q q => ?_⟩
    · cases i with
      | zero => simpa using h4
      | succ i => simpa using f2 i (by simpa using hi)
    · rw [List.mapM_cons, kas_first_eq]
      refine wpAny_bind (wpAny_bind (wpAny_typeOf ⟨o, h1, h2⟩ ?_))
      rw [if_neg (by decide)]
      exact wpAny_bind (listItems_at h1 h3 (wpAny_pure (wpAny_bind (f3 _ (wpAny_pure q)))))
theorem ints_cmp : ∀ (ns ms : List Int), cmpbs (ns.map PyData.int) (ms.map PyData.int) = true
  | [], _ => by cases ‹List Int› <;> rfl
  | _ :: _, [] => rfl
  | n :: ns, m :: ms => by simp only [List.map_cons, cmpbs, cmpb, ints_cmp ns ms, ite_self]
theorem IsInts.cmp {x y : PyData} (hx : IsInts x) (hy : IsInts y) : cmpb x y = true := by
  obtain ⟨ns, rfl⟩ := hx
  obtain ⟨ms, rfl⟩ := hy
  exact ints_cmp ns ms
theorem ints_all : ∀ (ns : List Int), PyData.canLayAll0 (ns.map PyData.int) = true ∧ PyData.depthAll (ns.map PyData.int) = 0 ∧ CanoAll (ns.map PyData.int) = true
  | [] => ⟨rfl, rfl, rfl⟩
  | n :: ns => by
    obtain ⟨a, b, c⟩ := ints_all ns
    simp only [List.map_cons, PyData.canLayAll0, PyData.canLay0, PyData.depthAll, PyData.depth, CanoAll, Cano, a, b, c]
    exact ⟨rfl, rfl, rfl⟩
theorem IsInts.ok {x : PyData} (hx : IsInts x) : x.canLay0 = true ∧ x.depth ≤ 1 ∧ Cano x = true := by
  obtain ⟨ns, rfl⟩ := hx
  obtain ⟨a, b, c⟩ := ints_all ns
  refine ⟨?_, ?_, ?_⟩
  · simp only [PyData.canLay0]; exact a
  · simp only [PyData.depth, b]; decide
  · simp only [Cano]; exact c
theorem gen_lt {u v : Value} {b : Bool} {Q : Bool → Shared → Prop} (h : LtAt A s u v b) (q : Q b s) : wpAny (model prog w) A (keyLt' general' u v) Q E s := by
  show wpAny (model prog w) A (oneLt' false u v) Q E s
  rw [oneLt'_eq]
  simp only [Bool.false_eq_true, if_false]
  exact wpAny_bind (h prog w _ _ (wpAny_truthy_bool q))
theorem one_lt {a b : Addr} {oa ob : Obj} {xs ys : Array Value} {n k : Nat} {r : Bool} {Q : Bool → Shared → Prop} (ha : s.heap.get? a = some oa) (hb : s.heap.get? b = some ob) (ca : oa.cls = .type "tuple") (cb : ob.cls = .type "tuple") (da : oa.data = .seq xs n) (db : ob.data = .seq ys k)
    (hu : A.units < cLine) (h : LexAt A.in1 s xs.toList ys.toList r) (q : Q r s) : wpAny (model prog w) A (keyLt' oneType' (.ref a) (.ref b)) Q E s := by
  rw [keyLt'_oneType, oneLt'_eq]
  simp only [if_true]
  refine wpAny_bind (wpAny_cRoomFor hu ?_)
  refine wpAny_bind (wpAny_callSpecialIfBound?_slot ⟨oa, ha, ca⟩ F.slot_tuple_lt (wpAny_call_entry F.slot_tuple_lt ⟨oa, ha, ca⟩ F.entry_tuple_lt (tuple_lt_code ha hb cb da db h ⟨_, rfl, ?_⟩) (F.args_tuple_lt_2 _ _)))
  exact wpAny_truthy_bool q
theorem rdAt2 {h : Heap} : ∀ {us : List Value} {ds : List PyData} {as : List Addr} {i : Nat}, ReadsAll h us ds as → i < ds.length → ∃ bs, Reads h (us.getD i .none) (ds.getD i .none) bs
  | _, _, _, 0, .cons r _, _ => ⟨_, r⟩
  | _, _, _, i + 1, .cons _ t, hi => rdAt2 (i := i) t (by simpa using hi)
theorem rdLen2 {h : Heap} : ∀ {us : List Value} {ds : List PyData} {as : List Addr}, ReadsAll h us ds as → us.length = ds.length
  | _, _, _, .nil => rfl
  | _, _, _, .cons _ t => by simp [rdLen2 t]
theorem getD_mem2 {α : Type} {xs : List α} {i : Nat} {d : α} (h : i < xs.length) : xs.getD i d ∈ xs := by
  rw [List.getD_eq_getElem?_getD, List.getElem?_eq_getElem h]; exact List.getElem_mem h
theorem kinds_some {us : List Value} {ds : List PyData} {bs : List Addr} (hu : A.units + 80 < cLine) (rd : ReadsAll s.heap us ds bs) (hd : ∀ d ∈ ds, IsInts d) (h2 : 2 ≤ us.length) (hno : ¬ ∀ d ∈ ds, ∃ k r, d = .tuple (.int k :: r)) :
    ∃ κ, (∀ Q : SortKind → Shared → Prop, Q κ s → wpAny (model prog w) A (keyKind' us.toArray) Q E s) ∧ ∀ i j C, i < us.length → j < us.length → C (ltT (ds.getD i .none) (ds.getD j .none)) s → kas_ask prog w A κ us i j C s := by
  have hl := rdLen2 rd
  obtain ⟨fs, f1, f2, f3⟩ := firsts_any (prog := prog) (w := w) (A := A) (E := E) rd hd
  have hnall : ¬ (fs.toArray.all fun x => x.isSome) = true := fun h => by
    apply hno
    intro d hdm
    obtain ⟨i, hi⟩ := List.getElem?_of_mem hdm
    have hil := (List.getElem?_eq_some_iff.mp hi).1
    have e : ds.getD i .none = d := by rw [List.getD_eq_getElem?_getD, hi]; rfl
    rw [← e]
    refine (f2 i hil).mp ?_
    have hif : i < fs.length := by omega
    rw [List.all_toArray, List.all_eq_true] at h
    exact h _ (getD_mem2 hif)
  have pair : ∀ i j, i < us.length → j < us.length → ∃ b1 b2 o1 o2 xs ys n k, us.getD i .none = .ref b1 ∧ us.getD j .none = .ref b2 ∧ s.heap.get? b1 = some o1 ∧ s.heap.get? b2 = some o2 ∧ o1.cls = .type "tuple" ∧ o2.cls = .type "tuple" ∧ o1.data = .seq xs n ∧ o2.data = .seq ys k ∧ LexAt A.in1 s xs.toList ys.toList (ltT (ds.getD i .none) (ds.getD j .none)) ∧ LtAt A s (.ref b1) (.ref b2) (ltT (ds.getD i .none) (ds.getD j .none)) := fun i j hi hj => by
    rw [hl] at hi hj
    have m1 := hd _ (getD_mem2 (d := PyData.none) hi)
    have m2 := hd _ (getD_mem2 (d := PyData.none) hj)
    obtain ⟨a1, r1⟩ := rdAt2 rd hi
    obtain ⟨a2, r2⟩ := rdAt2 rd hj
    generalize ds.getD i .none = x at m1 r1
    generalize ds.getD j .none = y at m2 r2
    have lt0 := ltAt_reads x y A s _ _ _ _ r1 r2 m1.ok.1 m2.ok.1 (m1.cmp m2) (by have := m1.ok.2.1; omega)
    obtain ⟨ns, rfl⟩ := m1
    obtain ⟨ms, rfl⟩ := m2
    generalize us.getD i .none = u at r1 lt0
    generalize us.getD j .none = v at r2 lt0
    cases r1 with
    | @tuple b1 o1 xs n _ _ p1 p2 p3 p4 =>
      cases r2 with
      | @tuple b2 o2 ys k _ _ q1 q2 q3 q4 =>
        refine ⟨b1, b2, o1, o2, xs, ys, n, k, rfl, rfl, p1, q1, p2, q2, p3, q3, ?_, lt0⟩
        have := lexAt_reads (ns.map .int) (ms.map .int) A.in1 s _ _ _ _ p4 q4 (ints_all ns).1 (ints_all ms).1 (ints_cmp ns ms) (by show A.units + 1 + _ < _; rw [(ints_all ns).2.1]; omega)
        exact this
  by_cases h0 : (fs.toArray[0]?.bind id).isSome = true
  · refine ⟨general', fun Q q => ?_, fun i j C hi hj q => ?_⟩
    · rw [kat_kind_eq, List.mapM_toArray, map_eq_pure_bind]
      refine wpAny_bind (wpAny_bind (f3 _ (wpAny_pure ?_)))
      rw [if_neg hnall, if_pos h0]
      exact wpAny_pure q
    · obtain ⟨b1, b2, o1, o2, xs, ys, n, k, e1, e2, _, _, _, _, _, _, _, lt0⟩ := pair i j hi hj
      unfold kas_ask
      rw [e1, e2]
      exact gen_lt lt0 q
  · refine ⟨oneType', fun Q q => ?_, fun i j C hi hj q => ?_⟩
    · rw [kat_kind_eq, List.mapM_toArray, map_eq_pure_bind]
      refine wpAny_bind (wpAny_bind (f3 _ (wpAny_pure ?_)))
      rw [if_neg hnall, if_neg h0, oneTypeOnly'_eq, List.mapM_toArray, map_eq_pure_bind]
      refine wpAny_bind (wpAny_bind (wpAny_bind (kas_mapM (r := Value.type "tuple") _ (fun v hv Q' hq => ?_) (wpAny_pure ?_))))
      · obtain ⟨i, hi⟩ := List.getElem?_of_mem hv
        have hil := (List.getElem?_eq_some_iff.mp hi).1
        obtain ⟨b1, b2, o1, o2, xs, ys, n, k, e1, e2, p1, _, p2, _⟩ := pair i i hil hil
        have e : us.getD i .none = v := by rw [List.getD_eq_getElem?_getD, hi]; rfl
        rw [← e, e1]
        exact wpAny_typeOf ⟨o1, p1, p2⟩ hq
      · obtain ⟨v₁, rest, rfl⟩ : ∃ v₁ rest, us = v₁ :: rest := by
          match us, h2 with
          | v₁ :: rest, _ => exact ⟨v₁, rest, rfl⟩
        have hall2 : ((List.map (fun _ => Value.type "tuple") (v₁ :: rest)).toArray.all fun x => x == Value.type "tuple") = true := by
          simp only [List.all_toArray, List.all_map, List.all_eq_true]
          intro _ _
          rfl
        have h0' : (List.map (fun _ => Value.type "tuple") (v₁ :: rest)).toArray[0]? = some (Value.type "tuple") := by simp
        rw [h0']
        simp only [hall2, if_true]
        exact wpAny_pure (wpAny_pure q)
    · obtain ⟨b1, b2, o1, o2, xs, ys, n, k, e1, e2, p1, q1, p2, q2, p3, q3, lx, _⟩ := pair i j hi hj
      unfold kas_ask
      rw [e1, e2]
      exact one_lt p1 q1 p2 q2 p3 q3 (by omega) lx q
end
end L2
namespace L2
open PySem PySem.Spec PyProof.Rows
theorem weak_ord {ds : List PyData} (h : ∀ d ∈ ds, IsInts d) : WeakOrd ds.length (ltI ds) := by
  have hc : ∀ i, i < ds.length → Cano (ds.getD i .none) = true := fun i hi => (h _ (getD_mem hi)).ok.2.2
  have asy : ∀ x y, Cano x = true → Cano y = true → ltT x y = true → ltT y x = false := fun x y hx hy h1 => by
    cases c : ltT y x with
    | false => rfl
    | true => rw [← ltT_irr x hx, ltT_tr x y x hx hy hx h1 c]
  refine ⟨fun a b c ha hb hc' h1 h2 => ?_, fun a b ha hb h1 => asy _ _ (hc a ha) (hc b hb) h1⟩
  have h1' : ltT (ds.getD b .none) (ds.getD a .none) = false := h1
  have h2' : ltT (ds.getD c .none) (ds.getD b .none) = false := h2
  show ltT (ds.getD c .none) (ds.getD a .none) = false
  cases e : ltT (ds.getD c .none) (ds.getD a .none) with
  | false => rfl
  | true =>
    by_cases q : ds.getD c .none = ds.getD b .none
    · rw [q] at e; rw [e] at h1'; exact h1'
    · have := ltT_tot _ _ (hc c hc') (hc b hb) q h2'
      rw [ltT_tr _ _ _ (hc b hb) (hc c hc') (hc a ha) this e] at h1'
      exact h1'
def aSortedN : AC := fun xs μ R => match xs with
  | [.R a] => opt (μ a) fun m => match m with
    | .lst ys => opt (dats ys) fun ds => (ds.length < 64 ∧ ∀ d ∈ ds, IsInts d) ∧ ∀ (es : List PyData) (p : Addr), es.Perm ds → es.Pairwise (fun a b => ltT b a = false) → μ p = none → R (.R p) (updM μ p (.lst (es.map .D)))
    | _ => False
  | _ => False
section
variable {X : Cx} {k : Nat}
theorem c_sortedN (hr : Room k X.A) : VCall X (.builtin "sorted") aSortedN := by
  intro pins s σ H xs us Q I r ⟨as, μ, R, ra, hc, h, hq⟩
  unfold aSortedN at h
  split at h
  · rename_i a
    cases ra with
    | cons r1 r2 =>
    cases r2
    obtain ⟨m, em, h⟩ := opt_e h
    split at h
    · rename_i ys
      obtain ⟨ds, ed, ⟨hlen64, hints⟩, h⟩ := opt_e h
      obtain ⟨o, ho, ws, rfl, rs⟩ := hc _ _ em
      cases r1
      obtain ⟨u, rfl, rx⟩ := vals1 r
      cases rx
      obtain ⟨its, rv, pl, hz⟩ := I.list (SqL.of (K := X.K) ho)
      have dk := rs.dats ed
      obtain ⟨bs, rd⟩ := DkAll.reads I ds ws its dk rv
      have l1 := rdLen rd
      have l2 := dk.length
      have h64 : its.length < 64 := by rw [l1]; exact hlen64
      have sz : its.length ≤ sizeLine := Nat.le_trans (Nat.le_of_lt h64) (by decide)
      have keep : ∀ b o, s.heap.get? b = some o → ((s.heap.push (seqObj "list" #[] 0)).update s.heap.objs.size (Obj.mapSeq (· ++ its.toArray))).get? b = some o := fun b o q =>
        ((Heap.SameBut.update (s.heap.push (seqObj "list" #[] 0)) s.heap.objs.size _).2 b (Nat.ne_of_lt (Heap.lt_size q))).trans (Heap.get?_push_of_some _ q)
      have hO : WeakOrd its.length (ltI ds) := by rw [l1]; exact weak_ord hints
      refine sorted_ofW (t1 := s.toks) (fun Q' q => collect_list pl.isList q sz) keep (by rw [Heap.size_update]; exact Nat.le_trans (Nat.le_succ _) (Nat.le_of_eq (Heap.size_push _ _).symm)) h64 hO (fun h2 h' kp => ?_) fun p h' l c pm up hl kp e => ?_
      · have rd' : ReadsAll h' its ds bs := reads_all kp rd
        have hu := hr.un
        by_cases hall : ∀ d ∈ ds, ∃ k r, d = .tuple (.int k :: r)
        · obtain ⟨fs, kt, kl, kz⟩ := kat_tups rd' hall
          refine ⟨tuples' true, fun Q q => ?_, fun i j C hi hj q => ?_⟩
          · refine PySem.W.kat_kind (T := .type "int") kt (by omega) (fun v hv => ?_) rfl q
            obtain ⟨i, t, rfl⟩ := kz v hv
            exact PySem.W.Looks.of_pure rfl
          · rw [l1] at hi hj
            obtain ⟨b1, q1⟩ := rdAt rd' hi
            obtain ⟨b2, q2⟩ := rdAt rd' hj
            have m1 := getD_mem (d := PyData.none) hi
            have m2 := getD_mem (d := PyData.none) hj
            obtain ⟨x1, r1, e1⟩ := hall _ m1
            obtain ⟨x2, r2, e2⟩ := hall _ m2
            have c1 := (hints _ m1).ok.1
            have c2 := (hints _ m2).ok.1
            have d1 : (ds.getD i .none).depth ≤ 64 := Nat.le_trans (hints _ m1).ok.2.1 (by decide)
            have cm := (hints _ m1).cmp (hints _ m2)
            have q' : C (ltT (ds.getD i .none) (ds.getD j .none)) _ := q
            rw [e1] at q1 c1 d1 cm q'
            rw [e2] at q2 c2 cm q'
            unfold PySem.W.kas_ask
            generalize its.getD i Value.none = u1 at q1 ⊢
            generalize its.getD j Value.none = u2 at q2 ⊢
            cases q1 with
            | tuple a1 a2 a3 a4 =>
              cases q2 with
              | tuple b1 b2 b3 b4 =>
                exact key_lt (.tuple a1 a2 a3 a4) (.tuple b1 b2 b3 b4) c1 c2 cm (by show X.A.units + 1 + 1 + 64 < _; omega) d1 q'
        · exact kinds_some (s := { s with heap := h', toks := s.toks }) (by show X.A.units + 1 + 1 + 80 < _; omega) rd' hints h2 hall
      · have hp : ∀ i ∈ p.toList, i < ds.length := fun i hi => by
          have := pm.perm.mem_iff.mp hi
          rw [l1] at this
          exact List.mem_range.mp this
        have hv := Vals.pick rv p.toList fun i hi => by rw [l2]; exact hp i hi
        have hd := dk.pick p.toList hp
        have hlen : (p.toList.map fun i => ws.getD i .non).length ≤ sizeLine := by
          rw [List.length_map, Array.length_toList, pm.size]; exact sz
        refine ⟨.ref l, _, I.laid (t' := s.toks) kp hl (show ObjOk X.prog X.w _ h' _ (.lst (p.toList.map fun i => ws.getD i .non)) from ⟨hlen, _, c, hv, e⟩), rfl, ?_⟩
        have hn := I.hok.fresh hl
        refine hq _ _ _ _ (Kp.new hn _) (hc.new hn (rm_lst ?_)) ra_ref (h (p.toList.map fun i => ds.getD i .none) l ?_ ?_ (hc.none hn))
        · exact hd.rel
        · have e1 : p.toList.Perm (List.range ds.length) := by rw [← l1]; exact pm.perm
          have e2 := e1.map fun i => ds.getD i PyData.none
          rw [map_range_getD] at e2
          exact e2
        · rw [List.pairwise_map]
          refine List.pairwise_iff_getElem.mpr fun i j hi hj hij => ?_
          have hj' : j < its.length := by rw [← pm.size]; simpa using hj
          have := up i j hij hj'
          have gi : p.getD i 0 = p.toList[i] := by simp [Array.getD, show i < p.size by simpa using hi]
          have gj : p.getD j 0 = p.toList[j] := by simp [Array.getD, show j < p.size by simpa using hj]
          rw [gi, gj] at this
          exact this
    · exact h.elim
  · exact h.elim
end
end L2
namespace K48
open PySem L2
def top (i : Nat) : Stmt := PySem.Challenge.pw_pileduel_k48_machines_as_sayings.main.body.getD i (.Pass ⟨0, 0, 0, 0⟩)
abbrev sAs : Stmt := top 1
abbrev sDe : Stmt := top 3
abbrev sDr : Stmt := top 4
abbrev sNa : Stmt := top 5
abbrev sRu : Stmt := top 6
abbrev sRs : Stmt := top 7
abbrev sGa : Stmt := top 8
abbrev sSo : Stmt := top 9
abbrev sSa : Stmt := top 10
abbrev sPi : Stmt := top 11
abbrev sAr : Stmt := top 12
abbrev sDu : Stmt := top 13
abbrev sLaw : Stmt := top 14
section
variable {P : Program} {w : World} {K : PySem.W.Frag} {mg : Str → Option Value} {base : Heap} {f : Addr} {fd : FuncData}
def intA (i : Int) : AV := .D (.int i)
def dealM (sd nm : Int) (l : Addr) : MO := .dk [(.inr "seed", .D (.int sd)), (.inr "number", .D (.int nm)), (.inr "left", .R l)]
structure PotAt (μ : M) (a l : Addr) (sd nm : Int) (ns : List Int) : Prop where
  ha : μ a = some (dealM sd nm l)
  hl : μ l = some (.lst (ns.map intA))
  s0 : 0 ≤ sd
  s1 : sd < 2147483648
  n0 : 0 ≤ nm
  p0 : ∀ n ∈ ns, 0 ≤ n
  ne : a ≠ l
def Pot (μ : M) (a l : Addr) : Prop := ∃ sd nm ns, PotAt μ a l sd nm ns
theorem k_sn : (.inr "seed" : Key) ≠ .inr "number" := by decide +kernel
theorem k_sl : (.inr "seed" : Key) ≠ .inr "left" := by decide +kernel
theorem k_nl : (.inr "number" : Key) ≠ .inr "left" := by decide +kernel
theorem t_sn : ("seed" : Str) ≠ "number" := by decide +kernel
theorem t_sl : ("seed" : Str) ≠ "left" := by decide +kernel
theorem t_nl : ("number" : Str) ≠ "left" := by decide +kernel
theorem g_seed {sd nm : Int} {l : Addr} : dget (dealM sd nm l) (.str "seed") = some (some (.D (.int sd))) := congrArg some valA_hd
theorem g_num {sd nm : Int} {l : Addr} : dget (dealM sd nm l) (.str "number") = some (some (.D (.int nm))) := congrArg some ((valA_tl k_sn).trans valA_hd)
theorem g_left {sd nm : Int} {l : Addr} : dget (dealM sd nm l) (.str "left") = some (some (.R l)) := congrArg some ((valA_tl k_sl).trans ((valA_tl k_nl).trans valA_hd))
theorem p_seed {sd nm v : Int} {l : Addr} : dput (dealM sd nm l) (.str "seed") (.D (.int v)) = some (dealM v nm l) := by
  refine congrArg some (congrArg MO.dk ?_)
  simp [putA, t_sn.symm, t_sl.symm]
theorem p_num {sd nm v : Int} {l : Addr} : dput (dealM sd nm l) (.str "number") (.D (.int v)) = some (dealM sd v l) := by
  refine congrArg some (congrArg MO.dk ?_)
  simp [putA, t_sn, t_nl.symm]
theorem d_small {sd nm : Int} {l : Addr} : dsize (dealM sd nm l) < sizeLine := small1000 (n := 3) (by decide)
def Ext2 (a l : Addr) (μ μ' : M) : Prop := ∀ b m, b ≠ a → b ≠ l → μ b = some m → μ' b = some m
theorem Ext2.refl {a l : Addr} {μ : M} : Ext2 a l μ μ := fun _ _ _ _ h => h
theorem Ext2.trans {a l : Addr} {μ ν ρ : M} (h : Ext2 a l μ ν) (k : Ext2 a l ν ρ) : Ext2 a l μ ρ := fun b m h1 h2 e => k b m h1 h2 (h b m h1 h2 e)
theorem Ext2.new {a l p : Addr} {μ ν : M} {o : MO} (h : Ext2 a l μ ν) (e : ν p = none) : Ext2 a l μ (updM ν p o) := fun b m h1 h2 q => by
  have := h b m h1 h2 q
  rw [updM_ne (by intro z; subst z; rw [e] at this; cases this)]; exact this
theorem Ext2.put {a l p : Addr} {μ ν : M} {o : MO} (h : Ext2 a l μ ν) (e : μ p = none) : Ext2 a l μ (updM ν p o) := fun b m h1 h2 q => by
  rw [updM_ne (by intro z; subst z; rw [e] at q; cases q)]; exact h b m h1 h2 q
theorem Ext2.a {a l : Addr} {μ ν : M} {o : MO} (h : Ext2 a l μ ν) : Ext2 a l μ (updM ν a o) := fun b m h1 h2 q => by rw [updM_ne h1]; exact h b m h1 h2 q
theorem Ext2.l {a l : Addr} {μ ν : M} {o : MO} (h : Ext2 a l μ ν) : Ext2 a l μ (updM ν l o) := fun b m h1 h2 q => by rw [updM_ne h2]; exact h b m h1 h2 q
theorem Ext2.none {a l p : Addr} {μ ν : M} (h : Ext2 a l μ ν) (h1 : a ≠ p) (h2 : l ≠ p) (e : ν p = none) : μ p = none := by
  cases q : μ p with
  | none => rfl
  | some m => rw [h p m h1.symm h2.symm q] at e; cases e
theorem PotAt.other {μ : M} {a l p : Addr} {sd nm : Int} {ns : List Int} {o : MO} (h : PotAt μ a l sd nm ns) (h1 : a ≠ p) (h2 : l ≠ p) : PotAt (updM μ p o) a l sd nm ns :=
  ⟨by rw [updM_ne h1]; exact h.ha, by rw [updM_ne h2]; exact h.hl, h.s0, h.s1, h.n0, h.p0, h.ne⟩
theorem Pot.other {μ : M} {a l p : Addr} {o : MO} (h : Pot μ a l) (h1 : a ≠ p) (h2 : l ≠ p) : Pot (updM μ p o) a l := let ⟨sd, nm, ns, h⟩ := h; ⟨sd, nm, ns, h.other h1 h2⟩
theorem Pot.ne {μ : M} {a l p : Addr} (h : Pot μ a l) (e : μ p = none) : a ≠ p ∧ l ≠ p := by
  obtain ⟨sd, nm, ns, h⟩ := h
  exact ⟨fun z => by (subst z; rw [h.ha] at e; cases e), fun z => by (subst z; rw [h.hl] at e; cases e)⟩
theorem Pot.new {μ : M} {a l p : Addr} {o : MO} (h : Pot μ a l) (e : μ p = none) : Pot (updM μ p o) a l := h.other (h.ne e).1 (h.ne e).2
abbrev nDr : List Str := ["_law_deal_here", "_law_many", "_law_number", "_law_one", "_law_other"]
theorem scDr : FnScope nDr ["_law_deal_here", "_law_many"] (defScope sDr) := ⟨rfl, rfl, rfl, by decide +kernel, rfl, by decide +kernel, by decide +kernel⟩
def spDr : ASp := fun xs μ R => ∃ (a l : Addr) (many : Nat), xs = [.R a, .D (.int many)] ∧ Pot μ a l ∧ 0 < many ∧ many < 1000000 ∧ ∀ (v : Nat) (μ' : M), v < many → Pot μ' a l → Ext2 a l μ μ' → R (.D (.int v)) μ'
theorem nat_of {v : Int} {many : Nat} (h0 : 0 ≤ v) (h1 : v < many) : ∃ n : Nat, v = n ∧ n < many := ⟨v.toNat, by omega, by omega⟩
theorem mod_0 (x : Int) {m : Int} (h : 0 < m) : 0 ≤ x % m := Int.emod_nonneg x (by omega)
theorem mod_1 (x : Int) {m : Int} (h : 0 < m) (h2 : m ≤ 2147483648) : x % m < 2147483648 := Int.lt_of_lt_of_le (Int.emod_lt_of_pos x h) h2
theorem mod_q {x : Int} {many : Nat} {Q : Int → Prop} (h0 : 0 < many) (h : ∀ v : Nat, v < many → Q v) : Q (x % many) := by
  obtain ⟨v, ev, hv⟩ := nat_of (Int.emod_nonneg x (show (many : Int) ≠ 0 by omega)) (Int.emod_lt_of_pos x (show 0 < (many : Int) by omega))
  rw [ev]; exact h v hv
theorem ok_dr {n : Nat} (F : Fun K "_law_draw" "_law_draw" sDr f fd) (m_len : mg "len" = none) : FnOk P w K mg base CX0 (n + 1) f fd ["_law_deal_here", "_law_many"] (cSp K 2 spDr) := by
  refine F.vok scDr fun cdv A outer s H E hr => ⟨_, (vss_cons (vs_while PassesOwn.never (VW.pt (vw_and (vt_cmp (o_eq hr) (ve_dget (hu_of hr) (vv 0) ve_str) ve_int (nomark _)) (vw_and1 (vt_cmp o_gt (ve_callB c_len rfl m_len PySem.boot_len (va_cons (ve_dget (hu_of hr) (vv 0) ve_str) va_nil)) ve_int (nomark _))))) (vss_one (vs_dput (hu_of hr) (vv 0) ve_str (ve_ml0 PySem.F.slot_list_pop PySem.F.type_list_pop m_pop (ve_dget (hu_of hr) (vv 0) ve_str)))))
      (vss_cons (vs_set (i := 2) scDr.nd rfl (Or.inl rfl) (ve_dget (hu_of hr) (vv 0) ve_str))
      (vss_cons (vs_if (vt_cmp o_gt (vv 2) ve_int (nomark _)) (vss_cons (vs_dput (hu_of hr) (vv 0) ve_str (ve_op o_fdiv (vv 2) (vv 1)))
      (vss_one (vs_ret (ve_op o_mod (vv 2) (vv 1))))) vss_nil)
      (vss_cons (vs_set (i := 3) scDr.nd rfl (Or.inl rfl) (ve_op o_mod (ve_op o_add (ve_op o_mul (ve_dget (hu_of hr) (vv 0) ve_str) ve_int) ve_int) ve_int))
      (vss_cons (vs_dput (hu_of hr) (vv 0) ve_str (ve_op o_mod (ve_op o_add (ve_op o_mul (vv 3) ve_int) ve_int) ve_int))
      (vss_cons (vs_set (i := 4) scDr.nd rfl (Or.inl rfl) (ve_op o_mod (ve_op o_mul (ve_dget (hu_of hr) (vv 0) ve_str) (ve_dget (hu_of hr) (vv 0) ve_str)) ve_int))
      (vss_one (vs_ret (ve_op o_mod (ve_op o_add (ve_op o_mul (ve_op o_mod (ve_op o_mul (vv 3) (vv 3)) ve_int) ve_int) (vv 4)) (vv 1)))))))))), ?_⟩
  rintro xs μ R _ ⟨a, l, many, rfl, ⟨sd, nm, ns, D0⟩, h0, h1, q⟩
  refine seq_i (fun τ μ' => ∃ sd nm ns, τ = [some (.R a), some (.D (.int many)), none, none, none] ∧ PotAt μ' a l sd nm ns ∧ Ext2 a l μ μ') (fun W' hW' => ?_) ?_
  · refine while_i (fun m τ μ' => ∃ sd nm ns, τ = [some (.R a), some (.D (.int many)), none, none, none] ∧ m = ns.length ∧ PotAt μ' a l sd nm ns ∧ Ext2 a l μ μ') ns.length ⟨sd, nm, ns, rfl, rfl, D0, Ext2.refl⟩ ?_
    rintro m τ μ' W ⟨sd, nm, ns, rfl, rfl, D, S⟩ hW
    refine opt_i D.ha (opt_i g_num (opt_i rfl (ieq (fun c => ?_) (fun c => brF rfl (hW' _ _ ⟨sd, nm, ns, rfl, D, S⟩)))))
    refine opt_i D.ha (opt_i g_left (opt_i rfl (opt_i D.hl (dif (fun c2 => ?_) (fun c2 => hW' _ _ ⟨sd, nm, ns, rfl, D, S⟩)))))
    have hne : ns ≠ [] := by rintro rfl; exact absurd c2 (by decide)
    have hgl : (ns.map intA)[(ns.map intA).length - 1]? = some (intA (ns.getLast hne)) := by rw [← List.getLast?_eq_getElem?, List.getLast?_map, List.getLast?_eq_some_getLast hne]; rfl
    have hdl : (ns.map intA).dropLast = ns.dropLast.map intA := by rw [List.map_dropLast]
    have ha2 : updM μ' l (.lst (ns.map intA).dropLast) a = some (dealM sd nm l) := by rw [updM_ne D.ne]; exact D.ha
    have hpos : 0 < ns.length := List.length_pos_iff.mpr hne
    refine opt_i D.ha (opt_i g_left (opt_i rfl ⟨opt_i D.hl trivial, opt_i D.hl (opt_i hgl (opt_i ha2 (opt_i p_num ⟨d_small, hW ns.dropLast.length _ _ (by rw [List.length_dropLast]; omega) ⟨sd, ns.getLast hne, ns.dropLast, rfl, rfl, ?_, S.l.a⟩⟩)))⟩))
    exact ⟨updM_same, by rw [updM_ne D.ne.symm, updM_same, hdl], D.s0, D.s1, D.p0 _ (List.getLast_mem hne), fun z hz => D.p0 z ((List.dropLast_sublist ns).subset hz), D.ne⟩
  · rintro τ μ' ⟨sd, nm, ns, rfl, D, S⟩
    refine seq_d (opt_i D.ha (opt_i g_num (opt_i rfl (seq_d (dif (fun c => ?_) (fun c => ?_))))))
    · refine seq_d ⟨⟨by omega, by omega⟩, opt_i D.ha (opt_i p_num ⟨d_small, (by show (0 : Int) < _; omega), _, Sub.refl, ?_⟩)⟩
      refine mod_q (Q := fun i => R (.D (.int i)) _) h0 fun v hv => ?_
      exact q v _ hv ⟨sd, nm / many, ns, updM_same, by rw [updM_ne D.ne.symm]; exact D.hl, D.s0, D.s1, Int.ediv_nonneg D.n0 (by omega), D.p0, D.ne⟩ S.a
    · refine seq_i (fun τ μ1 => ∃ one : Int, τ = [some (.R a), some (.D (.int many)), some (.D (.int nm)), some (.D (.int one)), none] ∧ μ' = μ1 ∧ 0 ≤ one ∧ one < 2147483648) (fun W hW => ?_) ?_
      · exact opt_i D.ha (opt_i g_seed (opt_i rfl ⟨.inr ⟨by decide, by decide⟩, (by show (0 : Int) < _; decide), hW _ _ ⟨_, rfl, rfl, mod_0 _ (by decide), mod_1 _ (by decide) (by decide)⟩⟩))
      rintro τ μ1 ⟨one, rfl, rfl, o0, o1⟩
      refine seq_i (fun τ μ1 => ∃ two : Int, τ = [some (.R a), some (.D (.int many)), some (.D (.int nm)), some (.D (.int one)), none] ∧ PotAt μ1 a l two nm ns ∧ Ext2 a l μ μ1) (fun W hW => ?_) ?_
      · exact ⟨.inr ⟨by decide, by decide⟩, (by show (0 : Int) < _; decide), opt_i D.ha (opt_i p_seed ⟨d_small, hW _ _ ⟨_, rfl, ⟨updM_same, by rw [updM_ne D.ne.symm]; exact D.hl, mod_0 _ (by decide), mod_1 _ (by decide) (by decide), D.n0, D.p0, D.ne⟩, S.a⟩⟩)⟩
      rintro τ μ2 ⟨two, rfl, D2, S2⟩
      have w0 := D2.s0
      have w1 := D2.s1
      refine seq_d (opt_i D2.ha (opt_i g_seed (opt_i rfl (opt_i D2.ha (opt_i g_seed (opt_i rfl ⟨.inl ⟨by omega, by omega⟩, (by show (0 : Int) < _; decide), ?_⟩))))))
      refine ⟨.inl ⟨by omega, by omega⟩, (by show (0 : Int) < _; decide), .inr ⟨by decide, by decide⟩, (by show (0 : Int) < _; omega), _, Sub.refl, ?_⟩
      exact mod_q (Q := fun i => R (.D (.int i)) _) h0 fun v hv => q v _ hv ⟨two, nm, ns, D2⟩ S2
abbrev nDe : List Str := ["_law_script", "_law_base", "_law_cell", "_law_cells", "_law_number"]
theorem scDe : FnScope nDe ["_law_script", "_law_base"] (defScope sDe) := ⟨rfl, rfl, rfl, by decide +kernel, rfl, by decide +kernel, by decide +kernel⟩
theorem ndDe1 : (["_law_cell"] : List Str).Nodup := by decide +kernel
theorem ndDe2 : (["_law_cell"] : List Str).Nodup := by decide +kernel
def scrD (ns : List Int) : PyData := .list (ns.map .int)
theorem scr_items (μ : M) (ns : List Int) : items μ (.D (scrD ns)) = some (ns.map intA) := by
  show some ((ns.map PyData.int).map AV.D) = _
  rw [List.map_map]; rfl
theorem cutA_map {α : Type} (g : α → AV) (xs : List α) (lo hi : Option Int) : ∃ ys : List α, cutA (xs.map g) lo hi = ys.map g ∧ ys.length ≤ xs.length := by
  refine ⟨(xs.drop (HT.sIx (xs.map g).length 0 lo)).take (HT.sIx (xs.map g).length (xs.map g).length hi - HT.sIx (xs.map g).length 0 lo), ?_, ?_⟩
  · unfold cutA
    rw [← List.map_drop, ← List.map_take]
  · rw [List.length_take, List.length_drop]; omega
def spDe : ASp := fun xs μ R => ∃ (ns : List Int) (b : Nat), xs = [.D (scrD ns), .D (.int b)] ∧ b < 1000 ∧ ns.length ≤ 63 ∧ ∀ (a l : Addr) (μ' : M), μ a = none → μ l = none → Pot μ' a l → Sub μ μ' → R (.R a) μ'
def absI (i : Int) : Int := if 0 - i > i then 0 - i else i
theorem absI_0 (i : Int) : 0 ≤ absI i := by unfold absI; split <;> omega
theorem and_m {c : Int} {Q : Prop} (h : Q) {x : Int} (hc : -(2 ^ 64) < c ∧ c < 2 ^ 64 := by decide) : CMul c x ∧ Q := ⟨.inl hc, h⟩
theorem ok_de {n : Nat} (F : Fun K "_law_deal" "_law_deal" sDe f fd) (m_max : mg "max" = none) (m_list : mg "list" = none) (m_reversed : mg "reversed" = none) : FnOk P w K mg base CX0 (n + 1) f fd ["_law_script", "_law_base"] (cSp K 2 spDe) := by
  refine F.vok scDe fun cdv A outer s H E hr => ⟨_, (vss_cons (vs_setC (i := 3) (N' := ["_law_cell"]) (mp := [none]) rfl scDe.nd rfl rfl (vi_seq (ve_slice (vv 0) (vo_some (vv 1)) (vo_some ve_int))) (fun _ _ _ _ => (vg_name (i := 0) ndDe1 rfl (Or.inl rfl) (Or.inr rfl))) (fun _ _ _ _ => vifs_nil) (fun _ _ _ _ => (ve_callB (c_max2 rfl) rfl m_max PyProof.Rows.boot_max (va_cons (vv 0) (va_cons (ve_op o_sub ve_int (vv 0)) va_nil)))) (compOk_of (N := nDe) (pn := (defScope sDe).names) (by decide +kernel)))
      (vss_cons (vs_set (i := 4) scDe.nd rfl (Or.inl rfl) (ve_op o_add ve_int (ve_op o_mul ve_int (vv 1))))
      (vss_cons (vs_for PassesOwn.never rfl (vi_seq (vv 3)) (vg_name (i := 2) scDe.nd rfl (Or.inl rfl)) (vss_one (vs_set (i := 4) scDe.nd rfl (Or.inl rfl) (ve_op o_mod (ve_op o_add (ve_op o_add (ve_op o_mul (vv 4) ve_int) (ve_op o_mod (vv 2) ve_int)) ve_int) ve_int))))
      (vss_one (vs_ret (ve_disp (vps_str (vv 4) (vps_str ve_int (vps_str (ve_revL rfl rfl m_list rfl m_reversed (ve_comp (N' := ["_law_cell"]) (mp := [none]) rfl (vi_seq (vv 3)) (fun _ _ _ _ => (vg_name (i := 0) ndDe2 rfl (Or.inl rfl) (Or.inr rfl))) (fun _ _ _ _ => (vifs_one (vt_cmp o_ge (vv 0) (ve_op o_pow ve_int ve_int) (nomark _)))) (fun _ _ _ _ => (vv 0)) (compOk_of (N := nDe) (pn := (defScope sDe).names) (by decide +kernel)))) vps_nil))) (by decide +kernel))))))), ?_⟩
  rintro xs μ R _ ⟨ns, b, rfl, hb, hn, q⟩
  obtain ⟨cs, ecs, hcl⟩ := cutA_map intA ns (some (b : Int)) (some 63)
  refine seq_i (fun τ μ' => ∃ pc, τ = [some (.D (scrD ns)), some (.D (.int b)), none, some (.R pc), none] ∧ μ pc = none ∧ μ' pc = some (.lst ((cs.map absI).map intA)) ∧ Sub μ μ') (fun W hW => ?_) ?_
  · refine opt_i (scr_items _ ns) fun p hp => ?_
    rw [ecs]
    refine opt_i (items_R updM_same) fun pc hpc => ?_
    have hne : p ≠ pc := by intro z; subst z; rw [updM_same] at hpc; cases hpc
    have hpm : μ pc = none := by rw [updM_ne hne.symm] at hpc; exact hpc
    refine cmap cs intA (fun i => intA (absI i)) (fun τ => ∃ o, τ = [o]) ⟨_, rfl⟩ updM_same (seven (by omega)) (fun acc => items_R (by rw [updM_ne hne, updM_ne hne, updM_same])) ?_ ?_
    · rintro i x τ' acc W2 hi ⟨o, rfl⟩ hW2
      exact hW2 _ ⟨_, rfl⟩
    · refine hW _ _ ⟨pc, rfl, hpm, ?_, ((Sub.refl.new hp).new hpm).new hpm⟩
      rw [updM_same, List.map_map]; rfl
  rintro τ μ1 ⟨pc, rfl, hpn, hpc, S1⟩
  refine seq_i (fun τ μ2 => ∃ sd : Int, τ = [some (.D (scrD ns)), some (.D (.int b)), none, some (.R pc), some (.D (.int sd))] ∧ μ1 = μ2 ∧ 0 ≤ sd ∧ sd < 2147483648) (fun W hW => and_m (hW _ _ ⟨_, rfl, rfl, by omega, by omega⟩)) ?_
  rintro τ μ2 ⟨sd0, rfl, rfl, z0, z1⟩
  refine seq_i (fun τ μ2 => ∃ (o2 : Option AV) (sd : Int), τ = [some (.D (scrD ns)), some (.D (.int b)), o2, some (.R pc), some (.D (.int sd))] ∧ μ1 = μ2 ∧ 0 ≤ sd ∧ sd < 2147483648) (fun W hW => ?_) ?_
  · refine opt_i (items_R hpc) ?_
    refine for_i (fun i τ μ2 => ∃ (o2 : Option AV) (sd : Int), τ = [some (.D (scrD ns)), some (.D (.int b)), o2, some (.R pc), some (.D (.int sd))] ∧ μ1 = μ2 ∧ 0 ≤ sd ∧ sd < 2147483648) ⟨none, sd0, rfl, rfl, z0, z1⟩ ?_ ?_ ?_
    · rintro i τ μ2 ⟨o2, sd, rfl, rfl, _⟩
      exact items_R hpc
    · rintro i y τ μ2 W2 hy ⟨o2, sd, rfl, rfl, h0, h1⟩ hW2
      rw [List.getElem?_map] at hy
      obtain ⟨c, hc, rfl⟩ := Option.map_eq_some_iff.mp hy
      exact ⟨.inr ⟨by decide, by decide⟩, (by show (0 : Int) < _; decide), (by show (0 : Int) < _; decide), hW2 _ _ ⟨_, _, rfl, rfl, mod_0 _ (by decide), mod_1 _ (by decide) (by decide)⟩⟩
    · rintro τ μ2 ⟨o2, sd, rfl, rfl, h0, h1⟩
      exact hW _ _ ⟨_, _, rfl, rfl, h0, h1⟩
  rintro τ μ2 ⟨o2, sd, rfl, rfl, h0, h1⟩
  intro a ha
  have hac : a ≠ pc := by intro z; subst z; rw [hpc] at ha; cases ha
  have hpc2 : updM μ1 a (.dk []) pc = some (.lst ((cs.map absI).map intA)) := by rw [updM_ne hac.symm]; exact hpc
  refine opt_i (items_R hpc2) fun pl hpl => ?_
  have hal : a ≠ pl := by intro z; subst z; rw [updM_same] at hpl; cases hpl
  have hcl2 : pc ≠ pl := by intro z; subst z; rw [hpc2] at hpl; cases hpl
  have hpl1 : μ1 pl = none := by rw [updM_ne hal.symm] at hpl; exact hpl
  refine cmapf (cs.map absI) intA (fun x => decide ((10 : Int) ^ (18 : Int).toNat ≤ x)) intA (fun τ => ∃ o, τ = [o]) ⟨none, rfl⟩ updM_same (seven (by rw [List.length_map]; omega)) (fun acc => items_R (by rw [updM_ne hcl2, updM_ne hcl2]; exact hpc2)) ?_ ?_
  · rintro i x τ' acc W2 W3 hi ⟨o, rfl⟩ h2 h3
    exact ⟨⟨by decide, by decide, by decide⟩, br (fun c => h2 c _ ⟨_, rfl⟩) (fun c => h3 c _ ⟨_, rfl⟩)⟩
  generalize hxs : (cs.map absI).filter (fun x => decide ((10 : Int) ^ (18 : Int).toNat ≤ x)) = xs
  have hx0 : ∀ x ∈ xs, 0 ≤ x := fun x hx => by
    rw [← hxs] at hx
    obtain ⟨z, _, rfl⟩ := List.mem_map.mp (List.mem_filter.mp hx).1
    exact absI_0 z
  refine opt_i updM_same fun l hl => ?_
  have hl2 : pl ≠ l := by intro z; subst z; rw [updM_same] at hl; cases hl
  have hl3 : a ≠ l := by
    intro z; subst z
    rw [updM_ne hal, updM_ne hal, updM_same] at hl; cases hl
  have hl4 : μ1 l = none := by rw [updM_ne hl2.symm, updM_ne hl2.symm, updM_ne hl3.symm] at hl; exact hl
  refine ⟨by rw [updM_ne hl3, updM_ne hal, updM_ne hal, updM_same], _, Sub.refl, q a l _ (S1.none ha) (S1.none hl4) ⟨sd, 0, xs.reverse, updM_same, ?_, h0, h1, Int.le_refl 0, fun z hz => hx0 z (List.mem_reverse.mp hz), hl3⟩ ?_⟩
  · rw [updM_ne hl3.symm, updM_same, List.map_reverse]
  · exact ((((S1.new (S1.none ha)).new (S1.none hpl1)).new (S1.none hpl1)).new (S1.none hl4)).new (S1.none ha)
end
section
variable {P : Program} {w : World} {K : PySem.W.Frag} {mg : Str → Option Value} {base : Heap} {f : Addr} {fd : FuncData}
def natsD (ns : List Nat) : PyData := .tuple (ns.map fun (n : Nat) => .int n)
theorem nats_items {μ : M} (ns : List Nat) : items μ (.D (natsD ns)) = some (ns.map fun (n : Nat) => .D (.int n)) := by
  show some ((ns.map fun (n : Nat) => PyData.int n).map AV.D) = _
  rw [List.map_map]; rfl
theorem nats_ok {ns : List Nat} : PyData.canLayAll0 (ns.map fun (n : Nat) => .int n) = true ∧ PyData.depthAll (ns.map fun (n : Nat) => .int n) ≤ 1 := by
  induction ns with
  | nil => exact ⟨rfl, by simp [PyData.depthAll]⟩
  | cons n ns ih =>
    simp only [List.map_cons, PyData.canLayAll0, PyData.depthAll, ih.1, Bool.and_true]
    refine ⟨rfl, ?_⟩
    have := ih.2
    simp only [PyData.depth]; omega
theorem nats_eqOk {ns : List Nat} : EqOk (natsD ns) := ⟨by simp only [natsD, PyData.canLay0]; exact nats_ok.1, by have := (nats_ok (ns := ns)).2; simp only [natsD, PyData.depth]; omega⟩
def natA (n : Nat) : AV := .D (.int n)
theorem dats_nat (ns : List Nat) : dats (ns.map natA) = some (ns.map fun (n : Nat) => .int n) := by
  rw [show ns.map natA = (ns.map fun (n : Nat) => PyData.int n).map .D by rw [List.map_map]; rfl]; exact dats_map _
theorem nats_cano : ∀ (ns : List Nat), CanoAll (ns.map fun (n : Nat) => .int n) = true
  | [] => rfl
  | n :: ns => by simp only [List.map_cons, CanoAll, Cano, nats_cano ns, Bool.and_self]
theorem nats_cmp : ∀ (ms ns : List Nat), cmpbs (ms.map fun (n : Nat) => .int n) (ns.map fun (n : Nat) => .int n) = true
  | [], _ => by simp only [List.map_nil, cmpbs]
  | _ :: _, [] => by simp only [List.map_nil, List.map_cons, cmpbs]
  | m :: ms, n :: ns => by
    simp only [List.map_cons, cmpbs, cmpb, nats_cmp ms ns, ite_self]
theorem unmap {α β : Type} {g : α → β} {B : List α} : ∀ {es : List β}, (∀ e ∈ es, e ∈ B.map g) → ∃ A : List α, es = A.map g ∧ A.length = es.length ∧ ∀ a ∈ A, a ∈ B
  | [], _ => ⟨[], rfl, rfl, fun _ z => nomatch z⟩
  | e :: es, h => by
    obtain ⟨A, rfl, hl, hA⟩ := unmap (es := es) fun x hx => h x (List.mem_cons_of_mem _ hx)
    obtain ⟨a, ha, rfl⟩ := List.mem_map.mp (h e List.mem_cons_self)
    refine ⟨a :: A, rfl, by simp, fun b hb => ?_⟩
    rcases List.mem_cons.mp hb with rfl | hb
    · exact ha
    · exact hA b hb
end
section
variable {P : Program} {w : World} {K : PySem.W.Frag} {mg : Str → Option Value} {base : Heap} {f : Addr} {fd : FuncData}
def strA (z : Str) : AV := .D (.str z)
theorem lets_ok {z : Str} (h : lets z) : PyData.canLay0 (.str z) = true := by
  show PyData.strOk z = true
  unfold PyData.strOk
  rw [Array.all_eq_true]
  intro i hi
  have := h z.cps[i] (by simp)
  simp
  omega
theorem lets_eqOk {z : Str} (h : lets z) : EqOk (.str z) := eqOk_str (lets_ok h)
theorem dats_str (zs : List Str) : dats (zs.map strA) = some (zs.map PyData.str) := by
  rw [show zs.map strA = (zs.map PyData.str).map .D by rw [List.map_map]; rfl]; exact dats_map _
theorem txts_str : ∀ (zs : List Str), txts (zs.map strA) = some zs
  | [] => rfl
  | z :: zs => by simp only [List.map_cons, strA, txts, Option.map_eq_some_iff]; exact ⟨zs, txts_str zs, rfl⟩
theorem abc_all : ∀ i : Fin 26, ∃ c, ("abcdefghijklmnopqrstuvwxyz" : Str).cps.toList[i.val]? = some c ∧ 97 ≤ c ∧ c ≤ 122 := by decide +kernel
theorem abc_at {v : Nat} (h : v < 26) : ∃ c, atI ("abcdefghijklmnopqrstuvwxyz" : Str).cps.toList (v : Int) = some c ∧ 97 ≤ c ∧ c ≤ 122 := by
  obtain ⟨c, e, h1⟩ := abc_all ⟨v, h⟩
  exact ⟨c, atI_nat e, h1⟩
theorem lets_one {c : Nat} (h : 97 ≤ c ∧ c ≤ 122) : lets ⟨#[c]⟩ := fun d hd => by
  have : d = c := by simpa using hd
  rw [this]; exact h
theorem abc_le : ("abcdefghijklmnopqrstuvwxyz" : Str).length ≤ sizeLine := by decide +kernel
theorem e0_len : ("" : Str).length = 0 := by decide +kernel
theorem app_len (x y : Str) : (x ++ y).length = x.length + y.length := by rw [len_cps, len_cps, len_cps, cps_app, List.length_append]
theorem sum_ones : ∀ {zs : List Str}, (∀ z ∈ zs, z.length = 1) → (zs.map (·.length)).sum = zs.length
  | [], _ => rfl
  | z :: zs, h => by
    simp only [List.map_cons, List.sum_cons, List.length_cons]
    rw [h z List.mem_cons_self, sum_ones fun y hy => h y (List.mem_cons_of_mem _ hy)]; omega
theorem join0_len (zs : List Str) : (Txt.join "" zs).length = (zs.map (·.length)).sum := by
  show (PySem.Builtin.Str.glued "" zs).length = _
  rw [StrLaws.glued_eq_join]
  induction zs with
  | nil => rfl
  | cons x zs ih =>
    cases zs with
    | nil => simp [Str.join]
    | cons y zs =>
      have e : Str.join "" (x :: y :: zs) = x ++ "" ++ Str.join "" (y :: zs) := rfl
      rw [e, app_len, app_len, e0_len, ih]
      simp
theorem lets_to {x : Str} {j : Nat} (h : lets x) (hj : j ≤ x.length) : lets (Txt.slice x none (some (j : Int))) := fun c hc => by
  rw [slice_to (by omega) (by omega)] at hc
  exact h c (List.mem_of_mem_take hc)
theorem lets_from {x : Str} {j : Nat} (h : lets x) (hj : j ≤ x.length) : lets (Txt.slice x (some (j : Int)) none) := fun c hc => by
  rw [slice_from (by omega) (by omega)] at hc
  exact h c (List.mem_of_mem_drop hc)
theorem len_to {x : Str} {j : Nat} (hj : j ≤ x.length) : (Txt.slice x none (some (j : Int))).length = j := by
  rw [len_cps, slice_to (by omega) (by omega), List.length_take, ← len_cps]; omega
theorem len_from {x : Str} {j : Nat} (hj : j ≤ x.length) : (Txt.slice x (some (j : Int)) none).length = x.length - j := by
  rw [len_cps, slice_from (by omega) (by omega), List.length_drop, ← len_cps]; omega
theorem lets_q : lets "q" := fun c h => by rw [q_cps, List.mem_singleton] at h; omega
abbrev kept8 : List Str := ["place", "letter", "rule", "own", "arrow", "ends", "one", "other"]
theorem kept_eqOk : EqOk (.tuple (kept8.map PyData.str)) := ⟨by decide +kernel, by decide +kernel⟩
theorem setD {x : AV} {i : Nat} {u : AS} {k : ASt → M → Prop} {r : AV → M → Prop} {b c : ASt → M → Prop} {τ : ASt} {μ : M} (h : u k r b c (τ.set i (some x)) μ) : vSeq (vAsg (vC x) (wName i)) u k r b c τ μ := h
abbrev nNa : List Str := ["_law_deal_here", "_law_many", "_law_letters", "_law_kept", "_law_k", "_law_core", "_law_at", "_law_turn", "_law_found", "_law_name"]
theorem scNa : FnScope nNa ["_law_deal_here", "_law_many"] (defScope sNa) := ⟨rfl, rfl, rfl, by decide +kernel, rfl, by decide +kernel, by decide +kernel⟩
theorem ndNa1 : (["_law_k", "_law_letters", "_law_deal_here"] : List Str).Nodup := by decide +kernel
structure Nms (zs : List Str) : Prop where
  l : ∀ z ∈ zs, lets z
  n : ∀ z ∈ zs, z.length ≤ 7
def spNa : ASp := fun xs μ R => ∃ (a l : Addr) (many : Nat), xs = [.R a, .D (.int many)] ∧ many ≤ 5 ∧ Pot μ a l ∧ ∀ (zs : List Str) (p : Addr) μ', zs.length = many → Nms zs → μ p = none → μ' p = some (.lst (zs.map strA)) → Pot μ' a l → Ext2 a l μ μ' → R (.R p) μ'
theorem ok_na {n : Nat} (F : Fun K "_law_names" "_law_names" sNa f fd) (cDr : VCal P w K mg base n "_law_draw" ["_law_deal_here", "_law_many"] spDr) (m_range : mg "range" = none) (m_len : mg "len" = none) (m_int : mg "int" = none) : FnOk P w K mg base CX0 (n + 1) f fd ["_law_deal_here", "_law_many"] (cSp K 2 spNa) := by
  refine F.vok scNa fun cdv A outer s H E hr => ⟨_, (vss_cons (vs_set (i := 2) scNa.nd rfl (Or.inr rfl) ve_str)
      (vss_cons (vs_set (i := 3) scNa.nd rfl (Or.inl rfl) (ve_tup (va_cons ve_str (va_cons ve_str (va_cons ve_str (va_cons ve_str (va_cons ve_str (va_cons ve_str (va_cons ve_str (va_cons ve_str va_nil))))))))))
      (vss_cons (vs_set (i := 5) scNa.nd rfl (Or.inl rfl) (ve_ms PySem.F.slot_str_join PySem.F.type_str_join m_join ve_str (va_cons (ve_comp (N' := ["_law_k", "_law_letters", "_law_deal_here"]) (mp := [none, some 2, some 0]) rfl (vi_range1 rfl m_range (va_cons (ve_call cDr hr rfl (va_cons (vv 0) (va_cons ve_int va_nil))) va_nil)) (fun _ _ _ _ => (vg_name (i := 0) ndNa1 rfl (Or.inl rfl) (Or.inr rfl))) (fun _ _ _ _ => vifs_nil) (fun _ _ _ _ => (ve_ix i_ix (vv 1) (ve_call cDr hr rfl (va_cons (vv 2) (va_cons ve_int va_nil))))) (compOk_of (N := nNa) (pn := (defScope sNa).names) (by decide +kernel))) va_nil)))
      (vss_cons (vs_set (i := 6) scNa.nd rfl (Or.inl rfl) (ve_call cDr hr rfl (va_cons (vv 0) (va_cons (ve_op o_add (ve_callB c_len rfl m_len PySem.boot_len (va_cons (vv 5) va_nil)) ve_int) va_nil))))
      (vss_cons (vs_set (i := 7) scNa.nd rfl (Or.inl rfl) (ve_call cDr hr rfl (va_cons (vv 0) (va_cons ve_int va_nil))))
      (vss_cons (vs_set (i := 8) scNa.nd rfl (Or.inl rfl) (ve_lst va_nil))
      (vss_cons (vs_for PassesOwn.never rfl (vi_range1 rfl m_range (va_cons (vv 1) va_nil)) (vg_name (i := 4) scNa.nd rfl (Or.inl rfl)) (vss_cons (vs_set (i := 9) scNa.nd rfl (Or.inl rfl) (ve_op o_add (ve_op o_add (ve_slice (vv 5) vo_none (vo_some (vv 6))) (ve_ix i_ix (vv 2) (ve_op o_mod (ve_op o_add (vv 7) (ve_op o_mul ve_int (vv 4))) ve_int))) (ve_slice (vv 5) (vo_some (vv 6)) vo_none)))
      (vss_one (vs_expr (ve_ml PySem.F.slot_list_append PySem.F.type_list_append m_append (vv 8) (va_cons (ve_op o_add (vv 9) (ve_op o_mul ve_str (ve_callTy c_int rfl m_int PyProof.Rows.boot_int (va_cons (ve_cmp (o_in hr) (vv 9) (vv 3) (by with_unfolding_all rfl)) va_nil)))) va_nil))))))
      (vss_one (vs_ret (vv 8)))))))))), ?_⟩
  rintro xs μ R _ ⟨a, l, many, rfl, hm, hP, q⟩
  refine setD (seq_i (fun τ μ' => τ = [some (.R a), some (.D (.int many)), some (strA "abcdefghijklmnopqrstuvwxyz"), some (.D (.tuple (kept8.map PyData.str))), none, none, none, none, none, none] ∧ μ = μ') (fun Z hZ => hZ _ _ ⟨rfl, rfl⟩) ?_)
  rintro τ _ ⟨rfl, rfl⟩
  refine seq_i (fun τ μ' => ∃ core : Str, τ = [some (.R a), some (.D (.int many)), some (strA "abcdefghijklmnopqrstuvwxyz"), some (.D (.tuple (kept8.map PyData.str))), none, some (strA core), none, none, none, none] ∧ lets core ∧ core.length ≤ 4 ∧ Pot μ' a l ∧ Ext2 a l μ μ') (fun Z hZ => ?_) ?_
  · refine ⟨trivial, a, l, 5, rfl, hP, by decide, by decide, fun c μ1 hc P1 S1 => ⟨by omega, by omega, fun pl hpl => ?_⟩⟩
    have hne := P1.ne hpl
    have hlen : (rngA 0 (c : Int).toNat).length = c := by rw [rngA_length]; omega
    refine comp_i (fun j acc τ μ' => ∃ (o : Option AV) (zs : List Str), τ = [o, some (strA "abcdefghijklmnopqrstuvwxyz"), some (.R a)] ∧ acc = zs.map strA ∧ zs.length = j ∧ (∀ z ∈ zs, lets z ∧ z.length = 1) ∧ μ' pl = some (.lst acc) ∧ Pot μ' a l ∧ Ext2 a l μ1 μ') ⟨none, [], rfl, rfl, rfl, (fun _ z => nomatch z), updM_same, P1.new hpl, Ext2.refl.new hpl⟩ (fun _ _ _ _ _ => trivial) ?_ ?_
    · rintro j x acc τ μ2 Z2 hx ⟨o, zs, rfl, rfl, hn, hb, e2, P2, S2⟩ hZ2
      refine brT rfl ⟨a, l, 26, rfl, P2, by decide, by decide, fun v μ3 hv P3 S3 => ?_⟩
      have e3 := S3 pl _ hne.1.symm hne.2.symm e2
      obtain ⟨ch, ec, hch⟩ := abc_at hv
      have hj : j < c := by rw [← hlen]; exact (List.getElem?_eq_some_iff.mp hx).1
      refine ⟨abc_le, opt_i ec ⟨e3, small1000 (by rw [List.length_map]; omega), hZ2 _ _ _ ⟨_, zs ++ [⟨#[ch]⟩], rfl, by rw [List.map_append]; rfl, by rw [List.length_append, hn]; rfl, fun z hz => ?_, updM_same, P3.other hne.1 hne.2, (S2.trans S3).put hpl⟩⟩⟩
      rcases List.mem_append.mp hz with h | h
      · exact hb z h
      · rw [List.mem_singleton.mp h]; exact ⟨lets_one hch, rfl⟩
    · rintro acc τ μ2 ⟨o, zs, rfl, rfl, hn, hb, e2, P2, S2⟩
      rw [hlen] at hn
      have hsum := sum_ones fun z hz => (hb z hz).2
      refine opt_i e2 (opt_i (txts_str zs) ⟨?_, hZ _ _ ⟨Txt.join "" zs, rfl, lets_join fun z hz => (hb z hz).1, ?_, P2, S1.trans S2⟩⟩)
      · rw [hsum, e0_len]; omega
      · rw [join0_len, hsum]; omega
  rintro τ μ1 ⟨core, rfl, lc, hc4, P1, S1⟩
  have hcs : core.length ≤ sizeLine := Nat.le_trans hc4 (by decide)
  refine seq_i (fun τ μ' => ∃ at' : Nat, τ = [some (.R a), some (.D (.int many)), some (strA "abcdefghijklmnopqrstuvwxyz"), some (.D (.tuple (kept8.map PyData.str))), none, some (strA core), some (.D (.int at')), none, none, none] ∧ at' ≤ core.length ∧ Pot μ' a l ∧ Ext2 a l μ μ') (fun Z hZ => ?_) ?_
  · exact ⟨hcs, a, l, core.length + 1, rfl, P1, by omega, by omega, fun v μ2 hv P2 S2 => hZ _ _ ⟨v, rfl, by omega, P2, S1.trans S2⟩⟩
  rintro τ μ2 ⟨at', rfl, hat, P2, S2⟩
  refine seq_i (fun τ μ' => ∃ tn : Nat, τ = [some (.R a), some (.D (.int many)), some (strA "abcdefghijklmnopqrstuvwxyz"), some (.D (.tuple (kept8.map PyData.str))), none, some (strA core), some (.D (.int at')), some (.D (.int tn)), none, none] ∧ Pot μ' a l ∧ Ext2 a l μ μ') (fun Z hZ => ?_) ?_
  · exact ⟨a, l, 26, rfl, P2, by decide, by decide, fun v μ3 hv P3 S3 => hZ _ _ ⟨v, rfl, P3, S2.trans S3⟩⟩
  rintro τ μ3 ⟨tn, rfl, P3, S3⟩
  intro pf hpf
  have hne := P3.ne hpf
  have hpf0 : μ pf = none := S3.none hne.1 hne.2 hpf
  refine seq_i (fun τ μ' => ∃ o4 o9 zs, τ = [some (.R a), some (.D (.int many)), some (strA "abcdefghijklmnopqrstuvwxyz"), some (.D (.tuple (kept8.map PyData.str))), o4, some (strA core), some (.D (.int at')), some (.D (.int tn)), some (.R pf), o9] ∧ zs.length = many ∧ Nms zs ∧ μ' pf = some (.lst (zs.map strA)) ∧ Pot μ' a l ∧ Ext2 a l μ μ') (fun Z hZ => ?_) ?_
  · refine ⟨by omega, by omega, ?_⟩
    have hlen : (rngA 0 (many : Int).toNat).length = many := by rw [rngA_length]; omega
    refine for_i (fun i τ μ' => ∃ o4 o9 zs, τ = [some (.R a), some (.D (.int many)), some (strA "abcdefghijklmnopqrstuvwxyz"), some (.D (.tuple (kept8.map PyData.str))), o4, some (strA core), some (.D (.int at')), some (.D (.int tn)), some (.R pf), o9] ∧ zs.length = i ∧ Nms zs ∧ μ' pf = some (.lst (zs.map strA)) ∧ Pot μ' a l ∧ Ext2 a l μ μ') ⟨none, none, [], rfl, rfl, ⟨(fun _ z => nomatch z), (fun _ z => nomatch z)⟩, updM_same, P3.new hpf, S3.new hpf⟩ (fun _ _ _ _ => trivial) ?_ ?_
    · rintro i y τ μ4 Z2 hy ⟨o4, o9, zs, rfl, hn, hz, e4, P4, S4⟩ hZ2
      have hi : i < many := by rw [← hlen]; exact (List.getElem?_eq_some_iff.mp hy).1
      have ey := rngA_get _ _ _ hy
      subst ey
      obtain ⟨v, ev, hv⟩ := nat_of (many := 26) (v := ((tn : Int) + 7 * (0 + (i : Int))) % 26) (Int.emod_nonneg _ (by decide)) (Int.emod_lt_of_pos _ (by decide))
      obtain ⟨ch, ec, hch⟩ := abc_at hv
      rw [← ev] at ec
      have ls1 := lets_to lc hat
      have ls2 := lets_from lc hat
      have ln1 := len_to hat
      have ln2 := len_from hat
      generalize hs1 : Txt.slice core none (some (at' : Int)) = s1 at ls1 ln1
      generalize hs2 : Txt.slice core (some (at' : Int)) none = s2 at ls2 ln2
      have l1 : (s1 ++ (⟨#[ch]⟩ : Str)).length = s1.length + 1 := by rw [app_len]; rfl
      have l2 : (s1 ++ (⟨#[ch]⟩ : Str) ++ s2).length = s1.length + 1 + s2.length := by rw [app_len, l1]
      have lnm : lets (s1 ++ (⟨#[ch]⟩ : Str) ++ s2) := lets_app (lets_app ls1 (lets_one hch)) ls2
      refine seq_i (fun τ μ' => τ = [some (.R a), some (.D (.int many)), some (strA "abcdefghijklmnopqrstuvwxyz"), some (.D (.tuple (kept8.map PyData.str))), some (.D (.int (0 + (i : Int)))), some (strA core), some (.D (.int at')), some (.D (.int tn)), some (.R pf), some (strA (s1 ++ (⟨#[ch]⟩ : Str) ++ s2))] ∧ μ4 = μ') (fun Z3 hZ3 => ?_) ?_
      · subst hs1 hs2
        refine ⟨hcs, .inl (by decide), (show (0 : Int) < 26 by decide), abc_le, opt_i ec ⟨?_, hcs, ?_, hZ3 _ _ ⟨rfl, rfl⟩⟩⟩
        · show _ + 1 ≤ sizeLine
          exact Nat.le_trans (show _ ≤ 10 by omega) (by decide)
        · rw [l1]; exact Nat.le_trans (show _ ≤ 10 by omega) (by decide)
      rintro τ _ ⟨rfl, rfl⟩
      generalize (s1 ++ (⟨#[ch]⟩ : Str) ++ s2) = nm at l2 lnm
      refine ⟨opt_i e4 trivial, opt_i rfl ⟨lets_eqOk lnm, kept_eqOk, ?_⟩⟩
      have fin : ∀ z : Str, lets z → z.length ≤ 1 → nm.length + z.length ≤ sizeLine ∧ opt (μ4 pf) fun m => match m with
          | .lst ys => ys.length < sizeLine ∧ Z2 [some (.R a), some (.D (.int many)), some (strA "abcdefghijklmnopqrstuvwxyz"), some (.D (.tuple (kept8.map PyData.str))), some (.D (.int (0 + (i : Int)))), some (strA core), some (.D (.int at')), some (.D (.int tn)), some (.R pf), some (strA nm)] (updM μ4 pf (.lst (ys ++ [strA (nm ++ z)])))
          | _ => False := fun z lz hz1 => by
        refine ⟨Nat.le_trans (show _ ≤ 10 by omega) (by decide), opt_i e4 ⟨small1000 (by rw [List.length_map]; omega), hZ2 _ _ ⟨_, _, zs ++ [nm ++ z], rfl, by rw [List.length_append, hn]; rfl, ⟨fun x hx => ?_, fun x hx => ?_⟩, by rw [updM_same, List.map_append]; rfl, P4.other hne.1 hne.2, S4.put hpf0⟩⟩⟩
        · rcases List.mem_append.mp hx with h | h
          · exact hz.l x h
          · rw [List.mem_singleton.mp h]; exact lets_app lnm lz
        · rcases List.mem_append.mp hx with h | h
          · exact hz.n x h
          · rw [List.mem_singleton.mp h, app_len]; omega
      cases hb : (kept8.map PyData.str).any fun e => PyData.eqv e (.str nm) with
      | true => exact ⟨.inr rfl, fin "q" lets_q (by decide +kernel)⟩
      | false => exact ⟨.inl rfl, fin Str.empty (fun c h => by simp [Str.empty] at h) (by decide +kernel)⟩
    · rintro τ μ4 ⟨o4, o9, zs, rfl, hn, hz, e4, P4, S4⟩
      rw [hlen] at hn
      exact hZ _ _ ⟨_, _, zs, rfl, hn, hz, e4, P4, S4⟩
  · rintro τ μ4 ⟨o4, o9, zs, rfl, hn, hz, e4, P4, S4⟩
    exact ⟨_, Sub.refl, q zs pf _ hn hz hpf0 e4 P4 S4⟩
end
section
variable {P : Program} {w : World} {K : PySem.W.Frag} {mg : Str → Option Value} {base : Heap} {f : Addr} {fd : FuncData}
structure Rul where
  p : Nat
  x : Nat
  q : Nat
  w : List Nat
def rulD (r : Rul) : PyData := .tuple [.int r.p, .int r.x, .int r.q, natsD r.w]
def rulA (r : Rul) : AV := .D (rulD r)
structure RulOk (pl le : Nat) (r : Rul) : Prop where
  p : r.p < pl
  x : r.x < le
  q : r.q < pl
  w : ∀ z ∈ r.w, z < le
  n : r.w.length ≤ 2
theorem nats_dep : ∀ (ns : List Nat), PyData.depthAll (ns.map fun (n : Nat) => .int n) ≤ 0
  | [] => Nat.le_refl _
  | n :: ns => by
    have := nats_dep ns
    simp only [List.map_cons, PyData.depthAll, PyData.depth]; omega
theorem rul_ok (r : Rul) : (rulD r).canLay0 = true ∧ (rulD r).depth ≤ 2 ∧ Cano (rulD r) = true := by
  have h1 := nats_ok (ns := r.w)
  have h2 := nats_cano r.w
  refine ⟨?_, ?_, ?_⟩
  · simp only [rulD, natsD, PyData.canLay0, PyData.canLayAll0, h1.1, Bool.and_true]
  · have := h1.2
    simp only [rulD, natsD, PyData.depth, PyData.depthAll]
    have e : PyData.depthAll (r.w.map fun (n : Nat) => .int n) ≤ 0 := nats_dep r.w
    omega
  · simp only [rulD, natsD, Cano, CanoAll, h2, Bool.and_true, Bool.true_and]
theorem ruls_ok : ∀ (B : List Rul), PyData.canLayAll0 (B.map rulD) = true ∧ PyData.depthAll (B.map rulD) ≤ 2 ∧ CanoAll (B.map rulD) = true
  | [] => ⟨rfl, by simp [PyData.depthAll], rfl⟩
  | a :: B => by
    obtain ⟨h1, h2, h3⟩ := rul_ok a
    obtain ⟨k1, k2, k3⟩ := ruls_ok B
    simp only [List.map_cons, PyData.canLayAll0, PyData.depthAll, CanoAll, h1, h3, k1, k3, Bool.and_self, true_and, and_true]
    omega
theorem rul_eqOk (a : Rul) : EqOk (rulD a) := ⟨(rul_ok a).1, Nat.le_trans (rul_ok a).2.1 (by decide)⟩
theorem ruls_eqOk (B : List Rul) : EqOk (.tuple (B.map rulD)) := ⟨by simp only [PyData.canLay0]; exact (ruls_ok B).1, by have := (ruls_ok B).2.1; simp only [PyData.depth]; omega⟩
theorem dats_rul (B : List Rul) : dats (B.map rulA) = some (B.map rulD) := by
  rw [show (B.map rulA) = (B.map rulD).map .D by rw [List.map_map]; rfl]; exact dats_map _
theorem eights : ∀ v : Fin 8, ∃ w, ([0, 0, 1, 1, 1, 2, 2, 2] : List Nat)[v.val]? = some w ∧ w ≤ 2 := by decide +kernel
abbrev nRu : List Str := ["_law_deal_here", "_law_sizes", "_law_found", "_law_places", "_law_letters", "_law_most", "_law_word", "_law_p", "_law_x", "_law_q"]
theorem scRu : FnScope nRu ["_law_deal_here", "_law_sizes", "_law_found"] (defScope sRu) := ⟨rfl, rfl, rfl, by decide +kernel, rfl, by decide +kernel, by decide +kernel⟩
theorem ndRu1 : (["_law_rule_here"] : List Str).Nodup := by decide +kernel
theorem ndRu2 : (["_law_k", "_law_deal_here", "_law_letters"] : List Str).Nodup := by decide +kernel
def sizD (pl le mo : Nat) : PyData := .tuple [.int pl, .int le, .int mo]
def spRu : ASp := fun xs μ R => ∃ (a l pf : Addr) (pl le mo : Nat) (B : List Rul), xs = [.R a, .D (sizD pl le mo), .R pf] ∧ 0 < pl ∧ pl ≤ 5 ∧ 0 < le ∧ le ≤ 5 ∧ B.length ≤ 20 ∧ Pot μ a l ∧ pf ≠ a ∧ pf ≠ l ∧ μ pf = some (.lst (B.map rulA)) ∧ ∀ (r : Rul) μ', RulOk pl le r → Pot μ' a l → Ext2 a l μ μ' → R (rulA r) μ'
theorem ok_ru {n : Nat} (F : Fun K "_law_rule" "_law_rule" sRu f fd) (cDr : VCal P w K mg base n "_law_draw" ["_law_deal_here", "_law_many"] spDr) (m_len : mg "len" = none) (m_tuple : mg "tuple" = none) (m_range : mg "range" = none) : FnOk P w K mg base CX0 (n + 1) f fd ["_law_deal_here", "_law_sizes", "_law_found"] (cSp K 3 spRu) := by
  refine F.vok scRu fun cdv A outer s H E hr => ⟨_, (vss_cons (vs_asg (vv 1) (vg_tup (n := 3) rfl (vgs_cons (vg_name (i := 3) scRu.nd rfl (Or.inl rfl)) (vgs_cons (vg_name (i := 4) scRu.nd rfl (Or.inr rfl)) (vgs_cons (vg_name (i := 5) scRu.nd rfl (Or.inl rfl)) vgs_nil)))))
      (vss_cons (vs_set (i := 6) scRu.nd rfl (Or.inl rfl) (ve_ix i_ix (ve_lst (va_cons ve_int (va_cons ve_int (va_cons ve_int (va_cons ve_int (va_cons ve_int (va_cons ve_int (va_cons ve_int (va_cons ve_int va_nil))))))))) (ve_call cDr hr rfl (va_cons (vv 0) (va_cons ve_int va_nil)))))
      (vss_cons (vs_if (VW.pt (vw_and (vt_cmp (o_eq hr) (vv 6) ve_int (nomark _)) (vw_and1 (vt_cmp o_ge (ve_callB c_len rfl m_len PySem.boot_len (va_cons (ve_comp (N' := ["_law_rule_here"]) (mp := [none]) rfl (vi_seq (vv 2)) (fun _ _ _ _ => (vg_name (i := 0) ndRu1 rfl (Or.inl rfl) (Or.inr rfl))) (fun _ _ _ _ => (vifs_one (vt_cmp (o_eq hr) (ve_callB c_len rfl m_len PySem.boot_len (va_cons (ve_ix i_ix (vv 0) ve_int) va_nil)) ve_int (nomark _)))) (fun _ _ _ _ => (vv 0)) (compOk_of (N := nRu) (pn := (defScope sRu).names) (by decide +kernel))) va_nil)) (vv 5) (nomark _))))) (vss_one (vs_set (i := 6) scRu.nd rfl (Or.inl rfl) ve_int)) vss_nil)
      (vss_cons (vs_par3 (i := 7) (j := 8) (l := 9) rfl scRu.nd rfl rfl rfl (by decide) (by decide) (by decide) rfl rfl rfl (va_cons (ve_call cDr hr rfl (va_cons (vv 0) (va_cons (vv 3) va_nil))) (va_cons (ve_call cDr hr rfl (va_cons (vv 0) (va_cons (vv 4) va_nil))) (va_cons (ve_call cDr hr rfl (va_cons (vv 0) (va_cons (vv 3) va_nil))) va_nil))) rfl)
      (vss_one (vs_ret (ve_tup (va_cons (vv 7) (va_cons (vv 8) (va_cons (vv 9) (va_cons (ve_callTy c_tuple rfl m_tuple PyProof.Rows.boot_tuple (va_cons (ve_comp (N' := ["_law_k", "_law_deal_here", "_law_letters"]) (mp := [none, some 0, some 4]) rfl (vi_range1 rfl m_range (va_cons (vv 6) va_nil)) (fun _ _ _ _ => (vg_name (i := 0) ndRu2 rfl (Or.inl rfl) (Or.inr rfl))) (fun _ _ _ _ => vifs_nil) (fun _ _ _ _ => (ve_call cDr hr rfl (va_cons (vv 1) (va_cons (vv 2) va_nil)))) (compOk_of (N := nRu) (pn := (defScope sRu).names) (by decide +kernel))) va_nil)) va_nil))))))))))), ?_⟩
  rintro xs μ R _ ⟨a, l, pf, pl, le, mo, B, rfl, hp0, hp5, hl0, hl5, hB, hP, na, nl, eB, q⟩
  refine seq_i (fun τ μ' => τ = [some (.R a), some (.D (sizD pl le mo)), some (.R pf), some (.D (.int pl)), some (.D (.int le)), some (.D (.int mo)), none, none, none, none] ∧ μ = μ') (fun Z hZ => ⟨rfl, hZ _ _ ⟨rfl, rfl⟩⟩) ?_
  rintro τ _ ⟨rfl, rfl⟩
  refine seq_i (fun τ μ' => ∃ wd : Nat, τ = [some (.R a), some (.D (sizD pl le mo)), some (.R pf), some (.D (.int pl)), some (.D (.int le)), some (.D (.int mo)), some (.D (.int wd)), none, none, none] ∧ wd ≤ 2 ∧ μ' pf = some (.lst (B.map rulA)) ∧ Pot μ' a l ∧ Ext2 a l μ μ') (fun Z hZ => ?_) ?_
  · intro p8 hp8
    have hne := hP.ne hp8
    refine ⟨a, l, 8, rfl, hP.new hp8, by decide, by decide, fun v μ1 hv P1 S1 => ?_⟩
    obtain ⟨wd, ew, hw⟩ := eights ⟨v, hv⟩
    have e8 := S1 p8 _ hne.1.symm hne.2.symm updM_same
    have eB1 := S1 pf _ na nl (by rw [updM_ne (by rintro rfl; rw [eB] at hp8; cases hp8)]; exact eB)
    refine opt_i e8 (opt_i (atI_nat (j := v) (xs := [0, 0, 1, 1, 1, 2, 2, 2].map natA) (by rw [List.getElem?_map, ew]; rfl)) (hZ _ _ ⟨wd, rfl, hw, eB1, P1, (Ext2.refl.new hp8).trans S1⟩))
  rintro τ μ1 ⟨wd, rfl, hwd, eB1, P1, S1⟩
  refine seq_i (fun τ μ' => ∃ wd : Nat, τ = [some (.R a), some (.D (sizD pl le mo)), some (.R pf), some (.D (.int pl)), some (.D (.int le)), some (.D (.int mo)), some (.D (.int wd)), none, none, none] ∧ wd ≤ 2 ∧ Pot μ' a l ∧ Ext2 a l μ μ') (fun Z hZ => ?_) ?_
  · refine ieq (fun c => ?_) (fun c => brF rfl (hZ _ _ ⟨wd, rfl, hwd, P1, S1⟩))
    refine opt_i (items_R eB1) fun pc hpc => ?_
    have hne := P1.ne hpc
    refine cmapf B rulA (fun r => decide (r.w.length = 2)) rulA (fun τ => ∃ o, τ = [o]) ⟨none, rfl⟩ updM_same (seven (by omega)) (fun acc => ?_) ?_ ?_
    · exact items_R (by rw [updM_ne (by rintro rfl; rw [eB1] at hpc; cases hpc), updM_ne (by rintro rfl; rw [eB1] at hpc; cases hpc)]; exact eB1)
    · rintro i r τ' acc W W2 hi ⟨o, rfl⟩ h1 h2
      refine opt_i (atI_nat (j := 3) rfl) (ieq (fun c1 => h1 (decide_eq_true (by rw [List.length_map] at c1; omega)) _ ⟨_, rfl⟩) (fun c1 => h2 (decide_eq_false fun z => c1 (by rw [List.length_map, z]; rfl)) _ ⟨_, rfl⟩))
    · refine opt_i updM_same (dif (fun _ => ?_) (fun _ => ?_))
      · exact hZ _ _ ⟨1, rfl, by decide, (P1.new hpc).other hne.1 hne.2, (S1.new hpc).put (S1.none hne.1 hne.2 hpc)⟩
      · exact hZ _ _ ⟨wd, rfl, hwd, (P1.new hpc).other hne.1 hne.2, (S1.new hpc).put (S1.none hne.1 hne.2 hpc)⟩
  rintro τ μ2 ⟨wd2, rfl, hwd2, P2, S2⟩
  refine seq_i (fun τ μ' => ∃ p x t : Nat, τ = [some (.R a), some (.D (sizD pl le mo)), some (.R pf), some (.D (.int pl)), some (.D (.int le)), some (.D (.int mo)), some (.D (.int wd2)), some (.D (.int p)), some (.D (.int x)), some (.D (.int t))] ∧ p < pl ∧ x < le ∧ t < pl ∧ Pot μ' a l ∧ Ext2 a l μ μ') (fun Z hZ => ?_) ?_
  · exact ⟨a, l, pl, rfl, P2, hp0, by omega, fun p μ3 hp P3 S3 => ⟨a, l, le, rfl, P3, hl0, by omega, fun x μ4 hx P4 S4 => ⟨a, l, pl, rfl, P4, hp0, by omega, fun t μ5 ht P5 S5 => hZ _ _ ⟨p, x, t, rfl, hp, hx, ht, P5, ((S2.trans S3).trans S4).trans S5⟩⟩⟩⟩
  rintro τ μ3 ⟨p, x, t, rfl, hp, hx, ht, P3, S3⟩
  refine ⟨by omega, by omega, fun pc hpc => ?_⟩
  have hne := P3.ne hpc
  have hlen : (rngA 0 (wd2 : Int).toNat).length = wd2 := by rw [rngA_length]; omega
  refine comp_i (fun j acc τ μ' => ∃ (o : Option AV) (ns : List Nat), τ = [o, some (.R a), some (.D (.int le))] ∧ acc = ns.map natA ∧ ns.length = j ∧ (∀ n ∈ ns, n < le) ∧ μ' pc = some (.lst acc) ∧ Pot μ' a l ∧ Ext2 a l μ3 μ') ⟨none, [], rfl, rfl, rfl, (fun _ z => nomatch z), updM_same, P3.new hpc, Ext2.refl.new hpc⟩ (fun _ _ _ _ _ => trivial) ?_ ?_
  · rintro j y acc τ μ4 Z2 hy ⟨o, ns, rfl, rfl, hn, hb, e4, P4, S4⟩ hZ2
    have hj : j < wd2 := by rw [← hlen]; exact (List.getElem?_eq_some_iff.mp hy).1
    refine brT rfl ⟨a, l, le, rfl, P4, hl0, by omega, fun v μ5 hv P5 S5 => ?_⟩
    have e5 := S5 pc _ hne.1.symm hne.2.symm e4
    refine ⟨e5, small1000 (by rw [List.length_map]; omega), hZ2 _ _ _ ⟨_, ns ++ [v], rfl, by rw [List.map_append]; rfl, by rw [List.length_append, hn]; rfl, fun n hn' => ?_, updM_same, P5.other hne.1 hne.2, (S4.trans S5).put hpc⟩⟩
    rcases List.mem_append.mp hn' with h | h
    · exact hb n h
    · rw [List.mem_singleton.mp h]; exact hv
  · rintro acc τ μ4 ⟨o, ns, rfl, rfl, hn, hb, e4, P4, S4⟩
    rw [hlen] at hn
    exact opt_i (items_R e4) (opt_i (dats_nat ns) ⟨_, Sub.refl, q ⟨p, x, t, ns⟩ _ ⟨hp, hx, ht, hb, (show ns.length ≤ 2 by omega)⟩ P4 (S3.trans S4)⟩)
end
section
variable {P : Program} {w : World} {K : PySem.W.Frag} {mg : Str → Option Value} {base : Heap} {f : Addr} {fd : FuncData}
abbrev nRs : List Str := ["_law_deal_here", "_law_hands", "_law_letters", "_law_many", "_law_most", "_law_found", "_law_k", "_law_rule_here", "_law_there"]
theorem scRs : FnScope nRs ["_law_deal_here", "_law_hands", "_law_letters", "_law_many", "_law_most"] (defScope sRs) := ⟨rfl, rfl, rfl, by decide +kernel, rfl, by decide +kernel, by decide +kernel⟩
theorem ndRs1 : (["_law_one", "_law_rule_here"] : List Str).Nodup := by decide +kernel
def spRs : ASp := fun xs μ R => ∃ (a l ph : Addr) (hs : List Nat) (le many mo : Nat), xs = [.R a, .R ph, .D (.int le), .D (.int many), .D (.int mo)] ∧ 0 < hs.length ∧ hs.length ≤ 5 ∧ 0 < le ∧ le ≤ 5 ∧ many ≤ 20 ∧ Pot μ a l ∧ ph ≠ a ∧ ph ≠ l ∧ μ ph = some (.lst (hs.map natA)) ∧ ∀ (B : List Rul) μ', (∀ r ∈ B, RulOk hs.length le r) → B.length ≤ many → (many = 0 ∨ 0 < B.length) → Pot μ' a l → Ext2 a l μ μ' → R (.D (.tuple (B.map rulD))) μ'
theorem ok_rs {n : Nat} (F : Fun K "_law_rules" "_law_rules" sRs f fd) (cRu : VCal P w K mg base n "_law_rule" ["_law_deal_here", "_law_sizes", "_law_found"] spRu) (m_range : mg "range" = none) (m_len : mg "len" = none) (m_tuple : mg "tuple" = none) : FnOk P w K mg base CX0 (n + 1) f fd ["_law_deal_here", "_law_hands", "_law_letters", "_law_many", "_law_most"] (cSp K 5 spRs) := by
  refine F.vok scRs fun cdv A outer s H E hr => ⟨_, (vss_cons (vs_set (i := 5) scRs.nd rfl (Or.inl rfl) (ve_lst va_nil))
      (vss_cons (vs_for PassesOwn.never rfl (vi_range1 rfl m_range (va_cons (vv 3) va_nil)) (vg_name (i := 6) scRs.nd rfl (Or.inl rfl)) (vss_cons (vs_set (i := 7) scRs.nd rfl (Or.inr rfl) (ve_call cRu hr rfl (va_cons (vv 0) (va_cons (ve_tup (va_cons (ve_callB c_len rfl m_len PySem.boot_len (va_cons (vv 1) va_nil)) (va_cons (vv 2) (va_cons (vv 4) va_nil)))) (va_cons (vv 5) va_nil)))))
      (vss_cons (vs_set (i := 8) scRs.nd rfl (Or.inl rfl) (ve_callB c_len rfl m_len PySem.boot_len (va_cons (ve_comp (N' := ["_law_one", "_law_rule_here"]) (mp := [none, some 7]) rfl (vi_seq (vv 5)) (fun _ _ _ _ => (vg_name (i := 0) ndRs1 rfl (Or.inl rfl) (Or.inr rfl))) (fun _ _ _ _ => (vifs_one (vt_cmp (o_eq hr) (ve_slice (vv 0) vo_none (vo_some ve_int)) (ve_slice (vv 1) vo_none (vo_some ve_int)) (nomark _)))) (fun _ _ _ _ => (vv 0)) (compOk_of (N := nRs) (pn := (defScope sRs).names) (by decide +kernel))) va_nil)))
      (vss_one (vs_if (VW.pt (vw_and (vt_cmp (o_notIn hr) (vv 7) (vv 5) (by with_unfolding_all rfl)) (vw_and1 (VW.pt (vw_or (vt_cmp (o_eq hr) (ve_ix i_ix (vv 1) (ve_ix i_ix (vv 7) ve_int)) ve_int (nomark _)) (vw_or1 (vt_cmp o_lt (vv 8) ve_int (nomark _)))))))) (vss_one (vs_expr (ve_ml PySem.F.slot_list_append PySem.F.type_list_append m_append (vv 5) (va_cons (vv 7) va_nil)))) vss_nil)))))
      (vss_one (vs_ret (ve_callTy c_tuple rfl m_tuple PyProof.Rows.boot_tuple (va_cons (vv 5) va_nil)))))), ?_⟩
  rintro xs μ R _ ⟨a, l, ph, hs, le, many, mo, rfl, hh0, hh5, hl0, hl5, hm, hP, na, nl, eH, q⟩
  intro pf hpf
  have hne := hP.ne hpf
  have hph : ph ≠ pf := by rintro rfl; rw [eH] at hpf; cases hpf
  refine seq_i (fun τ μ' => ∃ o6 o7 o8, ∃ B : List Rul, τ = [some (.R a), some (.R ph), some (.D (.int le)), some (.D (.int many)), some (.D (.int mo)), some (.R pf), o6, o7, o8] ∧ μ' pf = some (.lst (B.map rulA)) ∧ B.length ≤ many ∧ (many = 0 ∨ 0 < B.length) ∧ (∀ r ∈ B, RulOk hs.length le r) ∧ Pot μ' a l ∧ Ext2 a l μ μ') (fun Z hZ => ?_) ?_
  · refine ⟨by omega, by omega, ?_⟩
    have hlen : (rngA 0 (many : Int).toNat).length = many := by rw [rngA_length]; omega
    refine for_i (fun i τ μ' => ∃ o6 o7 o8, ∃ B : List Rul, τ = [some (.R a), some (.R ph), some (.D (.int le)), some (.D (.int many)), some (.D (.int mo)), some (.R pf), o6, o7, o8] ∧ μ' pf = some (.lst (B.map rulA)) ∧ μ' ph = some (.lst (hs.map natA)) ∧ B.length ≤ i ∧ (i = 0 ∨ 0 < B.length) ∧ (∀ r ∈ B, RulOk hs.length le r) ∧ Pot μ' a l ∧ Ext2 a l μ μ') ⟨none, none, none, [], rfl, updM_same, by rw [updM_ne hph]; exact eH, Nat.le_refl _, .inl rfl, (fun _ z => nomatch z), hP.new hpf, Ext2.refl.new hpf⟩ (fun _ _ _ _ => trivial) ?_ ?_
    · rintro i y τ μ3 Z2 hy ⟨o6, o7, o8, B, rfl, e3, h3, hB, hB0, kB, P3, S3⟩ hZ2
      have hi : i < many := by rw [← hlen]; exact (List.getElem?_eq_some_iff.mp hy).1
      refine seq_i (fun τ μ' => ∃ v : Rul, τ = [some (.R a), some (.R ph), some (.D (.int le)), some (.D (.int many)), some (.D (.int mo)), some (.R pf), some y, some (rulA v), o8] ∧ RulOk hs.length le v ∧ μ' pf = some (.lst (B.map rulA)) ∧ μ' ph = some (.lst (hs.map natA)) ∧ Pot μ' a l ∧ Ext2 a l μ μ') (fun Z3 hZ3 => ?_) ?_
      · refine opt_i h3 ⟨a, l, pf, hs.length, le, mo, B, by rw [List.length_map]; rfl, hh0, hh5, hl0, hl5, by omega, P3, hne.1.symm, hne.2.symm, e3, fun v μ4 hv P4 S4 => hZ3 _ _ ⟨v, rfl, hv, S4 pf _ hne.1.symm hne.2.symm e3, S4 ph _ na nl h3, P4, S3.trans S4⟩⟩
      rintro τ μ4 ⟨v, rfl, hv, e4, h4, P4, S4⟩
      refine seq_i (fun τ μ' => ∃ th : Nat, τ = [some (.R a), some (.R ph), some (.D (.int le)), some (.D (.int many)), some (.D (.int mo)), some (.R pf), some y, some (rulA v), some (.D (.int th))] ∧ (B = [] → th = 0) ∧ μ' pf = some (.lst (B.map rulA)) ∧ μ' ph = some (.lst (hs.map natA)) ∧ Pot μ' a l ∧ Ext2 a l μ μ') (fun Z3 hZ3 => ?_) ?_
      · refine opt_i (items_R e4) fun pc hpc => ?_
        have hnc := P4.ne hpc
        have hcf : pf ≠ pc := by rintro rfl; rw [e4] at hpc; cases hpc
        have hch : ph ≠ pc := by rintro rfl; rw [h4] at hpc; cases hpc
        refine cmapf B rulA (fun r => PyData.eqv (natsD [r.p, r.x]) (natsD [v.p, v.x])) rulA (fun τ => ∃ o, τ = [o, some (rulA v)]) ⟨none, rfl⟩ updM_same (seven (by omega)) (fun acc => items_R (by rw [updM_ne hcf, updM_ne hcf]; exact e4)) ?_ ?_
        · rintro j r τ' acc W W2 hj ⟨o, rfl⟩ h1 h2
          exact ⟨nats_eqOk (ns := [r.p, r.x]), nats_eqOk (ns := [v.p, v.x]), br (fun c => h1 c _ ⟨_, rfl⟩) (fun c => h2 c _ ⟨_, rfl⟩)⟩
        · refine opt_i updM_same (hZ3 _ _ ⟨_, rfl, fun z => by rw [z]; rfl, by rw [updM_ne hcf, updM_ne hcf]; exact e4, by rw [updM_ne hch, updM_ne hch]; exact h4, (P4.new hpc).other hnc.1 hnc.2, (S4.new hpc).put (S4.none hnc.1 hnc.2 hpc)⟩)
      rintro τ μ5 ⟨th, rfl, hth, e5, h5, P5, S5⟩
      have yes : Z2 [some (.R a), some (.R ph), some (.D (.int le)), some (.D (.int many)), some (.D (.int mo)), some (.R pf), some y, some (rulA v), some (.D (.int th))] (updM μ5 pf (.lst (B.map rulA ++ [rulA v]))) := by
        refine hZ2 _ _ ⟨_, _, _, B ++ [v], rfl, by rw [updM_same, List.map_append]; rfl, by rw [updM_ne hph]; exact h5, by rw [List.length_append]; show B.length + 1 ≤ _; omega, .inr (by simp), fun r hr' => ?_, P5.other hne.1 hne.2, S5.put hpf⟩
        rcases List.mem_append.mp hr' with h | h
        · exact kB r h
        · rw [List.mem_singleton.mp h]; exact hv
      have no : 0 < B.length → Z2 [some (.R a), some (.R ph), some (.D (.int le)), some (.D (.int many)), some (.D (.int mo)), some (.R pf), some y, some (rulA v), some (.D (.int th))] μ5 := fun h0 =>
        hZ2 _ _ ⟨_, _, _, B, rfl, e5, h5, by omega, .inr h0, kB, P5, S5⟩
      have put : isLst μ5 (.R pf) ∧ mAppend (.R pf) [rulA v] μ5 fun _ μ1 => Z2 [some (.R a), some (.R ph), some (.D (.int le)), some (.D (.int many)), some (.D (.int mo)), some (.R pf), some y, some (rulA v), some (.D (.int th))] μ1 := ⟨opt_i e5 trivial, opt_i e5 ⟨small1000 (by rw [List.length_map]; omega), yes⟩⟩
      have hgt : (hs.map natA)[v.p]? = some (natA (hs.getD v.p 0)) := by rw [List.getElem?_map, List.getElem?_eq_getElem hv.p]; simp [hv.p]
      refine opt_i rfl (opt_i (items_R e5) (opt_i (dats_rul B) ⟨rul_eqOk v, ruls_eqOk B, br (fun c1 => ?_) (fun c1 => ?_)⟩))
      · refine opt_i (atI_nat (j := 0) rfl) (opt_i h5 (opt_i (atI_nat hgt) (ieq (fun c2 => brT rfl put) (fun c2 => dif (fun c3 => put) (fun c3 => no ?_)))))
        rcases Nat.eq_zero_or_pos B.length with h0 | h0
        · exact absurd (show (th : Int) < 2 by rw [hth (List.eq_nil_of_length_eq_zero h0)]; decide) c3
        · exact h0
      · refine brF rfl (no ?_)
        rcases Nat.eq_zero_or_pos B.length with h0 | h0
        · rw [List.eq_nil_of_length_eq_zero h0] at c1; cases c1
        · exact h0
    · rintro τ μ3 ⟨o6, o7, o8, B, rfl, e3, h3, hB, hB0, kB, P3, S3⟩
      rw [hlen] at hB hB0
      exact hZ _ _ ⟨_, _, _, B, rfl, e3, hB, hB0, kB, P3, S3⟩
  · rintro τ μ3 ⟨o6, o7, o8, B, rfl, e3, hB, hB0, kB, P3, S3⟩
    exact opt_i (items_R e3) (opt_i (dats_rul B) ⟨_, Sub.refl, q B _ kB hB hB0 P3 S3⟩)
end
section
variable {P : Program} {w : World} {K : PySem.W.Frag} {mg : Str → Option Value} {base : Heap} {f : Addr} {fd : FuncData}
abbrev nGa : List Str := ["_law_deal_here", "_law_sizes", "_law_hand", "_law_hands", "_law_letters", "_law_rules_here"]
theorem scGa : FnScope nGa ["_law_deal_here", "_law_sizes", "_law_hand"] (defScope sGa) := ⟨rfl, rfl, rfl, by decide +kernel, rfl, by decide +kernel, by decide +kernel⟩
theorem ndGa1 : (["_law_k", "_law_hand", "_law_deal_here"] : List Str).Nodup := by decide +kernel
structure Gam where
  pl : List (Str × Nat)
  le : List Str
  rs : List Rul
def plD (p : Str × Nat) : PyData := .tuple [.str p.1, .int p.2]
def gamD (g : Gam) : PyData := .tuple [.tuple (g.pl.map plD), .tuple (g.le.map PyData.str), .tuple (g.rs.map rulD)]
structure GamOk (g : Gam) (np nl nr : Nat) : Prop where
  p0 : 0 < g.pl.length
  p1 : g.pl.length ≤ np
  l0 : 0 < g.le.length
  l1 : g.le.length ≤ nl
  r0 : 0 < g.rs.length
  r1 : g.rs.length ≤ nr
  hd : ∀ p ∈ g.pl, p.2 < 2
  pn : Nms (g.pl.map (·.1))
  ln : Nms g.le
  ru : ∀ r ∈ g.rs, RulOk g.pl.length g.le.length r
def spGa : ASp := fun xs μ R => ∃ (a l : Addr) (np nl nr mo : Nat), xs = [.R a, .D (.tuple [.int np, .int nl, .int nr, .int mo]), .D (.int 2)] ∧ 0 < np ∧ np ≤ 3 ∧ 0 < nl ∧ nl ≤ 3 ∧ 0 < nr ∧ nr ≤ 8 ∧ Pot μ a l ∧ ∀ (g : Gam) μ', GamOk g np nl nr → Pot μ' a l → Ext2 a l μ μ' → R (.D (gamD g)) μ'
theorem zip_pl : ∀ (ys : List Str) (hs : List Nat), List.zipWith (fun d e => PyData.tuple [d, e]) (ys.map PyData.str) (hs.map fun (n : Nat) => PyData.int n) = (ys.zip hs).map plD
  | [], _ => rfl
  | _ :: _, [] => rfl
  | y :: ys, h :: hs => by simp only [List.map_cons, List.zipWith_cons_cons, List.zip_cons_cons, zip_pl ys hs]; rfl
theorem ok_ga {n : Nat} (F : Fun K "_law_game" "_law_game" sGa f fd) (cDr : VCal P w K mg base n "_law_draw" ["_law_deal_here", "_law_many"] spDr) (cNa : VCal P w K mg base n "_law_names" ["_law_deal_here", "_law_many"] spNa) (cRs : VCal P w K mg base n "_law_rules" ["_law_deal_here", "_law_hands", "_law_letters", "_law_many", "_law_most"] spRs) (m_range : mg "range" = none) (m_int : mg "int" = none) (m_len : mg "len" = none) (m_tuple : mg "tuple" = none) (m_zip : mg "zip" = none) : FnOk P w K mg base CX0 (n + 1) f fd ["_law_deal_here", "_law_sizes", "_law_hand"] (cSp K 3 spGa) := by
  refine F.vok scGa fun cdv A outer s H E hr => ⟨_, (vss_cons (vs_setC (i := 3) (N' := ["_law_k", "_law_hand", "_law_deal_here"]) (mp := [none, some 2, some 0]) rfl scGa.nd rfl rfl (vi_range1 rfl m_range (va_cons (ve_op o_add ve_int (ve_call cDr hr rfl (va_cons (vv 0) (va_cons (ve_ix i_ix (vv 1) ve_int) va_nil)))) va_nil)) (fun _ _ _ _ => (vg_name (i := 0) ndGa1 rfl (Or.inl rfl) (Or.inr rfl))) (fun _ _ _ _ => vifs_nil) (fun _ _ _ _ => (ve_ix i_ix (ve_lst (va_cons (ve_call cDr hr rfl (va_cons (vv 2) (va_cons ve_int va_nil))) (va_cons (vv 1) va_nil))) (ve_callTy c_int rfl m_int PyProof.Rows.boot_int (va_cons (ve_cmp o_lt (vv 1) ve_int (nomark _)) va_nil)))) (compOk_of (N := nGa) (pn := (defScope sGa).names) (by decide +kernel)))
      (vss_cons (vs_set (i := 4) scGa.nd rfl (Or.inl rfl) (ve_call cNa hr rfl (va_cons (vv 0) (va_cons (ve_op o_add ve_int (ve_call cDr hr rfl (va_cons (vv 0) (va_cons (ve_ix i_ix (vv 1) ve_int) va_nil)))) va_nil))))
      (vss_cons (vs_set (i := 5) scGa.nd rfl (Or.inl rfl) (ve_call cRs hr rfl (va_cons (vv 0) (va_cons (vv 3) (va_cons (ve_callB c_len rfl m_len PySem.boot_len (va_cons (vv 4) va_nil)) (va_cons (ve_op o_add ve_int (ve_call cDr hr rfl (va_cons (vv 0) (va_cons (ve_ix i_ix (vv 1) ve_int) va_nil)))) (va_cons (ve_ix i_ix (vv 1) ve_int) va_nil)))))))
      (vss_one (vs_ret (ve_tup (va_cons (ve_tzip rfl rfl m_tuple rfl m_zip (ve_call cNa hr rfl (va_cons (vv 0) (va_cons (ve_callB c_len rfl m_len PySem.boot_len (va_cons (vv 3) va_nil)) va_nil))) (vv 3)) (va_cons (ve_callTy c_tuple rfl m_tuple PyProof.Rows.boot_tuple (va_cons (vv 4) va_nil)) (va_cons (vv 5) va_nil))))))))), ?_⟩
  rintro xs μ R _ ⟨a, l, np, nl, nr, mo, rfl, hp0, hp3, hl0, hl3, hr0, hr8, hP, q⟩
  refine seq_i (fun τ μ' => ∃ (hs : List Nat) (ph : Addr), τ = [some (.R a), some (.D (.tuple [.int np, .int nl, .int nr, .int mo])), some (.D (.int 2)), some (.R ph), none, none] ∧ 0 < hs.length ∧ hs.length ≤ np ∧ (∀ h ∈ hs, h < 2) ∧ ph ≠ a ∧ ph ≠ l ∧ μ' ph = some (.lst (hs.map natA)) ∧ Pot μ' a l ∧ Ext2 a l μ μ') (fun Z hZ => ?_) ?_
  · refine opt_i (atI_nat (j := 0) rfl) ⟨a, l, np, rfl, hP, hp0, by omega, fun v μ1 hv P1 S1 => ⟨by omega, by omega, fun pc hpc => ?_⟩⟩
    have hne := P1.ne hpc
    have hlen : (rngA 0 (1 + (v : Int)).toNat).length = 1 + v := by rw [rngA_length]; omega
    refine comp_i (fun j acc τ μ' => ∃ (o : Option AV) (hs : List Nat), τ = [o, some (.D (.int 2)), some (.R a)] ∧ acc = hs.map natA ∧ hs.length = j ∧ (∀ h ∈ hs, h < 2) ∧ μ' pc = some (.lst acc) ∧ Pot μ' a l ∧ Ext2 a l μ1 μ') ⟨none, [], rfl, rfl, rfl, (fun _ z => nomatch z), updM_same, P1.new hpc, Ext2.refl.new hpc⟩ (fun _ _ _ _ _ => trivial) ?_ ?_
    · rintro j y acc τ μ2 Z2 hy ⟨o, hs, rfl, rfl, hn, hb, e2, P2, S2⟩ hZ2
      have hj : j < 1 + v := by rw [← hlen]; exact (List.getElem?_eq_some_iff.mp hy).1
      refine brT rfl ⟨a, l, 2, rfl, P2, by decide, by decide, fun d μ3 hd P3 S3 => fun p8 hp8 => ?_⟩
      have e3 := S3 pc _ hne.1.symm hne.2.symm e2
      have hn8 := P3.ne hp8
      have hc8 : pc ≠ p8 := by rintro rfl; rw [e3] at hp8; cases hp8
      have e8 : updM μ3 p8 (.lst [natA d, .D (.int 2)]) pc = some (.lst (hs.map natA)) := by rw [updM_ne hc8]; exact e3
      refine opt_i updM_same (opt_i (atI_nat (j := 0) (v := natA d) rfl) ⟨e8, small1000 (by rw [List.length_map]; omega), hZ2 _ _ _ ⟨_, hs ++ [d], rfl, by rw [List.map_append]; rfl, by rw [List.length_append, hn]; rfl, fun h hh => ?_, updM_same, (P3.new hp8).other hne.1 hne.2, ((S2.trans S3).new hp8).put hpc⟩⟩)
      rcases List.mem_append.mp hh with h1 | h1
      · exact hb h h1
      · rw [List.mem_singleton.mp h1]; exact hd
    · rintro acc τ μ2 ⟨o, hs, rfl, rfl, hn, hb, e2, P2, S2⟩
      rw [hlen] at hn
      exact hZ _ _ ⟨hs, pc, rfl, by omega, by omega, hb, hne.1.symm, hne.2.symm, e2, P2, S1.trans S2⟩
  rintro τ μ1 ⟨hs, ph, rfl, hh0, hhn, hh2, na, nl', e1, P1, S1⟩
  refine seq_i (fun τ μ' => ∃ (zs : List Str) (pz : Addr), τ = [some (.R a), some (.D (.tuple [.int np, .int nl, .int nr, .int mo])), some (.D (.int 2)), some (.R ph), some (.R pz), none] ∧ 0 < zs.length ∧ zs.length ≤ nl ∧ Nms zs ∧ pz ≠ a ∧ pz ≠ l ∧ μ' pz = some (.lst (zs.map strA)) ∧ μ' ph = some (.lst (hs.map natA)) ∧ Pot μ' a l ∧ Ext2 a l μ μ') (fun Z hZ => ?_) ?_
  · refine opt_i (atI_nat (j := 1) rfl) ⟨a, l, nl, rfl, P1, hl0, by omega, fun v μ2 hv P2 S2 => ⟨a, l, 1 + v, rfl, by omega, P2, fun zs pz μ3 hz hN hf ez P3 S3 => ?_⟩⟩
    have hne := P2.ne hf
    exact hZ _ _ ⟨zs, pz, rfl, by omega, by omega, hN, hne.1.symm, hne.2.symm, ez, S3 ph _ na nl' (S2 ph _ na nl' e1), P3, (S1.trans S2).trans S3⟩
  rintro τ μ2 ⟨zs, pz, rfl, hz0, hzn, hN, za, zl, ez, e2, P2, S2⟩
  refine seq_i (fun τ μ' => ∃ B : List Rul, τ = [some (.R a), some (.D (.tuple [.int np, .int nl, .int nr, .int mo])), some (.D (.int 2)), some (.R ph), some (.R pz), some (.D (.tuple (B.map rulD)))] ∧ 0 < B.length ∧ B.length ≤ nr ∧ (∀ r ∈ B, RulOk hs.length zs.length r) ∧ μ' pz = some (.lst (zs.map strA)) ∧ μ' ph = some (.lst (hs.map natA)) ∧ Pot μ' a l ∧ Ext2 a l μ μ') (fun Z hZ => ?_) ?_
  · refine opt_i ez (opt_i (atI_nat (j := 2) rfl) ⟨a, l, nr, rfl, P2, hr0, by omega, fun v μ3 hv P3 S3 => opt_i (atI_nat (j := 3) rfl) ⟨a, l, ph, hs, zs.length, 1 + v, mo, by rw [List.length_map]; rfl, hh0, by omega, hz0, by omega, by omega, P3, na, nl', S3 ph _ na nl' e2, fun B μ4 kB hB hB0 P4 S4 => ?_⟩⟩)
    exact hZ _ _ ⟨B, rfl, by omega, by omega, kB, S4 pz _ za zl (S3 pz _ za zl ez), S4 ph _ na nl' (S3 ph _ na nl' e2), P4, (S2.trans S3).trans S4⟩
  rintro τ μ3 ⟨B, rfl, hB0, hBn, kB, ez3, e3, P3, S3⟩
  refine opt_i e3 ⟨a, l, hs.length, by rw [List.length_map], by omega, P3, fun ys py μ4 hy hNy hf ey P4 S4 => ?_⟩
  have e4 := S4 ph _ na nl' e3
  have ez4 := S4 pz _ za zl ez3
  refine opt_i ey (opt_i e4 (opt_i (dats_str ys) (opt_i (dats_nat hs) ⟨⟨by simp [hy], by simp; omega⟩, opt_i (items_R ez4) (opt_i (dats_str zs) ⟨_, Sub.refl, ?_⟩)⟩)))
  rw [zip_pl]
  have hl1 : (ys.zip hs).length = hs.length := by rw [List.length_zip]; omega
  refine q ⟨ys.zip hs, zs, B⟩ _ ⟨?_, ?_, hz0, hzn, hB0, hBn, fun p hp => ?_, ?_, hN, ?_⟩ P4 (S3.trans S4)
  · show 0 < (ys.zip hs).length; omega
  · show (ys.zip hs).length ≤ np; omega
  · exact hh2 p.2 (List.of_mem_zip hp).2
  · show Nms ((ys.zip hs).map (·.1))
    rw [List.map_fst_zip (by omega)]; exact hNy
  · show ∀ r ∈ B, RulOk (ys.zip hs).length zs.length r
    rw [hl1]; exact kB
end
section
variable {P : Program} {w : World} {K : PySem.W.Frag} {mg : Str → Option Value} {base : Heap} {f : Addr} {fd : FuncData}
structure Arw where
  p : Nat
  x : Nat
  ts : List Nat
  c : Option Nat
def arwL (a : Arw) : List PyData := .int a.p :: .int a.x :: natsD a.ts :: (match a.c with | none => [] | some c => [.int c])
def arwD (a : Arw) : PyData := .tuple (arwL a)
theorem arw_items {μ : M} (A : List Arw) : items μ (.D (.tuple (A.map arwD))) = some (A.map fun a => .D (arwD a)) := by
  show some ((A.map arwD).map AV.D) = _
  rw [List.map_map]; rfl
theorem arw_ok (a : Arw) : (arwD a).canLay0 = true ∧ (arwD a).depth ≤ 3 ∧ Cano (arwD a) = true := by
  obtain ⟨p, x, ts, c⟩ := a
  have h1 := nats_ok (ns := ts)
  have h2 := nats_cano ts
  cases c with
  | none =>
    simp only [arwD, arwL, natsD, PyData.canLay0, PyData.canLayAll0, PyData.depth, PyData.depthAll, Cano, CanoAll, h1.1, h2, Bool.and_true, Bool.true_and, true_and, and_true]
    have := h1.2
    omega
  | some c =>
    simp only [arwD, arwL, natsD, PyData.canLay0, PyData.canLayAll0, PyData.depth, PyData.depthAll, Cano, CanoAll, h1.1, h2, Bool.and_true, Bool.true_and, true_and, and_true]
    have := h1.2
    omega
theorem arw_cmp {a b : Arw} (h : a.c.isSome = b.c.isSome) : cmpb (arwD a) (arwD b) = true := by
  obtain ⟨p, x, ts, c⟩ := a
  obtain ⟨p', x', ts', c'⟩ := b
  cases c <;> cases c' <;> simp at h <;> simp only [arwD, arwL, natsD, cmpb, cmpbs, nats_cmp, ite_self]
theorem arws_ok : ∀ (B : List Arw), PyData.canLayAll0 (B.map arwD) = true ∧ PyData.depthAll (B.map arwD) ≤ 3 ∧ CanoAll (B.map arwD) = true
  | [] => ⟨rfl, by simp [PyData.depthAll], rfl⟩
  | a :: B => by
    obtain ⟨h1, h2, h3⟩ := arw_ok a
    obtain ⟨k1, k2, k3⟩ := arws_ok B
    simp only [List.map_cons, PyData.canLayAll0, PyData.depthAll, CanoAll, h1, h3, k1, k3, Bool.and_self, true_and, and_true]
    omega
theorem arw_sort {B : List Arw} {k : Bool} (hl : B.length ≤ 20) (hn : (B.map arwD).Nodup) (hc : ∀ a ∈ B, a.c.isSome = k) : SortOk (B.map arwD) := by
  obtain ⟨k1, k2, k3⟩ := arws_ok B
  refine ⟨by rw [List.length_map]; omega, k1, by omega, k3, hn, fun _ d hd => ?_, fun d hd e he => ?_⟩
  · obtain ⟨a, ha, rfl⟩ := List.mem_map.mp hd
    exact ⟨a.p, _, rfl⟩
  · obtain ⟨a, ha, rfl⟩ := List.mem_map.mp hd
    obtain ⟨b, hb, rfl⟩ := List.mem_map.mp he
    exact arw_cmp ((hc a ha).trans (hc b hb).symm)
theorem not_any {B : List Arw} {a : Arw} (h : ((B.map arwD).any fun e => PyData.eqv e (arwD a)) = false) : arwD a ∉ B.map arwD := fun hm => by
  have : ((B.map arwD).any fun e => PyData.eqv e (arwD a)) = true := List.any_eq_true.mpr ⟨_, hm, eqv_self (arwD a) (arw_ok a).2.2⟩
  rw [this] at h; cases h
theorem dats_arw (B : List Arw) : dats (B.map fun a => .D (arwD a)) = some (B.map arwD) := by
  rw [show (B.map fun a => AV.D (arwD a)) = (B.map arwD).map .D by rw [List.map_map]; rfl]; exact dats_map _
theorem arw_eqOk (a : Arw) : EqOk (arwD a) := ⟨(arw_ok a).1, Nat.le_trans (arw_ok a).2.1 (by decide)⟩
theorem arws_eqOk (B : List Arw) : EqOk (.tuple (B.map arwD)) := ⟨by simp only [PyData.canLay0]; exact (arws_ok B).1, by have := (arws_ok B).2.1; simp only [PyData.depth]; omega⟩
end
section
variable {P : Program} {w : World} {K : PySem.W.Frag} {mg : Str → Option Value} {base : Heap} {f : Addr} {fd : FuncData}
abbrev nSo : List Str := ["_law_deal_here", "_law_stands", "_law_most", "_law_found"]
theorem scSo : FnScope nSo ["_law_deal_here", "_law_stands", "_law_most"] (defScope sSo) := ⟨rfl, rfl, rfl, by decide +kernel, rfl, by decide +kernel, by decide +kernel⟩
theorem ndSo1 : (["_law_stand", "_law_deal_here"] : List Str).Nodup := by decide +kernel
theorem cutA_take {α : Type} (g : α → AV) (xs : List α) (n : Nat) : cutA (xs.map g) none (some (n : Int)) = (xs.take n).map g := by
  unfold cutA
  rw [HT.sIx_none, HT.sIx_nat, List.drop_zero, Nat.sub_zero, ← List.map_take, List.length_map]
  by_cases h : n ≤ xs.length
  · rw [Nat.min_eq_left h]
  · rw [Nat.min_eq_right (by omega), List.take_length, List.take_of_length_le (by omega)]
theorem cutA_drop {α : Type} (g : α → AV) (xs : List α) (n : Nat) : cutA (xs.map g) (some (n : Int)) none = (xs.drop n).map g := by
  unfold cutA
  rw [HT.sIx_none, HT.sIx_nat, ← List.map_drop, List.length_map]
  by_cases h : n ≤ xs.length
  · rw [Nat.min_eq_left h, List.take_of_length_le (by rw [List.length_map, List.length_drop]; exact Nat.le_refl _)]
  · rw [Nat.min_eq_right (by omega), List.drop_length, List.drop_of_length_le (by omega)]; simp
def spSo : ASp := fun xs μ R => ∃ (a l ps : Addr) (ss : List Nat) (mo : Nat), xs = [.R a, .R ps, .D (.int mo)] ∧ ss.length ≤ 20 ∧ ps ≠ a ∧ ps ≠ l ∧ μ ps = some (.lst (ss.map natA)) ∧ Pot μ a l ∧ ∀ (ns : List Nat) μ', ns.Sublist ss → ns.length ≤ mo → Pot μ' a l → Ext2 a l μ μ' → R (.D (natsD ns)) μ'
theorem ok_so {n : Nat} (F : Fun K "_law_some" "_law_some" sSo f fd) (cDr : VCal P w K mg base n "_law_draw" ["_law_deal_here", "_law_many"] spDr) (m_tuple : mg "tuple" = none) : FnOk P w K mg base CX0 (n + 1) f fd ["_law_deal_here", "_law_stands", "_law_most"] (cSp K 3 spSo) := by
  refine F.vok scSo fun cdv A outer s H E hr => ⟨_, (vss_cons (vs_setC (i := 3) (N' := ["_law_stand", "_law_deal_here"]) (mp := [none, some 0]) rfl scSo.nd rfl rfl (vi_seq (vv 1)) (fun _ _ _ _ => (vg_name (i := 0) ndSo1 rfl (Or.inl rfl) (Or.inr rfl))) (fun _ _ _ _ => (vifs_one (vt_cmp (o_eq hr) (ve_call cDr hr rfl (va_cons (vv 1) (va_cons ve_int va_nil))) ve_int (nomark _)))) (fun _ _ _ _ => (vv 0)) (compOk_of (N := nSo) (pn := (defScope sSo).names) (by decide +kernel)))
      (vss_one (vs_ret (ve_callTy c_tuple rfl m_tuple PyProof.Rows.boot_tuple (va_cons (ve_slice (vv 3) vo_none (vo_some (vv 2))) va_nil))))), ?_⟩
  rintro xs μ R _ ⟨a, l, ps, ss, mo, rfl, hs, na, nl, eS, hP, q⟩
  refine seq_i (fun τ μ' => ∃ (ns : List Nat) (pf : Addr), τ = [some (.R a), some (.R ps), some (.D (.int mo)), some (.R pf)] ∧ ns.Sublist ss ∧ μ' pf = some (.lst (ns.map natA)) ∧ Pot μ' a l ∧ Ext2 a l μ μ') (fun Z hZ => ?_) ?_
  · refine opt_i (items_R eS) fun pc hpc => ?_
    have hne := hP.ne hpc
    have hps : ps ≠ pc := by rintro rfl; rw [eS] at hpc; cases hpc
    refine comp_i (fun j acc τ μ' => ∃ (o : Option AV) (ns : List Nat), τ = [o, some (.R a)] ∧ acc = ns.map natA ∧ ns.Sublist (ss.take j) ∧ μ' pc = some (.lst acc) ∧ μ' ps = some (.lst (ss.map natA)) ∧ Pot μ' a l ∧ Ext2 a l μ μ') ⟨none, [], rfl, rfl, by simp, updM_same, by rw [updM_ne hps]; exact eS, hP.new hpc, Ext2.refl.new hpc⟩ (fun _ _ _ _ ⟨_, _, _, _, _, _, e, _⟩ => items_R e) ?_ ?_
    · rintro j y acc τ μ2 Z2 hy ⟨o, ns, rfl, rfl, hsub, e2, s2, P2, S2⟩ hZ2
      rw [List.getElem?_map] at hy
      obtain ⟨x, hx, rfl⟩ := Option.map_eq_some_iff.mp hy
      have hj : j < ss.length := (List.getElem?_eq_some_iff.mp hx).1
      have htk : ss.take (j + 1) = ss.take j ++ [x] := by rw [List.take_succ, hx]; rfl
      refine ⟨a, l, 2, rfl, P2, by decide, by decide, fun v μ3 hv P3 S3 => ?_⟩
      have e3 := S3 pc _ hne.1.symm hne.2.symm e2
      have s3 := S3 ps _ na nl s2
      have hl := hsub.length_le
      rw [List.length_take] at hl
      refine ieq (fun c => ⟨e3, small1000 (by rw [List.length_map]; omega), hZ2 _ _ _ ⟨_, ns ++ [x], rfl, by rw [List.map_append]; rfl, by rw [htk]; exact hsub.append (List.Sublist.refl _), updM_same, by rw [updM_ne hps]; exact s3, P3.other hne.1 hne.2, (S2.trans S3).put hpc⟩⟩) (fun c => hZ2 _ _ _ ⟨_, ns, rfl, rfl, by rw [htk]; exact hsub.trans (List.sublist_append_left _ _), e3, s3, P3, S2.trans S3⟩)
    · rintro acc τ μ2 ⟨o, ns, rfl, rfl, hsub, e2, s2, P2, S2⟩
      rw [List.length_map, List.take_length] at hsub
      exact hZ _ _ ⟨ns, pc, rfl, hsub, e2, P2, S2⟩
  rintro τ μ1 ⟨ns, pf, rfl, hsub, e1, P1, S1⟩
  refine opt_i (items_R e1) fun p2 hp2 => ?_
  rw [cutA_take]
  exact opt_i (items_R updM_same) (opt_i (dats_nat _) ⟨_, Sub.refl, q _ _ ((List.take_sublist _ _).trans hsub) (List.length_take_le _ _) (P1.new hp2) (S1.new hp2)⟩)
abbrev nPi : List Str := ["_law_deal_here", "_law_game_here", "_law_most"]
theorem scPi : FnScope nPi ["_law_deal_here", "_law_game_here", "_law_most"] (defScope sPi) := ⟨rfl, rfl, rfl, by decide +kernel, rfl, by decide +kernel, by decide +kernel⟩
theorem ndPi1 : (["_law_k", "_law_deal_here", "_law_game_here"] : List Str).Nodup := by decide +kernel
def spPi : ASp := fun xs μ R => ∃ (a l : Addr) (g : Gam) (mo : Nat), xs = [.R a, .D (gamD g), .D (.int mo)] ∧ 0 < g.le.length ∧ g.le.length ≤ 5 ∧ mo ≤ 20 ∧ Pot μ a l ∧ ∀ (ns : List Nat) μ', (∀ n ∈ ns, n < g.le.length) → ns.length ≤ mo → Pot μ' a l → Ext2 a l μ μ' → R (.D (natsD ns)) μ'
theorem ok_pi {n : Nat} (F : Fun K "_law_pile" "_law_pile" sPi f fd) (cDr : VCal P w K mg base n "_law_draw" ["_law_deal_here", "_law_many"] spDr) (m_tuple : mg "tuple" = none) (m_range : mg "range" = none) (m_len : mg "len" = none) : FnOk P w K mg base CX0 (n + 1) f fd ["_law_deal_here", "_law_game_here", "_law_most"] (cSp K 3 spPi) := by
  refine F.vok scPi fun cdv A outer s H E hr => ⟨_, (vss_one (vs_ret (ve_callTy c_tuple rfl m_tuple PyProof.Rows.boot_tuple (va_cons (ve_comp (N' := ["_law_k", "_law_deal_here", "_law_game_here"]) (mp := [none, some 0, some 1]) rfl (vi_range1 rfl m_range (va_cons (ve_call cDr hr rfl (va_cons (vv 0) (va_cons (ve_op o_add (vv 2) ve_int) va_nil))) va_nil)) (fun _ _ _ _ => (vg_name (i := 0) ndPi1 rfl (Or.inl rfl) (Or.inr rfl))) (fun _ _ _ _ => vifs_nil) (fun _ _ _ _ => (ve_call cDr hr rfl (va_cons (vv 1) (va_cons (ve_callB c_len rfl m_len PySem.boot_len (va_cons (ve_ix i_ix (vv 2) ve_int) va_nil)) va_nil)))) (compOk_of (N := nPi) (pn := (defScope sPi).names) (by decide +kernel))) va_nil)))), ?_⟩
  rintro xs μ R _ ⟨a, l, g, mo, rfl, hl0, hl5, hm, hP, q⟩
  refine ⟨a, l, mo + 1, rfl, hP, by omega, by omega, fun c μ1 hc P1 S1 => ⟨by omega, by omega, fun pc hpc => ?_⟩⟩
  have hne := P1.ne hpc
  have hlen : (rngA 0 (c : Int).toNat).length = c := by rw [rngA_length]; omega
  refine comp_i (fun j acc τ μ' => ∃ (o : Option AV) (ns : List Nat), τ = [o, some (.R a), some (.D (gamD g))] ∧ acc = ns.map natA ∧ ns.length = j ∧ (∀ n ∈ ns, n < g.le.length) ∧ μ' pc = some (.lst acc) ∧ Pot μ' a l ∧ Ext2 a l μ1 μ') ⟨none, [], rfl, rfl, rfl, (fun _ z => nomatch z), updM_same, P1.new hpc, Ext2.refl.new hpc⟩ (fun _ _ _ _ _ => trivial) ?_ ?_
  · rintro j y acc τ μ4 Z2 hy ⟨o, ns, rfl, rfl, hn, hb, e4, P4, S4⟩ hZ2
    have hj : j < c := by rw [← hlen]; exact (List.getElem?_eq_some_iff.mp hy).1
    refine brT rfl (opt_i (atI_nat (j := 1) rfl) ⟨a, l, g.le.length, by rw [List.length_map], P4, hl0, by omega, fun v μ5 hv P5 S5 => ?_⟩)
    have e5 := S5 pc _ hne.1.symm hne.2.symm e4
    refine ⟨e5, small1000 (by rw [List.length_map]; omega), hZ2 _ _ _ ⟨_, ns ++ [v], rfl, by rw [List.map_append]; rfl, by rw [List.length_append, hn]; rfl, fun n hn' => ?_, updM_same, P5.other hne.1 hne.2, (S4.trans S5).put hpc⟩⟩
    rcases List.mem_append.mp hn' with h | h
    · exact hb n h
    · rw [List.mem_singleton.mp h]; exact hv
  · rintro acc τ μ4 ⟨o, ns, rfl, rfl, hn, hb, e4, P4, S4⟩
    rw [hlen] at hn
    exact opt_i (items_R e4) (opt_i (dats_nat ns) ⟨_, Sub.refl, q ns _ hb (by omega) P4 (S1.trans S4)⟩)
abbrev nSa : List Str := ["_law_deal_here", "_law_game_here", "_law_own", "_law_many", "_law_most", "_law_places", "_law_stands", "_law_arrows_here", "_law_k", "_law_arrow"]
theorem scSa : FnScope nSa ["_law_deal_here", "_law_game_here", "_law_own", "_law_many", "_law_most"] (defScope sSa) := ⟨rfl, rfl, rfl, by decide +kernel, rfl, by decide +kernel, by decide +kernel⟩
structure Say where
  own : Nat
  as : List Arw
  es : List Nat
def sayD (s : Say) : PyData := .tuple [.int s.own, .tuple (s.as.map arwD), natsD s.es]
structure SayOk (g : Gam) (s : Say) (own many : Nat) : Prop where
  o : s.own ≤ own
  n : s.as.length ≤ many
  c : ∀ a ∈ s.as, a.c = none
  p : ∀ a ∈ s.as, a.p < g.pl.length + s.own
  x : ∀ a ∈ s.as, a.x < g.le.length
  t : ∀ a ∈ s.as, ∀ t ∈ a.ts, t < g.pl.length + s.own
  tn : ∀ a ∈ s.as, a.ts.length ≤ own
  e : ∀ t ∈ s.es, t < g.pl.length + s.own
  en : s.es.length ≤ g.pl.length + s.own
def spSa : ASp := fun xs μ R => ∃ (a l : Addr) (g : Gam) (own many mo : Nat), xs = [.R a, .D (gamD g), .D (.int own), .D (.int many), .D (.int mo)] ∧ 0 < g.pl.length ∧ g.pl.length ≤ 5 ∧ 0 < g.le.length ∧ g.le.length ≤ 5 ∧ own ≤ 5 ∧ many ≤ 20 ∧ Pot μ a l ∧ ∀ (s : Say) μ', SayOk g s own many → Pot μ' a l → Ext2 a l μ μ' → R (.D (sayD s)) μ'
structure AwOk (g : Gam) (ow own : Nat) (a : Arw) : Prop where
  c : a.c = none
  p : a.p < g.pl.length + ow
  x : a.x < g.le.length
  t : ∀ t ∈ a.ts, t < g.pl.length + ow
  tn : a.ts.length ≤ own
theorem rng_nat : ∀ (n k : Nat), rngA (k : Int) n = (List.range' k n).map natA
  | 0, k => rfl
  | n + 1, k => by
    rw [List.range'_succ, List.map_cons, ← rng_nat n (k + 1)]
    rfl
theorem rng_nat0 (n : Nat) : rngA 0 n = (List.range n).map natA := by
  rw [List.range_eq_range']; exact rng_nat n 0
theorem ok_sa {n : Nat} (F : Fun K "_law_saying" "_law_saying" sSa f fd) (cDr : VCal P w K mg base n "_law_draw" ["_law_deal_here", "_law_many"] spDr) (cSo : VCal P w K mg base n "_law_some" ["_law_deal_here", "_law_stands", "_law_most"] spSo) (m_len : mg "len" = none) (m_list : mg "list" = none) (m_range : mg "range" = none) (m_tuple : mg "tuple" = none) (m_sorted : mg "sorted" = none) : FnOk P w K mg base CX0 (n + 1) f fd ["_law_deal_here", "_law_game_here", "_law_own", "_law_many", "_law_most"] (cSp K 5 spSa) := by
  refine F.vok scSa fun cdv A outer s H E hr => ⟨_, (vss_cons (vs_set (i := 5) scSa.nd rfl (Or.inl rfl) (ve_callB c_len rfl m_len PySem.boot_len (va_cons (ve_ix i_ix (vv 1) ve_int) va_nil)))
      (vss_cons (vs_set (i := 6) scSa.nd rfl (Or.inl rfl) (ve_lrng1 rfl rfl m_list rfl m_range (ve_op o_add (vv 5) (ve_call cDr hr rfl (va_cons (vv 0) (va_cons (ve_op o_add (vv 2) ve_int) va_nil))))))
      (vss_cons (vs_set (i := 7) scSa.nd rfl (Or.inl rfl) (ve_lst va_nil))
      (vss_cons (vs_for PassesOwn.never rfl (vi_range1 rfl m_range (va_cons (ve_call cDr hr rfl (va_cons (vv 0) (va_cons (ve_op o_add (vv 3) ve_int) va_nil))) va_nil)) (vg_name (i := 8) scSa.nd rfl (Or.inl rfl)) (vss_cons (vs_set (i := 9) scSa.nd rfl (Or.inl rfl) (ve_tup (va_cons (ve_call cDr hr rfl (va_cons (vv 0) (va_cons (ve_callB c_len rfl m_len PySem.boot_len (va_cons (vv 6) va_nil)) va_nil))) (va_cons (ve_call cDr hr rfl (va_cons (vv 0) (va_cons (ve_callB c_len rfl m_len PySem.boot_len (va_cons (ve_ix i_ix (vv 1) ve_int) va_nil)) va_nil))) (va_cons (ve_call cSo hr rfl (va_cons (vv 0) (va_cons (ve_slice (vv 6) (vo_some (vv 5)) vo_none) (va_cons (vv 4) va_nil)))) va_nil)))))
      (vss_one (vs_if (vt_cmp (o_notIn hr) (vv 9) (vv 7) (by with_unfolding_all rfl)) (vss_one (vs_expr (ve_ml PySem.F.slot_list_append PySem.F.type_list_append m_append (vv 7) (va_cons (vv 9) va_nil)))) vss_nil))))
      (vss_one (vs_ret (ve_tup (va_cons (ve_op o_sub (ve_callB c_len rfl m_len PySem.boot_len (va_cons (vv 6) va_nil)) (vv 5)) (va_cons (ve_callTy c_tuple rfl m_tuple PyProof.Rows.boot_tuple (va_cons (ve_callB (c_sorted hr) rfl m_sorted PyProof.Rows.boot_sorted (va_cons (vv 7) va_nil)) va_nil)) (va_cons (ve_call cSo hr rfl (va_cons (vv 0) (va_cons (vv 6) (va_cons (ve_callB c_len rfl m_len PySem.boot_len (va_cons (vv 6) va_nil)) va_nil)))) va_nil)))))))))), ?_⟩
  rintro xs μ R _ ⟨a, l, g, own, many, mo, rfl, hp0, hp5, hl0, hl5, ho, hm, hP, q⟩
  refine seq_i (fun τ μ' => τ = [some (.R a), some (.D (gamD g)), some (.D (.int own)), some (.D (.int many)), some (.D (.int mo)), some (.D (.int g.pl.length)), none, none, none, none] ∧ μ = μ') (fun Z hZ => opt_i (atI_nat (j := 0) rfl) (by rw [← List.length_map (f := plD)] at hZ; exact hZ _ _ ⟨rfl, rfl⟩)) ?_
  rintro τ _ ⟨rfl, rfl⟩
  refine seq_i (fun τ μ' => ∃ (ow : Nat) (ps : Addr), τ = [some (.R a), some (.D (gamD g)), some (.D (.int own)), some (.D (.int many)), some (.D (.int mo)), some (.D (.int g.pl.length)), some (.R ps), none, none, none] ∧ ow ≤ own ∧ ps ≠ a ∧ ps ≠ l ∧ μ' ps = some (.lst ((List.range (g.pl.length + ow)).map natA)) ∧ Pot μ' a l ∧ Ext2 a l μ μ') (fun Z hZ => ?_) ?_
  · refine ⟨a, l, own + 1, rfl, hP, by omega, by omega, fun v μ1 hv P1 S1 => ⟨by omega, fun ps hps => ?_⟩⟩
    have hne := P1.ne hps
    refine hZ _ _ ⟨v, ps, rfl, by omega, hne.1.symm, hne.2.symm, ?_, P1.new hps, S1.new hps⟩
    rw [updM_same, show ((g.pl.length : Int) + (v : Int)).toNat = g.pl.length + v by omega, rng_nat0]
  rintro τ μ1 ⟨ow, ps, rfl, how, sa, sl, s1, P1, S1⟩
  intro pf hpf
  have hne := P1.ne hpf
  have hpf0 : μ pf = none := S1.none hne.1 hne.2 hpf
  have hsf : ps ≠ pf := by rintro rfl; rw [s1] at hpf; cases hpf
  have hsl : ((List.range (g.pl.length + ow)).map natA).length = g.pl.length + ow := by simp
  refine seq_i (fun τ μ' => ∃ o8 o9, ∃ B : List Arw, τ = [some (.R a), some (.D (gamD g)), some (.D (.int own)), some (.D (.int many)), some (.D (.int mo)), some (.D (.int g.pl.length)), some (.R ps), some (.R pf), o8, o9] ∧ μ' pf = some (.lst (B.map fun b => .D (arwD b))) ∧ μ' ps = some (.lst ((List.range (g.pl.length + ow)).map natA)) ∧ B.length ≤ many ∧ (B.map arwD).Nodup ∧ (∀ b ∈ B, AwOk g ow own b) ∧ Pot μ' a l ∧ Ext2 a l μ μ') (fun Z hZ => ?_) ?_
  · refine ⟨a, l, many + 1, rfl, P1.new hpf, by omega, by omega, fun c μ2 hc P2 S2 => ⟨by omega, by omega, ?_⟩⟩
    have hlen : (rngA 0 (c : Int).toNat).length = c := by rw [rngA_length]; omega
    have e2 := S2 pf _ hne.1.symm hne.2.symm updM_same
    have s2 := S2 ps _ sa sl (by rw [updM_ne hsf]; exact s1)
    refine for_i (fun i τ μ' => ∃ o8 o9, ∃ B : List Arw, τ = [some (.R a), some (.D (gamD g)), some (.D (.int own)), some (.D (.int many)), some (.D (.int mo)), some (.D (.int g.pl.length)), some (.R ps), some (.R pf), o8, o9] ∧ μ' pf = some (.lst (B.map fun b => .D (arwD b))) ∧ μ' ps = some (.lst ((List.range (g.pl.length + ow)).map natA)) ∧ B.length ≤ i ∧ (B.map arwD).Nodup ∧ (∀ b ∈ B, AwOk g ow own b) ∧ Pot μ' a l ∧ Ext2 a l μ μ') ⟨none, none, [], rfl, e2, s2, Nat.le_refl _, List.nodup_nil, (fun _ z => nomatch z), P2, (S1.new hpf).trans S2⟩ (fun _ _ _ _ => trivial) ?_ ?_
    · rintro i y τ μ3 Z2 hy ⟨o8, o9, B, rfl, e3, s3, hB, nB, kB, P3, S3⟩ hZ2
      have hi : i < c := by rw [← hlen]; exact (List.getElem?_eq_some_iff.mp hy).1
      refine seq_i (fun τ μ' => ∃ v : Arw, τ = [some (.R a), some (.D (gamD g)), some (.D (.int own)), some (.D (.int many)), some (.D (.int mo)), some (.D (.int g.pl.length)), some (.R ps), some (.R pf), some y, some (.D (arwD v))] ∧ AwOk g ow own v ∧ μ' pf = some (.lst (B.map fun b => .D (arwD b))) ∧ μ' ps = some (.lst ((List.range (g.pl.length + ow)).map natA)) ∧ Pot μ' a l ∧ Ext2 a l μ μ') (fun Z3 hZ3 => ?_) ?_
      · refine opt_i s3 ⟨a, l, g.pl.length + ow, by rw [hsl], P3, by omega, by omega, fun p μ4 hp P4 S4 => opt_i (atI_nat (j := 1) rfl) ⟨a, l, g.le.length, by rw [List.length_map], P4, hl0, by omega, fun x μ5 hx P5 S5 => ?_⟩⟩
        have s5 := S5 ps _ sa sl (S4 ps _ sa sl s3)
        have e5 := S5 pf _ hne.1.symm hne.2.symm (S4 pf _ hne.1.symm hne.2.symm e3)
        refine opt_i (items_R s5) fun pc hpc => ?_
        have hnc := P5.ne hpc
        have hcf : pf ≠ pc := by rintro rfl; rw [e5] at hpc; cases hpc
        have hcs : ps ≠ pc := by rintro rfl; rw [s5] at hpc; cases hpc
        rw [cutA_drop]
        refine ⟨a, l, pc, (List.range (g.pl.length + ow)).drop g.pl.length, mo, rfl, by simp; omega, hnc.1.symm, hnc.2.symm, updM_same, P5.new hpc, fun ts μ6 hsub hts P6 S6 => hZ3 _ _ ⟨⟨p, x, ts, none⟩, rfl, ⟨rfl, hp, hx, fun t ht => ?_, ?_⟩, S6 pf _ hne.1.symm hne.2.symm (by rw [updM_ne hcf]; exact e5), S6 ps _ sa sl (by rw [updM_ne hcs]; exact s5), P6, (((S3.trans S4).trans S5).new hpc).trans S6⟩⟩
        · exact List.mem_range.mp (List.mem_of_mem_drop (hsub.subset ht))
        · have := hsub.length_le
          rw [List.length_drop, List.length_range] at this
          show ts.length ≤ own
          omega
      rintro τ μ4 ⟨v, rfl, hv, e4, s4, P4, S4⟩
      refine opt_i rfl (opt_i (items_R e4) (opt_i (dats_arw B) ⟨arw_eqOk v, arws_eqOk B, br (fun c1 => ?_) (fun c1 => ?_)⟩))
      · have c1' : ((B.map arwD).any fun e => PyData.eqv e (arwD v)) = false := by simpa using c1
        refine ⟨opt_i e4 trivial, opt_i e4 ⟨small1000 (by rw [List.length_map]; omega), hZ2 _ _ ⟨_, _, B ++ [v], rfl, by rw [updM_same, List.map_append]; rfl, by rw [updM_ne hsf]; exact s4, by rw [List.length_append]; show B.length + 1 ≤ _; omega, ?_, fun b hb => ?_, P4.other hne.1 hne.2, S4.put hpf0⟩⟩⟩
        · rw [List.map_append]
          refine List.nodup_append.mpr ⟨nB, List.nodup_cons.mpr ⟨by simp, List.nodup_nil⟩, fun z hz z' hz' e => ?_⟩
          have e' : z' = arwD v := by simpa using hz'
          rw [e, e'] at hz
          exact not_any c1' hz
        · rcases List.mem_append.mp hb with hb | hb
          · exact kB b hb
          · rw [List.mem_singleton.mp hb]; exact hv
      · exact hZ2 _ _ ⟨_, _, B, rfl, e4, s4, by omega, nB, kB, P4, S4⟩
    · rintro τ μ3 ⟨o8, o9, B, rfl, e3, s3, hB, nB, kB, P3, S3⟩
      rw [hlen] at hB
      exact hZ _ _ ⟨_, _, B, rfl, e3, s3, by omega, nB, kB, P3, S3⟩
  · rintro τ μ3 ⟨o8, o9, B, rfl, e3, s3, hB, nB, kB, P3, S3⟩
    refine opt_i s3 (opt_i e3 (opt_i (dats_arw B) ⟨arw_sort (k := false) (by omega) nB (fun b hb => by rw [(kB b hb).c]; rfl), fun es p hperm _ hp => ?_⟩))
    obtain ⟨A', rfl, hl', hA'⟩ := unmap (g := arwD) (B := B) (es := es) fun e he => hperm.mem_iff.mp he
    have hl2 := hperm.length_eq
    rw [List.length_map, List.length_map] at hl2
    have hps : ps ≠ p := by rintro rfl; rw [s3] at hp; cases hp
    have s4 : updM μ3 p (.lst ((A'.map arwD).map .D)) ps = some (.lst ((List.range (g.pl.length + ow)).map natA)) := by rw [updM_ne hps]; exact s3
    refine opt_i (items_R updM_same) (opt_i (dats_map _) (opt_i s4 ⟨a, l, ps, List.range (g.pl.length + ow), g.pl.length + ow, by rw [hsl], by simp; omega, sa, sl, s4, P3.new hp, fun ns μ5 hsub hns P5 S5 => ⟨_, Sub.refl, ?_⟩⟩))
    rw [hsl]
    dsimp only
    rw [show ((g.pl.length + ow : Nat) : Int) - (g.pl.length : Int) = (ow : Nat) by omega]
    refine q ⟨ow, A', ns⟩ _ ⟨how, by show A'.length ≤ _; omega, fun b hb => (kB b (hA' b hb)).c, fun b hb => (kB b (hA' b hb)).p, fun b hb => (kB b (hA' b hb)).x, fun b hb => (kB b (hA' b hb)).t, fun b hb => (kB b (hA' b hb)).tn, fun t ht => List.mem_range.mp (hsub.subset ht), ?_⟩ P5 ((S3.new hp).trans S5)
    exact hns
end
section
variable {P : Program} {w : World} {K : PySem.W.Frag} {mg : Str → Option Value} {base : Heap} {f : Addr} {fd : FuncData}
def shf (k : Nat) (ts : List Nat) : List Nat := ts.map (k + ·)
def told1 (pl : Nat) (a : Arw) : List Arw := ⟨pl + a.p, a.x, shf pl a.ts, none⟩ :: (if a.p < pl then [⟨a.p, a.x, shf pl a.ts, none⟩] else [])
def toldL (pl : Nat) (C : List Arw) : List Arw := C.flatMap (told1 pl)
def endsL (pl : Nat) (es : List Nat) : List Nat := es.filter (fun e => decide (e < pl)) ++ es.map (pl + ·)
theorem told1_len (pl : Nat) (a : Arw) : (told1 pl a).length ≤ 2 := by unfold told1; split <;> simp
theorem toldL_len (pl : Nat) : ∀ (C : List Arw), (toldL pl C).length ≤ 2 * C.length
  | [] => Nat.le_refl _
  | a :: C => by
    have := toldL_len pl C
    have := told1_len pl a
    unfold toldL at *
    rw [List.flatMap_cons, List.length_append, List.length_cons]; omega
theorem toldL_c {pl : Nat} {C : List Arw} {b : Arw} (h : b ∈ toldL pl C) : b.c = none := by
  obtain ⟨a, _, hb⟩ := List.mem_flatMap.mp h
  unfold told1 at hb
  rcases List.mem_cons.mp hb with rfl | hb
  · rfl
  · split at hb
    · rw [List.mem_singleton.mp hb]
    · cases hb
def arwA (a : Arw) : AV := .D (arwD a)
theorem arw_tok {B : List Arw} {k : Bool} (hl : B.length < 60) (hc : ∀ a ∈ B, a.c.isSome = k) : TOk (B.map arwD) := by
  refine ⟨by rw [List.length_map]; omega, fun d hd => ?_, fun d hd => ?_, fun d hd e he => ?_⟩
  · obtain ⟨a, ha, rfl⟩ := List.mem_map.mp hd
    obtain ⟨h1, h2, h3⟩ := arw_ok a
    exact ⟨h3, h1, by omega⟩
  · obtain ⟨a, ha, rfl⟩ := List.mem_map.mp hd
    exact ⟨a.p, _, rfl⟩
  · obtain ⟨a, ha, rfl⟩ := List.mem_map.mp hd
    obtain ⟨b, hb, rfl⟩ := List.mem_map.mp he
    exact arw_cmp ((hc a ha).trans (hc b hb).symm)
theorem sub_new {μ ν : M} {p : Addr} {m : MO} (h : Sub μ ν) (e : ν p = none) : Sub μ (updM ν p m) := h.new (by
  cases c : μ p with
  | none => rfl
  | some x => rw [h p x c] at e; cases e)
theorem map_back {α β : Type} {f : α → β} {B : List α} : ∀ {es : List β}, (∀ e ∈ es, e ∈ B.map f) → ∃ C : List α, es = C.map f ∧ ∀ c ∈ C, c ∈ B
  | [], _ => ⟨[], rfl, fun _ z => nomatch z⟩
  | e :: es, h => by
    obtain ⟨b, hb, rfl⟩ := List.mem_map.mp (h e (.head _))
    obtain ⟨C, rfl, hC⟩ := map_back fun e' he' => h e' (.tail _ he')
    exact ⟨b :: C, rfl, fun c hc => by
      rcases List.mem_cons.mp hc with rfl | hc
      · exact hb
      · exact hC c hc⟩
abbrev nAs : List Str := ["game", "saying", "arrows", "places", "told", "stand", "letter", "targets", "cost", "moved", "ends"]
theorem scAs : FnScope nAs ["game", "saying", "arrows"] (defScope sAs) := ⟨rfl, rfl, rfl, by decide +kernel, rfl, by decide +kernel, by decide +kernel⟩
theorem ndAs1 : (["target", "places"] : List Str).Nodup := by decide +kernel
theorem ndAs2 : (["end", "places"] : List Str).Nodup := by decide +kernel
theorem ndAs3 : (["end", "places"] : List Str).Nodup := by decide +kernel
structure AsIn (C : List Arw) (es : List Nat) : Prop where
  n : C.length ≤ 12
  c : ∀ a ∈ C, a.c.isSome = true
  t : ∀ a ∈ C, a.ts.length ≤ 10
  e : es.length ≤ 10
def spAs : ASp := fun xs μ R => ∃ (g : Gam) (S : Say) (C : List Arw), xs = [.D (gamD g), .D (sayD S), .D (.tuple (C.map arwD))] ∧ AsIn C S.es ∧ ∀ (es : List PyData) μ', es.Pairwise (fun a b => ltT a b = true) → (∀ d, d ∈ es ↔ d ∈ (toldL g.pl.length C).map arwD) → Sub μ μ' → R (.D (.tuple [.int ((g.pl.length : Nat) + (S.own : Nat) : Int), .tuple es, natsD (endsL g.pl.length S.es)])) μ'
theorem ok_as {n : Nat} (F : Fun K "as_saying" "as_saying" sAs f fd) (m_len : mg "len" = none) (m_tuple : mg "tuple" = none) (m_sorted : mg "sorted" = none) (m_set : mg "set" = none) : FnOk P w K mg base CX0 (n + 1) f fd ["game", "saying", "arrows"] (cSp K 3 spAs) := by
  refine F.vok scAs fun cdv A outer s H E hr => ⟨_, (vss_cons (vs_set (i := 3) scAs.nd rfl (Or.inr rfl) (ve_callB c_len rfl m_len PySem.boot_len (va_cons (ve_ix i_ix (vv 0) ve_int) va_nil)))
      (vss_cons (vs_set (i := 4) scAs.nd rfl (Or.inl rfl) (ve_lst va_nil))
      (vss_cons (vs_for PassesOwn.never rfl (vi_seq (vv 2)) (vg_tup (n := 4) rfl (vgs_cons (vg_name (i := 5) scAs.nd rfl (Or.inl rfl)) (vgs_cons (vg_name (i := 6) scAs.nd rfl (Or.inl rfl)) (vgs_cons (vg_name (i := 7) scAs.nd rfl (Or.inl rfl)) (vgs_cons (vg_name (i := 8) scAs.nd rfl (Or.inl rfl)) vgs_nil))))) (vss_cons (vs_set (i := 9) scAs.nd rfl (Or.inl rfl) (ve_callTy c_tuple rfl m_tuple PyProof.Rows.boot_tuple (va_cons (ve_comp (N' := ["target", "places"]) (mp := [none, some 3]) rfl (vi_seq (vv 7)) (fun _ _ _ _ => (vg_name (i := 0) ndAs1 rfl (Or.inl rfl) (Or.inr rfl))) (fun _ _ _ _ => vifs_nil) (fun _ _ _ _ => (ve_op o_add (vv 1) (vv 0))) (compOk_of (N := nAs) (pn := (defScope sAs).names) (by decide +kernel))) va_nil)))
      (vss_cons (vs_expr (ve_ml PySem.F.slot_list_append PySem.F.type_list_append m_append (vv 4) (va_cons (ve_tup (va_cons (ve_op o_add (vv 3) (vv 5)) (va_cons (vv 6) (va_cons (vv 9) va_nil)))) va_nil)))
      (vss_one (vs_if (vt_cmp o_lt (vv 5) (vv 3) (nomark _)) (vss_one (vs_expr (ve_ml PySem.F.slot_list_append PySem.F.type_list_append m_append (vv 4) (va_cons (ve_tup (va_cons (vv 5) (va_cons (vv 6) (va_cons (vv 9) va_nil)))) va_nil)))) vss_nil)))))
      (vss_cons (vs_set (i := 10) scAs.nd rfl (Or.inl rfl) (ve_op o_add (ve_comp (N' := ["end", "places"]) (mp := [none, some 3]) rfl (vi_seq (ve_ix i_ix (vv 1) ve_int)) (fun _ _ _ _ => (vg_name (i := 0) ndAs2 rfl (Or.inl rfl) (Or.inr rfl))) (fun _ _ _ _ => (vifs_one (vt_cmp o_lt (vv 0) (vv 1) (nomark _)))) (fun _ _ _ _ => (vv 0)) (compOk_of (N := nAs) (pn := (defScope sAs).names) (by decide +kernel))) (ve_comp (N' := ["end", "places"]) (mp := [none, some 3]) rfl (vi_seq (ve_ix i_ix (vv 1) ve_int)) (fun _ _ _ _ => (vg_name (i := 0) ndAs3 rfl (Or.inl rfl) (Or.inr rfl))) (fun _ _ _ _ => vifs_nil) (fun _ _ _ _ => (ve_op o_add (vv 1) (vv 0))) (compOk_of (N := nAs) (pn := (defScope sAs).names) (by decide +kernel)))))
      (vss_one (vs_ret (ve_tup (va_cons (ve_op o_add (vv 3) (ve_ix i_ix (vv 1) ve_int)) (va_cons (ve_callTy c_tuple rfl m_tuple PyProof.Rows.boot_tuple (va_cons (ve_tset hr rfl m_sorted rfl m_set (vv 4)) va_nil)) (va_cons (ve_callTy c_tuple rfl m_tuple PyProof.Rows.boot_tuple (va_cons (vv 10) va_nil)) va_nil)))))))))), ?_⟩
  rintro xs μ R _ ⟨g, S, C, rfl, I, q⟩
  have hI := I.n
  refine seq_i (fun τ μ' => τ = [some (.D (gamD g)), some (.D (sayD S)), some (.D (.tuple (C.map arwD))), some (.D (.int g.pl.length)), none, none, none, none, none, none, none] ∧ μ = μ') (fun Z hZ => opt_i (atI_nat (j := 0) rfl) (by rw [← List.length_map (f := plD)] at hZ; exact hZ _ _ ⟨rfl, rfl⟩)) ?_
  rintro τ _ ⟨rfl, rfl⟩
  generalize hpl : g.pl.length = pl at q ⊢
  intro pt hpt
  refine seq_i (fun τ μ' => ∃ o5 o6 o7 o8 o9, τ = [some (.D (gamD g)), some (.D (sayD S)), some (.D (.tuple (C.map arwD))), some (.D (.int pl)), some (.R pt), o5, o6, o7, o8, o9, none] ∧ μ' pt = some (.lst ((toldL pl C).map arwA)) ∧ Sub μ μ') (fun Z hZ => ?_) ?_
  · refine opt_i (arw_items C) ?_
    refine for_i (fun i τ μ' => ∃ o5 o6 o7 o8 o9, τ = [some (.D (gamD g)), some (.D (sayD S)), some (.D (.tuple (C.map arwD))), some (.D (.int pl)), some (.R pt), o5, o6, o7, o8, o9, none] ∧ μ' pt = some (.lst ((toldL pl (C.take i)).map arwA)) ∧ Sub μ μ') ⟨none, none, none, none, none, rfl, updM_same, Sub.refl.new hpt⟩ (fun _ _ _ _ => arw_items C) ?_ ?_
    · rintro i y τ μ1 Z2 hy ⟨o5, o6, o7, o8, o9, rfl, e1, S1⟩ hZ2
      rw [List.getElem?_map] at hy
      obtain ⟨a, ha, rfl⟩ := Option.map_eq_some_iff.mp hy
      have ham := List.mem_of_getElem? ha
      have hats := I.t a ham
      have hac := I.c a ham
      have hi : i < C.length := (List.getElem?_eq_some_iff.mp ha).1
      have htk : toldL pl (C.take (i + 1)) = toldL pl (C.take i) ++ told1 pl a := by unfold toldL; rw [List.take_succ, ha, List.flatMap_append]; simp
      have hln := toldL_len pl (C.take i)
      rw [List.length_take] at hln
      obtain ⟨p, x, ts, c⟩ := a
      cases c with
      | none => cases hac
      | some c =>
        refine ⟨rfl, ?_⟩
        rw [show List.map AV.D (arwL ⟨p, x, ts, some c⟩) = [.D (.int p), .D (.int x), .D (natsD ts), .D (.int c)] from rfl]
        dsimp only [wCons, wName, wNil, List.set]
        refine seq_i (fun τ μ' => τ = [some (.D (gamD g)), some (.D (sayD S)), some (.D (.tuple (C.map arwD))), some (.D (.int pl)), some (.R pt), some (.D (.int p)), some (.D (.int x)), some (.D (natsD ts)), some (.D (.int c)), some (.D (natsD (shf pl ts))), none] ∧ μ' pt = some (.lst ((toldL pl (C.take i)).map arwA)) ∧ Sub μ μ') (fun Z3 hZ3 => ?_) ?_
        · refine opt_i (nats_items ts) fun pc hpc => ?_
          have hcp : pt ≠ pc := by rintro rfl; rw [e1] at hpc; cases hpc
          refine cmap ts _ (fun t => natA (pl + t)) (fun τ => ∃ o, τ = [o, some (.D (.int pl))]) ⟨none, rfl⟩ updM_same (seven (by simpa using Nat.le_trans hats (by decide))) (fun _ => nats_items ts) ?_ ?_
          · rintro k t τ' acc W hk ⟨o, rfl⟩ hW
            exact hW _ ⟨_, rfl⟩
          · refine opt_i (items_R updM_same) (opt_i (x := (shf pl ts).map fun (n : Nat) => PyData.int n) ?_ (hZ3 _ _ ⟨rfl, by rw [updM_ne hcp, updM_ne hcp]; exact e1, fun b m hb => ?_⟩))
            · rw [show (ts.map fun t => natA (pl + t)) = (shf pl ts).map natA by rw [shf, List.map_map]; rfl]; exact dats_nat _
            · have h1 := S1 b m hb
              have b1 : b ≠ pc := by rintro rfl; rw [h1] at hpc; cases hpc
              rw [updM_ne b1, updM_ne b1]; exact h1
        rintro τ μ2 ⟨rfl, e2, S2⟩
        have keep : ∀ (μ' : M) o, Sub μ μ' → Sub μ (updM μ' pt o) := fun μ' o Sx b m hb => by
          have b1 : b ≠ pt := by rintro rfl; rw [hpt] at hb; cases hb
          rw [updM_ne b1]; exact Sx b m hb
        refine seq_d ⟨opt_i e2 trivial, opt_i e2 ⟨small1000 (by rw [List.length_map]; omega), ?_⟩⟩
        refine dif (fun c1 => ⟨opt_i updM_same trivial, opt_i updM_same ⟨small1000 (by rw [List.length_append, List.length_map]; show _ + 1 ≤ _; omega), hZ2 _ _ ⟨_, _, _, _, _, rfl, ?_, keep _ _ (keep _ _ S2)⟩⟩⟩) (fun c1 => hZ2 _ _ ⟨_, _, _, _, _, rfl, ?_, keep _ _ S2⟩)
        · rw [updM_same, htk, List.map_append, told1, if_pos (show p < pl by omega), List.append_assoc]; rfl
        · rw [updM_same, htk, List.map_append, told1, if_neg (show ¬ p < pl by omega)]; rfl
    · rintro τ μ1 ⟨o5, o6, o7, o8, o9, rfl, e1, S1⟩
      rw [List.length_map, List.take_length] at e1
      exact hZ _ _ ⟨_, _, _, _, _, rfl, e1, S1⟩
  rintro τ μ1 ⟨o5, o6, o7, o8, o9, rfl, e1, S1⟩
  refine seq_i (fun τ μ' => ∃ pe, τ = [some (.D (gamD g)), some (.D (sayD S)), some (.D (.tuple (C.map arwD))), some (.D (.int pl)), some (.R pt), o5, o6, o7, o8, o9, some (.R pe)] ∧ μ' pe = some (.lst ((endsL pl S.es).map natA)) ∧ μ' pt = some (.lst ((toldL pl C).map arwA)) ∧ Sub μ μ') (fun Z hZ => ?_) ?_
  · have hSe := I.e
    refine opt_i (atI_nat (j := 2) rfl) (opt_i (nats_items S.es) fun p1 hp1 => ?_)
    have h1t : pt ≠ p1 := by rintro rfl; rw [e1] at hp1; cases hp1
    refine cmapf S.es _ (fun e => decide (e < pl)) natA (fun τ => ∃ o, τ = [o, some (.D (.int pl))]) ⟨none, rfl⟩ updM_same (seven (by omega)) (fun _ => nats_items S.es) ?_ ?_
    · rintro k e τ' acc W W2 hk ⟨o, rfl⟩ w1 w2
      exact dif (fun c => w1 (decide_eq_true (by omega)) _ ⟨_, rfl⟩) (fun c => w2 (decide_eq_false (by omega)) _ ⟨_, rfl⟩)
    · have e2 : updM (updM μ1 p1 (.lst [])) p1 (.lst ((S.es.filter fun e => decide (e < pl)).map natA)) pt = some (.lst ((toldL pl C).map arwA)) := by rw [updM_ne h1t, updM_ne h1t]; exact e1
      have f2 : updM (updM μ1 p1 (.lst [])) p1 (.lst ((S.es.filter fun e => decide (e < pl)).map natA)) p1 = some (.lst ((S.es.filter fun e => decide (e < pl)).map natA)) := updM_same
      have S2 : Sub μ (updM (updM μ1 p1 (.lst [])) p1 (.lst ((S.es.filter fun e => decide (e < pl)).map natA))) := fun b m hb => by
        have h1 := S1 b m hb
        have b1 : b ≠ p1 := by rintro rfl; rw [h1] at hp1; cases hp1
        rw [updM_ne b1, updM_ne b1]; exact h1
      generalize updM (updM μ1 p1 (.lst [])) p1 (.lst ((S.es.filter fun e => decide (e < pl)).map natA)) = μ2 at e2 f2 S2
      refine opt_i (atI_nat (j := 2) rfl) (opt_i (nats_items S.es) fun p2 hp2 => ?_)
      have h2t : pt ≠ p2 := by rintro rfl; rw [e2] at hp2; cases hp2
      have h21 : p1 ≠ p2 := by rintro rfl; rw [f2] at hp2; cases hp2
      refine cmap S.es _ (fun e => natA (pl + e)) (fun τ => ∃ o, τ = [o, some (.D (.int pl))]) ⟨none, rfl⟩ updM_same (seven (by omega)) (fun _ => nats_items S.es) ?_ ?_
      · rintro k e τ' acc W hk ⟨o, rfl⟩ hW
        exact hW _ ⟨_, rfl⟩
      · have e3 : updM (updM μ2 p2 (.lst [])) p2 (.lst (S.es.map fun e => natA (pl + e))) pt = some (.lst ((toldL pl C).map arwA)) := by rw [updM_ne h2t, updM_ne h2t]; exact e2
        have f3 : updM (updM μ2 p2 (.lst [])) p2 (.lst (S.es.map fun e => natA (pl + e))) p1 = some (.lst ((S.es.filter fun e => decide (e < pl)).map natA)) := by rw [updM_ne h21, updM_ne h21]; exact f2
        have hfl := List.length_filter_le (fun e => decide (e < pl)) S.es
        refine opt_i f3 (opt_i updM_same ⟨seven (by rw [List.length_map, List.length_map]; omega), fun p3 hp3 => hZ _ _ ⟨p3, rfl, ?_, ?_, fun b m hb => ?_⟩⟩)
        · rw [updM_same, endsL, List.map_append, List.map_map]; rfl
        · rw [updM_ne (by rintro rfl; rw [e3] at hp3; cases hp3)]; exact e3
        · have h1 := S2 b m hb
          have b1 : b ≠ p2 := by rintro rfl; rw [h1] at hp2; cases hp2
          have h2 : updM (updM μ2 p2 (.lst [])) p2 (.lst (S.es.map fun e => natA (pl + e))) b = some m := by rw [updM_ne b1, updM_ne b1]; exact h1
          rw [updM_ne (by rintro rfl; rw [h2] at hp3; cases hp3)]; exact h2
  rintro τ μ2 ⟨pe, rfl, e2, f2, S2⟩
  have hln := toldL_len pl C
  refine opt_i (atI_nat (j := 0) rfl) (opt_i (items_R f2) (opt_i (dats_arw (toldL pl C)) ⟨arw_tok (k := false) (by omega) fun b hb => by rw [toldL_c hb]; rfl, fun es p hnd hmem hup hp => ?_⟩))
  have hpe : pe ≠ p := by rintro rfl; rw [e2] at hp; cases hp
  refine opt_i (items_R updM_same) (opt_i (dats_map _) (opt_i (items_R (by rw [updM_ne hpe]; exact e2)) (opt_i (dats_nat _) ⟨_, Sub.refl, q es _ hup hmem (sub_new S2 hp)⟩)))
end
section
variable {P : Program} {w : World} {K : PySem.W.Frag} {mg : Str → Option Value} {base : Heap} {f : Addr} {fd : FuncData}
structure AO (st le : Nat) (a : Arw) : Prop where
  c : a.c.isSome = true
  p : a.p < st
  x : a.x < le
  t : ∀ t ∈ a.ts, t < st
  tn : a.ts.length ≤ st
abbrev nAr : List Str := ["_law_deal_here", "_law_game_here", "_law_stands", "_law_found", "_law_k", "_law_targets", "_law_arrow"]
theorem scAr : FnScope nAr ["_law_deal_here", "_law_game_here", "_law_stands"] (defScope sAr) := ⟨rfl, rfl, rfl, by decide +kernel, rfl, by decide +kernel, by decide +kernel⟩
def spAr : ASp := fun xs μ R => ∃ (a l : Addr) (g : Gam) (st : Nat), xs = [.R a, .D (gamD g), .D (.int st)] ∧ 0 < st ∧ st ≤ 5 ∧ 0 < g.le.length ∧ g.le.length ≤ 3 ∧ Pot μ a l ∧ ∀ (C : List Arw) μ', C.length ≤ 12 → (∀ b ∈ C, AO st g.le.length b) → Pot μ' a l → Ext2 a l μ μ' → R (.D (.tuple (C.map arwD))) μ'
theorem ok_ar {n : Nat} (F : Fun K "_law_arrows" "_law_arrows" sAr f fd) (cDr : VCal P w K mg base n "_law_draw" ["_law_deal_here", "_law_many"] spDr) (cSo : VCal P w K mg base n "_law_some" ["_law_deal_here", "_law_stands", "_law_most"] spSo) (m_range : mg "range" = none) (m_list : mg "list" = none) (m_len : mg "len" = none) (m_tuple : mg "tuple" = none) (m_sorted : mg "sorted" = none) (m_set : mg "set" = none) : FnOk P w K mg base CX0 (n + 1) f fd ["_law_deal_here", "_law_game_here", "_law_stands"] (cSp K 3 spAr) := by
  refine F.vok scAr fun cdv A outer s H E hr => ⟨_, (vss_cons (vs_set (i := 3) scAr.nd rfl (Or.inl rfl) (ve_lst va_nil))
      (vss_cons (vs_for PassesOwn.never rfl (vi_range1 rfl m_range (va_cons (ve_call cDr hr rfl (va_cons (vv 0) (va_cons ve_int va_nil))) va_nil)) (vg_name (i := 4) scAr.nd rfl (Or.inl rfl)) (vss_cons (vs_set (i := 5) scAr.nd rfl (Or.inl rfl) (ve_call cSo hr rfl (va_cons (vv 0) (va_cons (ve_lrng1 rfl rfl m_list rfl m_range (vv 2)) (va_cons (vv 2) va_nil)))))
      (vss_cons (vs_set (i := 6) scAr.nd rfl (Or.inl rfl) (ve_tup (va_cons (ve_call cDr hr rfl (va_cons (vv 0) (va_cons (vv 2) va_nil))) (va_cons (ve_call cDr hr rfl (va_cons (vv 0) (va_cons (ve_callB c_len rfl m_len PySem.boot_len (va_cons (ve_ix i_ix (vv 1) ve_int) va_nil)) va_nil))) (va_cons (vv 5) (va_cons (ve_call cDr hr rfl (va_cons (vv 0) (va_cons ve_int va_nil))) va_nil))))))
      (vss_cons (vs_if (VW.pt (vw_and (vt_cmp o_gt (ve_callB c_len rfl m_len PySem.boot_len (va_cons (vv 3) va_nil)) ve_int (nomark _)) (vw_and1 (vt_cmp (o_eq hr) (ve_call cDr hr rfl (va_cons (vv 0) (va_cons ve_int va_nil))) ve_int (nomark _))))) (vss_one (vs_set (i := 6) scAr.nd rfl (Or.inl rfl) (ve_op o_add (ve_slice (ve_ix i_ix (vv 3) (ve_call cDr hr rfl (va_cons (vv 0) (va_cons (ve_callB c_len rfl m_len PySem.boot_len (va_cons (vv 3) va_nil)) va_nil)))) vo_none (vo_some ve_int)) (ve_tup (va_cons (ve_op o_add ve_int (vv 4)) va_nil))))) vss_nil)
      (vss_one (vs_expr (ve_ml PySem.F.slot_list_append PySem.F.type_list_append m_append (vv 3) (va_cons (vv 6) va_nil))))))))
      (vss_one (vs_ret (ve_callTy c_tuple rfl m_tuple PyProof.Rows.boot_tuple (va_cons (ve_tset hr rfl m_sorted rfl m_set (vv 3)) va_nil)))))), ?_⟩
  rintro xs μ R _ ⟨a, l, g, st, rfl, hs0, hs5, hl0, hl3, hP, q⟩
  intro pf hpf
  have hne := hP.ne hpf
  refine seq_i (fun τ μ' => ∃ o4 o5 o6, ∃ B : List Arw, τ = [some (.R a), some (.D (gamD g)), some (.D (.int st)), some (.R pf), o4, o5, o6] ∧ μ' pf = some (.lst (B.map arwA)) ∧ B.length ≤ 12 ∧ (∀ b ∈ B, AO st g.le.length b) ∧ Pot μ' a l ∧ Ext2 a l μ μ') (fun Z hZ => ?_) ?_
  · refine ⟨a, l, 13, rfl, hP.new hpf, by decide, by decide, fun c μ2 hc P2 S2 => ⟨by omega, by omega, ?_⟩⟩
    have hlen : (rngA 0 (c : Int).toNat).length = c := by rw [rngA_length]; omega
    refine for_i (fun i τ μ' => ∃ o4 o5 o6, ∃ B : List Arw, τ = [some (.R a), some (.D (gamD g)), some (.D (.int st)), some (.R pf), o4, o5, o6] ∧ μ' pf = some (.lst (B.map arwA)) ∧ B.length ≤ i ∧ (∀ b ∈ B, AO st g.le.length b) ∧ Pot μ' a l ∧ Ext2 a l μ μ') ⟨none, none, none, [], rfl, S2 pf _ hne.1.symm hne.2.symm updM_same, Nat.le_refl _, (fun _ z => nomatch z), P2, (Ext2.refl.new hpf).trans S2⟩ (fun _ _ _ _ => trivial) ?_ ?_
    · rintro i y τ μ3 Z2 hy ⟨o4, o5, o6, B, rfl, e3, hB, kB, P3, S3⟩ hZ2
      have hi : i < c := by rw [← hlen]; exact (List.getElem?_eq_some_iff.mp hy).1
      have ey := rngA_get _ _ _ hy
      rw [Int.zero_add] at ey
      subst ey
      refine seq_i (fun τ μ' => ∃ ts : List Nat, τ = [some (.R a), some (.D (gamD g)), some (.D (.int st)), some (.R pf), some (.D (.int i)), some (.D (natsD ts)), o6] ∧ (∀ t ∈ ts, t < st) ∧ ts.length ≤ st ∧ μ' pf = some (.lst (B.map arwA)) ∧ Pot μ' a l ∧ Ext2 a l μ μ') (fun Z3 hZ3 => ?_) ?_
      · refine ⟨⟨by omega, by omega⟩, fun ps hps => ?_⟩
        have hns := P3.ne hps
        have hsf : pf ≠ ps := by rintro rfl; rw [e3] at hps; cases hps
        refine ⟨a, l, ps, List.range st, st, rfl, by rw [List.length_range]; omega, hns.1.symm, hns.2.symm, by rw [updM_same, show ((st : Nat) : Int).toNat = st by omega, rng_nat0], P3.new hps, fun ts μ4 hsub hts P4 S4 => hZ3 _ _ ⟨ts, rfl, fun t ht => List.mem_range.mp (hsub.subset ht), hts, S4 pf _ hne.1.symm hne.2.symm (by rw [updM_ne hsf]; exact e3), P4, (S3.new hps).trans S4⟩⟩
      rintro τ μ4 ⟨ts, rfl, ht, htl, e4, P4, S4⟩
      refine seq_i (fun τ μ' => ∃ v : Arw, τ = [some (.R a), some (.D (gamD g)), some (.D (.int st)), some (.R pf), some (.D (.int i)), some (.D (natsD ts)), some (arwA v)] ∧ AO st g.le.length v ∧ μ' pf = some (.lst (B.map arwA)) ∧ Pot μ' a l ∧ Ext2 a l μ μ') (fun Z3 hZ3 => ?_) ?_
      · exact ⟨a, l, st, rfl, P4, hs0, by omega, fun p μ5 hp P5 S5 => opt_i (atI_nat (j := 1) rfl) ⟨a, l, g.le.length, by rw [List.length_map], P5, hl0, by omega, fun x μ6 hx P6 S6 => ⟨a, l, 9, rfl, P6, by decide, by decide, fun ct μ7 hct P7 S7 => hZ3 _ _ ⟨⟨p, x, ts, some ct⟩, rfl, ⟨rfl, hp, hx, ht, htl⟩, S7 pf _ hne.1.symm hne.2.symm (S6 pf _ hne.1.symm hne.2.symm (S5 pf _ hne.1.symm hne.2.symm e4)), P7, S4.trans (S5.trans (S6.trans S7))⟩⟩⟩⟩
      rintro τ μ5 ⟨v, rfl, hv, e5, P5, S5⟩
      refine seq_i (fun τ μ' => ∃ v : Arw, τ = [some (.R a), some (.D (gamD g)), some (.D (.int st)), some (.R pf), some (.D (.int i)), some (.D (natsD ts)), some (arwA v)] ∧ AO st g.le.length v ∧ μ' pf = some (.lst (B.map arwA)) ∧ Pot μ' a l ∧ Ext2 a l μ μ') (fun Z3 hZ3 => ?_) ?_
      · refine opt_i e5 (dif (fun c1 => ?_) (fun c1 => brF rfl (hZ3 _ _ ⟨v, rfl, hv, e5, P5, S5⟩)))
        refine ⟨a, l, 4, rfl, P5, by decide, by decide, fun d μ6 hd P6 S6 => ?_⟩
        have e6 := S6 pf _ hne.1.symm hne.2.symm e5
        refine ieq (fun c2 => ?_) (fun c2 => hZ3 _ _ ⟨v, rfl, hv, e6, P6, S5.trans S6⟩)
        refine opt_i e6 ⟨a, l, (B.map arwA).length, rfl, P6, by omega, by rw [List.length_map]; omega, fun j μ7 hj P7 S7 => ?_⟩
        rw [List.length_map] at hj
        have e7 := S7 pf _ hne.1.symm hne.2.symm e6
        have kb := kB B[j] (List.getElem_mem hj)
        refine opt_i e7 (opt_i (atI_nat (v := arwA B[j]) (by rw [List.getElem?_map, List.getElem?_eq_getElem hj]; rfl)) ?_)
        generalize B[j] = b at kb
        obtain ⟨p, x, ts', cc⟩ := b
        cases cc with
        | none => cases kb.c
        | some cc =>
          exact ⟨(show 3 + 1 ≤ sizeLine by decide), hZ3 _ _ ⟨⟨p, x, ts', some (9 + i)⟩, rfl, ⟨rfl, kb.p, kb.x, kb.t, kb.tn⟩, e7, P7, S5.trans (S6.trans S7)⟩⟩
      rintro τ μ6 ⟨v2, rfl, hv2, e6, P6, S6⟩
      refine ⟨opt_i e6 trivial, opt_i e6 ⟨small1000 (by rw [List.length_map]; omega), hZ2 _ _ ⟨_, _, _, B ++ [v2], rfl, by rw [updM_same, List.map_append]; rfl, by rw [List.length_append]; show B.length + 1 ≤ _; omega, fun b hb => ?_, P6.other hne.1 hne.2, S6.put hpf⟩⟩⟩
      rcases List.mem_append.mp hb with hb | hb
      · exact kB b hb
      · rw [List.mem_singleton.mp hb]; exact hv2
    · rintro τ μ3 ⟨o4, o5, o6, B, rfl, e3, hB, kB, P3, S3⟩
      rw [hlen] at hB
      exact hZ _ _ ⟨_, _, _, B, rfl, e3, by omega, kB, P3, S3⟩
  rintro τ μ2 ⟨o4, o5, o6, B, rfl, e2, hB, kB, P2, S2⟩
  refine opt_i (items_R e2) (opt_i (dats_arw B) ⟨arw_tok (by omega) fun b hb => (kB b hb).c, fun es p hnd hmem hup hp => ?_⟩)
  obtain ⟨C, rfl, hC⟩ := map_back (f := arwD) (B := B) fun e he => (hmem e).mp he
  have hCl : C.length ≤ B.length := by
    have := sub_len2 hnd fun d hd => (hmem d).mp hd
    rwa [List.length_map, List.length_map] at this
  exact opt_i (items_R updM_same) (opt_i (dats_map _) ⟨_, Sub.refl, q C _ (by omega) (fun b hb => kB b (hC b hb)) (P2.new hp) (S2.new hp)⟩)
end
section
variable {P : Program} {w : World} {K : PySem.W.Frag} {mg : Str → Option Value} {base : Heap} {f : Addr} {fd : FuncData}
theorem ltT_uniq : ∀ {xs ys : List PyData}, xs.Pairwise (fun a b => ltT a b = true) → ys.Pairwise (fun a b => ltT a b = true) → (∀ d ∈ xs, Cano d = true) → (∀ d, d ∈ xs ↔ d ∈ ys) → xs = ys
  | [], [], _, _, _, _ => rfl
  | [], y :: ys, _, _, _, h => absurd ((h y).mpr (.head _)) (by simp)
  | x :: xs, [], _, _, _, h => absurd ((h x).mp (.head _)) (by simp)
  | x :: xs, y :: ys, hx, hy, hc, h => by
    obtain ⟨hx1, hx2⟩ := List.pairwise_cons.mp hx
    obtain ⟨hy1, hy2⟩ := List.pairwise_cons.mp hy
    have cx := hc x (.head _)
    have cy : Cano y = true := hc y ((h y).mpr (.head _))
    have e : x = y := by
      rcases List.mem_cons.mp ((h x).mp (.head _)) with e | m1
      · exact e
      · rcases List.mem_cons.mp ((h y).mpr (.head _)) with e | m2
        · exact e.symm
        · have := ltT_tr x y x cx cy cx (hx1 y m2) (hy1 x m1)
          rw [ltT_irr x cx] at this; cases this
    subst e
    rw [ltT_uniq hx2 hy2 (fun d hd => hc d (.tail _ hd)) fun d => ?_]
    constructor
    · intro hd
      rcases List.mem_cons.mp ((h d).mp (.tail _ hd)) with rfl | m
      · have := hx1 d hd; rw [ltT_irr d cx] at this; cases this
      · exact m
    · intro hd
      rcases List.mem_cons.mp ((h d).mpr (.tail _ hd)) with rfl | m
      · have := hy1 d hd; rw [ltT_irr d cx] at this; cases this
      · exact m
theorem ltNats_shf (k : Nat) : ∀ (a b : List Nat), ltTs ((shf k a).map fun (n : Nat) => PyData.int n) ((shf k b).map fun (n : Nat) => PyData.int n) = ltTs (a.map fun (n : Nat) => PyData.int n) (b.map fun (n : Nat) => PyData.int n)
  | [], [] => rfl
  | [], _ :: _ => rfl
  | _ :: _, [] => rfl
  | x :: a, y :: b => by
    have ih := ltNats_shf k a b
    have e1 : PyData.eqv (.int ((k + x : Nat) : Int)) (.int ((k + y : Nat) : Int)) = PyData.eqv (.int (x : Int)) (.int (y : Int)) := by
      rw [eqv_int, eqv_int]; exact decide_eq_decide.mpr ⟨fun h => by omega, fun h => by omega⟩
    have e2 : ltT (.int ((k + x : Nat) : Int)) (.int ((k + y : Nat) : Int)) = ltT (.int (x : Int)) (.int (y : Int)) := by
      show decide _ = decide _
      exact decide_eq_decide.mpr ⟨fun h => by omega, fun h => by omega⟩
    show (if PyData.eqv (.int ((k + x : Nat) : Int)) (.int ((k + y : Nat) : Int)) then ltTs ((shf k a).map fun (n : Nat) => PyData.int n) ((shf k b).map fun (n : Nat) => PyData.int n) else ltT (.int ((k + x : Nat) : Int)) (.int ((k + y : Nat) : Int))) = (if PyData.eqv (.int (x : Int)) (.int (y : Int)) then ltTs (a.map fun (n : Nat) => PyData.int n) (b.map fun (n : Nat) => PyData.int n) else ltT (.int (x : Int)) (.int (y : Int)))
    rw [e1, e2, ih]
theorem lt_arw {p x p' x' : Nat} {ts ts' : List Nat} : ltT (arwD ⟨p, x, ts, none⟩) (arwD ⟨p', x', ts', none⟩) = if p = p' then (if x = x' then (if natsD ts = natsD ts' then false else ltT (natsD ts) (natsD ts')) else decide (x < x')) else decide (p < p') := by
  have e1 : PyData.eqv (.int (p : Int)) (.int (p' : Int)) = decide (p = p') := by rw [eqv_int]; exact decide_eq_decide.mpr ⟨fun h => by omega, fun h => by omega⟩
  have e2 : PyData.eqv (.int (x : Int)) (.int (x' : Int)) = decide (x = x') := by rw [eqv_int]; exact decide_eq_decide.mpr ⟨fun h => by omega, fun h => by omega⟩
  have e3 : PyData.eqv (natsD ts) (natsD ts') = decide (natsD ts = natsD ts') := eqv_dec (by simp only [natsD, Cano]; exact nats_cano ts) (by simp only [natsD, Cano]; exact nats_cano ts')
  show (if PyData.eqv (.int (p : Int)) (.int (p' : Int)) then (if PyData.eqv (.int (x : Int)) (.int (x' : Int)) then (if PyData.eqv (natsD ts) (natsD ts') then false else ltT (natsD ts) (natsD ts')) else decide ((x : Int) < x')) else decide ((p : Int) < p')) = _
  rw [e1, e2, e3]
  by_cases h1 : p = p'
  · rw [if_pos (decide_eq_true h1), if_pos h1]
    by_cases h2 : x = x'
    · rw [if_pos (decide_eq_true h2), if_pos h2]
      by_cases h3 : natsD ts = natsD ts'
      · rw [if_pos (decide_eq_true h3), if_pos h3]
      · rw [if_neg (by simpa using h3), if_neg h3]
    · rw [if_neg (by simpa using h2), if_neg h2]
      exact decide_eq_decide.mpr ⟨fun h => by omega, fun h => by omega⟩
  · rw [if_neg (by simpa using h1), if_neg h1]
    exact decide_eq_decide.mpr ⟨fun h => by omega, fun h => by omega⟩
end
section
variable {P : Program} {w : World} {K : PySem.W.Frag} {mg : Str → Option Value} {base : Heap} {f : Addr} {fd : FuncData}
theorem nats_inj {a b : List Nat} (h : natsD a = natsD b) : a = b := by
  unfold natsD at h
  injection h with h
  exact List.map_inj_right (fun x y e => by injection e with e; omega) |>.mp h
theorem eqv_pair (a b c d : Nat) : PyData.eqv (natsD [a, b]) (natsD [c, d]) = (decide (a = c) && decide (b = d)) := by
  rw [eqv_dec rfl rfl, Bool.eq_iff_iff, decide_eq_true_iff, Bool.and_eq_true, decide_eq_true_iff, decide_eq_true_iff]
  constructor
  · intro h
    have := nats_inj h
    simp at this
    exact this
  · rintro ⟨rfl, rfl⟩; rfl
def ownS (pl st : Nat) : Nat := if st < pl then st else st - pl
def MemF (pl : Nat) (C : List Arw) (Q : Nat → Nat → Prop) (d : PyData) : Prop := ∃ a ∈ C, ∃ st, Q st a.x ∧ a.p = ownS pl st ∧ d = arwD ⟨st, a.x, shf pl a.ts, none⟩
structure Good (pl : Nat) (C : List Arw) (Q : Nat → Nat → Prop) (F : List Arw) : Prop where
  up : (F.map arwD).Pairwise fun a b => ltT a b = true
  m : ∀ d, d ∈ F.map arwD ↔ MemF pl C Q d
  q : ∀ b ∈ F, Q b.p b.x ∧ b.c = none
theorem Good.to {pl : Nat} {C : List Arw} {Q Q' : Nat → Nat → Prop} {F : List Arw} (h : Good pl C Q F) (hq : ∀ s x, (∃ a ∈ C, a.x = x ∧ a.p = ownS pl s) → (Q s x ↔ Q' s x)) (hq2 : ∀ s x, Q s x → Q' s x) : Good pl C Q' F :=
  ⟨h.up, fun d => (h.m d).trans ⟨fun ⟨a, ha, st, h1, h2, h3⟩ => ⟨a, ha, st, (hq st a.x ⟨a, ha, rfl, h2⟩).mp h1, h2, h3⟩, fun ⟨a, ha, st, h1, h2, h3⟩ => ⟨a, ha, st, (hq st a.x ⟨a, ha, rfl, h2⟩).mpr h1, h2, h3⟩⟩, fun b hb => ⟨hq2 _ _ (h.q b hb).1, (h.q b hb).2⟩⟩
theorem enum_nat : ∀ (L : List (List Nat)) (k : Nat), enumA k (L.map natsD) = (L.zipIdx k).map fun z => .D (.tuple [.int ((z.2 : Nat) : Int), natsD z.1])
  | [], _ => rfl
  | r :: rs, k => by
    rw [List.map_cons, enumA, enum_nat rs (k + 1), List.zipIdx_cons, List.map_cons]
def tsA (ts : List Nat) : AV := .D (natsD ts)
theorem dats_ts (L : List (List Nat)) : dats (L.map tsA) = some (L.map natsD) := by
  rw [show L.map tsA = (L.map natsD).map .D by rw [List.map_map]; rfl]; exact dats_map _
theorem nats_isInts (ts : List Nat) : IsInts (natsD ts) := ⟨ts.map fun (n : Nat) => (n : Int), by rw [natsD, List.map_map]; rfl⟩
theorem tss_eqOk (L : List (List Nat)) : EqOk (.tuple (L.map natsD)) := by
  have h : PyData.canLayAll0 (L.map natsD) = true ∧ PyData.depthAll (L.map natsD) ≤ 2 := by
    induction L with
    | nil => exact ⟨rfl, by simp [PyData.depthAll]⟩
    | cons t L ih =>
      have h1 := (nats_isInts t).ok
      simp only [List.map_cons, PyData.canLayAll0, PyData.depthAll, h1.1, ih.1]
      exact ⟨rfl, by have := h1.2.1; have := ih.2; omega⟩
  exact ⟨by simp only [PyData.canLay0]; exact h.1, by simp only [PyData.depth]; omega⟩
theorem ts_any (L : List (List Nat)) (t : List Nat) : ((L.map natsD).any fun e => PyData.eqv e (natsD t)) = decide (t ∈ L) := by
  rw [Bool.eq_iff_iff, List.any_eq_true, decide_eq_true_iff]
  constructor
  · rintro ⟨e, he, h⟩
    obtain ⟨y, hy, rfl⟩ := List.mem_map.mp he
    rw [eqv_dec (nats_isInts y).ok.2.2 (nats_isInts t).ok.2.2, decide_eq_true_iff] at h
    rw [← nats_inj h]; exact hy
  · intro h
    exact ⟨natsD t, List.mem_map.mpr ⟨t, h, rfl⟩, by rw [eqv_dec (nats_isInts t).ok.2.2 (nats_isInts t).ok.2.2]; exact decide_eq_true rfl⟩
abbrev nDu : List Str := ["_law_game_here", "_law_saying_here", "_law_arrows_here", "_law_places", "_law_found", "_law_stand", "_law_letter", "_law_own", "_law_there", "_law_targets", "_law_ends"]
theorem scDu : FnScope nDu ["_law_game_here", "_law_saying_here", "_law_arrows_here"] (defScope sDu) := ⟨rfl, rfl, rfl, by decide +kernel, rfl, by decide +kernel, by decide +kernel⟩
theorem ndDu1 : (["_law_arrow", "_law_own", "_law_letter"] : List Str).Nodup := by decide +kernel
theorem ndDu2 : (["_law_k", "_law_targets", "_law_there"] : List Str).Nodup := by decide +kernel
theorem ndDu3 : (["_law_target", "_law_places"] : List Str).Nodup := by decide +kernel
theorem ndDu4 : (["_law_stand", "_law_places"] : List Str).Nodup := by decide +kernel
theorem ndDu5 : (["_law_stand", "_law_places"] : List Str).Nodup := by decide +kernel
def spDu : ASp := fun xs μ R => ∃ (g : Gam) (S : Say) (C : List Arw), xs = [.D (gamD g), .D (sayD S), .D (.tuple (C.map arwD))] ∧ AsIn C S.es ∧ g.pl.length ≤ 3 ∧ 0 < g.le.length ∧ g.le.length ≤ 3 ∧ S.own ≤ 2 ∧ (∀ a ∈ C, a.x < g.le.length) ∧ ∀ (F : List Arw) μ', Good g.pl.length C (fun s _ => s < 2 * g.pl.length + S.own) F → Sub μ μ' → R (.D (.tuple [.int ((g.pl.length : Nat) + (S.own : Nat) : Int), .tuple (F.map arwD), natsD (endsL g.pl.length S.es)])) μ'
theorem ok_du {n : Nat} (F : Fun K "_law_due" "_law_due" sDu f fd) (m_len : mg "len" = none) (m_range : mg "range" = none) (m_int : mg "int" = none) (m_sorted : mg "sorted" = none) (m_enumerate : mg "enumerate" = none) (m_tuple : mg "tuple" = none) : FnOk P w K mg base CX0 (n + 1) f fd ["_law_game_here", "_law_saying_here", "_law_arrows_here"] (cSp K 3 spDu) := by
  refine F.vok scDu fun cdv A outer s H E hr => ⟨_, (vss_cons (vs_set (i := 3) scDu.nd rfl (Or.inr rfl) (ve_callB c_len rfl m_len PySem.boot_len (va_cons (ve_ix i_ix (vv 0) ve_int) va_nil)))
      (vss_cons (vs_set (i := 4) scDu.nd rfl (Or.inl rfl) (ve_lst va_nil))
      (vss_cons (vs_for PassesOwn.never rfl (vi_range1 rfl m_range (va_cons (ve_op o_add (ve_op o_mul ve_int (vv 3)) (ve_ix i_ix (vv 1) ve_int)) va_nil)) (vg_name (i := 5) scDu.nd rfl (Or.inl rfl)) (vss_one (vs_for PassesOwn.never rfl (vi_range1 rfl m_range (va_cons (ve_callB c_len rfl m_len PySem.boot_len (va_cons (ve_ix i_ix (vv 0) ve_int) va_nil)) va_nil)) (vg_name (i := 6) scDu.nd rfl (Or.inr rfl)) (vss_cons (vs_set (i := 7) scDu.nd rfl (Or.inr rfl) (ve_ix i_ix (ve_lst (va_cons (vv 5) (va_cons (ve_op o_sub (vv 5) (vv 3)) va_nil))) (ve_callTy c_int rfl m_int PyProof.Rows.boot_int (va_cons (ve_cmp o_ge (vv 5) (vv 3) (nomark _)) va_nil))))
      (vss_cons (vs_set (i := 8) scDu.nd rfl (Or.inr rfl) (ve_callB (c_sortedN hr) rfl m_sorted PyProof.Rows.boot_sorted (va_cons (ve_comp (N' := ["_law_arrow", "_law_own", "_law_letter"]) (mp := [none, some 7, some 6]) rfl (vi_seq (vv 2)) (fun _ _ _ _ => (vg_name (i := 0) ndDu1 rfl (Or.inl rfl) (Or.inr rfl))) (fun _ _ _ _ => (vifs_one (vt_cmp (o_eq hr) (ve_slice (vv 0) vo_none (vo_some ve_int)) (ve_tup (va_cons (vv 1) (va_cons (vv 2) va_nil))) (nomark _)))) (fun _ _ _ _ => (ve_ix i_ix (vv 0) ve_int)) (compOk_of (N := nDu) (pn := (defScope sDu).names) (by decide +kernel))) va_nil)))
      (vss_cons (vs_set (i := 8) scDu.nd rfl (Or.inr rfl) (ve_comp (N' := ["_law_k", "_law_targets", "_law_there"]) (mp := [none, none, some 8]) rfl (vi_enum rfl m_enumerate (vv 8)) (fun _ _ _ _ => (vg_tup (n := 2) rfl (vgs_cons (vg_name (i := 0) ndDu2 rfl (Or.inl rfl) (Or.inr rfl)) (vgs_cons (vg_name (i := 1) ndDu2 rfl (Or.inl rfl) (Or.inr rfl)) vgs_nil)))) (fun _ _ _ _ => (vifs_one (vt_cmp (o_notIn hr) (vv 1) (ve_slice (vv 2) vo_none (vo_some (vv 0))) (by with_unfolding_all rfl)))) (fun _ _ _ _ => (vv 1)) (compOk_of (N := nDu) (pn := (defScope sDu).names) (by decide +kernel))))
      (vss_one (vs_for PassesOwn.never rfl (vi_seq (vv 8)) (vg_name (i := 9) scDu.nd rfl (Or.inl rfl)) (vss_one (vs_expr (ve_ml PySem.F.slot_list_append PySem.F.type_list_append m_append (vv 4) (va_cons (ve_tup (va_cons (vv 5) (va_cons (vv 6) (va_cons (ve_callTy c_tuple rfl m_tuple PyProof.Rows.boot_tuple (va_cons (ve_comp (N' := ["_law_target", "_law_places"]) (mp := [none, some 3]) rfl (vi_seq (vv 9)) (fun _ _ _ _ => (vg_name (i := 0) ndDu3 rfl (Or.inl rfl) (Or.inr rfl))) (fun _ _ _ _ => vifs_nil) (fun _ _ _ _ => (ve_op o_add (vv 1) (vv 0))) (compOk_of (N := nDu) (pn := (defScope sDu).names) (by decide +kernel))) va_nil)) va_nil)))) va_nil))))))))))))
      (vss_cons (vs_setC (i := 10) (N' := ["_law_stand", "_law_places"]) (mp := [none, some 3]) rfl scDu.nd rfl rfl (vi_seq (ve_ix i_ix (vv 1) ve_int)) (fun _ _ _ _ => (vg_name (i := 0) ndDu4 rfl (Or.inl rfl) (Or.inr rfl))) (fun _ _ _ _ => (vifs_one (vt_cmp o_lt (vv 0) (vv 1) (nomark _)))) (fun _ _ _ _ => (vv 0)) (compOk_of (N := nDu) (pn := (defScope sDu).names) (by decide +kernel)))
      (vss_one (vs_ret (ve_tup (va_cons (ve_op o_add (vv 3) (ve_ix i_ix (vv 1) ve_int)) (va_cons (ve_callTy c_tuple rfl m_tuple PyProof.Rows.boot_tuple (va_cons (vv 4) va_nil)) (va_cons (ve_callTy c_tuple rfl m_tuple PyProof.Rows.boot_tuple (va_cons (ve_op o_add (vv 10) (ve_comp (N' := ["_law_stand", "_law_places"]) (mp := [none, some 3]) rfl (vi_seq (ve_ix i_ix (vv 1) ve_int)) (fun _ _ _ _ => (vg_name (i := 0) ndDu5 rfl (Or.inl rfl) (Or.inr rfl))) (fun _ _ _ _ => vifs_nil) (fun _ _ _ _ => (ve_op o_add (vv 1) (vv 0))) (compOk_of (N := nDu) (pn := (defScope sDu).names) (by decide +kernel)))) va_nil)) va_nil)))))))))), ?_⟩
  rintro xs μ R _ ⟨g, S, C, rfl, I, hp3, hl0, hl3, how, hCx, q⟩
  have hI := I.n
  refine seq_i (fun τ μ' => τ = [some (.D (gamD g)), some (.D (sayD S)), some (.D (.tuple (C.map arwD))), some (.D (.int g.pl.length)), none, none, none, none, none, none, none] ∧ μ = μ') (fun Z hZ => opt_i (atI_nat (j := 0) rfl) (by rw [← List.length_map (f := plD)] at hZ; exact hZ _ _ ⟨rfl, rfl⟩)) ?_
  rintro τ _ ⟨rfl, rfl⟩
  generalize hpl : g.pl.length = pl at q hp3 ⊢
  generalize hle : g.le.length = le at hl0 hl3 hCx
  intro pf hpf
  refine seq_i (fun τ μ' => ∃ o5 o6 o7 o8 o9, ∃ F : List Arw, τ = [some (.D (gamD g)), some (.D (sayD S)), some (.D (.tuple (C.map arwD))), some (.D (.int pl)), some (.R pf), o5, o6, o7, o8, o9, none] ∧ μ' pf = some (.lst (F.map arwA)) ∧ Good pl C (fun s _ => s < 2 * pl + S.own) F ∧ Sub μ μ') (fun Z hZ => ?_) ?_
  · refine ⟨.inl ⟨by decide, by decide⟩, opt_i (atI_nat (j := 0) rfl) ⟨by omega, by omega, ?_⟩⟩
    have hlen : (rngA 0 (2 * (pl : Int) + (S.own : Int)).toNat).length = 2 * pl + S.own := by rw [rngA_length]; omega
    refine for_i (fun i τ μ' => ∃ o5 o6 o7 o8 o9, ∃ F : List Arw, τ = [some (.D (gamD g)), some (.D (sayD S)), some (.D (.tuple (C.map arwD))), some (.D (.int pl)), some (.R pf), o5, o6, o7, o8, o9, none] ∧ μ' pf = some (.lst (F.map arwA)) ∧ Good pl C (fun s _ => s < i) F ∧ F.length ≤ i * 36 ∧ Sub μ μ') ⟨none, none, none, none, none, [], rfl, updM_same, ⟨List.Pairwise.nil, fun d => ⟨fun h => (by cases h), fun ⟨_, _, _, h, _⟩ => absurd h (Nat.not_lt_zero _)⟩, (fun _ z => nomatch z)⟩, Nat.zero_le _, Sub.refl.new hpf⟩ (fun _ _ _ _ => trivial) ?_ ?_
    · rintro i y τ μ1 Z2 hy ⟨o5, o6, o7, o8, o9, F1, rfl, e1, G1, hF1, S1⟩ hZ2
      have hi : i < 2 * pl + S.own := by rw [← hlen]; exact (List.getElem?_eq_some_iff.mp hy).1
      have ey := rngA_get _ _ _ hy
      rw [Int.zero_add] at ey
      subst ey
      have hlen2 : (rngA 0 (((g.le.map PyData.str).length : Nat) : Int).toNat).length = le := by rw [rngA_length, List.length_map]; omega
      refine opt_i (atI_nat (j := 1) rfl) ⟨by rw [List.length_map]; omega, by rw [List.length_map]; omega, ?_⟩
      refine for_i (fun j τ μ' => ∃ o6 o7 o8 o9, ∃ F : List Arw, τ = [some (.D (gamD g)), some (.D (sayD S)), some (.D (.tuple (C.map arwD))), some (.D (.int pl)), some (.R pf), some (.D (.int i)), o6, o7, o8, o9, none] ∧ μ' pf = some (.lst (F.map arwA)) ∧ Good pl C (fun s x => s < i ∨ s = i ∧ x < j) F ∧ F.length ≤ i * 36 + j * 12 ∧ Sub μ μ') ⟨o6, o7, o8, o9, F1, rfl, e1, G1.to (fun s x _ => ⟨.inl, fun h => h.elim id fun h => absurd h.2 (Nat.not_lt_zero _)⟩) (fun s x h => .inl h), by omega, S1⟩ (fun _ _ _ _ => trivial) ?_ ?_
      · rintro j y τ μ2 Z3 hy ⟨o6', o7', o8', o9', F2, rfl, e2, G2, hF2, S2⟩ hZ3
        have hj : j < le := by rw [← hlen2]; exact (List.getElem?_eq_some_iff.mp hy).1
        have ey := rngA_get _ _ _ hy
        rw [Int.zero_add] at ey
        subst ey
        refine seq_i (fun τ μ' => τ = [some (.D (gamD g)), some (.D (sayD S)), some (.D (.tuple (C.map arwD))), some (.D (.int pl)), some (.R pf), some (.D (.int i)), some (.D (.int j)), some (.D (.int (ownS pl i))), o8', o9', none] ∧ μ' pf = some (.lst (F2.map arwA)) ∧ Sub μ μ') (fun Z4 hZ4 => fun p hp => ?_) ?_
        · have hpp : pf ≠ p := by rintro rfl; rw [e2] at hp; cases hp
          have e3 : ∀ o, updM μ2 p o pf = some (.lst (F2.map arwA)) := fun o => by rw [updM_ne hpp]; exact e2
          refine opt_i updM_same ?_
          by_cases h : (pl : Int) ≤ i
          · rw [decide_eq_true h]
            refine opt_i (atI_nat (j := 1) rfl) (hZ4 _ _ ⟨?_, e3 _, sub_new S2 hp⟩)
            have : ownS pl i = i - pl := by unfold ownS; rw [if_neg (by omega)]
            rw [this, show ((i - pl : Nat) : Int) = (i : Int) - (pl : Int) by omega]; rfl
          · rw [decide_eq_false h]
            refine opt_i (atI_nat (j := 0) rfl) (hZ4 _ _ ⟨?_, e3 _, sub_new S2 hp⟩)
            have : ownS pl i = i := by unfold ownS; rw [if_pos (by omega)]
            rw [this]; rfl
        rintro τ μ3 ⟨rfl, e3, S3⟩
        refine seq_i (fun τ μ' => ∃ (ph : Addr) (L : List (List Nat)), τ = [some (.D (gamD g)), some (.D (sayD S)), some (.D (.tuple (C.map arwD))), some (.D (.int pl)), some (.R pf), some (.D (.int i)), some (.D (.int j)), some (.D (.int (ownS pl i))), some (.R ph), o9', none] ∧ μ' ph = some (.lst (L.map tsA)) ∧ (L.map natsD).Pairwise (fun a b => ltT b a = false) ∧ (∀ t, t ∈ L ↔ ∃ a ∈ C, a.p = ownS pl i ∧ a.x = j ∧ a.ts = t) ∧ L.length ≤ 12 ∧ μ' pf = some (.lst (F2.map arwA)) ∧ Sub μ μ') (fun Z4 hZ4 => ?_) ?_
        · refine opt_i (arw_items C) fun pc hpc => ?_
          have hcf : pf ≠ pc := by rintro rfl; rw [e3] at hpc; cases hpc
          refine cmapf C (fun a => .D (arwD a)) (fun a => decide (a.p = ownS pl i ∧ a.x = j)) (fun a => tsA a.ts) (fun τ => ∃ o, τ = [o, some (.D (.int (ownS pl i))), some (.D (.int j))]) ⟨none, rfl⟩ updM_same (seven (by omega)) (fun _ => arw_items C) ?_ ?_
          · rintro k a τ' acc W W2 hk ⟨o, rfl⟩ w1 w2
            have hac := I.c a (List.mem_of_getElem? hk)
            obtain ⟨p, x, ts, c⟩ := a
            cases c with
            | none => cases hac
            | some c =>
              have hpr := eqv_pair p x (ownS pl i) j
              refine ⟨nats_eqOk (ns := [p, x]), nats_eqOk (ns := [ownS pl i, j]), br (fun c1 => opt_i (atI_nat (j := 2) rfl) (w1 ?_ _ ⟨_, rfl⟩)) (fun c1 => w2 ?_ _ ⟨_, rfl⟩)⟩
              · have c2 : (decide (p = ownS pl i) && decide (x = j)) = true := hpr.symm.trans c1
                simpa using c2
              · have c2 : (decide (p = ownS pl i) && decide (x = j)) = false := hpr.symm.trans c1
                simpa using c2
          · have e4 : updM (updM μ3 pc (.lst [])) pc (.lst ((C.filter fun a => decide (a.p = ownS pl i ∧ a.x = j)).map fun a => tsA a.ts)) pf = some (.lst (F2.map arwA)) := by rw [updM_ne hcf, updM_ne hcf]; exact e3
            have S4 : Sub μ (updM (updM μ3 pc (.lst [])) pc (.lst ((C.filter fun a => decide (a.p = ownS pl i ∧ a.x = j)).map fun a => tsA a.ts))) := fun b m hb => by
              have h1 := S3 b m hb
              have b1 : b ≠ pc := by rintro rfl; rw [h1] at hpc; cases hpc
              rw [updM_ne b1, updM_ne b1]; exact h1
            have ed : dats ((C.filter fun a => decide (a.p = ownS pl i ∧ a.x = j)).map fun a => tsA a.ts) = some (((C.filter fun a => decide (a.p = ownS pl i ∧ a.x = j)).map Arw.ts).map natsD) := by
              rw [show ((C.filter fun a => decide (a.p = ownS pl i ∧ a.x = j)).map fun a => tsA a.ts) = ((C.filter fun a => decide (a.p = ownS pl i ∧ a.x = j)).map Arw.ts).map tsA by rw [List.map_map]; rfl]; exact dats_ts _
            have hfl := List.length_filter_le (fun a => decide (a.p = ownS pl i ∧ a.x = j)) C
            refine opt_i updM_same (opt_i ed ⟨⟨by rw [List.length_map, List.length_map]; omega, fun d hd => ?_⟩, fun es p hperm hs hp => ?_⟩)
            · obtain ⟨t, _, rfl⟩ := List.mem_map.mp hd
              exact nats_isInts t
            · obtain ⟨L, rfl, hL⟩ := map_back (f := natsD) (B := (C.filter fun a => decide (a.p = ownS pl i ∧ a.x = j)).map Arw.ts) fun e he => hperm.mem_iff.mp he
              have hll := hperm.length_eq
              rw [List.length_map, List.length_map, List.length_map] at hll
              have hpf' : pf ≠ p := by rintro rfl; rw [e4] at hp; cases hp
              refine hZ4 _ _ ⟨p, L, rfl, by rw [updM_same, List.map_map]; rfl, hs, fun t => ⟨fun h => ?_, fun h => ?_⟩, by omega, by rw [updM_ne hpf']; exact e4, sub_new S4 hp⟩
              · obtain ⟨a, ha, rfl⟩ := List.mem_map.mp (hL t h)
                obtain ⟨h1, h2⟩ := List.mem_filter.mp ha
                have h2' := of_decide_eq_true h2
                exact ⟨a, h1, h2'.1, h2'.2, rfl⟩
              · obtain ⟨a, h1, h2, h3, rfl⟩ := h
                have : natsD a.ts ∈ L.map natsD := hperm.mem_iff.mpr (List.mem_map.mpr ⟨a.ts, List.mem_map.mpr ⟨a, List.mem_filter.mpr ⟨h1, decide_eq_true ⟨h2, h3⟩⟩, rfl⟩, rfl⟩)
                obtain ⟨t, ht, e⟩ := List.mem_map.mp this
                rw [← nats_inj e]; exact ht
        rintro τ μ4 ⟨ph, L, rfl, h4, hLs, hLm, hLl, e4, S4⟩
        refine seq_i (fun τ μ' => ∃ (pg : Addr) (G : List (List Nat)), τ = [some (.D (gamD g)), some (.D (sayD S)), some (.D (.tuple (C.map arwD))), some (.D (.int pl)), some (.R pf), some (.D (.int i)), some (.D (.int j)), some (.D (.int (ownS pl i))), some (.R pg), o9', none] ∧ μ' pg = some (.lst (G.map tsA)) ∧ pg ≠ pf ∧ G.Nodup ∧ G.Sublist L ∧ (∀ t, t ∈ G ↔ t ∈ L) ∧ μ' pf = some (.lst (F2.map arwA)) ∧ Sub μ μ') (fun Z4 hZ4 => ?_) ?_
        · refine opt_i (items_R h4) (opt_i (dats_ts L) ?_)
          rw [enum_nat]
          intro pc hpc
          have hcf : pf ≠ pc := by rintro rfl; rw [e4] at hpc; cases hpc
          have hch : ph ≠ pc := by rintro rfl; rw [h4] at hpc; cases hpc
          have hpc0 : μ pc = none := by
            cases c : μ pc with
            | none => rfl
            | some x => rw [S4 pc x c] at hpc; cases hpc
          refine comp_i (fun k acc τ μ' => ∃ (o o' : Option AV) (G : List (List Nat)), τ = [o, o', some (.R ph)] ∧ acc = G.map tsA ∧ G.Nodup ∧ G.Sublist (L.take k) ∧ (∀ t, t ∈ G ↔ t ∈ L.take k) ∧ μ' pc = some (.lst acc) ∧ μ' ph = some (.lst (L.map tsA)) ∧ μ' pf = some (.lst (F2.map arwA)) ∧ Sub μ μ') ⟨none, none, [], rfl, rfl, List.nodup_nil, by simp, (fun t => by simp), updM_same, by rw [updM_ne hch]; exact h4, by rw [updM_ne hcf]; exact e4, sub_new S4 hpc⟩ (fun _ _ _ _ ⟨_, _, _, _, _, _, _, _, _, e, _⟩ => items_R e) ?_ ?_
          · rintro k z acc τ μ5 Z5 hz ⟨o, o', G, rfl, rfl, hGn, hGs, hGm, c5, h5, e5, S5⟩ hZ5
            rw [List.getElem?_map, List.getElem?_zipIdx] at hz
            obtain ⟨⟨t, k'⟩, hz1, rfl⟩ := Option.map_eq_some_iff.mp hz
            obtain ⟨t', ht, hz2⟩ := Option.map_eq_some_iff.mp hz1
            rw [Nat.zero_add] at hz2
            cases hz2
            have hk : k < L.length := (List.getElem?_eq_some_iff.mp ht).1
            have htk : L.take (k + 1) = L.take k ++ [t] := by rw [List.take_succ, ht]; rfl
            have hGl := hGs.length_le
            rw [List.length_take] at hGl
            refine ⟨rfl, opt_i (items_R h5) fun ps hps => ?_⟩
            rw [cutA_take]
            have hsc : pc ≠ ps := by rintro rfl; rw [c5] at hps; cases hps
            have hsh : ph ≠ ps := by rintro rfl; rw [h5] at hps; cases hps
            have hsf : pf ≠ ps := by rintro rfl; rw [e5] at hps; cases hps
            refine opt_i rfl (opt_i (items_R updM_same) (opt_i (dats_ts _) ⟨nats_eqOk (ns := t), tss_eqOk _, ?_⟩))
            rw [ts_any]
            have c6 : updM μ5 ps (.lst ((L.take k).map tsA)) pc = some (.lst (G.map tsA)) := by rw [updM_ne hsc]; exact c5
            have h6 : updM μ5 ps (.lst ((L.take k).map tsA)) ph = some (.lst (L.map tsA)) := by rw [updM_ne hsh]; exact h5
            have e6 : updM μ5 ps (.lst ((L.take k).map tsA)) pf = some (.lst (F2.map arwA)) := by rw [updM_ne hsf]; exact e5
            have S6 : Sub μ (updM μ5 ps (.lst ((L.take k).map tsA))) := sub_new S5 hps
            refine br (fun c => ⟨c6, small1000 (by rw [List.length_map]; omega), hZ5 _ _ _ ⟨_, _, G ++ [t], rfl, by rw [List.map_append]; rfl, ?_, by rw [htk]; exact hGs.append (List.Sublist.refl _), fun u => ?_, updM_same, by rw [updM_ne hch]; exact h6, by rw [updM_ne hcf]; exact e6, S6.new hpc0⟩⟩) (fun c => hZ5 _ _ _ ⟨_, _, G, rfl, rfl, hGn, by rw [htk]; exact hGs.trans (List.sublist_append_left _ _), fun u => ?_, c6, h6, e6, S6⟩)
            · have hni : t ∉ L.take k := by simpa using c
              refine List.nodup_append.mpr ⟨hGn, List.nodup_cons.mpr ⟨by simp, List.nodup_nil⟩, fun a ha b hb => ?_⟩
              rw [List.mem_singleton.mp hb]
              rintro rfl; exact hni ((hGm a).mp ha)
            · rw [htk, List.mem_append, List.mem_append, hGm u]
            · have hin : t ∈ L.take k := by simpa using c
              rw [htk, List.mem_append, hGm u]
              exact ⟨.inl, fun h => h.elim id fun h => by rw [List.mem_singleton.mp h]; exact hin⟩
          · rintro acc τ μ5 ⟨o, o', G, rfl, rfl, hGn, hGs, hGm, c5, h5, e5, S5⟩
            rw [List.length_map, List.length_zipIdx, List.take_length] at hGs hGm
            exact hZ4 _ _ ⟨pc, G, rfl, c5, hcf.symm, hGn, hGs, hGm, e5, S5⟩
        rintro τ μ5 ⟨pg, G, rfl, g5, hgf, hGn, hGs, hGm, e5, S5⟩
        have hGl : G.length ≤ 12 := Nat.le_trans hGs.length_le hLl
        have hGup : ∀ (m k : Nat) (u v : List Nat), m < k → G[m]? = some u → G[k]? = some v → natsD u ≠ natsD v ∧ ltT (natsD u) (natsD v) = true := fun m k u v hmk hu hv => by
          have hm := (List.getElem?_eq_some_iff.mp hu).1
          have hk := (List.getElem?_eq_some_iff.mp hv).1
          have hne : natsD u ≠ natsD v := fun e => by
            have e2 := nats_inj e
            subst e2
            have := (List.getElem?_inj hm hGn).mp (hu.trans hv.symm)
            omega
          have hpw := hLs.sublist (hGs.map natsD)
          have := List.pairwise_iff_getElem.mp hpw m k (by rw [List.length_map]; exact hm) (by rw [List.length_map]; exact hk) hmk
          rw [List.getElem_map, List.getElem_map, (List.getElem?_eq_some_iff.mp hu).2, (List.getElem?_eq_some_iff.mp hv).2] at this
          exact ⟨hne, ltT_tot _ _ (nats_isInts v).ok.2.2 (nats_isInts u).ok.2.2 (Ne.symm hne) this⟩
        have hpg0 : ∀ o, Sub μ (updM μ5 pf o) := fun o => S5.new hpf
        refine opt_i (items_R g5) ?_
        refine for_i (fun k τ μ' => ∃ o9 F, τ = [some (.D (gamD g)), some (.D (sayD S)), some (.D (.tuple (C.map arwD))), some (.D (.int pl)), some (.R pf), some (.D (.int i)), some (.D (.int j)), some (.D (.int (ownS pl i))), some (.R pg), o9, none] ∧ μ' pf = some (.lst (F.map arwA)) ∧ (F.map arwD).Pairwise (fun a b => ltT a b = true) ∧ (∀ d, d ∈ F.map arwD ↔ (d ∈ F2.map arwD ∨ ∃ t ∈ G.take k, d = arwD ⟨i, j, shf pl t, none⟩)) ∧ (∀ b ∈ F, b ∈ F2 ∨ ∃ t ∈ G.take k, b = ⟨i, j, shf pl t, none⟩) ∧ F.length ≤ F2.length + k ∧ μ' pg = some (.lst (G.map tsA)) ∧ Sub μ μ') ⟨o9', F2, rfl, e5, G2.up, (fun d => by simp), (fun b hb => .inl hb), by omega, g5, S5⟩ (fun _ _ _ ⟨_, _, _, _, _, _, _, _, e, _⟩ => items_R e) ?_ ?_
        · rintro k z τ μ6 Z4 hz ⟨o9, F3, rfl, e6, u6, m6, b6, l6, g6, S6⟩ hZ4
          rw [List.getElem?_map] at hz
          obtain ⟨t, ht, rfl⟩ := Option.map_eq_some_iff.mp hz
          have hk : k < G.length := (List.getElem?_eq_some_iff.mp ht).1
          have htk : G.take (k + 1) = G.take k ++ [t] := by rw [List.take_succ, ht]; rfl
          have htl : t.length ≤ 10 := by
            obtain ⟨a, ha, _, _, rfl⟩ := (hLm t).mp ((hGm t).mp (List.mem_of_getElem? ht))
            exact I.t a ha
          refine ⟨opt_i e6 trivial, opt_i (nats_items t) fun pc hpc => ?_⟩
          have hcf : pf ≠ pc := by rintro rfl; rw [e6] at hpc; cases hpc
          have hcg : pg ≠ pc := by rintro rfl; rw [g6] at hpc; cases hpc
          refine cmap t _ (fun u => natA (pl + u)) (fun τ => ∃ o, τ = [o, some (.D (.int pl))]) ⟨none, rfl⟩ updM_same (seven (by omega)) (fun _ => nats_items t) ?_ ?_
          · rintro m u τ' acc W hm ⟨o, rfl⟩ hW
            exact hW _ ⟨_, rfl⟩
          · have e7 : updM (updM μ6 pc (.lst [])) pc (.lst (t.map fun u => natA (pl + u))) pf = some (.lst (F3.map arwA)) := by rw [updM_ne hcf, updM_ne hcf]; exact e6
            have g7 : updM (updM μ6 pc (.lst [])) pc (.lst (t.map fun u => natA (pl + u))) pg = some (.lst (G.map tsA)) := by rw [updM_ne hcg, updM_ne hcg]; exact g6
            have S7 : Sub μ (updM (updM μ6 pc (.lst [])) pc (.lst (t.map fun u => natA (pl + u)))) := fun b m hb => by
              have h1 := S6 b m hb
              have b1 : b ≠ pc := by rintro rfl; rw [h1] at hpc; cases hpc
              rw [updM_ne b1, updM_ne b1]; exact h1
            refine opt_i (items_R updM_same) (opt_i (x := (shf pl t).map fun (n : Nat) => PyData.int n) ?_ (opt_i e7 ⟨small1000 (by rw [List.length_map]; omega), hZ4 _ _ ⟨_, F3 ++ [⟨i, j, shf pl t, none⟩], rfl, by rw [updM_same, List.map_append]; rfl, ?_, fun d => ?_, fun b hb => ?_, by rw [List.length_append]; show F3.length + 1 ≤ _; omega, by rw [updM_ne hgf]; exact g7, S7.new hpf⟩⟩))
            · rw [show (t.map fun u => natA (pl + u)) = (shf pl t).map natA by rw [shf, List.map_map]; rfl]; exact dats_nat _
            · rw [List.map_append, List.pairwise_append]
              refine ⟨u6, List.pairwise_singleton _ _, fun a ha b hb => ?_⟩
              rw [List.map_cons, List.map_nil, List.mem_singleton] at hb
              subst hb
              obtain ⟨b, hb, rfl⟩ := List.mem_map.mp ha
              rcases b6 b hb with h | ⟨u, hu, rfl⟩
              · obtain ⟨hq, hcn⟩ := G2.q b h
                obtain ⟨bp, bx, bt, bc⟩ := b
                dsimp only at hq hcn
                subst hcn
                rw [lt_arw]
                rcases hq with hq | ⟨rfl, hq⟩
                · rw [if_neg (by omega)]; exact decide_eq_true hq
                · rw [if_pos rfl, if_neg (by omega)]; exact decide_eq_true hq
              · obtain ⟨m, hm⟩ := List.getElem?_of_mem hu
                have hmk : m < k := by have := (List.getElem?_eq_some_iff.mp hm).1; rw [List.length_take] at this; omega
                rw [List.getElem?_take_of_lt hmk] at hm
                obtain ⟨h1, h2⟩ := hGup m k u t hmk hm ht
                rw [lt_arw, if_pos rfl, if_pos rfl, if_neg]
                · have : ltT (natsD (shf pl u)) (natsD (shf pl t)) = ltT (natsD u) (natsD t) := ltNats_shf pl u t
                  rw [this]; exact h2
                · intro e
                  have e2 := nats_inj e
                  unfold shf at e2
                  have e3 := (List.map_inj_right (fun x y h => by omega)).mp e2
                  exact h1 (by rw [e3])
            · rw [List.map_append, List.mem_append, m6 d, htk, or_assoc]
              refine or_congr Iff.rfl ?_
              rw [List.map_cons, List.map_nil, List.mem_singleton]
              constructor
              · rintro (⟨u, hu, rfl⟩ | rfl)
                · exact ⟨u, List.mem_append_left _ hu, rfl⟩
                · exact ⟨t, List.mem_append_right _ (by simp), rfl⟩
              · rintro ⟨u, hu, rfl⟩
                rcases List.mem_append.mp hu with hu | hu
                · exact .inl ⟨u, hu, rfl⟩
                · rw [List.mem_singleton.mp hu]; exact .inr rfl
            · rcases List.mem_append.mp hb with hb | hb
              · rcases b6 b hb with h | ⟨u, hu, rfl⟩
                · exact .inl h
                · exact .inr ⟨u, by rw [htk]; exact List.mem_append_left _ hu, rfl⟩
              · rw [List.mem_singleton.mp hb]
                exact .inr ⟨t, by rw [htk]; exact List.mem_append_right _ (by simp), rfl⟩
        · rintro τ μ6 ⟨o9, F3, rfl, e6, u6, m6, b6, l6, g6, S6⟩
          rw [List.length_map, List.take_length] at m6 b6
          rw [List.length_map] at l6
          refine hZ3 _ _ ⟨_, _, _, _, F3, rfl, e6, ⟨u6, fun d => (m6 d).trans ⟨?_, ?_⟩, fun b hb => ?_⟩, by omega, S6⟩
          · rintro (h | ⟨t, ht, rfl⟩)
            · obtain ⟨a, ha, st, h1, h2, h3⟩ := (G2.m d).mp h
              exact ⟨a, ha, st, by omega, h2, h3⟩
            · obtain ⟨a, ha, h1, h2, rfl⟩ := (hLm t).mp ((hGm t).mp ht)
              exact ⟨a, ha, i, .inr ⟨rfl, by omega⟩, h1, by rw [h2]⟩
          · rintro ⟨a, ha, st, h1, h2, rfl⟩
            by_cases hc : st = i ∧ a.x = j
            · obtain ⟨rfl, hx⟩ := hc
              exact .inr ⟨a.ts, (hGm _).mpr ((hLm _).mpr ⟨a, ha, h2, hx, rfl⟩), by rw [hx]⟩
            · exact .inl ((G2.m _).mpr ⟨a, ha, st, by omega, h2, rfl⟩)
          · rcases b6 b hb with h | ⟨u, hu, rfl⟩
            · have := G2.q b h
              exact ⟨by omega, this.2⟩
            · exact ⟨.inr ⟨rfl, Nat.lt_succ_self _⟩, rfl⟩
      · rintro τ μ2 ⟨o6', o7', o8', o9', F2, rfl, e2, G2, hF2, S2⟩
        rw [hlen2] at G2 hF2
        refine hZ2 _ _ ⟨_, _, _, _, _, F2, rfl, e2, G2.to (fun s x ⟨a, ha, hx, _⟩ => ?_) (fun s x h => ?_), by omega, S2⟩
        · have := hCx a ha
          exact ⟨fun h => by omega, fun h => by omega⟩
        · omega
    · rintro τ μ1 ⟨o5, o6, o7, o8, o9, F1, rfl, e1, G1, hF1, S1⟩
      rw [hlen] at G1
      exact hZ _ _ ⟨_, _, _, _, _, F1, rfl, e1, G1, S1⟩
  rintro τ μ1 ⟨o5, o6, o7, o8, o9, F1, rfl, e1, G1, S1⟩
  have hSe := I.e
  refine seq_i (fun τ μ' => ∃ pe, τ = [some (.D (gamD g)), some (.D (sayD S)), some (.D (.tuple (C.map arwD))), some (.D (.int pl)), some (.R pf), o5, o6, o7, o8, o9, some (.R pe)] ∧ μ' pe = some (.lst ((S.es.filter fun e => decide (e < pl)).map natA)) ∧ μ' pf = some (.lst (F1.map arwA)) ∧ Sub μ μ') (fun Z hZ => ?_) ?_
  · refine opt_i (atI_nat (j := 2) rfl) (opt_i (nats_items S.es) fun p1 hp1 => ?_)
    have h1t : pf ≠ p1 := by rintro rfl; rw [e1] at hp1; cases hp1
    refine cmapf S.es _ (fun e => decide (e < pl)) natA (fun τ => ∃ o, τ = [o, some (.D (.int pl))]) ⟨none, rfl⟩ updM_same (seven (by omega)) (fun _ => nats_items S.es) ?_ ?_
    · rintro k e τ' acc W W2 hk ⟨o, rfl⟩ w1 w2
      exact dif (fun c => w1 (decide_eq_true (by omega)) _ ⟨_, rfl⟩) (fun c => w2 (decide_eq_false (by omega)) _ ⟨_, rfl⟩)
    · refine hZ _ _ ⟨p1, rfl, updM_same, by rw [updM_ne h1t, updM_ne h1t]; exact e1, fun b m hb => ?_⟩
      have h1 := S1 b m hb
      have b1 : b ≠ p1 := by rintro rfl; rw [h1] at hp1; cases hp1
      rw [updM_ne b1, updM_ne b1]; exact h1
  rintro τ μ2 ⟨pe, rfl, f2, e2, S2⟩
  refine opt_i (atI_nat (j := 0) rfl) (opt_i (items_R e2) (opt_i (dats_arw F1) (opt_i (atI_nat (j := 2) rfl) (opt_i (nats_items S.es) fun p2 hp2 => ?_))))
  have h2e : pe ≠ p2 := by rintro rfl; rw [f2] at hp2; cases hp2
  refine cmap S.es _ (fun e => natA (pl + e)) (fun τ => ∃ o, τ = [o, some (.D (.int pl))]) ⟨none, rfl⟩ updM_same (seven (by omega)) (fun _ => nats_items S.es) ?_ ?_
  · rintro k e τ' acc W hk ⟨o, rfl⟩ hW
    exact hW _ ⟨_, rfl⟩
  · have f3 : updM (updM μ2 p2 (.lst [])) p2 (.lst (S.es.map fun e => natA (pl + e))) pe = some (.lst ((S.es.filter fun e => decide (e < pl)).map natA)) := by rw [updM_ne h2e, updM_ne h2e]; exact f2
    have hfl := List.length_filter_le (fun e => decide (e < pl)) S.es
    refine opt_i f3 (opt_i updM_same ⟨seven (by rw [List.length_map, List.length_map]; omega), fun p3 hp3 => opt_i (items_R updM_same) (opt_i (x := (endsL pl S.es).map fun (n : Nat) => PyData.int n) ?_ ⟨_, Sub.refl, q F1 _ G1 fun b m hb => ?_⟩)⟩)
    · rw [show (S.es.filter fun e => decide (e < pl)).map natA ++ (S.es.map fun e => natA (pl + e)) = (endsL pl S.es).map natA by rw [endsL, List.map_append, List.map_map]; rfl]; exact dats_nat _
    · have h1 := S2 b m hb
      have b1 : b ≠ p2 := by rintro rfl; rw [h1] at hp2; cases hp2
      have h2 : updM (updM μ2 p2 (.lst [])) p2 (.lst (S.es.map fun e => natA (pl + e))) b = some m := by rw [updM_ne b1, updM_ne b1]; exact h1
      rw [updM_ne (by rintro rfl; rw [h2] at hp3; cases hp3)]; exact h2
end
section
variable {P : Program} {w : World} {K : PySem.W.Frag} {mg : Str → Option Value} {base : Heap} {f : Addr} {fd : FuncData}
abbrev nLaw : List Str := ["_law_script", "_law_deal_here", "_law_game_here", "_law_saying_here", "_law_arrows_here", "_law_other", "_law_some_here"]
theorem scLaw : FnScope nLaw ["_law_script"] (defScope sLaw) := ⟨rfl, rfl, rfl, by decide +kernel, rfl, by decide +kernel, by decide +kernel⟩
def spL : ASp := fun xs μ R => ∃ (ns : List Int), xs = [.D (scrD ns)] ∧ ns.length ≤ 63 ∧ ∀ μ', R (.D (.bool true)) μ'
theorem told_mem {pl ow : Nat} {C : List Arw} (hp : ∀ a ∈ C, a.p < pl + ow) (d : PyData) : d ∈ (toldL pl C).map arwD ↔ MemF pl C (fun s _ => s < 2 * pl + ow) d := by
  rw [List.mem_map]
  constructor
  · rintro ⟨b, hb, rfl⟩
    obtain ⟨a, ha, hb⟩ := List.mem_flatMap.mp hb
    have := hp a ha
    unfold told1 at hb
    rcases List.mem_cons.mp hb with rfl | hb
    · exact ⟨a, ha, pl + a.p, by dsimp only; omega, by unfold ownS; rw [if_neg (by omega)]; omega, rfl⟩
    · split at hb
      · rename_i h
        rw [List.mem_singleton.mp hb]
        exact ⟨a, ha, a.p, by dsimp only; omega, by unfold ownS; rw [if_pos h], rfl⟩
      · cases hb
  · rintro ⟨a, ha, st, h1, h2, rfl⟩
    refine ⟨⟨st, a.x, shf pl a.ts, none⟩, List.mem_flatMap.mpr ⟨a, ha, ?_⟩, rfl⟩
    unfold told1
    unfold ownS at h2
    split at h2
    · rename_i h
      rw [if_pos (by omega), h2]
      exact List.mem_cons_of_mem _ (List.mem_singleton.mpr rfl)
    · rename_i h
      rw [show st = pl + a.p by omega]
      exact .head _
theorem ok_lawV {n : Nat} (F : Fun K "law" "law" sLaw f fd) (cDe : VCal P w K mg base n "_law_deal" ["_law_script", "_law_base"] spDe) (cGa : VCal P w K mg base n "_law_game" ["_law_deal_here", "_law_sizes", "_law_hand"] spGa) (cSa : VCal P w K mg base n "_law_saying" ["_law_deal_here", "_law_game_here", "_law_own", "_law_many", "_law_most"] spSa) (cAr : VCal P w K mg base n "_law_arrows" ["_law_deal_here", "_law_game_here", "_law_stands"] spAr) (cAs : VCal P w K mg base n "as_saying" ["game", "saying", "arrows"] spAs) (cDu : VCal P w K mg base n "_law_due" ["_law_game_here", "_law_saying_here", "_law_arrows_here"] spDu) (m_len : mg "len" = none) : FnOk P w K mg base CX0 (n + 1) f fd ["_law_script"] (cSp K 1 spL) := by
  refine F.vok scLaw fun cdv A outer s H E hr => ⟨_, (vss_cons (vs_set (i := 1) scLaw.nd rfl (Or.inl rfl) (ve_call cDe hr rfl (va_cons (vv 0) (va_cons ve_int va_nil))))
      (vss_cons (vs_set (i := 2) scLaw.nd rfl (Or.inl rfl) (ve_call cGa hr rfl (va_cons (vv 1) (va_cons (ve_tup (va_cons ve_int (va_cons ve_int (va_cons ve_int (va_cons ve_int va_nil))))) (va_cons ve_int va_nil)))))
      (vss_cons (vs_set (i := 3) scLaw.nd rfl (Or.inl rfl) (ve_call cSa hr rfl (va_cons (vv 1) (va_cons (vv 2) (va_cons ve_int (va_cons ve_int (va_cons ve_int va_nil)))))))
      (vss_cons (vs_set (i := 4) scLaw.nd rfl (Or.inl rfl) (ve_call cAr hr rfl (va_cons (vv 1) (va_cons (vv 2) (va_cons (ve_op o_add (ve_callB c_len rfl m_len PySem.boot_len (va_cons (ve_ix i_ix (vv 2) ve_int) va_nil)) (ve_ix i_ix (vv 3) ve_int)) va_nil)))))
      (vss_cons (vs_set (i := 5) scLaw.nd rfl (Or.inl rfl) (ve_call cAr hr rfl (va_cons (vv 1) (va_cons (vv 2) (va_cons (ve_op o_add (ve_callB c_len rfl m_len PySem.boot_len (va_cons (ve_ix i_ix (vv 2) ve_int) va_nil)) (ve_ix i_ix (vv 3) ve_int)) va_nil)))))
      (vss_cons (vs_for PassesOwn.never rfl (vi_seq (ve_lst (va_cons (vv 4) (va_cons (vv 5) (va_cons (vv 4) va_nil))))) (vg_name (i := 6) scLaw.nd rfl (Or.inl rfl)) (vss_one (vs_if (vt_cmp (o_ne hr) (ve_call cAs hr rfl (va_cons (vv 2) (va_cons (vv 3) (va_cons (vv 6) va_nil)))) (ve_call cDu hr rfl (va_cons (vv 2) (va_cons (vv 3) (va_cons (vv 6) va_nil)))) (nomark _)) (vss_one (vs_ret ve_bl)) vss_nil)))
      (vss_one (vs_ret ve_bl)))))))), ?_⟩
  rintro xs μ R _ ⟨ns, rfl, hns, q⟩
  refine seq_d ⟨ns, 0, rfl, by decide, hns, fun a l μ1 _ _ P1 _ => ?_⟩
  refine seq_d ⟨a, l, 3, 3, 8, 3, rfl, by decide, by decide, by decide, by decide, by decide, by decide, P1, fun g μ2 hg P2 _ => ?_⟩
  have hp0 := hg.p0
  have hp1 := hg.p1
  have hl0 := hg.l0
  have hl1 := hg.l1
  refine seq_d ⟨a, l, g, 2, 8, 2, rfl, hg.p0, by omega, hg.l0, by omega, by decide, by decide, P2, fun S μ3 hS P3 _ => ?_⟩
  have how := hS.o
  have hen := hS.en
  have mk : ∀ (C : List Arw), C.length ≤ 12 → (∀ b ∈ C, AO (g.pl.length + S.own) g.le.length b) → AsIn C S.es := fun C h1 h2 => ⟨h1, fun b hb => (h2 b hb).c, fun b hb => by have := (h2 b hb).tn; omega, by omega⟩
  refine seq_i (fun τ μ' => ∃ C : List Arw, τ = [some (.D (scrD ns)), some (.R a), some (.D (gamD g)), some (.D (sayD S)), some (.D (.tuple (C.map arwD))), none, none] ∧ C.length ≤ 12 ∧ (∀ b ∈ C, AO (g.pl.length + S.own) g.le.length b) ∧ Pot μ' a l) (fun Z hZ => opt_i (atI_nat (j := 0) rfl) (opt_i (atI_nat (j := 0) rfl) ⟨a, l, g, g.pl.length + S.own, by rw [List.length_map]; rfl, by omega, by omega, hl0, hl1, P3, fun C μ4 h1 h2 P4 _ => hZ _ _ ⟨C, rfl, h1, h2, P4⟩⟩)) ?_
  rintro τ μ4 ⟨C1, rfl, h1, k1, P4⟩
  refine seq_i (fun τ μ' => ∃ C : List Arw, τ = [some (.D (scrD ns)), some (.R a), some (.D (gamD g)), some (.D (sayD S)), some (.D (.tuple (C1.map arwD))), some (.D (.tuple (C.map arwD))), none] ∧ C.length ≤ 12 ∧ (∀ b ∈ C, AO (g.pl.length + S.own) g.le.length b)) (fun Z hZ => opt_i (atI_nat (j := 0) rfl) (opt_i (atI_nat (j := 0) rfl) ⟨a, l, g, g.pl.length + S.own, by rw [List.length_map]; rfl, by omega, by omega, hl0, hl1, P4, fun C μ5 h1 h2 P5 _ => hZ _ _ ⟨C, rfl, h1, h2⟩⟩)) ?_
  rintro τ μ5 ⟨C2, rfl, h2, k2⟩
  refine seq_i (fun τ μ' => True) (fun Z hZ => ?_) (fun τ μ' _ => ⟨_, Sub.refl, q _⟩)
  intro p hp
  refine opt_i (items_R updM_same) ?_
  refine for_i (fun i τ μ' => ∃ o6, τ = [some (.D (scrD ns)), some (.R a), some (.D (gamD g)), some (.D (sayD S)), some (.D (.tuple (C1.map arwD))), some (.D (.tuple (C2.map arwD))), o6] ∧ Sub (updM μ5 p (.lst [.D (.tuple (C1.map arwD)), .D (.tuple (C2.map arwD)), .D (.tuple (C1.map arwD))])) μ') ⟨none, rfl, Sub.refl⟩ (fun _ _ _ ⟨_, _, S⟩ => items_R (S _ _ updM_same)) ?_ (fun τ μ' _ => hZ _ _ trivial)
  rintro i y τ μ6 Z2 hy ⟨o6, rfl, S6⟩ hZ2
  obtain ⟨C, rfl, hC, kC⟩ : ∃ C : List Arw, y = .D (.tuple (C.map arwD)) ∧ C.length ≤ 12 ∧ ∀ b ∈ C, AO (g.pl.length + S.own) g.le.length b := by
    match i, hy with
    | 0, hy => cases hy; exact ⟨C1, rfl, h1, k1⟩
    | 1, hy => cases hy; exact ⟨C2, rfl, h2, k2⟩
    | 2, hy => cases hy; exact ⟨C1, rfl, h1, k1⟩
    | k + 3, hy => simp at hy
  have hI := mk C hC kC
  refine ⟨g, S, C, rfl, hI, fun es μ7 hup hmem S7 => ⟨g, S, C, rfl, hI, hp1, hl0, hl1, how, fun b hb => (kC b hb).x, fun F1 μ8 G1 S8 => ?_⟩⟩
  have e : es = F1.map arwD := by
    refine ltT_uniq hup G1.up (fun d hd => ?_) fun d => ((hmem d).trans (told_mem (ow := S.own) (fun b hb => (kC b hb).p) d)).trans (G1.m d).symm
    obtain ⟨b, _, rfl⟩ := List.mem_map.mp ((hmem d).mp hd)
    exact (arw_ok b).2.2
  subst e
  have hok : EqOk (.tuple [.int ((g.pl.length : Nat) + (S.own : Nat) : Int), .tuple (F1.map arwD), natsD (endsL g.pl.length S.es)]) := by
    have a1 := arws_ok F1
    have a2 := nats_eqOk (ns := endsL g.pl.length S.es)
    refine ⟨?_, ?_⟩
    · simp only [PyData.canLay0, PyData.canLayAll0, a1.1, a2.1, Bool.and_true]
    · have := a1.2.1
      have := nats_dep (endsL g.pl.length S.es)
      simp only [natsD, PyData.depth, PyData.depthAll]
      omega
  exact ⟨hok, hok, brF (by rw [PySem.SeqAt.eqv_refl _ hok.1]; rfl) (hZ2 _ _ ⟨_, rfl, fun b m hb => S8 b m (S7 b m (S6 b m hb))⟩)⟩
def spLaw (K : PySem.W.Frag) : Sp := fun vs H Q _ => ∃ (a : Addr) (ns : List Int), vs = [.ref a] ∧ SqL K H a (ns.map V.int) ∧ Only H ∧ ns.length ≤ 63 ∧ ∀ H', Q (.bl true) H'
theorem dk_ints {H : Hp} : ∀ (ns : List Int), DkAll K H (ns.map .int) (ns.map V.int)
  | [] => dks_nil
  | n :: ns => dks_cons dk_int (dk_ints ns)
theorem ok_law {n : Nat} (F : Fun K "law" "law" sLaw f fd) (cDe : VCal P w K mg base n "_law_deal" ["_law_script", "_law_base"] spDe) (cGa : VCal P w K mg base n "_law_game" ["_law_deal_here", "_law_sizes", "_law_hand"] spGa) (cSa : VCal P w K mg base n "_law_saying" ["_law_deal_here", "_law_game_here", "_law_own", "_law_many", "_law_most"] spSa) (cAr : VCal P w K mg base n "_law_arrows" ["_law_deal_here", "_law_game_here", "_law_stands"] spAr) (cAs : VCal P w K mg base n "as_saying" ["game", "saying", "arrows"] spAs) (cDu : VCal P w K mg base n "_law_due" ["_law_game_here", "_law_saying_here", "_law_arrows_here"] spDu) (m_len : mg "len" = none) : FnOk P w K mg base CX0 (n + 1) f fd ["_law_script"] (spLaw K) := by
  refine (ok_lawV F cDe cGa cSa cAr cAs cDu m_len).imp ?_
  rintro vs H Q E ⟨a, ns, rfl, hS, hO, hl, q⟩
  refine ⟨[.D (scrD ns)], fun _ => none, fun v _ => v = .D (.bool true), rfl, .cons ?_ .nil, (fun _ _ z => nomatch z), ⟨ns, rfl, hl, fun _ => rfl⟩, ?_⟩
  · refine dk_lst (xs := ns.map V.int) ?_ (dk_ints ns)
    rcases hS with (h | h) | h
    · rcases hO a with z | ⟨o, xs, z⟩
      · rw [z] at h; cases h
      · rw [z] at h; cases h
    · exact .inl h
    · exact .inr h
  · rintro x μ v H' _ _ rx rfl
    cases RelA.bl rx
    exact q _
end
theorem all_mk {l : PySem.W.OpenLaw} {w : World} {K : PySem.W.Frag} {h : Heap} {mg : Str → Option Value} {fa f1 f2 f3 f4 f5 f6 f7 f8 f9 f10 f11 f12 f13 : Addr} (X : K.In h) (G : h.Ns mainGlobals mg) (hfa : mg "law" = some (.ref fa))
    {od1 an1 od2 an2 od3 an3 od4 an4 od5 an5 od6 an6 od7 an7 od8 an8 od9 an9 od10 an10 od11 an11 od12 an12 od13 an13 : Option Addr} {sl1 sl2 sl3 sl4 sl5 sl6 sl7 sl8 sl9 sl10 sl11 sl12 sl13 : Array (Option Value)} {oc1 kV1 dc1 pm1 cd1 ct1 oc2 kV2 dc2 pm2 cd2 ct2 oc3 kV3 dc3 pm3 cd3 ct3 oc4 kV4 dc4 pm4 cd4 ct4 oc5 kV5 dc5 pm5 cd5 ct5 oc6 kV6 dc6 pm6 cd6 ct6 oc7 kV7 dc7 pm7 cd7 ct7 oc8 kV8 dc8 pm8 cd8 ct8 oc9 kV9 dc9 pm9 cd9 ct9 oc10 kV10 dc10 pm10 cd10 ct10 oc11 kV11 dc11 pm11 cd11 ct11 oc12 kV12 dc12 pm12 cd12 ct12 oc13 kV13 dc13 pm13 cd13 ct13 : Value}
    (a1 : PySem.W.nsIn K mainGlobals "as_saying" = some (some (.ref f1)))
    (l1 : K.lookup f1 = some ⟨oc1, od1, .func (PySem.W.fnOf "as_saying" "as_saying" (defArgs sAs) (defBody sAs) (defScope sAs) .none kV1 dc1 pm1 an1 cd1 ct1), sl1⟩)
    (c_1 : PySem.W.codeIn K cd1 "as_saying" = true)
    (k1 : PySem.W.keepIn K (.ref f1) = true)
    (a2 : PySem.W.nsIn K mainGlobals "_law_deal" = some (some (.ref f2)))
    (l2 : K.lookup f2 = some ⟨oc2, od2, .func (PySem.W.fnOf "_law_deal" "_law_deal" (defArgs sDe) (defBody sDe) (defScope sDe) .none kV2 dc2 pm2 an2 cd2 ct2), sl2⟩)
    (c_2 : PySem.W.codeIn K cd2 "_law_deal" = true)
    (k2 : PySem.W.keepIn K (.ref f2) = true)
    (a3 : PySem.W.nsIn K mainGlobals "_law_draw" = some (some (.ref f3)))
    (l3 : K.lookup f3 = some ⟨oc3, od3, .func (PySem.W.fnOf "_law_draw" "_law_draw" (defArgs sDr) (defBody sDr) (defScope sDr) .none kV3 dc3 pm3 an3 cd3 ct3), sl3⟩)
    (c_3 : PySem.W.codeIn K cd3 "_law_draw" = true)
    (k3 : PySem.W.keepIn K (.ref f3) = true)
    (a4 : PySem.W.nsIn K mainGlobals "_law_names" = some (some (.ref f4)))
    (l4 : K.lookup f4 = some ⟨oc4, od4, .func (PySem.W.fnOf "_law_names" "_law_names" (defArgs sNa) (defBody sNa) (defScope sNa) .none kV4 dc4 pm4 an4 cd4 ct4), sl4⟩)
    (c_4 : PySem.W.codeIn K cd4 "_law_names" = true)
    (k4 : PySem.W.keepIn K (.ref f4) = true)
    (a5 : PySem.W.nsIn K mainGlobals "_law_rule" = some (some (.ref f5)))
    (l5 : K.lookup f5 = some ⟨oc5, od5, .func (PySem.W.fnOf "_law_rule" "_law_rule" (defArgs sRu) (defBody sRu) (defScope sRu) .none kV5 dc5 pm5 an5 cd5 ct5), sl5⟩)
    (c_5 : PySem.W.codeIn K cd5 "_law_rule" = true)
    (k5 : PySem.W.keepIn K (.ref f5) = true)
    (a6 : PySem.W.nsIn K mainGlobals "_law_rules" = some (some (.ref f6)))
    (l6 : K.lookup f6 = some ⟨oc6, od6, .func (PySem.W.fnOf "_law_rules" "_law_rules" (defArgs sRs) (defBody sRs) (defScope sRs) .none kV6 dc6 pm6 an6 cd6 ct6), sl6⟩)
    (c_6 : PySem.W.codeIn K cd6 "_law_rules" = true)
    (k6 : PySem.W.keepIn K (.ref f6) = true)
    (a7 : PySem.W.nsIn K mainGlobals "_law_game" = some (some (.ref f7)))
    (l7 : K.lookup f7 = some ⟨oc7, od7, .func (PySem.W.fnOf "_law_game" "_law_game" (defArgs sGa) (defBody sGa) (defScope sGa) .none kV7 dc7 pm7 an7 cd7 ct7), sl7⟩)
    (c_7 : PySem.W.codeIn K cd7 "_law_game" = true)
    (k7 : PySem.W.keepIn K (.ref f7) = true)
    (a8 : PySem.W.nsIn K mainGlobals "_law_some" = some (some (.ref f8)))
    (l8 : K.lookup f8 = some ⟨oc8, od8, .func (PySem.W.fnOf "_law_some" "_law_some" (defArgs sSo) (defBody sSo) (defScope sSo) .none kV8 dc8 pm8 an8 cd8 ct8), sl8⟩)
    (c_8 : PySem.W.codeIn K cd8 "_law_some" = true)
    (k8 : PySem.W.keepIn K (.ref f8) = true)
    (a9 : PySem.W.nsIn K mainGlobals "_law_saying" = some (some (.ref f9)))
    (l9 : K.lookup f9 = some ⟨oc9, od9, .func (PySem.W.fnOf "_law_saying" "_law_saying" (defArgs sSa) (defBody sSa) (defScope sSa) .none kV9 dc9 pm9 an9 cd9 ct9), sl9⟩)
    (c_9 : PySem.W.codeIn K cd9 "_law_saying" = true)
    (k9 : PySem.W.keepIn K (.ref f9) = true)
    (a10 : PySem.W.nsIn K mainGlobals "_law_pile" = some (some (.ref f10)))
    (l10 : K.lookup f10 = some ⟨oc10, od10, .func (PySem.W.fnOf "_law_pile" "_law_pile" (defArgs sPi) (defBody sPi) (defScope sPi) .none kV10 dc10 pm10 an10 cd10 ct10), sl10⟩)
    (c_10 : PySem.W.codeIn K cd10 "_law_pile" = true)
    (k10 : PySem.W.keepIn K (.ref f10) = true)
    (a11 : PySem.W.nsIn K mainGlobals "_law_arrows" = some (some (.ref f11)))
    (l11 : K.lookup f11 = some ⟨oc11, od11, .func (PySem.W.fnOf "_law_arrows" "_law_arrows" (defArgs sAr) (defBody sAr) (defScope sAr) .none kV11 dc11 pm11 an11 cd11 ct11), sl11⟩)
    (c_11 : PySem.W.codeIn K cd11 "_law_arrows" = true)
    (k11 : PySem.W.keepIn K (.ref f11) = true)
    (a12 : PySem.W.nsIn K mainGlobals "_law_due" = some (some (.ref f12)))
    (l12 : K.lookup f12 = some ⟨oc12, od12, .func (PySem.W.fnOf "_law_due" "_law_due" (defArgs sDu) (defBody sDu) (defScope sDu) .none kV12 dc12 pm12 an12 cd12 ct12), sl12⟩)
    (c_12 : PySem.W.codeIn K cd12 "_law_due" = true)
    (k12 : PySem.W.keepIn K (.ref f12) = true)
    (a13 : PySem.W.nsIn K mainGlobals "law" = some (some (.ref f13)))
    (l13 : K.lookup f13 = some ⟨oc13, od13, .func (PySem.W.fnOf "law" "law" (defArgs sLaw) (defBody sLaw) (defScope sLaw) .none kV13 dc13 pm13 an13 cd13 ct13), sl13⟩)
    (c_13 : PySem.W.codeIn K cd13 "law" = true)
    (k13 : PySem.W.keepIn K (.ref f13) = true)
    (z_len : PySem.W.nsIn K mainGlobals "len" = some none)
    (z_tuple : PySem.W.nsIn K mainGlobals "tuple" = some none)
    (z_sorted : PySem.W.nsIn K mainGlobals "sorted" = some none)
    (z_set : PySem.W.nsIn K mainGlobals "set" = some none)
    (z_max : PySem.W.nsIn K mainGlobals "max" = some none)
    (z_list : PySem.W.nsIn K mainGlobals "list" = some none)
    (z_reversed : PySem.W.nsIn K mainGlobals "reversed" = some none)
    (z_range : PySem.W.nsIn K mainGlobals "range" = some none)
    (z_int : PySem.W.nsIn K mainGlobals "int" = some none)
    (z_zip : PySem.W.nsIn K mainGlobals "zip" = some none)
    (z_enumerate : PySem.W.nsIn K mainGlobals "enumerate" = some none) :
    ∃ fd : FuncData, (∀ (s : Shared) (v : Value), BindsTo s fd ⟨[v], []⟩ [("_law_script", v)]) ∧ ∀ base : Heap, K.In base → base.Ns mainGlobals mg → FnOk l.prog w K mg base CX0 65 fa fd ["_law_script"] (spLaw K) := by
  have e := hfa.symm.trans (PySem.W.mg_of X G a13)
  cases e
  have F1 := fun_mk (st := sAs) l1 c_1 k1
  have F2 := fun_mk (st := sDe) l2 c_2 k2
  have F3 := fun_mk (st := sDr) l3 c_3 k3
  have F4 := fun_mk (st := sNa) l4 c_4 k4
  have F5 := fun_mk (st := sRu) l5 c_5 k5
  have F6 := fun_mk (st := sRs) l6 c_6 k6
  have F7 := fun_mk (st := sGa) l7 c_7 k7
  have F8 := fun_mk (st := sSo) l8 c_8 k8
  have F9 := fun_mk (st := sSa) l9 c_9 k9
  have F10 := fun_mk (st := sPi) l10 c_10 k10
  have F11 := fun_mk (st := sAr) l11 c_11 k11
  have F12 := fun_mk (st := sDu) l12 c_12 k12
  have F13 := fun_mk (st := sLaw) l13 c_13 k13
  have b1 := F1.binds (ps := ["game", "saying", "arrows"]) fun _ _ _ _ _ _ us hl => match us, hl with | [_, _, _], _ => rfl
  have b2 := F2.binds (ps := ["_law_script", "_law_base"]) fun _ _ _ _ _ _ us hl => match us, hl with | [_, _], _ => rfl
  have b3 := F3.binds (ps := ["_law_deal_here", "_law_many"]) fun _ _ _ _ _ _ us hl => match us, hl with | [_, _], _ => rfl
  have b4 := F4.binds (ps := ["_law_deal_here", "_law_many"]) fun _ _ _ _ _ _ us hl => match us, hl with | [_, _], _ => rfl
  have b5 := F5.binds (ps := ["_law_deal_here", "_law_sizes", "_law_found"]) fun _ _ _ _ _ _ us hl => match us, hl with | [_, _, _], _ => rfl
  have b6 := F6.binds (ps := ["_law_deal_here", "_law_hands", "_law_letters", "_law_many", "_law_most"]) fun _ _ _ _ _ _ us hl => match us, hl with | [_, _, _, _, _], _ => rfl
  have b7 := F7.binds (ps := ["_law_deal_here", "_law_sizes", "_law_hand"]) fun _ _ _ _ _ _ us hl => match us, hl with | [_, _, _], _ => rfl
  have b8 := F8.binds (ps := ["_law_deal_here", "_law_stands", "_law_most"]) fun _ _ _ _ _ _ us hl => match us, hl with | [_, _, _], _ => rfl
  have b9 := F9.binds (ps := ["_law_deal_here", "_law_game_here", "_law_own", "_law_many", "_law_most"]) fun _ _ _ _ _ _ us hl => match us, hl with | [_, _, _, _, _], _ => rfl
  have b10 := F10.binds (ps := ["_law_deal_here", "_law_game_here", "_law_most"]) fun _ _ _ _ _ _ us hl => match us, hl with | [_, _, _], _ => rfl
  have b11 := F11.binds (ps := ["_law_deal_here", "_law_game_here", "_law_stands"]) fun _ _ _ _ _ _ us hl => match us, hl with | [_, _, _], _ => rfl
  have b12 := F12.binds (ps := ["_law_game_here", "_law_saying_here", "_law_arrows_here"]) fun _ _ _ _ _ _ us hl => match us, hl with | [_, _, _], _ => rfl
  have m_len := PySem.W.mg_none_of X G z_len
  have m_tuple := PySem.W.mg_none_of X G z_tuple
  have m_sorted := PySem.W.mg_none_of X G z_sorted
  have m_set := PySem.W.mg_none_of X G z_set
  have m_max := PySem.W.mg_none_of X G z_max
  have m_list := PySem.W.mg_none_of X G z_list
  have m_reversed := PySem.W.mg_none_of X G z_reversed
  have m_range := PySem.W.mg_none_of X G z_range
  have m_int := PySem.W.mg_none_of X G z_int
  have m_zip := PySem.W.mg_none_of X G z_zip
  have m_enumerate := PySem.W.mg_none_of X G z_enumerate
  refine ⟨PySem.W.fnOf "law" "law" (defArgs sLaw) (defBody sLaw) (defScope sLaw) .none kV13 dc13 pm13 an13 cd13 ct13, fun s v => .of_eq rfl, fun base _ _ => ?_⟩
  have g1 := ok_as (P := l.prog) (w := w) (mg := mg) (base := base) (n := 0) F1 m_len m_tuple m_sorted m_set
  have q1 : VCal l.prog w K mg base 1 "as_saying" ["game", "saying", "arrows"] _ := ⟨_, _, g1, b1, k1, PySem.W.mg_of X G a1⟩
  have g2 := ok_de (P := l.prog) (w := w) (mg := mg) (base := base) (n := 0) F2 m_max m_list m_reversed
  have q2 : VCal l.prog w K mg base 1 "_law_deal" ["_law_script", "_law_base"] _ := ⟨_, _, g2, b2, k2, PySem.W.mg_of X G a2⟩
  have g3 := ok_dr (P := l.prog) (w := w) (mg := mg) (base := base) (n := 0) F3 m_len
  have q3 : VCal l.prog w K mg base 1 "_law_draw" ["_law_deal_here", "_law_many"] _ := ⟨_, _, g3, b3, k3, PySem.W.mg_of X G a3⟩
  have g4 := ok_na (P := l.prog) (w := w) (mg := mg) (base := base) (n := 1) F4 (q3.mono (by decide)) m_range m_len m_int
  have q4 : VCal l.prog w K mg base 2 "_law_names" ["_law_deal_here", "_law_many"] _ := ⟨_, _, g4, b4, k4, PySem.W.mg_of X G a4⟩
  have g5 := ok_ru (P := l.prog) (w := w) (mg := mg) (base := base) (n := 1) F5 (q3.mono (by decide)) m_len m_tuple m_range
  have q5 : VCal l.prog w K mg base 2 "_law_rule" ["_law_deal_here", "_law_sizes", "_law_found"] _ := ⟨_, _, g5, b5, k5, PySem.W.mg_of X G a5⟩
  have g6 := ok_rs (P := l.prog) (w := w) (mg := mg) (base := base) (n := 2) F6 (q5.mono (by decide)) m_range m_len m_tuple
  have q6 : VCal l.prog w K mg base 3 "_law_rules" ["_law_deal_here", "_law_hands", "_law_letters", "_law_many", "_law_most"] _ := ⟨_, _, g6, b6, k6, PySem.W.mg_of X G a6⟩
  have g7 := ok_ga (P := l.prog) (w := w) (mg := mg) (base := base) (n := 3) F7 (q3.mono (by decide)) (q4.mono (by decide)) (q6.mono (by decide)) m_range m_int m_len m_tuple m_zip
  have q7 : VCal l.prog w K mg base 4 "_law_game" ["_law_deal_here", "_law_sizes", "_law_hand"] _ := ⟨_, _, g7, b7, k7, PySem.W.mg_of X G a7⟩
  have g8 := ok_so (P := l.prog) (w := w) (mg := mg) (base := base) (n := 1) F8 (q3.mono (by decide)) m_tuple
  have q8 : VCal l.prog w K mg base 2 "_law_some" ["_law_deal_here", "_law_stands", "_law_most"] _ := ⟨_, _, g8, b8, k8, PySem.W.mg_of X G a8⟩
  have g9 := ok_sa (P := l.prog) (w := w) (mg := mg) (base := base) (n := 2) F9 (q3.mono (by decide)) (q8.mono (by decide)) m_len m_list m_range m_tuple m_sorted
  have q9 : VCal l.prog w K mg base 3 "_law_saying" ["_law_deal_here", "_law_game_here", "_law_own", "_law_many", "_law_most"] _ := ⟨_, _, g9, b9, k9, PySem.W.mg_of X G a9⟩
  have g10 := ok_pi (P := l.prog) (w := w) (mg := mg) (base := base) (n := 1) F10 (q3.mono (by decide)) m_tuple m_range m_len
  have q10 : VCal l.prog w K mg base 2 "_law_pile" ["_law_deal_here", "_law_game_here", "_law_most"] _ := ⟨_, _, g10, b10, k10, PySem.W.mg_of X G a10⟩
  have g11 := ok_ar (P := l.prog) (w := w) (mg := mg) (base := base) (n := 2) F11 (q3.mono (by decide)) (q8.mono (by decide)) m_range m_list m_len m_tuple m_sorted m_set
  have q11 : VCal l.prog w K mg base 3 "_law_arrows" ["_law_deal_here", "_law_game_here", "_law_stands"] _ := ⟨_, _, g11, b11, k11, PySem.W.mg_of X G a11⟩
  have g12 := ok_du (P := l.prog) (w := w) (mg := mg) (base := base) (n := 0) F12 m_len m_range m_int m_sorted m_enumerate m_tuple
  have q12 : VCal l.prog w K mg base 1 "_law_due" ["_law_game_here", "_law_saying_here", "_law_arrows_here"] _ := ⟨_, _, g12, b12, k12, PySem.W.mg_of X G a12⟩
  have g13 := ok_law (P := l.prog) (w := w) (mg := mg) (base := base) (n := 4) F13 (q2.mono (by decide)) (q7.mono (by decide)) (q9.mono (by decide)) (q11.mono (by decide)) (q1.mono (by decide)) (q12.mono (by decide)) m_len
  exact g13.mono (by decide)
theorem walk {l : PySem.W.OpenLaw} {q : Program} {loose : List Str} {XP : (Str → Option Value) → Heap → Prop} {YP : World → Heap → Prop} {d : DefRec} {K : Params → PySem.W.Frag} (hn : l.most = some 63) (hdf : d.params.defaults = [])
    (hY : ∀ (w : World) (h : Heap), YP w h → (K w.params).In h)
    (F : ∀ (w : World) (mg : Str → Option Value) (fa : Addr) (h : Heap), (K w.params).In h → h.Ns mainGlobals mg → mg d.name = some (.ref fa) →
      ∃ fd : FuncData, (∀ (s : Shared) (u : Value), BindsTo s fd ⟨[u], []⟩ [("_law_script", u)]) ∧ ∀ base : Heap, (K w.params).In base → base.Ns mainGlobals mg → FnOk l.prog w (K w.params) mg base CX0 65 fa fd ["_law_script"] (spLaw (K w.params))) :
    PySem.W.WalkO q loose XP YP l.row.toRowW d [] (fun f vs => PySem.call f vs) :=
  L2.walk_of (n := 63) (k := 65) (x := "_law_script") (CX := fun _ => CX0) (sp := fun w => spLaw (K w.params)) hn (by decide) hdf ⟨rfl, by decide, by decide, rfl⟩ hY F (fun _ _ a ns hl hO hS => ⟨a, ns, rfl, hS, hO, hl, fun _ => rfl⟩) fun _ _ _ _ _ z => z
end K48
open PySem PySem.W PyProof.Rows
set_option maxRecDepth 100000 in
set_option maxHeartbeats 0 in
theorem PySem.Challenge.cw_pileduel_k48_machines_as_sayings_holds : PySem.Challenge.rw_pileduel_k48_machines_as_sayings.Holds := by
  w_on; o_law; k_head; (case hw => w_witness2)
  k_fill
  refine K48.walk (l := PySem.Challenge.rw_pileduel_k48_machines_as_sayings) rfl rfl (fun w h Y => PySem.W.kIn_of Y) ?F
  case F =>
    intro w mg fa h KX G hmg
    refine' K48.all_mk KX G hmg ?a1 ?l1 ?c_1 ?k1 ?a2 ?l2 ?c_2 ?k2 ?a3 ?l3 ?c_3 ?k3 ?a4 ?l4 ?c_4 ?k4 ?a5 ?l5 ?c_5 ?k5 ?a6 ?l6 ?c_6 ?k6 ?a7 ?l7 ?c_7 ?k7 ?a8 ?l8 ?c_8 ?k8 ?a9 ?l9 ?c_9 ?k9 ?a10 ?l10 ?c_10 ?k10 ?a11 ?l11 ?c_11 ?k11 ?a12 ?l12 ?c_12 ?k12 ?a13 ?l13 ?c_13 ?k13 ?z_len ?z_tuple ?z_sorted ?z_set ?z_max ?z_list ?z_reversed ?z_range ?z_int ?z_zip ?z_enumerate
    (case a1 => k_is)
    (case l1 => k_is)
    (case c_1 => k_is)
    (case k1 => k_is)
    (case a2 => k_is)
    (case l2 => k_is)
    (case c_2 => k_is)
    (case k2 => k_is)
    (case a3 => k_is)
    (case l3 => k_is)
    (case c_3 => k_is)
    (case k3 => k_is)
    (case a4 => k_is)
    (case l4 => k_is)
    (case c_4 => k_is)
    (case k4 => k_is)
    (case a5 => k_is)
    (case l5 => k_is)
    (case c_5 => k_is)
    (case k5 => k_is)
    (case a6 => k_is)
    (case l6 => k_is)
    (case c_6 => k_is)
    (case k6 => k_is)
    (case a7 => k_is)
    (case l7 => k_is)
    (case c_7 => k_is)
    (case k7 => k_is)
    (case a8 => k_is)
    (case l8 => k_is)
    (case c_8 => k_is)
    (case k8 => k_is)
    (case a9 => k_is)
    (case l9 => k_is)
    (case c_9 => k_is)
    (case k9 => k_is)
    (case a10 => k_is)
    (case l10 => k_is)
    (case c_10 => k_is)
    (case k10 => k_is)
    (case a11 => k_is)
    (case l11 => k_is)
    (case c_11 => k_is)
    (case k11 => k_is)
    (case a12 => k_is)
    (case l12 => k_is)
    (case c_12 => k_is)
    (case k12 => k_is)
    (case a13 => k_is)
    (case l13 => k_is)
    (case c_13 => k_is)
    (case k13 => k_is)
    (case z_len => k_is)
    (case z_tuple => k_is)
    (case z_sorted => k_is)
    (case z_set => k_is)
    (case z_max => k_is)
    (case z_list => k_is)
    (case z_reversed => k_is)
    (case z_range => k_is)
    (case z_int => k_is)
    (case z_zip => k_is)
    (case z_enumerate => k_is)
