import PyProof.Rows.All
import Wide.All
import OpenK.AllK
import Wide.FinOn
import Lean
import PyProof.EqAt
import PyProof.EqKinds
import PyProof.TupleCall
import PyProof.ZipIter
import PyProof.DictWalks
import PyProof.StrOps2
import KE.IntTextLaws
import PyProof.StrBlockI
import PyProof.StrLawsIn
import PyProof.AutoSeq1
import PyProof.WalkInts
import PyProof.Rows.SetFrom
import PyProof.SetKind
import PyProof.CollectWalk
import PyProof.MinMaxWalk
import PyProof.TupleKey
import PyProof.FString5
import KE.KDictOf
import PyProof.AttrMissHeap
import KE.KSortTup
import PyProof.MeetsSeq3
import PyProof.DictUpdate
import PyProof.StrLawsChain
import PyProof.StrLawsTight
import PyProof.Rows.StrItems
import PyProof.ExcInit
import PyProof.ExcClass3
import PyProof.ExcBaseAll.ValueError
import PyProof.FString
import PyProof.Rows.FStr
import PyProof.RaisesMany
import PyProof.RulesAs
import PyProof.NsDelKeeps
import PyProof.ExcAttrAll.ValueError
import PyProof.Rows.SumAny
import PySem.Challenge.RW_digmatrix_k71_a_matrix_shown
set_option Elab.async false
set_option linter.all false
set_option maxRecDepth 100000
/-! no twins are wanted of these: the compiled file would be too large -/
def PySem.W.Fast.tw17074832025829971545 : Unit := ()
def PySem.W.Fast.tw11413787809816743077 : Unit := ()
def PySem.W.Fast.tw16899948435320303333 : Unit := ()
def PySem.W.Fast.tw5623985825002617473 : Unit := ()
def PySem.W.Fast.tw16230290014290221668 : Unit := ()
def PySem.W.Fast.tw1694024580368613997 : Unit := ()
def PySem.W.Fast.tw8907806202405054625 : Unit := ()
def PySem.W.Fast.tw10262196571322960959 : Unit := ()
def PySem.W.Fast.tw6523652444370530886 : Unit := ()
def PySem.W.Fast.tw8297966793408848653 : Unit := ()
def PySem.W.Fast.tw14925066838310771552 : Unit := ()
def PySem.W.Fast.tw12682580919853281079 : Unit := ()
-- CHANGE: your row's module here, as the last of these rows
/-! THE HAND LAYER, for ints, bools, texts, own classes, LISTS and tuples (index, slices, in, append, pop ..), calls, loops. Paste it whole ahead of your own text; what your proof does not reach may be deleted. -/
namespace L2
open PySem PySem.Spec PyProof.Rows

/-- a key: an int or a str -/
abbrev Key := Sum Int Str
def keyIs : Key → Value → Bool
  | .inl k, v => Value.isInt k v
  | .inr x, v => Value.isStrOf x v
def keyH (w : World) : Key → Int
  | .inl k => hashInt k
  | .inr x => hashStr w x
theorem keyIs_shape : ∀ {k : Key} {v : Value}, keyIs k v = true → (∃ i t, k = Sum.inl i ∧ v = Value.int i t) ∨ (∃ x t, k = Sum.inr x ∧ v = Value.str x t)
  | .inl i, v, h => by
    obtain ⟨t, e⟩ := Value.isInt_shape (k := i) (v := v) h
    exact .inl ⟨i, t, rfl, e⟩
  | .inr x, v, h => by
    obtain ⟨t, e⟩ := Value.isStrOf_shape (x := x) (v := v) h
    exact .inr ⟨x, t, rfl, e⟩
theorem keyIs_int (i : Int) (t : Tok) : keyIs (.inl i) (.int i t) = true := by simp [keyIs, Value.isInt]
theorem keyIs_str (x : Str) (t : Tok) : keyIs (.inr x) (.str x t) = true := by simp [keyIs, Value.isStrOf]
theorem key_ll (a b : Int) : decide ((Sum.inl a : Key) = Sum.inl b) = (a == b) := by
  by_cases e : a = b
  · subst e; simp
  · have h : ¬ (Sum.inl a : Key) = Sum.inl b := fun q => e (Sum.inl.inj q)
    rw [decide_eq_false h]
    exact (beq_eq_false_iff_ne.mpr e).symm
theorem key_rr (a b : Str) : decide ((Sum.inr a : Key) = Sum.inr b) = decide (a = b) := by
  by_cases e : a = b
  · subst e; simp
  · have h : ¬ (Sum.inr a : Key) = Sum.inr b := fun q => e (Sum.inr.inj q)
    rw [decide_eq_false h, decide_eq_false e]
theorem key_lr (a : Int) (b : Str) : decide ((Sum.inl a : Key) = Sum.inr b) = false := decide_eq_false (fun q => nomatch q)
theorem key_rl (a : Str) (b : Int) : decide ((Sum.inr a : Key) = Sum.inl b) = false := decide_eq_false (fun q => nomatch q)

def mixKind (prog : Program) (w : World) : PySem.KeyKind prog w Key where
  is := keyIs
  hash := keyH w
  inj := fun v a b ha hb => by
    rcases keyIs_shape ha with ⟨i, t, rfl, rfl⟩ | ⟨x, t, rfl, rfl⟩
    · rcases keyIs_shape hb with ⟨j, u, rfl, e⟩ | ⟨y, u, rfl, e⟩
      · injection e with e1 _; rw [e1]
      · exact nomatch e
    · rcases keyIs_shape hb with ⟨j, u, rfl, e⟩ | ⟨y, u, rfl, e⟩
      · exact nomatch e
      · injection e with e1 _; rw [e1]
  byValue := fun k v h => by
    rcases keyIs_shape h with ⟨i, t, rfl, rfl⟩ | ⟨x, t, rfl, rfl⟩ <;> rfl
  pyHash := fun hv h => by
    rcases keyIs_shape hv with ⟨i, t, rfl, rfl⟩ | ⟨x, t, rfl, rfl⟩
    · exact wpAny_pyHash_int h
    · exact wpAny_pyHash_str h
  eqBool := fun hu hv h => by
    rcases keyIs_shape hu with ⟨i, t, rfl, rfl⟩ | ⟨x, t, rfl, rfl⟩
    · rcases keyIs_shape hv with ⟨j, u, rfl, rfl⟩ | ⟨y, u, rfl, rfl⟩
      · rw [key_ll] at h; exact wpAny_eqBool_int h
      · rw [key_lr] at h; exact SeqAt.EqAt.int_str i t y u _ _ _ _ h
    · rcases keyIs_shape hv with ⟨j, u, rfl, rfl⟩ | ⟨y, u, rfl, rfl⟩
      · rw [key_rl] at h; exact SeqAt.EqAt.str_int x t j u _ _ _ _ h
      · rw [key_rr] at h; exact wpAny_eqBool_str h
  «strs» := fun k x t v h => by
    rcases keyIs_shape h with ⟨i, u, rfl, e⟩ | ⟨y, u, rfl, e⟩
    · exact nomatch e
    · injection e with e1 _
      subst e1
      cases v <;> rfl

theorem mixKind_int (prog : Program) (w : World) (i : Int) (t : Tok) : (mixKind prog w).is (.inl i) (.int i t) = true := keyIs_int i t
theorem mixKind_str (prog : Program) (w : World) (x : Str) (t : Tok) : (mixKind prog w).is (.inr x) (.str x t) = true := keyIs_str x t
end L2

namespace L2
open PySem PySem.Spec PyProof.Rows

/-- a value, without the heap -/
inductive V where
  | non | bl (b : Bool) | int (i : Int) | str (x : Str) | byt (b : Array UInt8) | flt (b : UInt64) | ref (a : Addr) | ty (n : String)
  deriving DecidableEq

def RelV : V → Value → Prop
  | .non, u => u = Value.none
  | .bl b, u => u = Value.bool b
  | .int i, u => ∃ t, u = Value.int i t
  | .str x, u => ∃ t, u = Value.str x t
  | .byt b, u => ∃ t, u = Value.bytes b t
  | .flt b, u => ∃ t, u = Value.float b t
  | .ref a, u => u = Value.ref a
  | .ty n, u => u = Value.type n

abbrev Vals : List V → List Value → Prop := Paired RelV
theorem Vals.length {xs : List V} {us : List Value} (r : Vals xs us) : xs.length = us.length := Paired.length r
theorem Vals.get : ∀ {xs : List V} {us : List Value} {i : Nat} {x : V}, Vals xs us → xs[i]? = some x → ∃ u, us[i]? = some u ∧ RelV x u
  | _, _, _, _, .nil, e => by simp at e
  | _, _, 0, _, .cons r _, e => by simp at e; subst e; exact ⟨_, rfl, r⟩
  | _, _, i + 1, x, .cons _ t, e => by
    obtain ⟨u, h1, h2⟩ := Vals.get (i := i) (x := x) t (by simpa using e)
    exact ⟨u, by simpa using h1, h2⟩
theorem Vals.append : ∀ {xs ys : List V} {us ws : List Value}, Vals xs us → Vals ys ws → Vals (xs ++ ys) (us ++ ws)
  | _, _, _, _, .nil, s => s
  | _, _, _, _, .cons r t, s => .cons r (Vals.append t s)
theorem Vals.take : ∀ {xs : List V} {us : List Value} (n : Nat), Vals xs us → Vals (xs.take n) (us.take n)
  | _, _, 0, _ => .nil
  | _, _, _ + 1, .nil => .nil
  | _, _, n + 1, .cons r t => .cons r (Vals.take n t)
theorem Vals.drop : ∀ {xs : List V} {us : List Value} (n : Nat), Vals xs us → Vals (xs.drop n) (us.drop n)
  | _, _, 0, r => r
  | _, _, _ + 1, .nil => .nil
  | _, _, n + 1, .cons _ t => Vals.drop n t

def RelO : Option V → Option Value → Prop
  | some v, some u => RelV v u
  | none, none => True
  | _, _ => False
def KV {κ : Type} : List (κ × V) → List (κ × Value) → Prop := Paired fun (p : κ × V) (q : κ × Value) => p.1 = q.1 ∧ RelV p.2 q.2

/-- a key of a dict (00_mix): an int or a text -/
def kV : Key → V
  | .inl i => .int i
  | .inr x => .str x

/-- what stands at a tracked address -/
inductive HO where
  /-- a list -/
  | lst (xs : List V)
  /-- a tuple (never changes) -/
  | tup (xs : List V)
  /-- a dict whose keys are ints and texts; one whose keys are tuples of ints and texts (the empty one is both) -/
  | dK (kvs : List (Key × V)) | dT (kvs : List (List Key × V))
  /-- a set of ints: its members, its size -/
  | set (S : Int → Bool) (n : Nat)
  /-- an instance of the class at C, its dict at dx, its attributes -/
  | ins (C dx : Addr) (fs : List (Str × V))
  /-- the dict of the instance at x -/
  | own (x : Addr)
  /-- the dict of an exception -/
  | xd (fs : List (Str × V))
  /-- a bound method, f of x -/
  | met (f x : Addr)
  /-- a range object lo, lo + 1, .. below hi -/
  | rng (lo hi : Int)
  /-- a thing that is known to the object (the script; a dict while a loop walks it): read, never written while it is so -/
  | frz (o : Obj) (u : HO)
  /-- a code object's table -/
  | tbl (ps : Array Value)
  /-- any other thing, by what is true of its one object (a def of one's own: SetO a S n := HO.ext fun h => ..) -/
  | ext (φ : Heap → Prop)

abbrev Hp := Addr → Option HO
def upd (H : Hp) (a : Addr) (o : HO) : Hp := fun b => if b = a then some o else H b
theorem upd_same {H : Hp} {a : Addr} {o : HO} : upd H a o a = some o := by unfold upd; rw [if_pos rfl]
theorem upd_ne {H : Hp} {a b : Addr} {o : HO} (h : b ≠ a) : upd H a o b = H b := by unfold upd; rw [if_neg h]
theorem upd_upd {H : Hp} {a : Addr} {o u : HO} : upd (upd H a o) a u = upd H a u := by
  funext b; unfold upd; split <;> rfl
/-- two objects of different content stand apart -/
theorem ne_of {H : Hp} {a b : Addr} {o u : HO} (h : H a = some o) (h' : H b = some u) (d : o ≠ u) : a ≠ b := by
  intro e; subst e; rw [h] at h'; exact d (Option.some.inj h')
theorem ne_of_none {H : Hp} {a b : Addr} {o : HO} (h : H a = some o) (h' : H b = none) : a ≠ b := by
  intro e; subst e; rw [h] at h'; cases h'

section
variable (P : Program) (w : World)
def ObjOk (H : Hp) (h : Heap) (a : Addr) : HO → Prop
  | .lst xs => xs.length ≤ sizeLine ∧ ∃ (its : List Value) (n : Nat), Vals xs its ∧ h.get? a = some { cls := .type "list", data := .seq its.toArray n }
  | .tup xs => xs.length ≤ sizeLine ∧ ∃ its : List Value, Vals xs its ∧ IsTup h a its.toArray
  | .dK kvs => kvs.length ≤ sizeLine ∧ (a == sysModules) = false ∧ ∃ vs, KV kvs vs ∧ h.DictOf (mixKind P w) a vs
  | .dT kvs => kvs.length ≤ sizeLine ∧ (a == sysModules) = false ∧ ∃ xs : List (List Key × Addr × Value),
      Paired (fun (p : List Key × V) (q : List Key × Addr × Value) => p.1 = q.1 ∧ H q.2.1 = some (.tup (p.1.map kV)) ∧ RelV p.2 q.2.2) kvs xs ∧
      ∃ o es ep, h.get? a = some o ∧ o.ExactDict ∧ o.data = .dict es ep ∧ es.toList = xs.map (entryOfKey (tupleKind (mixKind P w))) ∧ (xs.map (·.1)).Nodup
  | .set S n => h.SetOf (intKind P w) a S n
  | .ins C dx fs => H dx = some (.own a) ∧ fs.length ≤ 1000 ∧ dx ≠ a ∧ h.get? a = some (PySem.W.instObj C dx) ∧
      ∃ mA, h.Ns1 dx mA ∧ (∀ f, RelO (fs.lookup f) (mA f)) ∧ PySem.Within mA (fs.map (·.1))
  | .own _ => ∃ o, h.get? a = some o
  | .xd fs => ∃ mA, h.Ns1 a mA ∧ ∀ f, RelO (fs.lookup f) (mA f)
  | .rng lo hi => ∃ t u v, h.get? a = some { cls := .type "range", data := .fields #[.int lo t, .int hi u, .int 1 v] }
  | .frz o u => h.get? a = some o ∧ ObjOk H h a u
  | .tbl ps => h.get? a = some { cls := .none, data := .fields ps }
  | .met f x => h.get? a = some (PySem.W.methodObj (.ref f) (.ref x))
  | .ext φ => φ h ∧ (∃ o, h.get? a = some o) ∧ ∀ h1 h2 : Heap, φ h1 → (∀ o, h1.get? a = some o → h2.get? a = some o) → φ h2
/-- the abstract heap is held -/
def HOk (H : Hp) (h : Heap) : Prop := ∀ a o, H a = some o → ObjOk P w H h a o
end

section
variable {P : Program} {w : World} {H H' : Hp} {h h' : Heap} {a : Addr} {o : HO}
theorem ObjOk.lt (x : ObjOk P w H h a o) : a < h.objs.size := by
  cases o with
  | lst xs => obtain ⟨_, _, _, _, e⟩ := x; exact Heap.lt_size e
  | tup xs => obtain ⟨_, _, _, p⟩ := x; exact p.lt
  | dK kvs => obtain ⟨_, _, _, _, o, _, _, e, _⟩ := x; exact Heap.lt_size e
  | dT kvs => obtain ⟨_, _, _, _, o, _, _, e, _⟩ := x; exact Heap.lt_size e
  | set S n => obtain ⟨o, _, _, _, e, _⟩ := x; exact Heap.lt_size e
  | ins C dx fs => obtain ⟨_, _, _, e, _⟩ := x; exact Heap.lt_size e
  | own y => obtain ⟨_, e⟩ := x; exact Heap.lt_size e
  | xd fs => obtain ⟨_, ⟨_, _, _, e, _⟩, _⟩ := x; exact Heap.lt_size e
  | rng lo hi => obtain ⟨_, _, _, e⟩ := x; exact Heap.lt_size e
  | frz ob u => obtain ⟨e, _⟩ := x; exact Heap.lt_size e
  | tbl ps => exact Heap.lt_size (show h.get? a = some _ from x)
  | met f y => exact Heap.lt_size (show h.get? a = some _ from x)
  | ext φ => obtain ⟨_, ⟨_, e⟩, _⟩ := x; exact Heap.lt_size e
theorem Paired.mapP {α β : Type} {F G : α → β → Prop} : ∀ {l₁ : List α} {l₂ : List β}, Paired F l₁ l₂ → (∀ a b, F a b → G a b) → Paired G l₁ l₂
  | _, _, .nil, _ => .nil
  | _, _, .cons r t, f => .cons (f _ _ r) (Paired.mapP t f)
/-- what an object's description leans on: its own object, its own dict, the tuples -/
theorem ObjOk.stay (x : ObjOk P w H h a o) (k : ∀ b u, (b = a ∨ H b = some (.own a)) → h.get? b = some u → h'.get? b = some u)
    (ho : ∀ b, H b = some (.own a) → H' b = some (.own a)) (ht : ∀ b xs, H b = some (.tup xs) → H' b = some (.tup xs)) : ObjOk P w H' h' a o := by
  induction o with
  | lst xs => obtain ⟨z, its, n, r, e⟩ := x; exact ⟨z, its, n, r, k _ _ (.inl rfl) e⟩
  | tup xs => obtain ⟨z, its, r, ob, e, c⟩ := x; exact ⟨z, its, r, ob, k _ _ (.inl rfl) e, c⟩
  | dK kvs => obtain ⟨z, y, vs, r, ob, es, ep, e, c⟩ := x; exact ⟨z, y, vs, r, ob, es, ep, k _ _ (.inl rfl) e, c⟩
  | dT kvs =>
    obtain ⟨z, y, xs, r, ob, es, ep, e, c⟩ := x
    exact ⟨z, y, xs, Paired.mapP r fun p q z => ⟨z.1, ht _ _ z.2.1, z.2.2⟩, ob, es, ep, k _ _ (.inl rfl) e, c⟩
  | set S n => obtain ⟨ob, es, ep, t, e, c⟩ := x; exact ⟨ob, es, ep, t, k _ _ (.inl rfl) e, c⟩
  | ins C dx fs =>
    obtain ⟨d, z, ne, e, mA, ⟨od, es, ep, e2, c⟩, r⟩ := x
    exact ⟨ho _ d, z, ne, k _ _ (.inl rfl) e, mA, ⟨od, es, ep, k _ _ (.inr d) e2, c⟩, r⟩
  | own y => obtain ⟨ob, e⟩ := x; exact ⟨ob, k _ _ (.inl rfl) e⟩
  | xd fs => obtain ⟨mA, ⟨od, es, ep, e, c⟩, r⟩ := x; exact ⟨mA, ⟨od, es, ep, k _ _ (.inl rfl) e, c⟩, r⟩
  | rng lo hi => obtain ⟨t, u, v, e⟩ := x; exact ⟨t, u, v, k _ _ (.inl rfl) e⟩
  | frz ob u ih => obtain ⟨e, q⟩ := x; exact ⟨k _ _ (.inl rfl) e, ih q⟩
  | tbl ps =>
    have e : h.get? a = some { cls := .none, data := .fields ps } := x
    show h'.get? a = some { cls := .none, data := .fields ps }
    exact k a _ (.inl rfl) e
  | met f y =>
    have e : h.get? a = some (PySem.W.methodObj (.ref f) (.ref y)) := x
    show h'.get? a = some (PySem.W.methodObj (.ref f) (.ref y))
    exact k a _ (.inl rfl) e
  | ext φ => obtain ⟨p, ⟨o, e⟩, st⟩ := x; exact ⟨st _ _ p fun o q => k _ _ (.inl rfl) q, ⟨o, k _ _ (.inl rfl) e⟩, st⟩
theorem HOk.lt (x : HOk P w H h) (e : H a = some o) : a < h.objs.size := (x a o e).lt
theorem HOk.fresh (x : HOk P w H h) (e : h.objs.size ≤ a) : H a = none := by
  cases q : H a with
  | none => rfl
  | some u => exact absurd (Nat.lt_of_lt_of_le (x.lt q) e) (Nat.lt_irrefl _)
/-- every object of the heap is kept -/
theorem HOk.kept (x : HOk P w H h) (k : ∀ b u, h.get? b = some u → h'.get? b = some u) : HOk P w H h' := fun a o e =>
  (x a o e).stay (fun b u _ q => k b u q) (fun _ q => q) fun _ _ q => q
/-- a new object is laid and tracked -/
theorem HOk.laid (x : HOk P w H h) (k : ∀ b u, h.get? b = some u → h'.get? b = some u) (hp : h.objs.size ≤ a) (new : ObjOk P w (upd H a o) h' a o) : HOk P w (upd H a o) h' := fun b u e => by
  have hn := x.fresh hp
  by_cases hb : b = a
  · subst hb; rw [upd_same] at e; cases e; exact new
  · rw [upd_ne hb] at e
    exact (x b u e).stay (fun c v _ q => k c v q) (fun c q => by rw [upd_ne (ne_of_none q hn)]; exact q) fun c xs q => by rw [upd_ne (ne_of_none q hn)]; exact q
end

/-- what may be read as u: it is u, or a known u -/
def Rd (H : Hp) (a : Addr) (u : HO) : Prop := H a = some u ∨ ∃ o, H a = some (.frz o u)
theorem Rd.ok {P : Program} {w : World} {H : Hp} {h : Heap} {a : Addr} {u : HO} (r : Rd H a u) (x : HOk P w H h) : ObjOk P w H h a u := by
  rcases r with r | ⟨o, r⟩
  · exact x a u r
  · obtain ⟨_, q⟩ := x a _ r
    exact q
/-- what may be written -/
def Mut : Option HO → Prop
  | some (.lst _) => True
  | some (.dK _) => True
  | some (.dT _) => True
  | some (.set _ _) => True
  | some (.ins _ _ _) => True
  | some (.ext _) => True
  | _ => False
section
variable {P : Program} {w : World} {H : Hp} {h h' : Heap} {x e : Addr} {o' : HO}
/-- the object at e is changed: x itself, or the dict of the instance x -/
theorem HOk.write (ok : HOk P w H h) (mu : Mut (H x)) (he : e = x ∨ H e = some (.own x)) (k : ∀ b u, b ≠ e → h.get? b = some u → h'.get? b = some u) (heo : ∃ u, h'.get? e = some u)
    (new : ObjOk P w (upd H x o') h' x o') : HOk P w (upd H x o') h' := fun b u q => by
  have nown : ∀ c y, H c = some (.own y) → c ≠ x := fun c y r z => by subst z; rw [r] at mu; exact mu
  have ntup : ∀ c xs, H c = some (.tup xs) → c ≠ x := fun c xs r z => by subst z; rw [r] at mu; exact mu
  by_cases hb : b = x
  · subst hb; rw [upd_same] at q; cases q; exact new
  · rw [upd_ne hb] at q
    by_cases hbe : b = e
    · have q' : H b = some (.own x) := by
        rcases he with z | z
        · exact absurd (hbe.trans z) hb
        · rw [hbe]; exact z
      rw [q] at q'; cases q'
      obtain ⟨v, hv⟩ := heo
      exact ⟨v, by rw [hbe]; exact hv⟩
    · refine (ok b u q).stay (fun c v hc r => k c v ?_ r) (fun c r => by rw [upd_ne (nown c b r)]; exact r) fun c xs r => by rw [upd_ne (ntup c xs r)]; exact r
      rcases hc with rfl | hc
      · exact hbe
      · rintro rfl
        rcases he with z | z
        · exact nown c b hc z
        · rw [hc] at z; cases z; exact hb rfl
end

/-! ### kept unless tracked; of the frames at fs (the callers') the slots may change (an exception that passes writes there); of the records at ex (iterators) nothing is said -/
structure Un (fs ex : List Addr) (H H' : Hp) (h h' : Heap) : Prop where
  keep : ∀ b o, h.get? b = some o → H b = none → b ∉ fs → b ∉ ex → h'.get? b = some o
  slot : ∀ b o, h.get? b = some o → H b = none → b ∈ fs → b ∉ ex → ∃ sl, h'.get? b = some { o with slots := sl }
  free : ∀ b o, h.get? b = some o → H b = none → b ∉ ex → H' b = none
  there : ∀ b o, h.get? b = some o → b ∉ ex → ∃ o', h'.get? b = some o'
  tups : ∀ b xs, H b = some (.tup xs) → H' b = some (.tup xs)
  frzs : ∀ b o u, H b = some (.frz o u) → H' b = some (.frz o u)
  tbls : ∀ b ps, H b = some (.tbl ps) → ∃ more, H' b = some (.tbl (ps ++ more))
section
variable {fs fs' ex ex' : List Addr} {H H1 H2 : Hp} {h h1 h2 h' : Heap} {a x e : Addr} {o : HO}
theorem Un.any (u : Un fs ex H H1 h h1) {b : Addr} {ob : Obj} (q : h.get? b = some ob) (n : H b = none) (hx : b ∉ ex) : ∃ sl, h1.get? b = some { ob with slots := sl } := by
  by_cases hb : b ∈ fs
  · exact u.slot b ob q n hb hx
  · exact ⟨ob.slots, u.keep b ob q n hb hx⟩
theorem Un.kept (k : ∀ b u, h.get? b = some u → h'.get? b = some u) : Un fs ex H H h h' :=
  ⟨fun b ob q _ _ _ => k b ob q, fun b ob q _ _ _ => ⟨ob.slots, k b ob q⟩, fun _ _ _ n _ => n, fun b ob q _ => ⟨ob, k b ob q⟩, fun _ _ q => q, fun _ _ _ q => q, fun _ ps q => ⟨#[], by rw [q]; simp⟩⟩
theorem Un.refl : Un fs ex H H h h := Un.kept fun _ _ q => q
theorem Un.laid (k : ∀ b u, h.get? b = some u → h'.get? b = some u) (hp : h.objs.size ≤ a) (hn : H a = none) : Un fs ex H (upd H a o) h h' where
  keep := fun b u q _ _ _ => k b u q
  slot := fun b u q _ _ _ => ⟨u.slots, k b u q⟩
  free := fun b u q n _ => by rw [upd_ne (Nat.ne_of_lt (Nat.lt_of_lt_of_le (Heap.lt_size q) hp))]; exact n
  there := fun b u q _ => ⟨u, k b u q⟩
  tups := fun b xs q => by rw [upd_ne (ne_of_none q hn)]; exact q
  frzs := fun b u xs q => by rw [upd_ne (ne_of_none q hn)]; exact q
  tbls := fun b ps q => ⟨#[], by rw [upd_ne (ne_of_none q hn), q]; simp⟩
theorem Un.write (mu : Mut (H x)) (he : e = x ∨ H e = some (.own x)) (k : ∀ b u, b ≠ e → h.get? b = some u → h'.get? b = some u) (heo : ∃ u, h'.get? e = some u) : Un fs ex H (upd H x o) h h' := by
  have hx : ∀ b, H b = none → b ≠ x := fun b n z => by subst z; rw [n] at mu; exact mu
  have hb : ∀ b, H b = none → b ≠ e := fun b n z => by
    subst z
    rcases he with r | r
    · exact hx b n r
    · rw [n] at r; cases r
  have hm : ∀ b u, H b = some u → ¬ Mut (some u) → b ≠ x := fun b u q nm z => by subst z; rw [q] at mu; exact nm mu
  refine ⟨fun b u q n _ _ => k b u (hb b n) q, fun b u q n _ _ => ⟨u.slots, k b u (hb b n) q⟩, fun b u q n _ => by rw [upd_ne (hx b n)]; exact n, fun b u q _ => ?_,
    fun b xs q => by rw [upd_ne (hm b _ q fun z => z)]; exact q, fun b u xs q => by rw [upd_ne (hm b _ q fun z => z)]; exact q, fun b ps q => ⟨#[], by rw [upd_ne (hm b _ q fun z => z), q]; simp⟩⟩
  by_cases hbe : b = e
  · subst hbe; exact heo
  · exact ⟨u, k b u hbe q⟩
end

/-! ### the heap without what is tracked -/
def trk (h : Heap) (H : Hp) : List Addr := (List.range h.objs.size).filter fun a => (H a).isSome
def hidT (h : Heap) (H : Hp) : Heap := PySem.W.hideAll h (trk h H)
theorem hidT_size (h : Heap) (H : Hp) : (hidT h H).objs.size = h.objs.size := PySem.W.hideAll_size _ _
theorem hidT_get {h : Heap} {H : Hp} {b : Addr} {o : Obj} (e : h.get? b = some o) (n : H b = none) : (hidT h H).get? b = some o :=
  PySem.W.hideAll_get _ e fun hm => by
    have q : (H b).isSome = true := (List.mem_filter.mp hm).2
    rw [n] at q; simp at q
theorem of_hidT {h : Heap} {H : Hp} {b : Addr} {o : Obj} (e : (hidT h H).get? b = some o) : h.get? b = some o ∧ H b = none := by
  have e' : h.get? b = some o := PySem.W.of_hideAll (trk h H) e
  refine ⟨e', ?_⟩
  cases q : H b with
  | none => rfl
  | some x =>
    have hm : b ∈ trk h H := List.mem_filter.mpr ⟨List.mem_range.mpr (Heap.lt_size e'), by simp [q]⟩
    have z : (hidT h H).get? b = none := PySem.W.hideAll_none (trk h H) hm
    rw [z] at e; cases e

/-! ### OpenK's ledger, filled with every new object but one -/
def allNews (g h : Heap) (L : Addr) : List (Addr × Obj) := (List.range h.objs.size).filterMap fun a => if a = L ∨ (g.get? a).isSome = true then none else (h.get? a).map fun o => (a, o)
def rest (g h : Heap) (L d : Addr) : List (Addr × Obj) := (allNews g h L).filter fun p => decide (p.1 ≠ d)
end L2

namespace L2
open PySem PySem.Spec PyProof.Rows

/-- the module's facts, over the base: the heap at the law's entry without what is tracked there -/
structure Mod (K : PySem.W.Frag) (mg : Str → Option Value) (base : Heap) : Prop where
  kin : K.In base
  glob : base.Ns mainGlobals mg
  blt : ∃ mb, base.Ns builtinsNs mb ∧ ∀ x : Str, x ≠ "__name__" → mb x = bootBuiltins x
  nolimit : base.NoLimit

/-- the context: a def's body (or a comprehension's block) running. base: fixed through the whole law; s₀, H₀: the entry; outer: the frames whose slots others may change (a def's callers); stack: all frames that run;
   ex: iterators that were made ahead of the entry and are walked here (a comprehension's); fn: the names whose cells were made at the entry (a def: all; a comprehension's block: its own); calm: not within an except suite; pn: pins that every state bears; xe: what is wanted of an exception that leaves the code -/
structure Cx where
  prog : Program
  w : World
  K : PySem.W.Frag
  mg : Str → Option Value
  base : Heap
  A : Around
  N : List Str
  s₀ : Shared
  H₀ : Hp
  env : Env
  outer : List Env
  stack : List Env
  ex : List Addr
  fn : Str → Bool
  calm : Bool
  pn : List (Addr × Obj)
  xe : Value → Shared → Prop
/-- the callers' frames -/
def frs (l : List Env) : List Addr := l.filterMap (·.frame)
abbrev Cx.fs (X : Cx) : List Addr := frs X.outer

def Vis (sc : Scope) (x : Str) : Prop := sc.names.lookup x = some .local ∨ sc.names.lookup x = some .cell ∨ sc.names.lookup x = some .free
def Loc (sc : Scope) (x : Str) : Prop := sc.names.lookup x = some .local ∨ sc.names.lookup x = some .cell
def Look (env : Env) (h : Heap) (m : Str → Option Value) (x : Str) (u : Value) : Prop :=
  (env.kindOf x = some .local ∧ m x = some u) ∨ ((env.kindOf x = some .cell ∨ env.kindOf x = some .free) ∧ ∃ c, env.cells.lookup x = some c ∧ h.IsCell c (some u))

structure Cx.Ok (X : Cx) : Prop where
  mod : Mod X.K X.mg X.base
  kind : X.env.scope.kind = .function
  glob : X.env.globals = mainGlobals
  blt : X.env.builtins = builtinsNs
  above : X.s₀.heap.objs.size ≤ X.env.locals
  inj : ∀ x y c, X.env.cells.lookup x = some c → X.env.cells.lookup y = some c → x = y
  has : ∀ x, (X.env.kindOf x = some .cell ∨ X.env.kindOf x = some .free) → ∃ c, X.env.cells.lookup x = some c
  cab : ∀ x c, X.fn x = true → X.env.cells.lookup x = some c → X.s₀.heap.objs.size ≤ c
  hd : X.calm = true → X.A.handled = none
  frames : X.A.frames = some X.stack
  stk : X.stack = X.outer ∨ (X.stack = X.env :: X.outer ∧ X.env.frame = some X.env.locals)
  exf : ∀ b ∈ X.ex, b ≠ X.env.locals ∧ ∀ x c, X.env.cells.lookup x = some c → c ≠ b
  bs : ∀ b o, X.base.get? b = some o → X.s₀.heap.get? b = some o ∧ X.H₀ b = none
  bsz : X.base.objs.size ≤ X.s₀.heap.objs.size
  noex : ∀ b o, X.base.get? b = some o → b ∉ X.ex
  exfs : ∀ b ∈ X.ex, b ∉ X.fs
  funs : X.s₀.heap.FunFrames X.base X.outer
  frf : ∀ b ∈ X.fs, X.H₀ b = none

structure Inv (X : Cx) (pins : List (Addr × Obj)) (σ : List (Option V)) (H : Hp) (s : Shared) : Prop where
  ok : X.Ok
  os : s.os = X.s₀.os
  bare : AllBare s.gens
  base : Un X.fs X.ex X.H₀ H X.s₀.heap s.heap
  loc : ∃ m, s.heap.Ns X.env.locals m ∧ ∀ (i : Nat) (x : Str) (v : V), X.N[i]? = some x → σ[i]? = some (some v) → Vis X.env.scope x → ∃ u, RelV v u ∧ Look X.env s.heap m x u
  cell : ∀ x c, X.env.cells.lookup x = some c → ∃ v, s.heap.IsCell c v
  free : H X.env.locals = none
  freeC : ∀ x c, X.env.cells.lookup x = some c → H c = none
  pin : ∀ p ∈ X.pn ++ pins, s.heap.get? p.1 = some p.2 ∧ H p.1 = none ∧ p.1 ≠ X.env.locals ∧ p.1 ∉ X.fs ∧ ∀ v, p.2.data ≠ .cell v
  hok : HOk X.prog X.w H s.heap
  len : σ.length = X.N.length

section
variable {X : Cx} {pins : List (Addr × Obj)} {σ : List (Option V)} {H H' : Hp} {s : Shared} {h' : Heap}

theorem Cx.Ok.nofr (ok : X.Ok) {b : Addr} {o : Obj} (e : X.base.get? b = some o) : b ∉ X.fs := fun hb => by
  have := (ok.funs.mem hb).1
  rw [e] at this; cases this
theorem Inv.bs (I : Inv X pins σ H s) : ∀ b o, X.base.get? b = some o → s.heap.get? b = some o ∧ H b = none := fun b o e =>
  ⟨I.base.keep b o (I.ok.bs b o e).1 (I.ok.bs b o e).2 (I.ok.nofr e) (I.ok.noex b o e), I.base.free b o (I.ok.bs b o e).1 (I.ok.bs b o e).2 (I.ok.noex b o e)⟩
theorem Inv.bk (I : Inv X pins σ H s) : ∀ b o, X.base.get? b = some o → s.heap.get? b = some o := fun b o e => (I.bs b o e).1
theorem Inv.mod (I : Inv X pins σ H s) : Mod X.K X.mg X.base := I.ok.mod
theorem Inv.kIn (I : Inv X pins σ H s) : X.K.In s.heap := I.ok.mod.kin.keeps I.bk
theorem Inv.lt (I : Inv X pins σ H s) : X.env.locals < s.heap.objs.size := let ⟨_, hn, _⟩ := I.loc; hn.lt
theorem Inv.sz (I : Inv X pins σ H s) : X.s₀.heap.objs.size ≤ s.heap.objs.size := Nat.le_trans I.ok.above (Nat.le_of_lt I.lt)
theorem Inv.nofs (I : Inv X pins σ H s) {a : Addr} (h : s.heap.objs.size ≤ a) : a ∉ X.fs := fun hb => by
  obtain ⟨_, o, ho, _⟩ := I.ok.funs.mem hb
  exact absurd (Nat.lt_of_lt_of_le (Heap.lt_size ho) (Nat.le_trans I.sz h)) (Nat.lt_irrefl _)
theorem Inv.cne (I : Inv X pins σ H s) : ∀ x c, X.env.cells.lookup x = some c → c ≠ X.env.locals := fun x c e z => by
  obtain ⟨v, o, ho, hd⟩ := I.cell x c e
  obtain ⟨m, ⟨o', es, ep, ho', hd', _⟩, _⟩ := I.loc
  rw [z, ho'] at ho; cases ho; rw [hd'] at hd; cases hd
theorem Inv.funs (I : Inv X pins σ H s) : s.heap.FunFrames X.base X.outer := by
  have all : ∀ (l : List Env), (∀ b ∈ frs l, b ∈ X.fs) → X.s₀.heap.FunFrames X.base l → s.heap.FunFrames X.base l := by
    intro l
    induction l with
    | nil => intro _ _; trivial
    | cons env r ih =>
      intro hs hl
      obtain ⟨hk, ⟨L, o, hf, hn, ho, hd⟩, hr⟩ := hl
      have hL : L ∈ X.fs := hs L (by unfold frs; rw [List.filterMap_cons, hf]; exact List.mem_cons_self)
      obtain ⟨sl, e⟩ := I.base.slot L o ho (I.ok.frf L hL) hL fun z => I.ok.exfs L z hL
      exact ⟨hk, ⟨L, _, hf, hn, e, hd⟩, ih (fun b hb => hs b (by unfold frs; rw [List.filterMap_cons, hf]; exact List.mem_cons_of_mem _ hb)) hr⟩
  exact all X.outer (fun _ hb => hb) I.ok.funs

/-- the frames that run, for a call -/
theorem Inv.stack (I : Inv X pins σ H s) : s.heap.FunFrames X.base X.stack := by
  rcases I.ok.stk with e | ⟨e, hf⟩
  · rw [e]; exact I.funs
  · rw [e]
    obtain ⟨m, hn, _⟩ := I.loc
    refine .cons (by rw [I.ok.kind]; decide) hf hn ?_ I.funs
    exact Heap.get?_none_of_le (Nat.le_trans I.ok.bsz I.ok.above)
theorem Inv.stkSub (I : Inv X pins σ H s) : ∀ b ∈ frs X.stack, b ∈ X.env.locals :: X.fs := fun b hb => by
  rcases I.ok.stk with e | ⟨e, hf⟩
  · rw [e] at hb; exact List.mem_cons_of_mem _ hb
  · rw [e] at hb
    unfold frs at hb
    rw [List.filterMap_cons, hf] at hb
    exact hb
theorem Inv.stkFree (I : Inv X pins σ H s) : ∀ b ∈ frs X.stack, H b = none := fun b hb => by
  rcases List.mem_cons.mp (I.stkSub b hb) with e | hb
  · rw [e]; exact I.free
  · obtain ⟨_, o, ho, _⟩ := I.ok.funs.mem hb
    exact I.base.free b o ho (I.ok.frf b hb) fun z => I.ok.exfs b z hb

/-- THE STEP: the untracked objects but the frame and the records at ch are kept (the callers' frames up to slots), the frame's map is kept, the new abstract heap is held -/
theorem Inv.step {g' : Array GenState} {t' : Nat} {d' : Drawn} {ch : List Addr} (I : Inv X pins σ H s)
    (hch : ∀ b ∈ ch, (b ∈ X.ex ∨ X.s₀.heap.objs.size ≤ b) ∧ b ≠ X.env.locals ∧ (∀ x c, X.env.cells.lookup x = some c → c ≠ b) ∧ ∀ p ∈ X.pn ++ pins, p.1 ≠ b)
    (keep : ∀ b o, b ≠ X.env.locals → b ∉ X.fs → b ∉ ch → s.heap.get? b = some o → H b = none → h'.get? b = some o)
    (slot : ∀ b o, b ≠ X.env.locals → b ∈ X.fs → b ∉ ch → s.heap.get? b = some o → H b = none → ∃ sl, h'.get? b = some { o with slots := sl }) (free : ∀ b o, b ∉ ch → s.heap.get? b = some o → H b = none → H' b = none)
    (there : ∀ b o, b ∉ ch → s.heap.get? b = some o → ∃ o', h'.get? b = some o')
    (tups : ∀ b xs, H b = some (.tup xs) → H' b = some (.tup xs)) (frzs : ∀ b o u, H b = some (.frz o u) → H' b = some (.frz o u)) (tbls : ∀ b ps, H b = some (.tbl ps) → ∃ more, H' b = some (.tbl (ps ++ more)))
    (ns : ∀ m, s.heap.Ns X.env.locals m → h'.Ns X.env.locals m) (hok : HOk X.prog X.w H' h') (hg : AllBare g') :
    Inv X pins σ H' { s with heap := h', gens := g', drawn := d', toks := t' } := by
  have neL : ∀ b o, X.s₀.heap.get? b = some o → b ≠ X.env.locals := fun b o e => Nat.ne_of_lt (Nat.lt_of_lt_of_le (Heap.lt_size e) I.ok.above)
  have neC : ∀ b o, X.s₀.heap.get? b = some o → b ∉ X.ex → b ∉ ch := fun b o e hx hb => by
    rcases (hch b hb).1 with z | z
    · exact hx z
    · exact absurd (Nat.lt_of_lt_of_le (Heap.lt_size e) z) (Nat.lt_irrefl _)
  have cellK : ∀ x c, X.env.cells.lookup x = some c → ∀ v, s.heap.IsCell c v → h'.IsCell c v := fun x c e v ⟨o, ho, hd⟩ => by
    have nch : c ∉ ch := fun z => (hch c z).2.2.1 x c e rfl
    by_cases hc : c ∈ X.fs
    · obtain ⟨sl, q⟩ := slot c o (I.cne x c e) hc nch ho (I.freeC x c e)
      exact ⟨_, q, hd⟩
    · exact ⟨o, keep c o (I.cne x c e) hc nch ho (I.freeC x c e), hd⟩
  refine ⟨I.ok, I.os, hg, ⟨fun b o e n hb hx => ?_, fun b o e n hb hx => ?_, fun b o e n hx => ?_, fun b o e hx => ?_, fun b xs e => tups b xs (I.base.tups b xs e), fun b o xs e => frzs b o xs (I.base.frzs b o xs e), fun b ps e => ?_⟩, ?_, fun x c e => ?_, ?_, fun x c e => ?_, fun p hp => ?_, hok, I.len⟩
  · exact keep b o (neL b o e) hb (neC b o e hx) (I.base.keep b o e n hb hx) (I.base.free b o e n hx)
  · obtain ⟨sl, e1⟩ := I.base.slot b o e n hb hx
    obtain ⟨sl', e2⟩ := slot b _ (neL b o e) hb (neC b o e hx) e1 (I.base.free b o e n hx)
    exact ⟨sl', e2⟩
  · obtain ⟨o', e1⟩ := I.base.there b o e hx
    exact free b o' (neC b o e hx) e1 (I.base.free b o e n hx)
  · obtain ⟨o', e1⟩ := I.base.there b o e hx
    exact there b o' (neC b o e hx) e1
  · obtain ⟨m1, e1⟩ := I.base.tbls b ps e
    obtain ⟨m2, e2⟩ := tbls b _ e1
    exact ⟨m1 ++ m2, by rw [e2, Array.append_assoc]⟩
  · obtain ⟨m, hn, hl⟩ := I.loc
    refine ⟨m, ns m hn, fun i x v e1 e2 e3 => ?_⟩
    obtain ⟨u, r, l⟩ := hl i x v e1 e2 e3
    refine ⟨u, r, ?_⟩
    rcases l with l | ⟨k, c, e, z⟩
    · exact .inl l
    · exact .inr ⟨k, c, e, cellK x c e _ z⟩
  · obtain ⟨v, z⟩ := I.cell x c e
    exact ⟨v, cellK x c e v z⟩
  · obtain ⟨m, ⟨o, _, _, ho, _⟩, _⟩ := I.loc
    exact free _ o (fun z => (hch _ z).2.1 rfl) ho I.free
  · obtain ⟨v, o, ho, hd⟩ := I.cell x c e
    exact free c o (fun z => (hch c z).2.2.1 x c e rfl) ho (I.freeC x c e)
  · obtain ⟨e, n, ne, nf, d⟩ := I.pin p hp
    have nch : p.1 ∉ ch := fun z => (hch p.1 z).2.2.2 p hp rfl
    exact ⟨keep p.1 p.2 ne nf nch e n, free p.1 p.2 nch e n, ne, nf, d⟩
/-- .. where the frame's own object is kept too -/
theorem Inv.un {t' : Nat} (I : Inv X pins σ H s) (u : Un X.fs [] H H' s.heap h') (hok : HOk X.prog X.w H' h') : Inv X pins σ H' { s with heap := h', toks := t' } := by
  obtain ⟨m, ⟨o, es, ep, ho, r⟩, _⟩ := id I.loc
  obtain ⟨sl, hL⟩ := u.any ho I.free (by simp)
  exact I.step (g' := s.gens) (d' := s.drawn) (ch := []) (fun _ z => nomatch z) (fun b o _ hb _ e n => u.keep b o e n hb (by simp)) (fun b o _ hb _ e n => u.slot b o e n hb (by simp)) (fun b o _ e n => u.free b o e n (by simp)) (fun b o _ e => u.there b o e (by simp)) u.tups u.frzs u.tbls (fun m' hm => by
    obtain ⟨o', es', ep', ho', r'⟩ := hm
    rw [ho] at ho'; cases ho'
    exact ⟨_, es', ep', hL, r'⟩) hok I.bare
/-- behind a call (or a comprehension's block): the slots of this frame may have changed too, the records at ch may have turned -/
theorem Inv.call {g' : Array GenState} {t' : Nat} {d' : Drawn} {ch : List Addr} (I : Inv X pins σ H s) (u : Un (frs X.stack) ch H H' s.heap h') (hok : HOk X.prog X.w H' h') (hg : AllBare g')
    (hch : ∀ b ∈ ch, (b ∈ X.ex ∨ X.s₀.heap.objs.size ≤ b) ∧ b ≠ X.env.locals ∧ (∀ x c, X.env.cells.lookup x = some c → c ≠ b) ∧ ∀ p ∈ X.pn ++ pins, p.1 ≠ b) :
    Inv X pins σ H' { s with heap := h', gens := g', drawn := d', toks := t' } := by
  obtain ⟨m, ⟨o, es, ep, ho, r⟩, _⟩ := id I.loc
  obtain ⟨sl, hL⟩ := u.any ho I.free fun z => (hch _ z).2.1 rfl
  exact I.step (ch := ch) hch (fun b o hL hb hc e n => u.keep b o e n (fun z => (List.mem_cons.mp (I.stkSub b z)).elim hL hb) hc) (fun b o _ _ hc e n => u.any e n hc) (fun b o hc e n => u.free b o e n hc) (fun b o hc e => u.there b o e hc) u.tups u.frzs u.tbls (fun m' hm => by
    obtain ⟨o', es', ep', ho', r'⟩ := hm
    rw [ho] at ho'; cases ho'
    exact ⟨_, es', ep', hL, r'⟩) hok hg
/-- an untracked record of ours (an iterator) has turned -/
theorem Inv.turned {t' : Nat} {it : Addr} (I : Inv X pins σ H s) (k : ∀ b o, b ≠ it → s.heap.get? b = some o → h'.get? b = some o) (hn : H it = none) (hL : it ≠ X.env.locals)
    (h1 : it ∈ X.ex ∨ X.s₀.heap.objs.size ≤ it) (h2 : ∀ x c, X.env.cells.lookup x = some c → c ≠ it) (h3 : ∀ p ∈ X.pn ++ pins, p.1 ≠ it) : Inv X pins σ H { s with heap := h', toks := t' } := by
  have nit : ∀ b u, H b = some u → b ≠ it := fun b u e z => by rw [z, hn] at e; cases e
  refine I.step (g' := s.gens) (d' := s.drawn) (ch := [it]) (fun b hb => ?_) (fun b o _ _ hc e _ => k b o (fun z => hc (by simp [z])) e) (fun b o _ _ hc e _ => ⟨o.slots, k b o (fun z => hc (by simp [z])) e⟩) (fun _ _ _ _ n => n)
    (fun b o hc e => ⟨o, k b o (fun z => hc (by simp [z])) e⟩) (fun _ _ e => e) (fun _ _ _ e => e) (fun b ps e => ⟨#[], by rw [e]; simp⟩) (fun m hm => ?_) (fun b u e => ?_) I.bare
  · have e : b = it := by simpa using hb
    subst e
    exact ⟨h1, hL, h2, h3⟩
  · obtain ⟨o, es, ep, ho, r⟩ := hm
    exact ⟨o, es, ep, k _ o (Ne.symm hL) ho, r⟩
  · refine (I.hok b u e).stay (fun c v hc q => k c v ?_ q) (fun _ q => q) fun _ _ q => q
    rcases hc with z | z
    · rw [z]; exact nit b u e
    · exact nit c _ z
theorem Inv.tok (I : Inv X pins σ H s) (t : Nat) : Inv X pins σ H { s with toks := t } := I.un (h' := s.heap) (t' := t) Un.refl I.hok
/-- all objects kept -/
theorem Inv.kept {t' : Nat} (I : Inv X pins σ H s) (k : ∀ b u, s.heap.get? b = some u → h'.get? b = some u) : Inv X pins σ H { s with heap := h', toks := t' } := I.un (Un.kept k) (I.hok.kept k)
/-- a new object laid and tracked -/
theorem Inv.laid {a : Addr} {o : HO} {t' : Nat} (I : Inv X pins σ H s) (k : ∀ b u, s.heap.get? b = some u → h'.get? b = some u) (hp : s.heap.objs.size ≤ a) (new : ObjOk X.prog X.w (upd H a o) h' a o) :
    Inv X pins σ (upd H a o) { s with heap := h', toks := t' } := I.un (Un.laid k hp (I.hok.fresh hp)) (I.hok.laid k hp new)
/-- an object written -/
theorem Inv.write {x e : Addr} {o : HO} {t' : Nat} (I : Inv X pins σ H s) (mu : Mut (H x)) (he : e = x ∨ H e = some (.own x)) (k : ∀ b u, b ≠ e → s.heap.get? b = some u → h'.get? b = some u) (heo : ∃ u, h'.get? e = some u)
    (new : ObjOk X.prog X.w (upd H x o) h' x o) : Inv X pins σ (upd H x o) { s with heap := h', toks := t' } := I.un (Un.write mu he k heo) (I.hok.write mu he k heo new)
theorem Inv.pins_of {pins' : List (Addr × Obj)} (I : Inv X pins σ H s) (h : ∀ p ∈ pins', s.heap.get? p.1 = some p.2 ∧ H p.1 = none ∧ p.1 ≠ X.env.locals ∧ p.1 ∉ X.fs ∧ ∀ v, p.2.data ≠ .cell v) : Inv X pins' σ H s :=
  ⟨I.ok, I.os, I.bare, I.base, I.loc, I.cell, I.free, I.freeC, fun p hp => (List.mem_append.mp hp).elim (fun z => I.pin p (List.mem_append_left _ z)) (h p), I.hok, I.len⟩

theorem nodup_ix {N : List Str} (hN : N.Nodup) {i j : Nat} {x : Str} (a : N[i]? = some x) (b : N[j]? = some x) : i = j := by
  obtain ⟨h1, e1⟩ := List.getElem?_eq_some_iff.mp a
  obtain ⟨h2, e2⟩ := List.getElem?_eq_some_iff.mp b
  exact (List.getElem_inj hN).mp (e1.trans e2.symm)

/-- a name is stored; what changed -/
theorem store_ok2 {M : Model} {A : Around} {E : Value → Shared → Prop} {i : Nat} {x : Str} {v : V} {u : Value} {Q : Unit → Shared → Prop} (I : Inv X pins σ H s) (hN : X.N.Nodup) (hi : X.N[i]? = some x) (hx : Loc X.env.scope x) (r : RelV v u)
    (h : ∀ s', Inv X pins (σ.set i (some v)) H s' → (∃ a, Heap.SameBut a s.heap s'.heap ∧ (a = X.env.locals ∨ X.env.cells.lookup x = some a)) → Q () s') (hf : X.fn x = true ∨ X.env.scope.names.lookup x = some .local := by first | exact .inl rfl | exact .inr rfl | assumption) : wpAny M A (storeName X.env x u) Q E s := by
  obtain ⟨m, hn, hl⟩ := id I.loc
  have hcls : (X.env.scope.kind == .class || (X.env.scope.kind == .module && X.env.locals != X.env.globals)) = false := by rw [I.ok.kind]; rfl
  have hiσ : i < σ.length := by rw [I.len]; exact (List.getElem?_eq_some_iff.mp hi).1
  have cne := I.cne
  have tracked : ∀ {a : Addr} {h' : Heap}, (∃ o, s.heap.get? a = some o ∧ H a = none) → Heap.SameBut a s.heap h' → HOk X.prog X.w H h' := fun {a h'} ha hs b ob e => by
    obtain ⟨_, _, hfree⟩ := ha
    refine (I.hok b ob e).stay (fun c w' hc q => (hs.2 c ?_).trans q) (fun _ q => q) fun _ _ q => q
    rintro rfl
    rcases hc with rfl | hc
    · rw [hfree] at e; cases e
    · rw [hfree] at hc; cases hc
  rcases hx with hk | hk
  · refine wpAny_storeName_local hk hn (fun h' hn' hs => ?_) hcls
    obtain ⟨oL, _, _, hoL, _⟩ := id hn
    refine h _ ⟨I.ok, I.os, I.bare, ⟨fun b o e n hb hx => ?_, fun b o e n hb hx => ?_, I.base.free, fun b o e hx => ?_, I.base.tups, I.base.frzs, I.base.tbls⟩, ⟨_, hn', fun j y v' e1 e2 e3 => ?_⟩, fun y c e => ?_, I.free, I.freeC, fun p hp => ?_, tracked ⟨oL, hoL, I.free⟩ hs, by simpa using I.len⟩ ⟨_, hs, .inl rfl⟩
    · exact (hs.2 b (Nat.ne_of_lt (Nat.lt_of_lt_of_le (Heap.lt_size e) I.ok.above))).trans (I.base.keep b o e n hb hx)
    · obtain ⟨sl, e1⟩ := I.base.slot b o e n hb hx
      exact ⟨sl, (hs.2 b (Nat.ne_of_lt (Nat.lt_of_lt_of_le (Heap.lt_size e) I.ok.above))).trans e1⟩
    · obtain ⟨o', e1⟩ := I.base.there b o e hx
      exact ⟨o', (hs.2 b (Nat.ne_of_lt (Nat.lt_of_lt_of_le (Heap.lt_size e) I.ok.above))).trans e1⟩
    · by_cases hj : j = i
      · subst hj
        rw [hi] at e1; cases e1
        rw [List.getElem?_set_self hiσ] at e2
        cases e2
        exact ⟨u, r, .inl ⟨hk, by simp⟩⟩
      · rw [List.getElem?_set_ne (Ne.symm hj)] at e2
        obtain ⟨u', r', q⟩ := hl j y v' e1 e2 e3
        refine ⟨u', r', ?_⟩
        rcases q with ⟨k, e⟩ | ⟨k, c, e, z⟩
        · refine .inl ⟨k, ?_⟩
          have : y ≠ x := fun e => hj (nodup_ix hN e1 (e ▸ hi))
          simp [this, e]
        · exact .inr ⟨k, c, e, z.sameBut hs (cne y c e)⟩
    · obtain ⟨w', z⟩ := I.cell y c e
      exact ⟨w', z.sameBut hs (cne y c e)⟩
    · obtain ⟨e, n, ne, nf, d⟩ := I.pin p hp
      exact ⟨(hs.2 p.1 ne).trans e, n, ne, nf, d⟩
  · have hfn : X.fn x = true := by
      rcases hf with z | z
      · exact z
      · rw [z] at hk; cases hk
    obtain ⟨c, hc⟩ := I.ok.has x (.inl hk)
    obtain ⟨w', z⟩ := I.cell x c hc
    refine wpAny_storeName_cell I.ok.kind hk hc z (fun h' hc' hs => ?_)
    obtain ⟨oc, hoc, hocd⟩ := id z
    refine h { s with heap := h' } ⟨I.ok, I.os, I.bare, ⟨fun b o e n hb hx => ?_, fun b o e n hb hx => ?_, I.base.free, fun b o e hx => ?_, I.base.tups, I.base.frzs, I.base.tbls⟩, ⟨m, hn.sameBut hs (Ne.symm (cne x c hc)), fun j y v' e1 e2 e3 => ?_⟩, fun y c' e => ?_, I.free, I.freeC, fun p hp => ?_, tracked ⟨oc, hoc, I.freeC x c hc⟩ hs, by simpa using I.len⟩ ⟨c, hs, .inr hc⟩
    · exact (hs.2 b (Nat.ne_of_lt (Nat.lt_of_lt_of_le (Heap.lt_size e) (I.ok.cab x c hfn hc)))).trans (I.base.keep b o e n hb hx)
    · obtain ⟨sl, e1⟩ := I.base.slot b o e n hb hx
      exact ⟨sl, (hs.2 b (Nat.ne_of_lt (Nat.lt_of_lt_of_le (Heap.lt_size e) (I.ok.cab x c hfn hc)))).trans e1⟩
    · obtain ⟨o', e1⟩ := I.base.there b o e hx
      exact ⟨o', (hs.2 b (Nat.ne_of_lt (Nat.lt_of_lt_of_le (Heap.lt_size e) (I.ok.cab x c hfn hc)))).trans e1⟩
    · by_cases hj : j = i
      · subst hj
        rw [hi] at e1; cases e1
        rw [List.getElem?_set_self hiσ] at e2
        cases e2
        exact ⟨u, r, .inr ⟨.inl hk, c, hc, hc'⟩⟩
      · rw [List.getElem?_set_ne (Ne.symm hj)] at e2
        obtain ⟨u', r', q⟩ := hl j y v' e1 e2 e3
        refine ⟨u', r', ?_⟩
        rcases q with q | ⟨k, c', e, z'⟩
        · exact .inl q
        · refine .inr ⟨k, c', e, z'.sameBut hs ?_⟩
          rintro rfl
          exact hj (nodup_ix hN e1 (I.ok.inj _ _ _ e hc ▸ hi))
    · by_cases hcc : c' = c
      · subst hcc; exact ⟨_, hc'⟩
      · obtain ⟨w2, z2⟩ := I.cell y c' e
        exact ⟨w2, z2.sameBut hs hcc⟩
    · obtain ⟨e, n, ne, nf, d⟩ := I.pin p hp
      refine ⟨(hs.2 p.1 ?_).trans e, n, ne, nf, d⟩
      intro q
      rw [q, hoc] at e
      have q' : oc = p.2 := Option.some.inj e
      exact d w' (by rw [← q']; exact hocd)
theorem store_ok {M : Model} {A : Around} {E : Value → Shared → Prop} {i : Nat} {x : Str} {v : V} {u : Value} {Q : Unit → Shared → Prop} (I : Inv X pins σ H s) (hN : X.N.Nodup) (hi : X.N[i]? = some x) (hx : Loc X.env.scope x) (r : RelV v u)
    (h : ∀ s', Inv X pins (σ.set i (some v)) H s' → Q () s') (hf : X.fn x = true ∨ X.env.scope.names.lookup x = some .local := by first | exact .inl rfl | exact .inr rfl | assumption) : wpAny M A (storeName X.env x u) Q E s :=
  store_ok2 I hN hi hx r (fun s' I' _ => h s' I') hf
/-- behind a call or a block, the state as it is -/
theorem Inv.call' {s' : Shared} {ch : List Addr} (I : Inv X pins σ H s) (ho : s'.os = s.os) (u : Un (frs X.stack) ch H H' s.heap s'.heap) (hok : HOk X.prog X.w H' s'.heap) (hg : AllBare s'.gens)
    (hch : ∀ b ∈ ch, (b ∈ X.ex ∨ X.s₀.heap.objs.size ≤ b) ∧ b ≠ X.env.locals ∧ (∀ x c, X.env.cells.lookup x = some c → c ≠ b) ∧ ∀ p ∈ X.pn ++ pins, p.1 ≠ b) : Inv X pins σ H' s' := by
  obtain ⟨h', g', d', t', o'⟩ := s'
  have e : o' = s.os := ho
  subst e
  exact I.call (g' := g') (t' := t') (d' := d') u hok hg hch
end

/-! ### the judgements -/
/-- an exception: its class, its own dict's address (where it has one), the abstract heap behind it -/
abbrev XK := Value → Option Addr → Hp → Prop
abbrev St := List (Option V)
abbrev VK := V → Hp → Prop
/-- an expression's reading; a test's; an argument list's -/
abbrev TE := St → Hp → VK → Prop
abbrev TT := St → Hp → (Bool → Hp → Prop) → Prop
abbrev TA := St → Hp → (List V → Hp → Prop) → Prop
/-- what is wanted behind a statement -/
structure Ends where
  nx : St → Hp → Prop
  rt : VK
  bk : St → Hp → Prop := fun _ _ => False
  ct : St → Hp → Prop := fun _ _ => False
abbrev TS := Ends → St → Hp → Prop

def EP (X : Cx) (pins : List (Addr × Obj)) (σ : St) (Q : VK) (u : Value) (s' : Shared) : Prop := ∃ v H', Inv X pins σ H' s' ∧ RelV v u ∧ Q v H'
def TP (X : Cx) (pins : List (Addr × Obj)) (σ : St) (Q : Bool → Hp → Prop) (b : Bool) (s' : Shared) : Prop := ∃ H', Inv X pins σ H' s' ∧ Q b H'
def AP (X : Cx) (pins : List (Addr × Obj)) (σ : St) (Q : List V → Hp → Prop) (us : List Value) (s' : Shared) : Prop := ∃ vs H', Inv X pins σ H' s' ∧ Vals vs us ∧ Q vs H'
def SP (X : Cx) (pins : List (Addr × Obj)) (D : Ends) (f : Flow) (s' : Shared) : Prop :=
  match f with
  | .next => ∃ σ' H', Inv X pins σ' H' s' ∧ D.nx σ' H'
  | .brk => ∃ σ' H', Inv X pins σ' H' s' ∧ D.bk σ' H'
  | .cont => ∃ σ' H', Inv X pins σ' H' s' ∧ D.ct σ' H'
  | .ret u => ∃ v σ' H', Inv X pins σ' H' s' ∧ RelV v u ∧ D.rt v H'

def PE (X : Cx) (e : Expr) (t : TE) : Prop :=
  ∀ (pins : List (Addr × Obj)) (s : Shared) (σ : St) (H : Hp) (Q : VK), Inv X pins σ H s → t σ H Q → wpAny (model X.prog X.w) X.A (eval e X.env) (EP X pins σ Q) X.xe s
def PT (X : Cx) (e : Expr) (t : TT) : Prop :=
  ∀ (pins : List (Addr × Obj)) (s : Shared) (σ : St) (H : Hp) (Q : Bool → Hp → Prop), Inv X pins σ H s → t σ H Q → wpAny (model X.prog X.w) X.A (isTrue e X.env (eval e X.env)) (TP X pins σ Q) X.xe s
/-- a test whatever its 'whole' is (and, or) -/
def PW (X : Cx) (e : Expr) (t : TT) : Prop :=
  ∀ (whole : Sem Value) (pins : List (Addr × Obj)) (s : Shared) (σ : St) (H : Hp) (Q : Bool → Hp → Prop), Inv X pins σ H s → t σ H Q → wpAny (model X.prog X.w) X.A (isTrue e X.env whole) (TP X pins σ Q) X.xe s
theorem PW.pt {X : Cx} {e : Expr} {t : TT} (h : PW X e t) : PT X e t := h _
/-- an argument list (no star), from the left -/
def PA (X : Cx) (es : List Expr) (t : TA) : Prop :=
  ∀ (pos : Pos) (pins : List (Addr × Obj)) (s : Shared) (σ : St) (H : Hp) (Q : List V → Hp → Prop), Inv X pins σ H s → t σ H Q → wpAny (model X.prog X.w) X.A (spliced (backTo pos (starEach es X.env))) (AP X pins σ Q) X.xe s
def PS (X : Cx) (st : Stmt) (t : TS) : Prop :=
  ∀ (pins : List (Addr × Obj)) (s : Shared) (σ : St) (H : Hp) (D : Ends), Inv X pins σ H s → t D σ H → wpAny (model X.prog X.w) X.A (exec st X.env) (SP X pins D) X.xe s
def PSs (X : Cx) (st : List Stmt) (t : TS) : Prop :=
  ∀ (pins : List (Addr × Obj)) (s : Shared) (σ : St) (H : Hp) (D : Ends), Inv X pins σ H s → t D σ H → wpAny (model X.prog X.w) X.A (execs st X.env) (SP X pins D) X.xe s
/-- weaken the end -/
theorem thn {α : Type} {t : Sem α} {Q Q' : α → Shared → Prop} {M : Model} {A : Around} {E : Value → Shared → Prop} {s : Shared} (h : wpAny M A t Q E s) (hQ : ∀ a s, Q a s → Q' a s) : wpAny M A t Q' E s := wpAny_mono h hQ fun _ _ x => x
end L2

namespace L2
open PySem PySem.Spec PyProof.Rows
section
variable {X : Cx}

/-- two expressions in a row -/
theorem bin {a b : Expr} {ta tb : TE} (ha : PE X a ta) (hb : PE X b tb) {pins : List (Addr × Obj)} {s : Shared} {σ : St} {H : Hp} {R : V → V → Hp → Prop} (I : Inv X pins σ H s) (h : ta σ H fun x H1 => tb σ H1 fun y H2 => R x y H2)
    {α : Type} {Q : α → Shared → Prop} {f : Value → Value → Sem α}
    (hf : ∀ v u s2 x y H2, Inv X pins σ H2 s2 → RelV x v → RelV y u → R x y H2 → wpAny (model X.prog X.w) X.A (f v u) Q X.xe s2) :
    wpAny (model X.prog X.w) X.A (eval a X.env) (fun v s₁ => wpAny (model X.prog X.w) X.A (eval b X.env) (fun u s₂ => wpAny (model X.prog X.w) X.A (f v u) Q X.xe s₂) X.xe s₁) X.xe s := by
  refine thn (ha pins s σ H _ I h) fun v s1 hq0 => ?_
  obtain ⟨x, H1, I1, r1, q1⟩ := hq0
  refine thn (hb pins s1 σ H1 _ I1 q1) fun u s2 hq0 => ?_
  obtain ⟨y, H2, I2, r2, q2⟩ := hq0
  exact hf v u s2 x y H2 I2 r1 r2 q2

/-! ### names and constants -/
def tVar (i : Nat) : TE := fun σ H Q => ∃ v, σ[i]? = some (some v) ∧ Q v H
def tC (v : V) : TE := fun _ H Q => Q v H
theorem pe_var {i : Nat} {x : Str} {pos : Pos} (hN : X.N[i]? = some x) (hv : Vis X.env.scope x) (hd : (x == ("__debug__" : Str)) = false := by decide) (hcd : (x == ("__classdict__" : Str)) = false := by decide) : PE X (.Name x pos) (tVar i) := by
  intro pins s σ H Q I h
  obtain ⟨v, e, h⟩ := h
  obtain ⟨m, hn, hl⟩ := I.loc
  obtain ⟨u, r, l⟩ := hl i x v hN e hv
  have fin : EP X pins σ Q u s := ⟨v, H, I, r, h⟩
  rcases l with ⟨hk, hm⟩ | ⟨hk, c, hc, hcell⟩
  · exact wpAny_Name (wpAny_loadName_local I.ok.kind hk hn hm fin) hd
  · rcases hk with hk | hk
    · exact wpAny_Name (wpAny_loadName_cell I.ok.kind hk hc hcell fin) hd
    · exact wpAny_Name (wpAny_loadName_free I.ok.kind hk hc hcell fin hcd) hd
theorem pe_int {i j pos} : PE X (.Constant (.int i) j pos) (tC (.int i)) := fun _ _ _ H _ I h => wpAny_Constant_int ⟨.int i, H, I.tok _, ⟨_, rfl⟩, h⟩
theorem pe_bl {b j pos} : PE X (.Constant (.bool b) j pos) (tC (.bl b)) := fun _ _ _ H _ I h => Constant_bool ⟨.bl b, H, I, rfl, h⟩
theorem pe_str {x j pos} : PE X (.Constant (.str x) j pos) (tC (.str x)) := fun _ _ _ H _ I h => Calls.Constant_str ⟨.str x, H, I.tok _, ⟨_, rfl⟩, h⟩

/-- a global name of the def -/
def Gl (X : Cx) (x : Str) : Prop := X.env.kindOf x = some .globalImplicit
theorem ld_glob {E : Value → Shared → Prop} {pins : List (Addr × Obj)} {s : Shared} {σ : St} {H : Hp} {x : Str} {u : Value} {pos : Pos} {Q : Value → Shared → Prop} (I : Inv X pins σ H s) (hg : Gl X x) (hm : X.mg x = some u) (h : Q u s)
    (hd : (x == ("__debug__" : Str)) = false := by decide) : wpAny (model X.prog X.w) X.A (eval (.Name x pos) X.env) Q E s :=
  Calls.Name_function_global I.ok.kind hg (Calls.loadGlobal_global (by rw [I.ok.glob]; exact I.mod.glob.keeps I.bk) hm h) hd
theorem ld_blt {E : Value → Shared → Prop} {pins : List (Addr × Obj)} {s : Shared} {σ : St} {H : Hp} {x : Str} {u : Value} {pos : Pos} {Q : Value → Shared → Prop} (I : Inv X pins σ H s) (hg : Gl X x) (hm : X.mg x = none) (hv : bootBuiltins x = some u) (h : Q u s)
    (hn : x ≠ "__name__" := by decide) (hd : (x == ("__debug__" : Str)) = false := by decide) : wpAny (model X.prog X.w) X.A (eval (.Name x pos) X.env) Q E s := by
  obtain ⟨mb, h1, h2⟩ := I.mod.blt
  exact Calls.Name_function_global I.ok.kind hg (Calls.loadGlobal_builtin (by rw [I.ok.glob]; exact I.mod.glob.keeps I.bk) hm (by rw [I.ok.blt]; exact h1.keeps I.bk) ((h2 x hn).trans hv) h) hd
theorem pe_bltn {x : Str} {v : V} {u : Value} {pos : Pos} (hg : Gl X x) (hm : X.mg x = none) (hv : bootBuiltins x = some u) (r : RelV v u) (hn : x ≠ "__name__" := by decide) (hd : (x == ("__debug__" : Str)) = false := by decide) : PE X (.Name x pos) (tC v) :=
  fun _ _ _ H _ I h => ld_blt I hg hm hv ⟨v, H, I, r, h⟩ hn hd

/-! ### arithmetic -/
variable {a b : Expr} {ta tb : TE} {pos : Pos}

/-! ### comparisons -/
def PC (X : Cx) (op : CmpOp) (a b : Expr) (t : TE) : Prop :=
  ∀ (pins : List (Addr × Obj)) (s : Shared) (σ : St) (H : Hp) (Q : VK), Inv X pins σ H s → t σ H Q →
    wpAny (model X.prog X.w) X.A (eval a X.env) (fun v s₁ => wpAny (model X.prog X.w) X.A (eval b X.env) (fun u s₂ => wpAny (model X.prog X.w) X.A (compareOp op v u) (EP X pins σ Q) X.xe s₂) X.xe s₁) X.xe s
/-- a comparison as a value, as a test -/
def tB (t : TE) : TT := fun σ H Q => t σ H fun x H1 => ∃ c, x = .bl c ∧ Q c H1
theorem pe_cmp {op : CmpOp} {t : TE} (h : PC X op a b t) (h1 : behindInMarks op b = false := by first | exact nobehind _ (by decide) (by decide) | rfl) : PE X (.Compare a [op] [b] pos) t := fun pins s σ H Q I hw => wpAny_Compare1 (h pins s σ H Q I hw) h1
theorem pt_cmp {op : CmpOp} {t : TE} (h : PC X op a b t) (h1 : behindInMarks op b = false := by first | exact nobehind _ (by decide) (by decide) | rfl) : PT X (.Compare a [op] [b] pos) (tB t) := by
  intro pins s σ H Q I hw
  refine wpAny_isTrue_Compare1 (thn (h pins s σ H _ I hw) fun v s1 h1 => thn h1 fun u s2 h2 => thn h2 fun c s3 hq0 => ?_) h1
  obtain ⟨x, H1, I1, r1, q1⟩ := hq0
  obtain ⟨d, rfl, q⟩ := q1
  cases r1
  exact wpAny_truthy_bool ⟨H1, I1, q⟩
/-- an expression whose value is a bool, as a test -/
theorem pt_val {e : Expr} {t : TE} (h : PE X e t) (he : ∀ whole, isTrue e X.env whole = (do let v ← whole; standAt e.pos; holding [v] (truthy v)) := by intro _; rfl) : PT X e (tB t) := by
  intro pins s σ H Q I hw
  refine isTrue_plain (thn (h pins s σ H _ I hw) fun v s1 hq0 => ?_) (he _)
  obtain ⟨x, H1, I1, r1, q1⟩ := hq0
  obtain ⟨d, rfl, q⟩ := q1
  cases r1
  exact wpAny_truthy_bool ⟨H1, I1, q⟩

/-! ### and, or, not -/
variable {tA tB' : TT} {rest : List Expr}
def tAnd (t u : TT) : TT := fun σ H Q => t σ H fun c H1 => if c = true then u σ H1 Q else Q false H1
def tOr (t u : TT) : TT := fun σ H Q => t σ H fun c H1 => if c = true then Q true H1 else u σ H1 Q
def tNot (t : TT) : TT := fun σ H Q => t σ H fun c H1 => Q (!c) H1
theorem pw_and1 (ha : PT X a tA) : PW X (.BoolOp .And [a] pos) tA := by
  intro wh pins s σ H Q I h
  refine isTrue_and (thn (ha pins s σ H Q I h) fun c s1 e => ?_)
  cases c with
  | true => exact isTrue_and_nil e
  | false => exact e
theorem pw_or1 (ha : PT X a tA) : PW X (.BoolOp .Or [a] pos) tA := by
  intro wh pins s σ H Q I h
  refine isTrue_or (thn (ha pins s σ H Q I h) fun c s1 e => ?_)
  cases c with
  | false => exact isTrue_or_nil e
  | true => exact e
theorem pw_and (ha : PT X a tA) (hb : PW X (.BoolOp .And (b :: rest) pos) tB') : PW X (.BoolOp .And (a :: b :: rest) pos) (tAnd tA tB') := by
  intro wh pins s σ H Q I h
  refine isTrue_and (thn (ha pins s σ H _ I h) fun c s1 hq0 => ?_)
  obtain ⟨H1, I1, q1⟩ := hq0
  cases c with
  | true => exact hb wh pins s1 σ H1 Q I1 q1
  | false => exact ⟨H1, I1, q1⟩
theorem pw_or (ha : PT X a tA) (hb : PW X (.BoolOp .Or (b :: rest) pos) tB') : PW X (.BoolOp .Or (a :: b :: rest) pos) (tOr tA tB') := by
  intro wh pins s σ H Q I h
  refine isTrue_or (thn (ha pins s σ H _ I h) fun c s1 hq0 => ?_)
  obtain ⟨H1, I1, q1⟩ := hq0
  cases c with
  | true => exact ⟨H1, I1, q1⟩
  | false => exact hb wh pins s1 σ H1 Q I1 q1
theorem pt_not (ha : PT X a tA) : PT X (.UnaryOp .Not a pos) (tNot tA) := by
  intro pins s σ H Q I h
  exact isTrue_not (ha pins s σ H (fun c H1 => Q (!c) H1) I h)
/-- .. as values (bools) -/
def tAndV (ta tb : TE) : TE := fun σ H Q => ta σ H fun x H1 => ∃ c, x = .bl c ∧ if c = true then tb σ H1 Q else Q (.bl false) H1
theorem pe_one {op} {t : TE} (h : PE X a t) : PE X (.BoolOp op [a] pos) t := fun pins s σ H Q I hw => BoolOp_one (h pins s σ H Q I hw)
theorem pe_and (ha : PE X a ta) (hb : PE X (.BoolOp .And (b :: rest) pos) tb) : PE X (.BoolOp .And (a :: b :: rest) pos) (tAndV ta tb) := by
  intro pins s σ H Q I h
  refine BoolOp_and (thn (ha pins s σ H _ I h) fun v s1 hq0 => ?_)
  obtain ⟨x, H1, I1, r1, q1⟩ := hq0
  obtain ⟨c, rfl, q1⟩ := q1
  cases r1
  refine wpAny_truthy_bool ?_
  cases c with
  | true => exact hb pins s1 σ H1 Q I1 q1
  | false => exact ⟨.bl false, H1, I1, rfl, q1⟩
end
end L2

namespace L2
open PySem PySem.Spec PyProof.Rows

/-! ### a list, a tuple that is read: tracked, frozen, or an object of the module -/
def SqL (K : PySem.W.Frag) (H : Hp) (a : Addr) (xs : List V) : Prop :=
  Rd H a (.lst xs) ∨
    ∃ (o : Obj) (its : Array Value) (n : Nat), K.lookup a = some o ∧ o.cls = .type "list" ∧ o.dict = none ∧ o.data = .seq its n ∧ its.size ≤ sizeLine ∧ Vals xs its.toList
def SqT (K : PySem.W.Frag) (H : Hp) (a : Addr) (xs : List V) : Prop :=
  Rd H a (.tup xs) ∨
    ∃ (o : Obj) (its : Array Value) (n : Nat), K.lookup a = some o ∧ o.cls = .type "tuple" ∧ o.data = .seq its n ∧ its.size ≤ sizeLine ∧ Vals xs its.toList
def absV : Value → Option V
  | .none => some .non
  | .bool b => some (.bl b)
  | .int i _ => some (.int i)
  | .str x _ => some (.str x)
  | .bytes b _ => some (.byt b)
  | .float b _ => some (.flt b)
  | .ref a => some (.ref a)
  | .type n => some (.ty n)
  | _ => none
theorem RelV.abs {x : V} {u : Value} (r : RelV x u) : absV u = some x := by
  cases x with
  | non => cases r; rfl
  | bl _ => cases r; rfl
  | int _ => obtain ⟨t, rfl⟩ := r; rfl
  | str _ => obtain ⟨t, rfl⟩ := r; rfl
  | byt _ => obtain ⟨t, rfl⟩ := r; rfl
  | flt _ => obtain ⟨t, rfl⟩ := r; rfl
  | ref _ => cases r; rfl
  | ty _ => cases r; rfl
theorem RelV.inj {x y : V} {u : Value} (r : RelV x u) (q : RelV y u) : x = y := Option.some.inj (r.abs.symm.trans q.abs)
theorem Vals.inj : ∀ {xs ys : List V} {us : List Value}, Vals xs us → Vals ys us → xs = ys
  | _, _, _, .nil, .nil => rfl
  | _, _, _, .cons r t, .cons r' t' => by rw [r.inj r', Vals.inj t t']
section
variable {X : Cx} {pins : List (Addr × Obj)} {σ : St} {H : Hp} {s : Shared} {a : Addr} {xs ys : List V}
theorem SqL.of {K : PySem.W.Frag} (h : H a = some (.lst xs)) : SqL K H a xs := .inl (.inl h)
theorem SqT.of {K : PySem.W.Frag} (h : H a = some (.tup xs)) : SqT K H a xs := .inl (.inl h)
theorem Inv.list (I : Inv X pins σ H s) (h : SqL X.K H a xs) : ∃ its : List Value, Vals xs its ∧ PlainL s.heap a its.toArray ∧ xs.length ≤ sizeLine := by
  rcases h with h | ⟨o, its, n, hk, hc, hd, hs, hz, r⟩
  · obtain ⟨z, its, n, r, e⟩ := h.ok I.hok
    exact ⟨its, r, ⟨_, n, e, rfl, rfl, rfl⟩, z⟩
  · refine ⟨its.toList, r, ⟨o, n, I.kIn a o hk, hc, hd, by simpa using hs⟩, ?_⟩
    have e := r.length
    simp only [Array.length_toList] at e
    omega
theorem Inv.tuple (I : Inv X pins σ H s) (h : SqT X.K H a xs) : ∃ its : List Value, Vals xs its ∧ IsTup s.heap a its.toArray ∧ xs.length ≤ sizeLine := by
  rcases h with h | ⟨o, its, n, hk, hc, hs, hz, r⟩
  · obtain ⟨z, its, r, p⟩ := h.ok I.hok
    exact ⟨its, r, p, z⟩
  · refine ⟨its.toList, r, ⟨o, I.kIn a o hk, hc, n, by simpa using hs⟩, ?_⟩
    have e := r.length
    simp only [Array.length_toList] at e
    omega
theorem Inv.list_inj (I : Inv X pins σ H s) (h : SqL X.K H a xs) (h' : SqL X.K H a ys) : xs = ys := by
  obtain ⟨its, r, ⟨o, n, e, _, _, d⟩, _⟩ := I.list h
  obtain ⟨its', r', ⟨o', n', e', _, _, d'⟩, _⟩ := I.list h'
  rw [e] at e'; cases e'
  rw [d] at d'
  injection d' with d1 _
  have : its = its' := by simpa using congrArg Array.toList d1
  subst this
  exact r.inj r'
theorem Inv.tuple_inj (I : Inv X pins σ H s) (h : SqT X.K H a xs) (h' : SqT X.K H a ys) : xs = ys := by
  obtain ⟨its, r, ⟨o, e, _, n, d⟩, _⟩ := I.tuple h
  obtain ⟨its', r', ⟨o', e', _, n', d'⟩, _⟩ := I.tuple h'
  rw [e] at e'; cases e'
  rw [d] at d'
  injection d' with d1 _
  have : its = its' := by simpa using congrArg Array.toList d1
  subst this
  exact r.inj r'
end

/-! ### another wish about exceptions -/
abbrev Cx.wish (X : Cx) (E : Value → Shared → Prop) : Cx := { X with xe := E }
/-- no exception leaves -/
abbrev Cx.nox (X : Cx) : Cx := X.wish fun _ _ => False
theorem Cx.Ok.wish {X : Cx} (ok : X.Ok) (E : Value → Shared → Prop) : (X.wish E).Ok :=
  ⟨ok.mod, ok.kind, ok.glob, ok.blt, ok.above, ok.inj, ok.has, ok.cab, ok.hd, ok.frames, ok.stk, ok.exf, ok.bs, ok.bsz, ok.noex, ok.exfs, ok.funs, ok.frf⟩
theorem Cx.Ok.unwish {X : Cx} {E : Value → Shared → Prop} (ok : (X.wish E).Ok) : X.Ok :=
  ⟨ok.mod, ok.kind, ok.glob, ok.blt, ok.above, ok.inj, ok.has, ok.cab, ok.hd, ok.frames, ok.stk, ok.exf, ok.bs, ok.bsz, ok.noex, ok.exfs, ok.funs, ok.frf⟩
section
variable {X : Cx} {pins : List (Addr × Obj)} {σ : St} {H : Hp} {s : Shared} {E : Value → Shared → Prop}
theorem Inv.wish (I : Inv X pins σ H s) (E : Value → Shared → Prop) : Inv (X.wish E) pins σ H s := ⟨I.ok.wish E, I.os, I.bare, I.base, I.loc, I.cell, I.free, I.freeC, I.pin, I.hok, I.len⟩
theorem Inv.unwish (I : Inv (X.wish E) pins σ H s) : Inv X pins σ H s := ⟨I.ok.unwish, I.os, I.bare, I.base, I.loc, I.cell, I.free, I.freeC, I.pin, I.hok, I.len⟩
theorem SP.unwish {D : Ends} {f : Flow} {s' : Shared} (h : SP (X.wish E) pins D f s') : SP X pins D f s' := by
  cases f with
  | next => obtain ⟨σ', H', I, q⟩ := h; exact ⟨σ', H', I.unwish, q⟩
  | brk => obtain ⟨σ', H', I, q⟩ := h; exact ⟨σ', H', I.unwish, q⟩
  | cont => obtain ⟨σ', H', I, q⟩ := h; exact ⟨σ', H', I.unwish, q⟩
  | ret u => obtain ⟨v, σ', H', I, r, q⟩ := h; exact ⟨v, σ', H', I.unwish, r, q⟩
theorem PSs.nox {st : List Stmt} {t : TS} (h : PSs X.nox st t) : PSs X st t := fun pins s σ H D I hw =>
  wpAny_mono (h pins s σ H D (I.wish _) hw) (fun _ _ q => q.unwish) fun _ _ z => False.elim z
end

/-! ### blocks and small statements -/
section
variable {X : Cx} {st : Stmt} {rest : List Stmt} {t u : TS} {e : Expr} {te : TE} {pos : Pos}
def tNext : TS := fun D σ H => D.nx σ H
def tSeq (t u : TS) : TS := fun D σ H => t { D with nx := u D } σ H
theorem pss_nil : PSs X [] tNext := fun _ _ σ H _ I h => wpAny_execs_nil ⟨σ, H, I, h⟩
theorem pss_cons (h1 : PS X st t) (h2 : PSs X rest u) : PSs X (st :: rest) (tSeq t u) := by
  intro pins s σ H D I h
  refine wpAny_execs_cons (thn (h1 pins s σ H { D with nx := u D } I h) fun f s1 q => ?_)
  cases f with
  | next =>
    obtain ⟨σ', H', I', q⟩ := q
    exact h2 pins s1 σ' H' D I' q
  | ret v => exact q
  | brk => exact q
  | cont => exact q
theorem pss_one (h1 : PS X st t) : PSs X [st] t := by
  intro pins s σ H D I h
  refine wpAny_execs_cons (thn (h1 pins s σ H D I h) fun f s1 q => ?_)
  cases f with
  | next => exact wpAny_execs_nil q
  | ret v => exact q
  | brk => exact q
  | cont => exact q
/-- in a def's body nothing is shown -/
theorem Inv.quiet {pins : List (Addr × Obj)} {σ : St} {H : Hp} {s : Shared} (I : Inv X pins σ H s) : interactive X.env = false := by simp [interactive, I.ok.kind]
/-- an expression whose value is dropped -/
def tDrop (te : TE) : TS := fun D σ H => te σ H fun _ H1 => D.nx σ H1
theorem ps_expr (he : PE X e te) (hs : swapsWith e none pos.line X.env = pure false := by rfl) : PS X (.Expr e pos) (tDrop te) := by
  intro pins s σ H D I h
  exact wpAny_Expr_any (thn (he pins s σ H _ I h) fun v s1 ⟨x, H1, I1, r1, q1⟩ => ⟨σ, H1, I1, q1⟩) I.quiet hs
def tRet (te : TE) : TS := fun D σ H => te σ H D.rt
theorem ps_ret (he : PE X e te) : PS X (.Return (some e) pos) (tRet te) := by
  intro pins s σ H D I h
  exact wpAny_Return_some (thn (he pins s σ H _ I h) fun v s1 ⟨x, H1, I1, r1, q1⟩ => ⟨x, σ, H1, I1, r1, q1⟩)
def tIfS (c : TT) (t u : TS) : TS := fun D σ H => c σ H fun b H1 => if b = true then t D σ H1 else u D σ H1
theorem ps_if {c : Expr} {a b : List Stmt} {tc : TT} (hc : PT X c tc) (ha : PSs X a t) (hb : PSs X b u) : PS X (.If c a b pos) (tIfS tc t u) := by
  intro pins s σ H D I h
  refine wpAny_If (thn (hc pins s σ H _ I h) fun d s1 hq0 => ?_)
  obtain ⟨H1, I1, q1⟩ := hq0
  cases d with
  | true => exact ha pins s1 σ H1 D I1 q1
  | false => exact hb pins s1 σ H1 D I1 q1
/-- code that the proof never comes to -/
def tNever : TS := fun _ _ _ => False
theorem ps_never : PS X st tNever := fun _ _ _ _ _ _ h => h.elim
end

/-! ### targets -/
abbrev TG := V → St → Hp → (St → Hp → Prop) → Prop
abbrev TGs := List V → St → Hp → (St → Hp → Prop) → Prop
def PG (X : Cx) (target : Expr) (t : TG) : Prop :=
  ∀ (pins : List (Addr × Obj)) (s : Shared) (σ : St) (H : Hp) (v : V) (u : Value) (Q : St → Hp → Prop), Inv X pins σ H s → RelV v u → t v σ H Q →
    wpAny (model X.prog X.w) X.A (assign target X.env u) (fun _ s' => ∃ σ' H', Inv X pins σ' H' s' ∧ Q σ' H') X.xe s
/-- several targets, one after another -/
def PGs (X : Cx) (ts : List Expr) (t : TGs) : Prop :=
  ∀ (pins : List (Addr × Obj)) (s : Shared) (σ : St) (H : Hp) (vs : List V) (us : List Value) (Q : St → Hp → Prop), Inv X pins σ H s → Vals vs us → t vs σ H Q →
    wpAny (model X.prog X.w) X.A (assignInOrder ((assignEach ts X.env).map (·.2)) us) (fun _ s' => ∃ σ' H', Inv X pins σ' H' s' ∧ Q σ' H') X.xe s
section
variable {X : Cx} {pos : Pos}
def gName (i : Nat) : TG := fun v σ H Q => Q (σ.set i (some v)) H
theorem pg_name {i : Nat} {x : Str} (hN : X.N.Nodup) (hi : X.N[i]? = some x) (hx : Loc X.env.scope x) (hf : X.fn x = true ∨ X.env.scope.names.lookup x = some .local := by first | exact .inl rfl | exact .inr rfl | assumption) : PG X (.Name x pos) (gName i) := by
  intro pins s σ H v u Q I r h
  exact wpAny_assign_Name (store_ok I hN hi hx r (fun s' I' => ⟨_, H, I', h⟩) hf)
def gNil : TGs := fun vs σ H Q => vs = [] ∧ Q σ H
def gCons (t : TG) (u : TGs) : TGs := fun vs σ H Q => ∃ v r, vs = v :: r ∧ t v σ H fun σ' H' => u r σ' H' Q
theorem pgs_nil : PGs X [] gNil := by
  intro pins s σ H vs us Q I r h
  obtain ⟨e, h⟩ := h
  subst e
  cases r
  exact assignInOrder_nil ⟨σ, H, I, h⟩
theorem pgs_cons {e : Expr} {es : List Expr} {t : TG} {u : TGs} (h1 : PG X e t) (h2 : PGs X es u)
    (hs : (assignEach (e :: es) X.env).map (·.2) = assign e X.env :: (assignEach es X.env).map (·.2) := by rfl) : PGs X (e :: es) (gCons t u) := by
  intro pins s σ H vs us Q I r h
  obtain ⟨v, vr, e1, h⟩ := h
  subst e1
  cases r with
  | cons r rr =>
    rw [hs]
    refine assignInOrder_cons (thn (h1 pins s σ H _ _ _ I r h) fun _ s1 hq0 => ?_)
    obtain ⟨σ1, H1, I1, q1⟩ := hq0
    exact h2 pins s1 σ1 H1 _ _ Q I1 rr q1
/-- (a, b, ..) = a tuple of that length -/
def gTup (K : PySem.W.Frag) (n : Nat) (t : TGs) : TG := fun v σ H Q => ∃ a xs, v = .ref a ∧ SqT K H a xs ∧ xs.length = n ∧ t xs σ H Q
theorem pg_tup {es : List Expr} {k : Nat} {t : TGs} {n : Nat} (hc : X.calm = true) (h : PGs X es t)
    (hn : (assignEach es X.env).length = n := by rfl) (hst : (assignEach es X.env).findIdx? (·.1) = none := by rfl) : PG X (.Tuple es k pos) (gTup X.K n t) := by
  intro pins s σ H v u Q I r hw
  obtain ⟨a, xs, e1, hq, hl, hw⟩ := hw
  subst e1
  cases r
  obtain ⟨its, rv, ht, hz⟩ := I.tuple hq
  refine assign_Tuple_tuple (I.ok.hd hc) ht (by simp [hn, ← hl, rv.length]) hst fun h' hx => ?_
  have I1 : Inv X pins σ H { s with heap := h' } := I.kept (t' := s.toks) fun b o e => hx b o (Nat.ne_of_lt (Heap.lt_size e)) e
  exact h pins _ σ H xs _ Q I1 (by simpa using rv) hw
/-- target = value -/
def tAsg (te : TE) (g : TG) : TS := fun D σ H => te σ H fun x H1 => g x σ H1 D.nx
/-- name = value -/
theorem ps_set {i : Nat} {x : Str} {e : Expr} {te : TE} {pos' : Pos} (hN : X.N.Nodup) (hi : X.N[i]? = some x) (hx : Loc X.env.scope x) (he : PE X e te) (hs : swapsWith e (some (.Name x pos')) pos.line X.env = pure false := by rfl) (hf : X.fn x = true ∨ X.env.scope.names.lookup x = some .local := by first | exact .inl rfl | exact .inr rfl | assumption) :
    PS X (.Assign [.Name x pos'] e pos) (tAsg te (gName i)) := by
  intro pins s σ H D I h
  refine wpAny_Assign_Name (thn (he pins s σ H _ I h) fun v s1 hq0 => ?_) hs
  obtain ⟨y, H1, I1, r1, q1⟩ := hq0
  exact store_ok I1 hN hi hx r1 (fun s2 I2 => ⟨_, H1, I2, q1⟩) hf
/-- a, b = x, y with plain local names: stored from the right; the pair itself is not tracked (the opening rows as in PyProof/Rows/TupAssign.lean:23) -/
def tPar (i j : Nat) (ta : TA) : TS := fun D σ H => ta σ H fun vs H1 => ∃ v w, vs = [v, w] ∧ D.nx ((σ.set i (some v)).set j (some w)) H1
theorem ps_par {i j : Nat} {x y : Str} {a b : Expr} {ta : TA} {px py pt : Pos} {kt k2 pt2} (hc : X.calm = true) (hN : X.N.Nodup) (hi : X.N[i]? = some x) (hj : X.N[j]? = some y) (hij : i ≠ j)
    (hx : X.env.scope.names.lookup x = some .local) (hy : X.env.scope.names.lookup y = some .local) (ha : PA X [a, b] ta)
    (hw : swappedStores [.Tuple [.Name x px, .Name y py] kt pt] (.Tuple [a, b] k2 pt2) X.env = pure (some [x, y]))
    (hs : swapsWithSole [.Tuple [.Name x px, .Name y py] kt pt] (.Tuple [a, b] k2 pt2) pos.line X.env = pure false := by rfl) :
    PS X (.Assign [.Tuple [.Name x px, .Name y py] kt pt] (.Tuple [a, b] k2 pt2) pos) (tPar i j ta) := by
  intro pins s σ H D I h
  rw [exec_Assign_arm]
  refine wpAny_bind (wpAny_standAt ?_)
  rw [hs]
  refine wpAny_bind (wpAny_pure ?_)
  rw [if_neg (by decide)]
  refine wpAny_bind (Tuple_ (thn (ha _ pins s σ H _ I h) fun us s1 hq0 => ?_))
  obtain ⟨vs, H1, I1, r1, q1⟩ := hq0
  obtain ⟨v, w, e1, q1⟩ := q1
  subst e1
  obtain ⟨u1, u2, rfl, rv, rw'⟩ : ∃ u1 u2, us = [u1, u2] ∧ RelV v u1 ∧ RelV w u2 := by
    cases r1 with
    | cons p q =>
      cases q with
      | cons p' q' =>
        cases q'
        exact ⟨_, _, rfl, p, p'⟩
  refine wpAny_newObj_type ?_ (by show 2 ≤ sizeLine; decide)
  have I2 : Inv X pins σ H1 { s1 with heap := s1.heap.push { cls := .type "tuple", data := .seq [u1, u2].toArray } } := I1.kept (t' := s1.toks) fun b o e => Heap.get?_push_of_some _ e
  rw [hw]
  refine wpAny_bind (wpAny_pure ?_)
  show wpAny (model X.prog X.w) X.A (do rule "assign.swapped-stores"; let items ← unpackItems (.ref s1.heap.objs.size) 2 none; assignInOrder [fun v => bindName X.env y v, fun v => bindName X.env x v] items.reverse; pure Flow.next) _ _ _
  refine wpAny_bind (wpAny_rule (wpAny_bind (unpackItems_tuple (items := #[u1, u2]) (I.ok.hd hc) (IsTup.new s1.heap _) fun h' hx' => ?_)))
  have I3 := I2.kept (h' := h') (t' := s1.toks) fun b o e => hx' b o (Nat.ne_of_lt (Heap.lt_size e)) e
  show wpAny _ _ (assignInOrder [fun v => bindName X.env y v, fun v => bindName X.env x v] [u2, u1] >>= fun _ => pure Flow.next) _ _ _
  refine wpAny_bind (assignInOrder_cons (wpAny_bindName (store_ok I3 hN hj (.inl hy) rw' (fun s2 I4 => ?_) (.inr hy))))
  refine assignInOrder_cons (wpAny_bindName (store_ok I4 hN hi (.inl hx) rv (fun s3 I5 => assignInOrder_nil (wpAny_pure ?_)) (.inr hx)))
  rw [List.set_comm _ _ (Ne.symm hij)] at I5
  exact ⟨_, H1, I5, q1⟩
end

/-! ### while -/
section
variable {X : Cx} {pos : Pos}
/-- the invariant W with its measure -/
def tWhile (c : TT) (tb : TS) : TS := fun D σ H => ∃ W : Nat → St → Hp → Prop, (∃ m, W m σ H) ∧ ∀ m σ H, W m σ H →
  c σ H fun b H1 => if b = true then ∃ N : St → Hp → Prop, (∀ σ' H', N σ' H' → ∃ m', m' < m ∧ W m' σ' H') ∧ tb { D with nx := N, ct := N, bk := D.nx } σ H1 else D.nx σ H1
theorem ps_while {c : Expr} {body : List Stmt} {tc : TT} {tb : TS} (hp : PassesOwn (model X.prog X.w) X.A X.env X.xe) (hc : PT X c tc) (hb : PSs X body tb) : PS X (.While c body [] pos) (tWhile tc tb) := by
  intro pins s σ H D I h
  obtain ⟨W, ⟨m0, w0⟩, turn⟩ := h
  refine wpAny_While (codeAny_whileLoop (fun n s' => ∃ σ' H', Inv X pins σ' H' s' ∧ W n σ' H') ?_ m0 ⟨σ, H, I, w0⟩)
  rintro n s1 ⟨σ1, H1, I1, w1⟩
  refine wpAny_passesOwn hp (thn (hc pins s1 σ1 H1 _ I1 (turn n σ1 H1 w1)) fun b s2 hq0 => ?_)
  obtain ⟨H2, I2, q2⟩ := hq0
  cases b with
  | true =>
    obtain ⟨N, hN, q2⟩ := q2
    rw [if_pos rfl]
    refine wpAny_passesOwn hp (thn (hb pins s2 σ1 H2 _ I2 q2) fun f s3 q3 => ?_)
    cases f with
    | next =>
      obtain ⟨σ3, H3, I3, n3⟩ := q3
      obtain ⟨m', hm, w3⟩ := hN σ3 H3 n3
      exact ⟨m', hm, σ3, H3, I3, w3⟩
    | cont =>
      obtain ⟨σ3, H3, I3, n3⟩ := q3
      obtain ⟨m', hm, w3⟩ := hN σ3 H3 n3
      exact ⟨m', hm, σ3, H3, I3, w3⟩
    | brk => exact q3
    | ret v => exact q3
  | false =>
    rw [if_neg Bool.false_ne_true]
    exact wpAny_execs_nil ⟨σ1, H2, I2, q2⟩
end

/-! ### what a loop or a comprehension walks -/
/-- at turn i: it yields x (the heap may grow), or it stops -/
structure It where
  go : Nat → Hp → Prop
  yld : Nat → Hp → V → Hp → Prop
  stop : Nat → Hp → Prop
/-- the iterator's own objects may turn: they are not the frame's, not pinned, younger than the entry (or a comprehension's own) -/
def FpOk (X : Cx) (pins : List (Addr × Obj)) (H : Hp) (b : Addr) : Prop :=
  H b = none ∧ b ≠ X.env.locals ∧ b ∉ X.fs ∧ (b ∈ X.ex ∨ X.s₀.heap.objs.size ≤ b) ∧ (∀ x c, X.env.cells.lookup x = some c → c ≠ b) ∧ ∀ p ∈ X.pn ++ pins, p.1 ≠ b
theorem Inv.fpOk {X : Cx} {pins : List (Addr × Obj)} {σ : St} {H H' : Hp} {s : Shared} {b : Addr} (I : Inv X pins σ H s) (hb : s.heap.objs.size ≤ b) (hn : H' b = none) : FpOk X pins H' b := by
  refine ⟨hn, Nat.ne_of_gt (Nat.lt_of_lt_of_le I.lt hb), I.nofs hb, .inr (Nat.le_trans I.sz hb), fun x c e z => ?_, fun p hp z => ?_⟩
  · obtain ⟨v, q⟩ := I.cell x c e
    exact absurd (Nat.lt_of_lt_of_le q.lt (by rw [z]; exact hb)) (Nat.lt_irrefl _)
  · exact absurd (Nat.lt_of_lt_of_le (Heap.lt_size (I.pin p hp).1) (by rw [z]; exact hb)) (Nat.lt_irrefl _)
structure Turn (P : Program) (w : World) (K : PySem.W.Frag) (tg : Expr) (J : It) (fp : List Addr) (it : Addr) (tn : Nat → Heap → Prop) : Prop where
  mem : it ∈ fp
  obj : ∀ i h, tn i h → ∀ b ∈ fp, ∃ o, h.get? b = some o ∧ ∀ v, o.data ≠ .cell v
  keep : ∀ i h h', tn i h → (∀ b ∈ fp, ∀ o, h.get? b = some o → h'.get? b = some o) → tn i h'
  item : ∀ (X : Cx), X.prog = P → X.w = w → X.K = K → X.calm = true → ∀ (i : Nat) (pins : List (Addr × Obj)) (s : Shared) (σ : St) (H : Hp) (E : Value → Shared → Prop), Inv X pins σ H s → (∀ b ∈ fp, FpOk X pins H b) → tn i s.heap → J.go i H →
    wpAny (model P w) X.A (pyNext (.ref it)) (fun r s1 => ∃ u, r = some u ∧
      wpAny (model P w) X.A (letOwnedTupleGo tg (.ref it) u) (fun _ s2 => ∃ x H', Inv X pins σ H' s2 ∧ RelV x u ∧ J.yld i H x H' ∧ tn (i + 1) s2.heap ∧ ∀ b ∈ fp, H' b = none) E s1) E s
  done : ∀ (X : Cx), X.prog = P → X.w = w → X.K = K → X.calm = true → ∀ (i : Nat) (pins : List (Addr × Obj)) (s : Shared) (σ : St) (H : Hp) (E : Value → Shared → Prop), Inv X pins σ H s → (∀ b ∈ fp, FpOk X pins H b) → tn i s.heap → J.stop i H →
    wpAny (model P w) X.A (pyNext (.ref it)) (fun r s1 => r = none ∧ Inv X pins σ H s1) E s
  self : ∀ (A : Around) (i : Nat) (s : Shared) (Q : Value → Shared → Prop) (E : Value → Shared → Prop), tn i s.heap → Q (.ref it) s → wpAny (model P w) A (pyIter (.ref it)) Q E s
abbrev TI := St → Hp → (It → Hp → Prop) → Prop
/-- an iterator has come -/
def PIE (X : Cx) (pins : List (Addr × Obj)) (σ : St) (tg : Expr) (R : It → Hp → Prop) (itv : Value) (s2 : Shared) : Prop :=
  ∃ (it : Addr) (fp : List Addr) (tn : Nat → Heap → Prop) (J : It) (H' : Hp), itv = .ref it ∧ Inv X pins σ H' s2 ∧ Turn X.prog X.w X.K tg J fp it tn ∧ tn 0 s2.heap ∧ (∀ b ∈ fp, FpOk X pins H' b) ∧ R J H'
def PI (X : Cx) (tg iter : Expr) (wi : TI) : Prop :=
  ∀ (pins : List (Addr × Obj)) (s : Shared) (σ : St) (H : Hp) (R : It → Hp → Prop), Inv X pins σ H s → wi σ H R →
    wpAny (model X.prog X.w) X.A (eval iter X.env) (fun v s1 => wpAny (model X.prog X.w) X.A (pyIter v) (PIE X pins σ tg R) X.xe s1) X.xe s

/-- the step ahead of the store is nothing for an iterator that keeps no tuple -/
theorem go_of {M : Model} {A : Around} {E : Value → Shared → Prop} {s : Shared} {tg : Expr} {it : Addr} {u : Value} {o : Obj} {n : String} {vs : Array Value} {Q : Unit → Shared → Prop} (ho : s.heap.get? it = some o) (hc : o.cls = .type n) (hd : o.data = .fields vs)
    (hn : ["enumerate", "zip", "dict_itemiterator", "dict_reverseitemiterator", "odict_iterator", "itertools.zip_longest", "itertools.pairwise"].contains n = false) (hQ : Q () s) : wpAny M A (letOwnedTupleGo tg (.ref it) u) Q E s := by
  unfold letOwnedTupleGo
  cases tg <;> first
    | exact wpAny_pure hQ
    | (cases u <;> first
        | exact wpAny_pure hQ
        | (refine wpAny_bind (wpAny_load ho ?_)
           rw [hc, hd]
           show wpAny M A (if (["enumerate", "zip", "dict_itemiterator", "dict_reverseitemiterator", "odict_iterator", "itertools.zip_longest", "itertools.pairwise"].contains n && vs[0]? == some (rawInt _)) = true then _ else _) Q E s
           rw [if_neg (by intro h; rw [hn, Bool.false_and] at h; cases h)]
           exact wpAny_pure hQ))

/-- the list at a, as it stands at each turn (a loop may append to it) -/
def Itl (K : PySem.W.Frag) (a : Addr) : It :=
  ⟨fun i H => ∃ xs x, SqL K H a xs ∧ xs[i]? = some x, fun i H x H' => H' = H ∧ ∀ xs, SqL K H a xs → xs[i]? = some x, fun i H => ∃ xs, SqL K H a xs ∧ xs.length ≤ i⟩
/-- lo, lo + 1, .. (n of them) -/
def Itr (lo : Int) (n : Nat) : It := ⟨fun i _ => i < n, fun i H x H' => H' = H ∧ x = .int (lo + i), fun i _ => n ≤ i⟩
theorem turn_list {P : Program} {w : World} {K : PySem.W.Frag} {tg : Expr} (a it : Addr) : Turn P w K tg (Itl K a) [it] it (fun i h => h.IsListIter it a i) where
  mem := by simp
  obj := fun i h st b hb => by
    have e : b = it := by simpa using hb
    subst e
    obtain ⟨o, e, c, d⟩ := st
    exact ⟨o, e, fun v z => by rw [d] at z; cases z⟩
  keep := fun i h h' st k => st.at fun o e => k it (by simp) o e
  item := by
    intro X hP hw hK hc i pins s σ H E I hf st hg
    subst hP hw hK
    obtain ⟨xs, x, hq, hx⟩ := hg
    obtain ⟨its, rv, p, hz⟩ := I.list hq
    obtain ⟨u, hu, ru⟩ := rv.get hx
    obtain ⟨f0, f1, f2, f3, f4, f5⟩ := hf it (by simp)
    refine wpAny_pyNext_list_item st p.isList (x := u) (by simpa using hu) fun h' st' sb => ?_
    have I1 : Inv X pins σ H { s with heap := h' } := I.turned (t' := s.toks) (fun b o hb e => (sb.2 b hb).trans e) f0 f1 f3 f4 f5
    obtain ⟨o, e, c, d⟩ := id st'
    exact ⟨u, rfl, go_of (s := { s with heap := h' }) e c d (by decide) ⟨x, H, I1, ru, ⟨rfl, fun ys hy => by rw [I.list_inj hy hq]; exact hx⟩, st', fun b hb => (hf b hb).1⟩⟩
  done := by
    intro X hP hw hK hc i pins s σ H E I hf st hg
    subst hP hw hK
    obtain ⟨xs, hq, hx⟩ := hg
    obtain ⟨its, rv, p, hz⟩ := I.list hq
    obtain ⟨f0, f1, f2, f3, f4, f5⟩ := hf it (by simp)
    have hl := rv.length
    exact wpAny_pyNext_list_end (I.ok.hd hc) st p.isList (by simp; omega) fun h' eb => ⟨rfl, I.turned (t' := s.toks) (fun b o hb e => eb b o hb e) f0 f1 f3 f4 f5⟩
  self := fun _ _ _ _ _ st h => wpAny_pyIter_listiter st h
theorem turn_range {P : Program} {w : World} {K : PySem.W.Frag} {tg : Expr} (it : Addr) (lo : Int) (n : Nat) : Turn P w K tg (Itr lo n) [it] it (fun i h => IsRangeIter h it (lo + (i : Nat) * 1) ((n : Int) - (i : Nat)) 1) where
  mem := by simp
  obj := fun i h st b hb => by
    have e : b = it := by simpa using hb
    subst e
    exact ⟨_, st, fun v z => by
      have z' : Data.fields _ = Data.cell v := z
      cases z'⟩
  keep := fun i h h' st k => k it (by simp) _ st
  item := by
    intro X hP hw hK hc i pins s σ H E I hf st hg
    subst hP hw hK
    obtain ⟨f0, f1, f2, f3, f4, f5⟩ := hf it (by simp)
    have W := Walks.range (prog := X.prog) (w := X.w) (I.ok.hd hc) it lo 1 n
    refine W.item i s _ _ hg st fun v h' tk hv st' kk => ?_
    obtain ⟨t, rfl⟩ := hv
    have I1 : Inv X pins σ H { s with heap := h', toks := tk } := I.turned (fun b o hb e => kk b o (by simpa using hb) e) f0 f1 f3 f4 f5
    refine ⟨_, rfl, go_of (s := { s with heap := h', toks := tk }) (n := "range_iterator") st' rfl rfl (by decide) ⟨.int (lo + i), H, I1, ⟨t, ?_⟩, ⟨rfl, rfl⟩, st', fun b hb => (hf b hb).1⟩⟩
    rw [Int.mul_one]
  done := by
    intro X hP hw hK hc i pins s σ H E I hf st hg
    subst hP hw hK
    obtain ⟨f0, f1, f2, f3, f4, f5⟩ := hf it (by simp)
    exact wpAny_pyNext_range_end (I.ok.hd hc) st (by have : n ≤ i := hg; omega) fun h' eb => ⟨rfl, I.turned (t' := s.toks) (fun b o hb e => eb b o hb e) f0 f1 f3 f4 f5⟩
  self := fun _ _ _ _ _ st h => wpAny_pyIter_rangeiter st h
end L2

namespace L2
open PySem PySem.Spec PyProof.Rows
section
variable {X : Cx} {tg : Expr}
def iList (K : PySem.W.Frag) (tl : TE) : TI := fun σ H R => tl σ H fun x H1 => ∃ a, x = .ref a ∧ (∃ xs, SqL K H1 a xs) ∧ R (Itl K a) H1
theorem pi_list {l : Expr} {tl : TE} (hl : PE X l tl) : PI X tg l (iList X.K tl) := by
  intro pins s σ H R I h
  refine thn (hl pins s σ H _ I h) fun v s1 hq0 => ?_
  obtain ⟨x, H1, I1, r1, q1⟩ := hq0
  obtain ⟨a, e, ⟨xs, hq⟩, q⟩ := q1
  subst e
  cases r1
  obtain ⟨its, rv, p, hz⟩ := I1.list hq
  refine wpAny_pyIter_list p.isList ?_
  refine ⟨s1.heap.objs.size, [s1.heap.objs.size], _, _, H1, rfl, I1.kept (t' := s1.toks) fun b o e => Heap.get?_push_of_some _ e, turn_list a _, ⟨_, Heap.get?_push_size _ rfl, rfl, rfl⟩, fun b hb => ?_, q⟩
  have e : b = s1.heap.objs.size := by simpa using hb
  subst e
  exact I1.fpOk (Nat.le_refl _) (I1.hok.fresh (Nat.le_refl _))
/-- a range object just made, walked -/
theorem range_it {pins : List (Addr × Obj)} {σ : St} {H : Hp} {s : Shared} {R : It → Hp → Prop} {E : Value → Shared → Prop} {lo hi : Int} {t u v : Tok} {tk : Nat} (I : Inv X pins σ H s) (h1 : -(2 ^ 62) ≤ lo) (h2 : lo < 2 ^ 62) (h3 : -(2 ^ 62) ≤ hi) (h4 : hi < 2 ^ 62)
    (q : R (Itr lo (hi - lo).toNat) H) : wpAny (model X.prog X.w) X.A (pyIter (.ref s.heap.objs.size)) (PIE X pins σ tg R) E { s with heap := s.heap.push { cls := .type "range", data := .fields #[.int lo t, .int hi u, .int 1 v] }, toks := tk } := by
  refine wpAny_pyIter_range (IsRange.new ..) (small_one h1 h2 h3 h4) ?_
  have I1 : Inv X pins σ H { s with heap := s.heap.push { cls := .type "range", data := .fields #[.int lo t, .int hi u, .int 1 v] }, toks := tk } := I.kept fun b o e => Heap.get?_push_of_some _ e
  refine ⟨(s.heap.push { cls := .type "range", data := .fields #[.int lo t, .int hi u, .int 1 v] }).objs.size, [(s.heap.push { cls := .type "range", data := .fields #[.int lo t, .int hi u, .int 1 v] }).objs.size], _, _, H, rfl,
    I1.kept (t' := tk) fun b o e => Heap.get?_push_of_some _ e, turn_range _ lo (hi - lo).toNat, ?_, fun b hb => ?_, q⟩
  · have e1 : lo + ((0 : Nat) : Int) * 1 = lo := by simp
    have e2 : (((hi - lo).toNat : Nat) : Int) - ((0 : Nat) : Int) = Builtin.Range.rangeSize lo hi 1 := by rw [rangeSize_one]; split <;> omega
    show IsRangeIter _ _ (lo + ((0 : Nat) : Int) * 1) ((((hi - lo).toNat : Nat) : Int) - ((0 : Nat) : Int)) 1
    rw [e1, e2]
    exact Heap.get?_push_size _ rfl
  · have e : b = (s.heap.push { cls := .type "range", data := .fields #[.int lo t, .int hi u, .int 1 v] }).objs.size := by simpa using hb
    subst e
    exact I1.fpOk (Nat.le_refl _) (I1.hok.fresh (Nat.le_refl _))
def iRng1 (ta : TA) : TI := fun σ H R => ta σ H fun vs H1 => ∃ j : Int, vs = [.int j] ∧ -(2 ^ 62) ≤ j ∧ j < 2 ^ 62 ∧ R (Itr 0 j.toNat) H1
def iRng2 (ta : TA) : TI := fun σ H R => ta σ H fun vs H1 => ∃ i j : Int, vs = [.int i, .int j] ∧ (-(2 ^ 62) ≤ i ∧ i < 2 ^ 62 ∧ -(2 ^ 62) ≤ j ∧ j < 2 ^ 62) ∧ R (Itr i (j - i).toNat) H1
theorem pi_range1 {a : Expr} {ta : TA} {p pos : Pos} (hg : Gl X "range") (hm : X.mg "range" = none) (ha : PA X [a] ta) (hs : starEach [a] X.env = [(false, eval a X.env)] := by rfl) : PI X tg (.Call (.Name "range" p) [a] [] pos) (iRng1 ta) := by
  intro pins s σ H R I h
  refine Call_ (ld_blt I hg hm boot_range (PyProof.Rows.callWith_type1 (thn (ha pos pins s σ H _ I h) fun us s1 hq0 => ?_) hs rfl))
  obtain ⟨vs, H1, I1, r1, q1⟩ := hq0
  obtain ⟨j, e, q1, q2, q⟩ := q1
  subst e
  cases r1 with
  | cons r rr =>
    cases rr
    obtain ⟨t, rfl⟩ := r
    exact call_range_1 (range_it I1 (by omega) (by omega) q1 q2 (by simpa using q))
theorem pi_range2 {a b : Expr} {ta : TA} {p pos : Pos} (hg : Gl X "range") (hm : X.mg "range" = none) (ha : PA X [a, b] ta) (hs : starEach [a, b] X.env = [(false, eval a X.env), (false, eval b X.env)] := by rfl) (hs2 : starEach [b] X.env = [(false, eval b X.env)] := by rfl) :
    PI X tg (.Call (.Name "range" p) [a, b] [] pos) (iRng2 ta) := by
  intro pins s σ H R I h
  refine Call_ (ld_blt I hg hm boot_range (PyProof.Rows.callWith_type1 (thn (ha pos pins s σ H _ I h) fun us s1 hq0 => ?_) (by rw [hs, hs2]) (by rw [hs2]; rfl)))
  obtain ⟨vs, H1, I1, r1, q1⟩ := hq0
  obtain ⟨i, j, e, ⟨q1, q2, q3, q4⟩, q⟩ := q1
  subst e
  cases r1 with
  | cons r rr =>
    cases rr with
    | cons r' rr =>
      cases rr
      obtain ⟨t, rfl⟩ := r
      obtain ⟨t', rfl⟩ := r'
      exact call_range_2 (range_it I1 q1 q2 q3 q4 q)

/-! ### for -/
/-- W: the invariant by the turn and a measure; N: what the body is to reach -/
def tFor (wi : TI) (g : TG) (tb : TS) : TS := fun D σ H => wi σ H fun J H1 => ∃ W : Nat → Nat → St → Hp → Prop, (∃ m, W 0 m σ H1) ∧ ∀ i m σ H, W i m σ H →
  (J.stop i H ∧ D.nx σ H) ∨ (J.go i H ∧ ∃ N : St → Hp → Prop, (∀ σ' H', N σ' H' → ∃ m', m' < m ∧ W (i + 1) m' σ' H') ∧ ∀ x H', J.yld i H x H' → g x σ H' fun σ2 H2 => tb { D with nx := N, ct := N, bk := D.nx } σ2 H2)
/-- the records at fp as they stand -/
def pinsAt (fp : List Addr) (h : Heap) : List (Addr × Obj) := fp.filterMap fun b => (h.get? b).map fun o => (b, o)
theorem mem_pinsAt {fp : List Addr} {h : Heap} {b : Addr} {o : Obj} (hb : b ∈ fp) (e : h.get? b = some o) : (b, o) ∈ pinsAt fp h := List.mem_filterMap.mpr ⟨b, hb, by rw [e]; rfl⟩
theorem of_pinsAt {fp : List Addr} {h : Heap} {p : Addr × Obj} (hp : p ∈ pinsAt fp h) : p.1 ∈ fp ∧ h.get? p.1 = some p.2 := by
  obtain ⟨b, hb, e⟩ := List.mem_filterMap.mp hp
  cases q : h.get? b with
  | none => rw [q] at e; cases e
  | some o =>
    rw [q] at e
    have e' : (b, o) = p := Option.some.inj e
    subst e'
    exact ⟨hb, q⟩
theorem Inv.pinned {pins : List (Addr × Obj)} {σ : St} {H : Hp} {s : Shared} {fp : List Addr} (I : Inv X pins σ H s) (hf : ∀ b ∈ fp, FpOk X pins H b) (ho : ∀ b ∈ fp, ∃ o, s.heap.get? b = some o ∧ ∀ v, o.data ≠ .cell v) : Inv X (pins ++ pinsAt fp s.heap) σ H s :=
  I.pins_of fun p hp => (List.mem_append.mp hp).elim (fun z => I.pin p (List.mem_append_right _ z)) fun z => by
    obtain ⟨hb, e⟩ := of_pinsAt z
    obtain ⟨f0, f1, f2, _⟩ := hf p.1 hb
    obtain ⟨o, e', d⟩ := ho p.1 hb
    rw [e] at e'; cases e'
    exact ⟨e, f0, f1, f2, d⟩
theorem Inv.unpinned {pins pl : List (Addr × Obj)} {σ : St} {H : Hp} {s : Shared} (I : Inv X (pins ++ pl) σ H s) : Inv X pins σ H s := I.pins_of fun p hp => I.pin p (List.mem_append_right _ (List.mem_append_left _ hp))
theorem ps_for {iter : Expr} {body : List Stmt} {wi : TI} {g : TG} {tb : TS} {pos : Pos} (hp : PassesOwn (model X.prog X.w) X.A X.env X.xe) (hc : X.calm = true) (hi : PI X tg iter wi) (hg : PG X tg g) (hb : PSs X body tb)
    (hs : ∀ x, foldedSetIterable iter X.env x = pure x := by intro _; rfl) : PS X (.For tg iter body [] pos) (tFor wi g tb) := by
  intro pins s σ H D I h
  refine wpAny_For (thn (hi pins s σ H _ I h) fun v s1 h1 => thn h1 fun itv s2 h2 => ?_) hs
  obtain ⟨it, fp, tn, J, H2, e, I2, T, st2, f2, W, ⟨m0, w0⟩, turn⟩ := h2
  subst e
  -- what stays true of the iterator's objects through the loop
  have stat : ∀ {H' : Hp}, (∀ b ∈ fp, H' b = none) → ∀ b ∈ fp, FpOk X pins H' b := fun hn b hb => ⟨hn b hb, (f2 b hb).2⟩
  refine codeAny_forLoop_any (fun n s' => ∃ i σ' H', Inv X pins σ' H' s' ∧ tn i s'.heap ∧ (∀ b ∈ fp, H' b = none) ∧ W i n σ' H') ?_ m0 ⟨0, σ, H2, I2, st2, fun b hb => (f2 b hb).1, w0⟩
  rintro n s3 ⟨i, σ3, H3, I3, st3, fr3, w3⟩
  rcases turn i n σ3 H3 w3 with ⟨stop, qn⟩ | ⟨go, N, hN, step⟩
  · refine wpAny_passesOwn hp (thn (T.done X rfl rfl rfl hc i pins s3 σ3 H3 X.xe I3 (stat fr3) st3 stop) fun r s4 hq0 => ?_)
    obtain ⟨hr, I4⟩ := hq0
    subst hr
    exact wpAny_execs_nil ⟨σ3, H3, I4, qn⟩
  · refine wpAny_passesOwn hp (thn (T.item X rfl rfl rfl hc i pins s3 σ3 H3 X.xe I3 (stat fr3) st3 go) fun r s4 hq0 => ?_)
    obtain ⟨u, hr, h4⟩ := hq0
    subst hr
    refine wpAny_passesOwn hp (thn h4 fun _ s5 hq0 => ?_)
    obtain ⟨x, H5, I5, r5, y5, st5, fr5⟩ := hq0
    have I5' := I5.pinned (stat fr5) (T.obj _ _ st5)
    refine wpAny_passesOwn hp (thn (hg _ s5 σ3 H5 x u _ I5' r5 (step x H5 y5)) fun _ s6 hq0 => ?_)
    obtain ⟨σ6, H6, I6, q6⟩ := hq0
    refine wpAny_passesOwn hp (thn (hb _ s6 σ6 H6 _ I6 q6) fun f s7 q7 => ?_)
    have again : ∀ {σ7 : St} {H7 : Hp}, Inv X (pins ++ pinsAt fp s5.heap) σ7 H7 s7 → N σ7 H7 → ∃ m, m < n ∧ ∃ i σ' H', Inv X pins σ' H' s7 ∧ tn i s7.heap ∧ (∀ b ∈ fp, H' b = none) ∧ W i m σ' H' := fun {σ7 H7} I7 n7 => by
      obtain ⟨m', hm, w7⟩ := hN σ7 H7 n7
      refine ⟨m', hm, i + 1, σ7, H7, I7.unpinned, T.keep _ _ _ st5 fun b hb o e => (I7.pin (b, o) (List.mem_append_right _ (List.mem_append_right _ (mem_pinsAt hb e)))).1, fun b hb => ?_, w7⟩
      obtain ⟨o, e, d⟩ := T.obj _ _ st5 b hb
      exact (I7.pin (b, o) (List.mem_append_right _ (List.mem_append_right _ (mem_pinsAt hb e)))).2.1
    cases f with
    | next => obtain ⟨σ7, H7, I7, n7⟩ := q7; exact again I7 n7
    | cont => obtain ⟨σ7, H7, I7, n7⟩ := q7; exact again I7 n7
    | brk => obtain ⟨σ7, H7, I7, q7⟩ := q7; exact ⟨σ7, H7, I7.unpinned, q7⟩
    | ret v => obtain ⟨x7, σ7, H7, I7, r7, q7⟩ := q7; exact ⟨x7, σ7, H7, I7.unpinned, r7, q7⟩
end

/-! ### the forms one uses -/
/-- over a list that the body leaves as it is -/
theorem for_list {K : PySem.W.Frag} {a : Addr} {xs : List V} {g : TG} {tb : TS} {D : Ends} {σ : St} {H : Hp} (Pv : Nat → St → Hp → Prop) (h0 : Pv 0 σ H) (hl : ∀ i σ H, i ≤ xs.length → Pv i σ H → SqL K H a xs)
    (hs : ∀ i x σ H, xs[i]? = some x → Pv i σ H → g x σ H fun σ2 H2 => tb { D with nx := Pv (i + 1), ct := Pv (i + 1), bk := D.nx } σ2 H2) (hd : ∀ σ H, Pv xs.length σ H → D.nx σ H) :
    ∃ W : Nat → Nat → St → Hp → Prop, (∃ m, W 0 m σ H) ∧ ∀ i m σ H, W i m σ H →
      ((Itl K a).stop i H ∧ D.nx σ H) ∨ ((Itl K a).go i H ∧ ∃ N : St → Hp → Prop, (∀ σ' H', N σ' H' → ∃ m', m' < m ∧ W (i + 1) m' σ' H') ∧ ∀ x H', (Itl K a).yld i H x H' → g x σ H' fun σ2 H2 => tb { D with nx := N, ct := N, bk := D.nx } σ2 H2) := by
  refine ⟨fun i m σ H => m = xs.length - i ∧ i ≤ xs.length ∧ Pv i σ H, ⟨xs.length, by simp, Nat.zero_le _, h0⟩, ?_⟩
  rintro i m σ H ⟨rfl, hi, p⟩
  have q := hl i σ H hi p
  by_cases hlt : i < xs.length
  · refine .inr ⟨⟨xs, xs[i], q, by simp [hlt]⟩, Pv (i + 1), fun σ' H' p' => ⟨xs.length - (i + 1), by omega, rfl, hlt, p'⟩, fun x H' y => ?_⟩
    obtain ⟨e, y⟩ := y
    subst e
    exact hs i x σ _ (y xs q) p
  · have e : i = xs.length := by omega
    subst e
    exact .inl ⟨⟨xs, q, Nat.le_refl _⟩, hd σ H p⟩
theorem for_range {lo : Int} {n : Nat} {g : TG} {tb : TS} {D : Ends} {σ : St} {H : Hp} (Pv : Nat → St → Hp → Prop) (h0 : Pv 0 σ H)
    (hs : ∀ i σ H, i < n → Pv i σ H → g (.int (lo + i)) σ H fun σ2 H2 => tb { D with nx := Pv (i + 1), ct := Pv (i + 1), bk := D.nx } σ2 H2) (hd : ∀ σ H, Pv n σ H → D.nx σ H) :
    ∃ W : Nat → Nat → St → Hp → Prop, (∃ m, W 0 m σ H) ∧ ∀ i m σ H, W i m σ H →
      ((Itr lo n).stop i H ∧ D.nx σ H) ∨ ((Itr lo n).go i H ∧ ∃ N : St → Hp → Prop, (∀ σ' H', N σ' H' → ∃ m', m' < m ∧ W (i + 1) m' σ' H') ∧ ∀ x H', (Itr lo n).yld i H x H' → g x σ H' fun σ2 H2 => tb { D with nx := N, ct := N, bk := D.nx } σ2 H2) := by
  refine ⟨fun i m σ H => m = n - i ∧ i ≤ n ∧ Pv i σ H, ⟨n, by simp, Nat.zero_le _, h0⟩, ?_⟩
  rintro i m σ H ⟨rfl, hi, p⟩
  by_cases hlt : i < n
  · refine .inr ⟨hlt, Pv (i + 1), fun σ' H' p' => ⟨n - (i + 1), by omega, rfl, hlt, p'⟩, fun x H' y => ?_⟩
    obtain ⟨e, y⟩ := y
    subst e y
    exact hs i σ _ hlt p
  · have e : i = n := by omega
    subst e
    exact .inl ⟨Nat.le_refl _, hd σ H p⟩
end L2

namespace L2
open PySem PySem.Spec PyProof.Rows

abbrev R2 := V → V → Hp → VK → Prop
/-- a two-place operation on values: f is binaryOp op, inplaceOp op or compareOp op -/
def OpR (X : Cx) (f : Value → Value → Sem Value) (r : R2) : Prop :=
  ∀ (pins : List (Addr × Obj)) (s : Shared) (σ : St) (H : Hp) (x y : V) (v u : Value) (Q : VK), Inv X pins σ H s → RelV x v → RelV y u → r x y H Q →
    wpAny (model X.prog X.w) X.A (f v u) (EP X pins σ Q) X.xe s
/-- a one-place operation -/
def UnR (X : Cx) (f : Value → Sem Value) (r : V → Hp → VK → Prop) : Prop :=
  ∀ (pins : List (Addr × Obj)) (s : Shared) (σ : St) (H : Hp) (x : V) (v : Value) (Q : VK), Inv X pins σ H s → RelV x v → r x H Q →
    wpAny (model X.prog X.w) X.A (f v) (EP X pins σ Q) X.xe s
/-- a call of a value that is known (a builtin, a type) with values -/
def CallR (X : Cx) (f : Value) (r : List V → Hp → VK → Prop) : Prop :=
  ∀ (pins : List (Addr × Obj)) (s : Shared) (σ : St) (H : Hp) (xs : List V) (us : List Value) (Q : VK), Inv X pins σ H s → Vals xs us → r xs H Q →
    wpAny (model X.prog X.w) X.A (call f us) (EP X pins σ Q) X.xe s

def tOp (r : R2) (ta tb : TE) : TE := fun σ H Q => ta σ H fun x H1 => tb σ H1 fun y H2 => r x y H2 Q
def tUn (r : V → Hp → VK → Prop) (ta : TE) : TE := fun σ H Q => ta σ H fun x H1 => r x H1 Q
/-- ints in, under C, and a value out -/
def rI (C : Int → Int → Prop) (g : Int → Int → V) : R2 := fun x y H Q => ∃ i j, x = .int i ∧ y = .int j ∧ C i j ∧ Q (g i j) H
def rI0 (g : Int → Int → V) : R2 := fun x y H Q => ∃ i j, x = .int i ∧ y = .int j ∧ Q (g i j) H
def rU (g : Int → V) : V → Hp → VK → Prop := fun x H Q => ∃ i, x = .int i ∧ Q (g i) H

section
variable {X : Cx} {a b c : Expr} {ta tb tc : TE} {pos : Pos}

theorem binT (ha : PE X a ta) (hb : PE X b tb) {pins : List (Addr × Obj)} {s : Shared} {σ : St} {H : Hp} {R : V → V → Hp → Prop} (I : Inv X pins σ H s)
    (h : ta σ H fun x H1 => tb σ H1 fun y H2 => R x y H2) {Q : Value → Shared → Prop} {f : Value → Value → Sem Value}
    (hf : ∀ v u s2 x y H2, Inv X pins σ H2 s2 → RelV x v → RelV y u → R x y H2 → wpAny (model X.prog X.w) X.A (f v u) Q X.xe s2) :
    wpAny (model X.prog X.w) X.A (eval a X.env) (fun v s₁ => wpAny (model X.prog X.w) X.A (eval b X.env) (fun u s₂ => wpAny (model X.prog X.w) X.A (f v u) Q X.xe s₂) X.xe s₁) X.xe s := by
  refine thn (ha pins s σ H _ I h) fun v s1 hq0 => ?_
  obtain ⟨x, H1, I1, r1, q1⟩ := hq0
  refine thn (hb pins s1 σ H1 _ I1 q1) fun u s2 hq0 => ?_
  obtain ⟨y, H2, I2, r2, q2⟩ := hq0
  exact hf v u s2 x y H2 I2 r1 r2 q2

theorem pe_op {op : Operator} {r : R2} (ho : OpR X (binaryOp op) r) (ha : PE X a ta) (hb : PE X b tb) : PE X (.BinOp a op b pos) (tOp r ta tb) := by
  intro pins s σ H Q I h
  exact wpAny_BinOp (binT ha hb I h fun v u s2 x y H2 I2 rx ry q => ho pins s2 σ H2 x y v u Q I2 rx ry q)
theorem pe_un {op : UnaryOp} {r : V → Hp → VK → Prop} (ho : UnR X (unaryOp op) r) (ha : PE X a ta) : PE X (.UnaryOp op a pos) (tUn r ta) := by
  intro pins s σ H Q I h
  exact UnaryOp_ (thn (ha pins s σ H _ I h) fun v s1 ⟨x, H1, I1, r1, q1⟩ => ho pins s1 σ H1 x v Q I1 r1 q1)

/-! ### ints -/
theorem opI {f : Value → Value → Sem Value} {C : Int → Int → Prop} {g : Int → Int → Int}
    (rule : ∀ (i j : Int) (t u : Tok) (s : Shared) (Q : Value → Shared → Prop) (E : Value → Shared → Prop), C i j → Q (.int (g i j) s.toks) { s with toks := s.toks + 1 } → wpAny (model X.prog X.w) X.A (f (.int i t) (.int j u)) Q E s) :
    OpR X f (rI C fun i j => .int (g i j)) := by
  intro pins s σ H x y v u Q I rx ry h
  obtain ⟨i, j, rfl, rfl, hc, q⟩ := h
  obtain ⟨t, rfl⟩ := rx
  obtain ⟨t', rfl⟩ := ry
  exact rule i j t t' s _ _ hc ⟨.int (g i j), H, I.tok _, ⟨_, rfl⟩, q⟩
theorem opI0 {f : Value → Value → Sem Value} {g : Int → Int → Int}
    (rule : ∀ (i j : Int) (t u : Tok) (s : Shared) (Q : Value → Shared → Prop) (E : Value → Shared → Prop), Q (.int (g i j) s.toks) { s with toks := s.toks + 1 } → wpAny (model X.prog X.w) X.A (f (.int i t) (.int j u)) Q E s) :
    OpR X f (rI0 fun i j => .int (g i j)) := by
  intro pins s σ H x y v u Q I rx ry h
  obtain ⟨i, j, rfl, rfl, q⟩ := h
  obtain ⟨t, rfl⟩ := rx
  obtain ⟨t', rfl⟩ := ry
  exact rule i j t t' s _ _ ⟨.int (g i j), H, I.tok _, ⟨_, rfl⟩, q⟩
theorem opB0 {f : Value → Value → Sem Value} {g : Int → Int → Bool}
    (rule : ∀ (i j : Int) (t u : Tok) (s : Shared) (Q : Value → Shared → Prop) (E : Value → Shared → Prop), Q (.bool (g i j)) s → wpAny (model X.prog X.w) X.A (f (.int i t) (.int j u)) Q E s) :
    OpR X f (rI0 fun i j => .bl (g i j)) := by
  intro pins s σ H x y v u Q I rx ry h
  obtain ⟨i, j, rfl, rfl, q⟩ := h
  obtain ⟨t, rfl⟩ := rx
  obtain ⟨t', rfl⟩ := ry
  exact rule i j t t' s _ _ ⟨.bl (g i j), H, I, rfl, q⟩

def CDiv (i j : Int) : Prop := 0 < j ∧ j < 1073741824
def CPow (i j : Int) : Prop := 0 ≤ j ∧ j ≤ 1000000 ∧ i.natAbs < 2 ^ 64
def CMul (i j : Int) : Prop := (-(2 ^ 64) < i ∧ i < 2 ^ 64) ∨ (-(2 ^ 64) < j ∧ j < 2 ^ 64)
theorem CMul.ok {i j : Int} (h : CMul i j) : IntMulOk i j := by
  rcases h with ⟨h1, h2⟩ | ⟨h1, h2⟩
  · exact .of_left (intBits_le_64 h1 h2)
  · exact .of_right (intBits_le_64 h1 h2)

theorem op_add : OpR X (binaryOp .Add) (rI0 fun i j => .int (i + j)) := opI0 fun _ _ _ _ _ _ _ q => add_int q
theorem op_sub : OpR X (binaryOp .Sub) (rI0 fun i j => .int (i - j)) := opI0 fun _ _ _ _ _ _ _ q => sub_int q
theorem op_mul : OpR X (binaryOp .Mult) (rI CMul fun i j => .int (i * j)) := opI fun _ _ _ _ _ _ _ hc q => mul_int q hc.ok
/-- // by a positive divisor -/
theorem op_fdiv : OpR X (binaryOp .FloorDiv) (rI CDiv fun i j => .int (i / j)) := opI fun i j _ _ _ _ _ hc q => by
  have h1 : (0 : Int) < j := hc.1
  have h2 : j < 1073741824 := hc.2
  exact floordiv_int (by omega) (by rw [Int.fdiv_eq_ediv_of_nonneg i (by omega)]; exact q) (.inl (PyProof.noPylong_small (by omega)))
/-- % by a positive divisor of any size -/
theorem op_mod : OpR X (binaryOp .Mod) (rI (fun _ j => 0 < j) fun i j => .int (i % j)) := opI fun i j _ _ _ _ _ hc q => by
  have h1 : (0 : Int) < j := hc
  exact mod_int' (by omega) (by rw [Int.fmod_eq_emod_of_nonneg i (by omega)]; exact q)
theorem op_pow : OpR X (binaryOp .Pow) (rI CPow fun i j => .int (i ^ j.toNat)) := opI fun _ _ _ _ _ _ _ hc q => pow_int_small hc.1 hc.2.1 hc.2.2 q


theorem unI {f : Value → Sem Value} {g : Int → Int}
    (rule : ∀ (i : Int) (t : Tok) (s : Shared) (Q : Value → Shared → Prop) (E : Value → Shared → Prop), Q (.int (g i) s.toks) { s with toks := s.toks + 1 } → wpAny (model X.prog X.w) X.A (f (.int i t)) Q E s) :
    UnR X f (rU fun i => .int (g i)) := by
  intro pins s σ H x v Q I rx h
  obtain ⟨i, rfl, q⟩ := h
  obtain ⟨t, rfl⟩ := rx
  exact rule i t s _ _ ⟨.int (g i), H, I.tok _, ⟨_, rfl⟩, q⟩
theorem un_neg : UnR X (unaryOp .USub) (rU fun i => .int (-i)) := unI fun _ _ _ _ _ q => neg_int q

/-! ### bools among ints: n += (a < b) -/
end

/-! ### comparisons -/
/-- the scalars that == tells apart as data does -/
def scal : V → V → Bool
  | .non, .non => true | .non, .int _ => true | .int _, .non => true | .non, .bl _ => true | .bl _, .non => true | .non, .str _ => true | .str _, .non => true
  | .int _, .int _ => true | .bl _, .bl _ => true | .str _, .str _ => true | .byt _, .byt _ => true
  | .int _, .str _ => true | .str _, .int _ => true | .bl _, .str _ => true | .str _, .bl _ => true
  | _, _ => false
def rEq : R2 := fun x y H Q => scal x y = true ∧ Q (.bl (decide (x = y))) H
def rNe : R2 := fun x y H Q => scal x y = true ∧ Q (.bl (!decide (x = y))) H

theorem dec_int {i j : Int} : decide (V.int i = V.int j) = (i == j) := by
  rw [Bool.eq_iff_iff]
  simp
theorem dec_bl {i j : Bool} : decide (V.bl i = V.bl j) = (i == j) := by
  rw [Bool.eq_iff_iff]
  simp
theorem dec_str {i j : Str} : decide (V.str i = V.str j) = (i == j) := by
  rw [Bool.eq_iff_iff]
  simp
theorem dec_byt {i j : Array UInt8} : decide (V.byt i = V.byt j) = (i.toList == j.toList) := by
  rw [Bool.eq_iff_iff]
  cases i
  cases j
  simp

section
variable {X : Cx} {a b c : Expr} {ta tb tc : TE} {pos : Pos}
theorem fin_bl {pins : List (Addr × Obj)} {σ : St} {H : Hp} {s : Shared} {Q : VK} {k k' : Bool} (I : Inv X pins σ H s) (q : Q (.bl k) H) (e : k = k') : EP X pins σ Q (.bool k') s := by
  subst e
  exact ⟨.bl k, H, I, rfl, q⟩
theorem op_eq : OpR X (compareOp .Eq) rEq := by
  intro pins s σ H x y v u Q I rx ry h
  obtain ⟨hs, q⟩ := h
  cases x with
  | non =>
    cases rx
    cases y with
    | non => cases ry; exact PySem.EqNone.eq_none_none (fin_bl I q (by simp))
    | bl j => cases ry; exact PySem.EqNone.eq_none_bool (fin_bl I q (by simp))
    | int j => obtain ⟨t', rfl⟩ := ry; exact PySem.EqNone.eq_none_int (fin_bl I q (by simp))
    | str j => obtain ⟨t', rfl⟩ := ry; exact PySem.EqNone.eq_none_str (fin_bl I q (by simp))
    | _ => exact absurd (show false = true from hs) Bool.false_ne_true
  | bl i =>
    cases rx
    cases y with
    | non => cases ry; exact PySem.EqNone.eq_bool_none (fin_bl I q (by simp))
    | bl j => cases ry; exact eq_bool (fin_bl I q dec_bl)
    | str j => obtain ⟨t', rfl⟩ := ry; exact PySem.EqMixed.eq_bool_str (fin_bl I q (by simp))
    | _ => exact absurd (show false = true from hs) Bool.false_ne_true
  | int i =>
    obtain ⟨t, rfl⟩ := rx
    cases y with
    | non => cases ry; exact PySem.EqNone.eq_int_none (fin_bl I q (by simp))
    | int j => obtain ⟨t', rfl⟩ := ry; exact eq_int (fin_bl I q dec_int)
    | str j => obtain ⟨t', rfl⟩ := ry; exact PySem.EqMixed.eq_int_str (fin_bl I q (by simp))
    | _ => exact absurd (show false = true from hs) Bool.false_ne_true
  | str i =>
    obtain ⟨t, rfl⟩ := rx
    cases y with
    | non => cases ry; exact PySem.EqNone.eq_str_none (fin_bl I q (by simp))
    | bl j => cases ry; exact PySem.EqMixed.eq_str_bool (fin_bl I q (by simp))
    | int j => obtain ⟨t', rfl⟩ := ry; exact PySem.EqMixed.eq_str_int (fin_bl I q (by simp))
    | str j => obtain ⟨t', rfl⟩ := ry; exact eq_str (fin_bl I q dec_str)
    | _ => exact absurd (show false = true from hs) Bool.false_ne_true
  | byt i =>
    obtain ⟨t, rfl⟩ := rx
    cases y with
    | byt j => obtain ⟨t', rfl⟩ := ry; exact PySem.W.eq_bytes (fin_bl I q dec_byt)
    | _ => exact absurd (show false = true from hs) Bool.false_ne_true
  | _ => cases y <;> exact absurd (show false = true from hs) Bool.false_ne_true
theorem op_ne : OpR X (compareOp .NotEq) rNe := by
  intro pins s σ H x y v u Q I rx ry h
  obtain ⟨hs, q⟩ := h
  cases x with
  | non =>
    cases rx
    cases y with
    | non => cases ry; exact PySem.EqNone.ne_none_none (fin_bl I q (by simp))
    | bl j => cases ry; exact PySem.EqNone.ne_none_bool (fin_bl I q (by simp))
    | int j => obtain ⟨t', rfl⟩ := ry; exact PySem.EqNone.ne_none_int (fin_bl I q (by simp))
    | str j => obtain ⟨t', rfl⟩ := ry; exact PySem.EqNone.ne_none_str (fin_bl I q (by simp))
    | _ => exact absurd (show false = true from hs) Bool.false_ne_true
  | bl i =>
    cases rx
    cases y with
    | non => cases ry; exact PySem.EqNone.ne_bool_none (fin_bl I q (by simp))
    | bl j => cases ry; exact ne_bool (fin_bl I q (congrArg not dec_bl))
    | str j => obtain ⟨t', rfl⟩ := ry; exact PySem.EqMixed.ne_bool_str (fin_bl I q (by simp))
    | _ => exact absurd (show false = true from hs) Bool.false_ne_true
  | int i =>
    obtain ⟨t, rfl⟩ := rx
    cases y with
    | non => cases ry; exact PySem.EqNone.ne_int_none (fin_bl I q (by simp))
    | int j => obtain ⟨t', rfl⟩ := ry; exact ne_int (fin_bl I q (congrArg not dec_int))
    | str j => obtain ⟨t', rfl⟩ := ry; exact PySem.EqMixed.ne_int_str (fin_bl I q (by simp))
    | _ => exact absurd (show false = true from hs) Bool.false_ne_true
  | str i =>
    obtain ⟨t, rfl⟩ := rx
    cases y with
    | non => cases ry; exact PySem.EqNone.ne_str_none (fin_bl I q (by simp))
    | bl j => cases ry; exact PySem.EqMixed.ne_str_bool (fin_bl I q (by simp))
    | int j => obtain ⟨t', rfl⟩ := ry; exact PySem.EqMixed.ne_str_int (fin_bl I q (by simp))
    | str j => obtain ⟨t', rfl⟩ := ry; exact ne_str (fin_bl I q (congrArg not dec_str))
    | _ => exact absurd (show false = true from hs) Bool.false_ne_true
  | byt i =>
    obtain ⟨t, rfl⟩ := rx
    cases y with
    | byt j => obtain ⟨t', rfl⟩ := ry; exact PySem.W.ne_bytes (fin_bl I q (congrArg not dec_byt))
    | _ => exact absurd (show false = true from hs) Bool.false_ne_true
  | _ => cases y <;> exact absurd (show false = true from hs) Bool.false_ne_true

theorem op_lt : OpR X (compareOp .Lt) (rI0 fun i j => .bl (decide (i < j))) := opB0 fun _ _ _ _ _ _ _ q => lt_int q
theorem op_le : OpR X (compareOp .LtE) (rI0 fun i j => .bl (decide (i ≤ j))) := opB0 fun _ _ _ _ _ _ _ q => le_int q
theorem op_gt : OpR X (compareOp .Gt) (rI0 fun i j => .bl (decide (j < i))) := opB0 fun _ _ _ _ _ _ _ q => gt_int q
theorem op_ge : OpR X (compareOp .GtE) (rI0 fun i j => .bl (decide (j ≤ i))) := opB0 fun _ _ _ _ _ _ _ q => ge_int q




theorem nomark (b : Expr) {op : CmpOp} (h : op ≠ .In := by decide) (h2 : op ≠ .NotIn := by decide) : behindInMarks op b = false := by
  have e1 : (op == CmpOp.In) = false := by cases op <;> first | rfl | exact absurd rfl h
  have e2 : (op == CmpOp.NotIn) = false := by cases op <;> first | rfl | exact absurd rfl h2
  cases b <;> simp [behindInMarks, e1, e2]
/-- a comparison as a value; hm: nomark b, or (for in, not in) by with_unfolding_all rfl -/
theorem pe_cmpR {op : CmpOp} {r : R2} (ho : OpR X (compareOp op) r) (ha : PE X a ta) (hb : PE X b tb) (hm : behindInMarks op b = false) : PE X (.Compare a [op] [b] pos) (tOp r ta tb) := by
  intro pins s σ H Q I h
  exact wpAny_Compare1 (binT ha hb I h fun v u s2 x y H2 I2 rx ry q => ho pins s2 σ H2 x y v u Q I2 rx ry q) hm
/-- a reading of a value as a test -/
def tTest (t : TE) : TT := fun σ H Q => t σ H fun x H' => ∃ k, x = .bl k ∧ Q k H'
theorem pt_cmpR {op : CmpOp} {r : R2} (ho : OpR X (compareOp op) r) (ha : PE X a ta) (hb : PE X b tb) (hm : behindInMarks op b = false) : PT X (.Compare a [op] [b] pos) (tTest (tOp r ta tb)) := by
  intro pins s σ H Q I h
  refine wpAny_isTrue_Compare1 (thn (ha pins s σ H _ I h) fun v s1 ⟨x, H1, I1, r1, q1⟩ => thn (hb pins s1 σ H1 _ I1 q1) fun u s2 ⟨y, H2, I2, r2, q2⟩ =>
    thn (ho pins s2 σ H2 x y v u _ I2 r1 r2 q2) fun c s3 ⟨z, H3, I3, r3, k, e, q3⟩ => ?_) hm
  subst e
  cases r3
  exact wpAny_truthy_bool ⟨H3, I3, q3⟩

/-! ### truth -/
theorem line63 : (sizeLine : Nat) < 2 ^ 63 := by rw [sizeLine_eq]; decide

/-! ### strs and bytes -/
theorem op_add_str : OpR X (binaryOp .Add) (fun x y H Q => ∃ i j, x = .str i ∧ y = .str j ∧ i.length + j.length ≤ sizeLine ∧ Q (.str (i ++ j)) H) := by
  intro pins s σ H x y v u Q I rx ry h
  obtain ⟨i, j, rfl, rfl, hz, q⟩ := h
  obtain ⟨t, rfl⟩ := rx
  obtain ⟨t', rfl⟩ := ry
  exact add_str (fun t' tk => ⟨.str (i ++ j), H, I.tok _, ⟨_, rfl⟩, q⟩) hz


/-! ### scalar builtins, by CallR -/
theorem vals1 {x : V} {us : List Value} (r : Vals [x] us) : ∃ u, us = [u] ∧ RelV x u := by
  cases r with
  | cons r1 r2 => cases r2; exact ⟨_, rfl, r1⟩
theorem vals2 {x y : V} {us : List Value} (r : Vals [x, y] us) : ∃ u w', us = [u, w'] ∧ RelV x u ∧ RelV y w' := by
  cases r with
  | cons r1 r2 =>
    cases r2 with
    | cons r3 r4 => cases r4; exact ⟨_, _, rfl, r1, r3⟩
theorem call_max2 (hc : X.calm = true) : CallR X (.builtin "max") (fun xs H Q => ∃ i j, xs = [.int i, .int j] ∧ Q (.int (if j > i then j else i)) H) := by
  intro pins s σ H xs us Q I r h
  obtain ⟨i, j, rfl, q⟩ := h
  obtain ⟨u, w', rfl, ⟨t, rfl⟩, ⟨t', rfl⟩⟩ := vals2 r
  refine max_two_ints (I.ok.hd hc) fun h' tk k => ⟨_, H, I.kept k, ?_, q⟩
  by_cases hj : j > i
  · rw [if_pos hj, if_pos hj]; exact ⟨_, rfl⟩
  · rw [if_neg hj, if_neg hj]; exact ⟨_, rfl⟩
theorem call_min2 (hc : X.calm = true) : CallR X (.builtin "min") (fun xs H Q => ∃ i j, xs = [.int i, .int j] ∧ Q (.int (if j < i then j else i)) H) := by
  intro pins s σ H xs us Q I r h
  obtain ⟨i, j, rfl, q⟩ := h
  obtain ⟨u, w', rfl, ⟨t, rfl⟩, ⟨t', rfl⟩⟩ := vals2 r
  refine min_two_ints (I.ok.hd hc) fun h' tk k => ⟨_, H, I.kept k, ?_, q⟩
  by_cases hj : j < i
  · rw [if_pos hj, if_pos hj]; exact ⟨_, rfl⟩
  · rw [if_neg hj, if_neg hj]; exact ⟨_, rfl⟩
theorem call_str_int : CallR X (.type "str") (fun xs H Q => ∃ i, xs = [.int i] ∧ i.natAbs.log2 < 1920 ∧ Q (.str (toString i)) H) := by
  intro pins s σ H xs us Q I r h
  obtain ⟨i, rfl, hz, q⟩ := h
  obtain ⟨u, rfl, t, rfl⟩ := vals1 r
  exact PySem.P.str_of_int hz ⟨.str _, H, I.tok _, ⟨_, rfl⟩, q⟩
end
end L2

namespace L2
open PySem PySem.Spec PyProof.Rows

/-! ### an instance, its attributes a map -/
structure ObjM (h : Heap) (x dx C : Addr) (mA : Str → Option Value) : Prop where
  obj : h.get? x = some (PySem.W.instObj C dx)
  ns : h.Ns1 dx mA
  ne : dx ≠ x

theorem lookIn_ns {h : Heap} {dx : Addr} {mA : Str → Option Value} (n : h.Ns1 dx mA) : ∃ od, h.get? dx = some od ∧ ∀ name, PySem.W.lookIn name od = some (mA name) := by
  obtain ⟨o, es, ep, ho, hd, hk, _, hm⟩ := n
  refine ⟨o, ho, fun name => ?_⟩
  have e := hm name
  unfold nsFind findBy at e
  rw [← Array.find?_toList] at e
  unfold PySem.W.lookIn
  rw [hd]
  dsimp only
  split
  · rename_i y q
    rw [q] at e
    exact congrArg some e
  · rename_i q
    rw [q] at e
    have a : es.toList.any (·.refKey) = false := by
      rw [List.any_eq_false]
      intro y hy
      obtain ⟨z, t, hkey⟩ := hk y (Array.mem_toList_iff.mp hy)
      simp [DictEntry.refKey, hkey]
    have a' : ¬ es.toList.any (·.refKey) = true := by rw [a]; exact Bool.false_ne_true
    rw [if_neg a']
    exact congrArg some e

theorem ObjM.look {h : Heap} {x dx C : Addr} {mA : Str → Option Value} (I : ObjM h x dx C mA) : ∃ od, PySem.W.InstAt h x (PySem.W.instObj C dx) C (some od) ∧ ∀ name, PySem.W.lookIn name od = some (mA name) :=
  let ⟨od, ho, hl⟩ := lookIn_ns I.ns
  ⟨od, ⟨I.obj, rfl, rfl, ho⟩, hl⟩

section
variable {prog : Program} {w : World} {A : Around} {E : Value → Shared → Prop} {s : Shared} {K : PySem.W.Frag} {x dx C f : Addr} {mA : Str → Option Value} {name : Str} {v : Value}





end

/-! ### the attributes as a list of pairs -/

theorem RelO.some_of {v : V} {o : Option Value} (r : RelO (some v) o) : ∃ u, o = some u ∧ RelV v u := by
  cases o with
  | none => exact (show False from r).elim
  | some u => exact ⟨u, rfl, r⟩
theorem RelO.none_of {o : Option Value} (r : RelO none o) : o = none := by
  cases o with
  | none => rfl
  | some u => exact (show False from r).elim

section
variable {P : Program} {w : World} {H H' : Hp} {h h' : Heap} {a C dx : Addr} {fs fs' : List (Str × V)}
theorem ins_get (hok : HOk P w H h) (e : H a = some (.ins C dx fs)) : ∃ mA, ObjM h a dx C mA ∧ (∀ f, RelO (fs.lookup f) (mA f)) ∧ PySem.Within mA (fs.map (·.1)) ∧ fs.length ≤ 1000 ∧ H dx = some (.own a) := by
  obtain ⟨d, z, ne, ob, mA, n, r, q⟩ := (show ObjOk P w H h a (.ins C dx fs) from hok a _ e)
  exact ⟨mA, ⟨ob, n, ne⟩, r, q, z, d⟩
end

/-! ### what of the text a class must have -/
structure Cls (K : PySem.W.Frag) (C : Addr) : Prop where
  pg : PySem.W.plainGet K C Str.empty = true
  hd : PySem.W.hasDictIn K C = true
  po : PySem.W.plainOver K C = true
  sa : PySem.W.findIn K (.ref C) "__setattr__" = some (some (.builtin "object.__setattr__"))
theorem Cls.get {K : PySem.W.Frag} {C : Addr} (c : Cls K C) (f : Str) : PySem.W.plainGet K C f = true := c.pg
/-- no class of it has the name -/
def NoAttr (K : PySem.W.Frag) (C : Addr) (f : Str) : Prop := PySem.W.findIn K (.ref C) f = some none
theorem NoAttr.taker {K : PySem.W.Frag} {C : Addr} {f : Str} (n : NoAttr K C f) : PySem.W.takerIn K C f = some none := by
  unfold PySem.W.takerIn
  rw [show PySem.W.findIn K (.ref C) f = some none from n]
  rfl
/-- a method: a plain def of the class or of one above it -/
structure Meth (K : PySem.W.Frag) (C : Addr) (m : Str) (f : Addr) : Prop where
  at_ : PySem.W.findIn K (.ref C) m = some (some (.ref f))
  fn : PySem.W.isFn K (.ref f) = true
  kp : PySem.W.keepIn K (.ref f) = true

section
variable {X : Cx} {pins : List (Addr × Obj)} {σ : St} {H : Hp} {s : Shared} {a C dx : Addr} {fs : List (Str × V)} {f : Str} {v : V} {A : Around} {E : Value → Shared → Prop}






end

/-! ### readings and rules -/

section
variable {X : Cx} {o e value : Expr} {f : Str} {pos pos' tpos : Pos} {ta tv : TE}

end

/-! ### isinstance -/
section
variable {X : Cx} {pins : List (Addr × Obj)} {σ : St} {H : Hp} {s : Shared} {A : Around} {E : Value → Shared → Prop} {Q : Value → Shared → Prop} {c : Value} {b : Bool}
/-- the type of a value, as the fragment's deciders take it; for an instance its class -/
inductive TyOf (K : PySem.W.Frag) (H : Hp) : V → Value → Prop where
  | non : TyOf K H .non (.type "NoneType")
  | bl (x : Bool) : TyOf K H (.bl x) (.type "bool")
  | int (i : Int) : TyOf K H (.int i) (.type "int")
  | str (x : Str) : TyOf K H (.str x) (.type "str")
  | flt (x : UInt64) : TyOf K H (.flt x) (.type "float")
  | lst {a : Addr} {xs : List V} (e : H a = some (.lst xs)) : TyOf K H (.ref a) (.type "list")
  | frz {a : Addr} {o : Obj} {xs : List V} (e : H a = some (.frz o (.lst xs))) : TyOf K H (.ref a) (.type "list")
  | tup {a : Addr} {xs : List V} (e : H a = some (.tup xs)) : TyOf K H (.ref a) (.type "tuple")
  | dK {a : Addr} {kvs : List (Key × V)} (e : H a = some (.dK kvs)) : TyOf K H (.ref a) (.type "dict")
  | dT {a : Addr} {kvs : List (List Key × V)} (e : H a = some (.dT kvs)) : TyOf K H (.ref a) (.type "dict")
  | ins {a C dx : Addr} {fs : List (Str × V)} (e : H a = some (.ins C dx fs)) (cl : Cls K C) (ha : PySem.W.findIn K (.ref C) "__class__" = some (some (.builtin "object.__class__")))
      (hn : PySem.W.specialIn K (.builtin "object.__class__") "__get__" = some (some (.builtin "getset_descriptor.__get__"))) (htk : PySem.W.takesIn K (.builtin "object.__class__") = some true)
      (hm : PySem.W.mroIn K C (.type "object") = some true) : TyOf K H (.ref a) (.ref C)
/-- isinstance(x, c) for one class c, a built-in or an own one: kitOne's answer -/
theorem isinst_ok {x : V} {u t : Value} (I : Inv X pins σ H s) (rx : RelV x u) (ty : TyOf X.K H x t) (e : PySem.W.kitOne X.K t c = some b) (h : ∀ tk, Q (.bool b) { s with toks := tk }) :
    wpAny (model X.prog X.w) A (call (.builtin "isinstance") [u, c]) Q E s := by
  cases ty with
  | non => cases (show u = Value.none from rx); exact PySem.W.kia_one PySem.W.kitx_none I.kIn True.intro e (fun z => nomatch z) h
  | bl y => cases (show u = Value.bool y from rx); exact PySem.W.kia_one PySem.W.kitx_bool I.kIn True.intro e (fun z => nomatch z) h
  | int i => obtain ⟨t, q⟩ := (show ∃ t, u = Value.int i t from rx); cases q; exact PySem.W.kia_one PySem.W.kitx_int I.kIn True.intro e (fun z => nomatch z) h
  | str y => obtain ⟨t, q⟩ := (show ∃ t, u = Value.str y t from rx); cases q; exact PySem.W.kia_one PySem.W.kitx_str I.kIn True.intro e (fun z => nomatch z) h
  | flt y => obtain ⟨t, q⟩ := (show ∃ t, u = Value.float y t from rx); cases q; exact PySem.W.kia_one PySem.W.kitx_float I.kIn True.intro e (fun z => nomatch z) h
  | @lst a xs ea =>
    cases (show u = Value.ref a from rx)
    obtain ⟨_, _, n, _, h1⟩ := (show ObjOk X.prog X.w H s.heap a (.lst xs) from I.hok a _ ea)
    exact PySem.W.kia_one PySem.W.kitx_list I.kIn ⟨_, h1, rfl⟩ e (fun z => nomatch z) h
  | @frz a ob xs ea =>
    cases (show u = Value.ref a from rx)
    obtain ⟨_, _, _, n, _, h1⟩ := (show ObjOk X.prog X.w H s.heap a (.frz ob (.lst xs)) from I.hok a _ ea)
    exact PySem.W.kia_one PySem.W.kitx_list I.kIn ⟨_, h1, rfl⟩ e (fun z => nomatch z) h
  | @tup a xs ea =>
    cases (show u = Value.ref a from rx)
    obtain ⟨_, _, _, p⟩ := (show ObjOk X.prog X.w H s.heap a (.tup xs) from I.hok a _ ea)
    obtain ⟨o, h1, h2, _⟩ := p
    exact PySem.W.kia_one PySem.W.kitx_tuple I.kIn ⟨o, h1, h2⟩ e (fun z => nomatch z) h
  | @dK a kvs ea =>
    cases (show u = Value.ref a from rx)
    obtain ⟨_, _, vs, _, p⟩ := (show ObjOk X.prog X.w H s.heap a (.dK kvs) from I.hok a _ ea)
    obtain ⟨o, es, ep, h1, h2, _⟩ := p
    exact PySem.W.kia_one PySem.W.kitx_dict I.kIn ⟨o, h1, h2.1⟩ e (fun z => nomatch z) h
  | @dT a kvs ea =>
    cases (show u = Value.ref a from rx)
    obtain ⟨_, _, xs, _, o, es, ep, h1, h2, _⟩ := (show ObjOk X.prog X.w H s.heap a (.dT kvs) from I.hok a _ ea)
    exact PySem.W.kia_one PySem.W.kitx_dict I.kIn ⟨o, h1, h2.1⟩ e (fun z => nomatch z) h
  | @ins a C dx fs ea cl ha hn htk hm =>
    cases (show u = Value.ref a from rx)
    obtain ⟨mA, O, _⟩ := ins_get I.hok ea
    obtain ⟨od, J, _⟩ := O.look
    exact PySem.W.kia_one (PySem.W.kitx_own (cl.get _) cl.hd ha hn htk hm) I.kIn J e (fun z => nomatch z) h
end
end L2

namespace L2
open PySem PySem.Spec PyProof.Rows

/-! ### room -/
structure Room (k : Nat) (A : Around) : Prop where
  hd : A.handled = none
  dp : A.depth + 3 * k + 5 < recursionLimit
  un : A.units + 16 * k + 200 < cLine
theorem Room.mono {j k : Nat} {A : Around} (r : Room k A) (h : j ≤ k) : Room j A := ⟨r.hd, by have := r.dp; omega, by have := r.un; omega⟩
theorem Room.deeper {k : Nat} {A : Around} (r : Room (k + 1) A) (env : Env) : Room k (A.deeper env) :=
  ⟨r.hd, by have := r.dp; show A.depth + 1 + 3 * k + 5 < _; omega, by have := r.un; show A.units + 3 + 16 * k + 200 < _; omega⟩
theorem make_depth {A : Around} {C : Addr} {us : List Value} {kw : List (Str × Value)} : (A.under (.builtin "type.__call__" ⟨.ref C :: us, kw⟩)).depth = A.depth + 1 := by
  first | rfl | simp [Around.under, Code.weight, Code.isCreation, Code.isGuard, Code.isCaller, Code.frames, Code.isFrame, guardIds]
theorem make_units {A : Around} {C : Addr} {us : List Value} {kw : List (Str × Value)} : (A.under (.builtin "type.__call__" ⟨.ref C :: us, kw⟩)).units = A.units + 1 := by
  first | rfl | simp [Around.under, Code.cUnits, Code.frames, Code.isFrame]
theorem Room.make {k : Nat} {A : Around} (r : Room (k + 1) A) (C : Addr) (us : List Value) (kw : List (Str × Value)) : Room k (A.under (.builtin "type.__call__" ⟨.ref C :: us, kw⟩)) :=
  ⟨r.hd, by have := r.dp; rw [make_depth]; omega, by have := r.un; rw [make_units]; omega⟩
theorem Room.depth {k : Nat} {A : Around} (r : Room k A) : A.depth < recursionLimit := by have := r.dp; omega
theorem Room.units {k : Nat} {A : Around} (r : Room k A) : A.units + 64 < cLine := by have := r.un; omega

/-! ### argument lists and displays -/
def tNil : TA := fun _ H Q => Q [] H
def tCons (ta : TE) (tr : TA) : TA := fun σ H Q => ta σ H fun x H1 => tr σ H1 fun xs H2 => Q (x :: xs) H2
section
variable {X : Cx} {e : Expr} {es : List Expr} {te : TE} {t : TA} {pos : Pos}
theorem pa_nil : PA X [] tNil := fun _ _ _ _ H Q I h => Calls.spliced_nil ⟨[], H, I, .nil, h⟩
theorem pa_cons (ha : PE X e te) (hr : PA X es t) (hs : starEach (e :: es) X.env = (false, eval e X.env) :: starEach es X.env := by rfl) : PA X (e :: es) (tCons te t) := by
  intro pos pins s σ H Q I h
  rw [hs]
  show wpAny _ _ (spliced ((false, eval e X.env) :: backTo pos (starEach es X.env))) _ _ s
  refine Calls.spliced_cons (thn (ha pins s σ H _ I h) fun u s1 hq0 => ?_)
  obtain ⟨x, H1, I1, r1, q1⟩ := hq0
  exact thn (hr pos pins s1 σ H1 _ I1 q1) fun us s2 ⟨xs, H2, I2, r2, q2⟩ => ⟨x :: xs, H2, I2, .cons r1 r2, q2⟩

/-- a tuple, a list of written items -/
def tTup (t : TA) : TE := fun σ H Q => t σ H fun xs H1 => xs.length ≤ sizeLine ∧ ∀ p, H1 p = none → Q (.ref p) (upd H1 p (.tup xs))
def tLst (t : TA) : TE := fun σ H Q => t σ H fun xs H1 => xs.length ≤ sizeLine ∧ ∀ p, H1 p = none → Q (.ref p) (upd H1 p (.lst xs))
theorem pe_tup {x1} (h : PA X es t) : PE X (.Tuple es x1 pos) (tTup t) := by
  intro pins s σ H Q I hq
  refine wpAny_Tuple_spliced (thn (h pos pins s σ H _ I hq) fun us s1 ⟨xs, H1, I1, r, z, q⟩ => ⟨by rw [← r.length]; exact z, ?_⟩)
  have hf : H1 s1.heap.objs.size = none := I1.hok.fresh (Nat.le_refl _)
  refine ⟨.ref s1.heap.objs.size, upd H1 s1.heap.objs.size (.tup xs), I1.laid (t' := s1.toks) (fun b u e => Heap.get?_push_of_some _ e) (Nat.le_refl _) ?_, rfl, q _ hf⟩
  exact ⟨z, us, r, ⟨_, Heap.get?_push_size _ rfl, rfl, _, rfl⟩⟩
theorem pe_lst (h : PA X es t) : PE X (.List es pos) (tLst t) := by
  intro pins s σ H Q I hq
  refine wpAny_List_spliced (thn (h pos pins s σ H _ I hq) fun us s1 ⟨xs, H1, I1, r, z, q⟩ => ⟨by rw [← r.length]; exact z, ?_⟩)
  have hf : H1 s1.heap.objs.size = none := I1.hok.fresh (Nat.le_refl _)
  refine ⟨.ref s1.heap.objs.size, upd H1 s1.heap.objs.size (.lst xs), I1.laid (t' := s1.toks) (fun b u e => Heap.get?_push_of_some _ e) (Nat.le_refl _) ?_, rfl, q _ hf⟩
  exact ⟨z, us, 0, r, Heap.get?_push_size _ rfl⟩
end

/-! ### what a def promises -/
/-- a def's promise: the bound arguments in the parameters' order, the heap, the wanted end, the wanted exception -/
abbrev Sp := List V → Hp → VK → XK → Prop
/-- how an exception lies behind a call (file 08 gives it): the callers' frames, abstract heap and state ahead of the call, the wish, the exception, the state -/
abbrev CXT := List Env → Hp → Shared → XK → Value → Shared → Prop

/-- the state at a call -/
structure Env0 (P : Program) (w : World) (K : PySem.W.Frag) (mg : Str → Option Value) (base : Heap) (A : Around) (outer : List Env) (s : Shared) (H : Hp) : Prop where
  frames : A.frames = some outer
  mod : Mod K mg base
  bs : ∀ b o, base.get? b = some o → s.heap.get? b = some o ∧ H b = none
  bsz : base.objs.size ≤ s.heap.objs.size
  funs : s.heap.FunFrames base outer
  frf : ∀ b ∈ frs outer, H b = none
  hok : HOk P w H s.heap
  bare : AllBare s.gens
/-- a call's end -/
def CE (outer : List Env) (P : Program) (w : World) (H : Hp) (s : Shared) (Q : VK) (u : Value) (s' : Shared) : Prop :=
  ∃ v H', s'.os = s.os ∧ AllBare s'.gens ∧ Un (frs outer) [] H H' s.heap s'.heap ∧ HOk P w H' s'.heap ∧ RelV v u ∧ Q v H'
def CR (CX : CXT) (outer : List Env) (P : Program) (w : World) (H : Hp) (s : Shared) (Q : VK) (E : XK) (r : Result) (s' : Shared) : Prop :=
  match r with
  | .ok (.ret u) => CE outer P w H s Q u s'
  | .ok _ => False
  | .error e => CX outer H s E e s'
structure FnOk (P : Program) (w : World) (K : PySem.W.Frag) (mg : Str → Option Value) (base : Heap) (CX : CXT) (k : Nat) (f : Addr) (fd : FuncData) (ps : List Str) (sp : Sp) : Prop where
  len : ∀ vs H Q E, sp vs H Q E → vs.length = ps.length
  run : ∀ (A : Around) (outer : List Env) (s : Shared) (H : Hp) (args : Args) (us : List Value) (vs : List V) (Q : VK) (E : XK), Room k A → Env0 P w K mg base A outer s H → BindsTo s fd args (ps.zip us) → Vals vs us → sp vs H Q E →
    codeAny (model P w) A (.call (.ref f) args) (CR CX outer P w H s Q E) s

theorem Env0.make {P : Program} {w : World} {K : PySem.W.Frag} {mg : Str → Option Value} {base : Heap} {A : Around} {outer : List Env} {s : Shared} {H : Hp} (e : Env0 P w K mg base A outer s H) (C : Addr) (us : List Value) (kw : List (Str × Value)) :
    Env0 P w K mg base (A.under (.builtin "type.__call__" ⟨.ref C :: us, kw⟩)) outer s H := ⟨by first | exact e.frames | (simpa [Around.under, Code.envs, Code.isFrame, pushEnvs] using e.frames), e.mod, e.bs, e.bsz, e.funs, e.frf, e.hok, e.bare⟩

section
variable {X : Cx} {pins : List (Addr × Obj)} {σ : St} {H : Hp} {s s' : Shared}
/-- from a body: what a callee wants -/
theorem Inv.env0 (I : Inv X pins σ H s) : Env0 X.prog X.w X.K X.mg X.base X.A X.stack s H :=
  ⟨I.ok.frames, I.ok.mod, I.bs, Nat.le_trans I.ok.bsz I.sz, I.stack, I.stkFree, I.hok, I.bare⟩
/-- behind a call -/
theorem Inv.after {Q : VK} {u : Value} (I : Inv X pins σ H s) (h : CE X.stack X.prog X.w H s Q u s') : EP X pins σ Q u s' := by
  obtain ⟨v, H', os, bare, un, hok, r, q⟩ := h
  obtain ⟨hh, g, d, t, os'⟩ := s'
  obtain rfl : os' = s.os := os
  exact ⟨v, H', I.call (h' := hh) (g' := g) (d' := d) (t' := t) (ch := []) un hok bare (fun b z => absurd z (by simp)), r, q⟩
end

/-! ### calls -/
/-- f(..): the written arguments, then the defaults dvs; E: what is wanted of an exception -/
def tCall (sp : Sp) (dvs : List V) (E : XK) (t : TA) : TE := fun σ H Q => t σ H fun vs H1 => sp (vs ++ dvs) H1 Q E

/-- how the parameters are bound: us the positional arguments, kw the keywords' values by name, ds the defaults that fill up -/
def Binds (K : PySem.W.Frag) (fd : FuncData) (ps : List Str) (ds : List Value) : Prop :=
  ∀ (s : Shared) (us : List Value), K.In s.heap → (us ++ ds).length = ps.length → BindsTo s fd ⟨us, []⟩ (ps.zip (us ++ ds))
/-- every parameter is given -/
theorem Binds.all {K : PySem.W.Frag} {fd : FuncData} {ps : List Str} (h : ∀ us : List Value, us.length = ps.length → bindArgs fd ⟨us, []⟩ = pure (ps.zip us)) : Binds K fd ps [] := fun s us _ hl => by
  rw [List.append_nil] at hl ⊢
  exact .of_eq (h us hl)

/-- an exception of a callee reaches what this body wants of exceptions -/
def Passes (CX : CXT) (X : Cx) (E : XK) : Prop := ∀ (pins : List (Addr × Obj)) (σ : St) (H : Hp) (s : Shared) (e : Value) (s' : Shared), Inv X pins σ H s → CX X.stack H s E e s' → X.xe e s'

section
variable {X : Cx} {CX : CXT} {k : Nat} {f C : Addr} {fd : FuncData} {ps : List Str} {sp : Sp} {dvs : List V} {ds : List Value} {E : XK} {x m : Str} {p pos apos : Pos} {e o : Expr} {es : List Expr} {ta : TE} {t : TA}

/-- the callee runs -/
theorem run_fn {pins : List (Addr × Obj)} {σ : St} {H : Hp} {s : Shared} {Q : VK} {us : List Value} {vs : List V} (F : FnOk X.prog X.w X.K X.mg X.base CX k f fd ps sp) (hr : Room k X.A) (hb : Binds X.K fd ps ds) (hd : Vals dvs ds) (hx : Passes CX X E)
    (I : Inv X pins σ H s) (r : Vals vs us) (h : sp (vs ++ dvs) H Q E) : wpAny (model X.prog X.w) X.A (call (.ref f) us) (EP X pins σ Q) X.xe s := by
  have r2 : Vals (vs ++ dvs) (us ++ ds) := r.append hd
  have hl : (us ++ ds).length = ps.length := by rw [← r2.length]; exact F.len _ _ _ _ h
  refine wpAny_call (codeAny_mono (F.run X.A X.stack s H ⟨us, []⟩ (us ++ ds) (vs ++ dvs) Q E hr I.env0 (hb s us I.kIn hl) r2 h) fun r s' hq => ?_)
  cases r with
  | error e => exact hx pins σ H s e s' I hq
  | ok fl =>
    cases fl with
    | ret u => exact I.after hq
    | next => exact False.elim hq
    | brk => exact False.elim hq
    | cont => exact False.elim hq

theorem pe_call (F : FnOk X.prog X.w X.K X.mg X.base CX k f fd ps sp) (hr : Room k X.A) (hg : Gl X x) (hm : X.mg x = some (.ref f)) (hk : PySem.W.keepIn X.K (.ref f) = true) (hb : Binds X.K fd ps ds) (hd : Vals dvs ds) (hx : Passes CX X E)
    (ha : PA X (e :: es) t) (hdb : (x == ("__debug__" : Str)) = false := by decide) (he : starEach (e :: es) X.env = (false, eval e X.env) :: starEach es X.env := by rfl) (hpl : (backTo pos (starEach es X.env)).any (·.1) = false := by rfl) :
    PE X (.Call (.Name x p) (e :: es) [] pos) (tCall sp dvs E t) := by
  intro pins s σ H Q I h
  refine wpAny_Call_Name_kw (ld_glob I hg hm ?_ hdb)
  refine PySem.W.callWith_K (h₀ := X.base) I.ok.mod.kin hk (thn (ha pos pins s σ H _ I h) fun us s1 ⟨vs, H1, I1, r, q⟩ => ⟨I1.kIn, ?_⟩) he hpl
  exact run_fn F hr hb hd hx I1 r q



end

/-! ### keywords -/
/-- the values of the keywords, from the left -/
def PK (X : Cx) (kws : List Keyword) (t : TA) : Prop :=
  ∀ (pos : Pos) (pins : List (Addr × Obj)) (s : Shared) (σ : St) (H : Hp) (Q : List V → Hp → Prop), Inv X pins σ H s → t σ H Q → wpAny (model X.prog X.w) X.A (evalAll ((backToKw pos (keywordEach kws X.env)).map (·.2))) (AP X pins σ Q) X.xe s
section
variable {X : Cx} {CX : CXT} {k : Nat} {f C : Addr} {fd : FuncData} {ps ks : List Str} {sp : Sp} {E : XK} {x m : Str} {p pos apos kpos : Pos} {e o : Expr} {es : List Expr} {kws : List Keyword} {te ta : TE} {t tk : TA} {nm : Option Str}
theorem pk_nil : PK X [] tNil := fun _ _ _ _ H Q I h => wpAny_evalAll_nil ⟨[], H, I, .nil, h⟩
theorem pk_cons (ha : PE X e te) (hr : PK X kws t) : PK X (⟨nm, e, kpos⟩ :: kws) (tCons te t) := by
  intro pos pins s σ H Q I h
  show wpAny _ _ (evalAll ((do let v ← eval e X.env; standAt pos; pure v) :: (backToKw pos (keywordEach kws X.env)).map (·.2))) _ _ s
  refine wpAny_evalAll_cons (wpAny_bind (thn (ha pins s σ H _ I h) fun u s1 ⟨x, H1, I1, r1, q1⟩ => wpAny_bind (wpAny_standAt (wpAny_pure ?_))))
  exact thn (hr pos pins s1 σ H1 _ I1 q1) fun us s2 ⟨xs, H2, I2, r2, q2⟩ => ⟨x :: xs, H2, I2, .cons r1 r2, q2⟩

variable {g : List Value → List Value → List Value} {gV : List V → List V → List V}
end

/-! ### a def's body keeps its promise -/
/-- names: the parameters first -/
structure FnScope (N P : List Str) (sc : Scope) : Prop where
  kind : sc.kind = .function
  co : sc.isCoroutine = false
  gen : sc.isGenerator = false
  nd : N.Nodup
  pre : N.take P.length = P
  par : ∀ x ∈ P, sc.names.lookup x = some .local ∨ sc.names.lookup x = some .cell
  nofree : ∀ y ∈ sc.names, y.2 ≠ .free

theorem bindL_out {kindOf : Str → Option NameKind} {x : Str} : ∀ {binds : List (Str × Value)} {m : Str → Option Value}, (∀ v, (x, v) ∉ binds) → bindL kindOf binds m x = m x
  | [], _, _ => rfl
  | (n, v) :: r, m, h => by
    unfold bindL
    rw [bindL_out fun w hw => h w (List.mem_cons_of_mem _ hw)]
    split
    · have : x ≠ n := by rintro rfl; exact h v List.mem_cons_self
      simp [this]
    · rfl
theorem bindC_out {kindOf : Str → Option NameKind} {x : Str} : ∀ {binds : List (Str × Value)} {m : Str → Option Value}, (∀ v, (x, v) ∉ binds) → bindC kindOf binds m x = m x
  | [], _, _ => rfl
  | (n, v) :: r, m, h => by
    unfold bindC
    rw [bindC_out fun w hw => h w (List.mem_cons_of_mem _ hw)]
    split
    · rfl
    · have : x ≠ n := by rintro rfl; exact h v List.mem_cons_self
      simp [this]
theorem bindL_get {kindOf : Str → Option NameKind} {x : Str} {v : Value} : ∀ {P : List Str} {vs : List Value} {i : Nat} {m : Str → Option Value}, P.Nodup → P[i]? = some x → vs[i]? = some v → kindOf x = some .local →
    bindL kindOf (P.zip vs) m x = some v
  | [], _, _, _, _, h, _, _ => by simp at h
  | _ :: _, [], _, _, _, _, h, _ => by simp at h
  | p :: P, w :: vs, 0, m, nd, h1, h2, hk => by
    simp at h1 h2; subst h1; subst h2
    show bindL kindOf ((p, w) :: P.zip vs) m p = _
    unfold bindL
    rw [bindL_out fun v hv => (List.nodup_cons.mp nd).1 (List.of_mem_zip hv).1, if_pos hk]
    simp
  | p :: P, w :: vs, i + 1, m, nd, h1, h2, hk => by
    show bindL kindOf ((p, w) :: P.zip vs) m x = _
    unfold bindL
    exact bindL_get (i := i) (List.nodup_cons.mp nd).2 (by simpa using h1) (by simpa using h2) hk
theorem bindC_get {kindOf : Str → Option NameKind} {x : Str} {v : Value} : ∀ {P : List Str} {vs : List Value} {i : Nat} {m : Str → Option Value}, P.Nodup → P[i]? = some x → vs[i]? = some v → kindOf x ≠ some .local →
    bindC kindOf (P.zip vs) m x = some v
  | [], _, _, _, _, h, _, _ => by simp at h
  | _ :: _, [], _, _, _, _, h, _ => by simp at h
  | p :: P, w :: vs, 0, m, nd, h1, h2, hk => by
    simp at h1 h2; subst h1; subst h2
    show bindC kindOf ((p, w) :: P.zip vs) m p = _
    unfold bindC
    rw [bindC_out fun v hv => (List.nodup_cons.mp nd).1 (List.of_mem_zip hv).1, if_neg hk]
    simp
  | p :: P, w :: vs, i + 1, m, nd, h1, h2, hk => by
    show bindC kindOf ((p, w) :: P.zip vs) m x = _
    unfold bindC
    exact bindC_get (i := i) (List.nodup_cons.mp nd).2 (by simpa using h1) (by simpa using h2) hk

/-- the names' values at the entry -/
def start (N : List Str) (vs : List V) : St := vs.map some ++ List.replicate (N.length - vs.length) none

/-- the context of a def's body, at its entry; an exception leaves the frame, then lies as CX says -/
def cxOf (CX : CXT) (P : Program) (w : World) (K : PySem.W.Frag) (mg : Str → Option Value) (base : Heap) (N : List Str) (qual : Str) (scope : Scope) (f : Addr) (cd : Value) (A : Around) (outer : List Env) (s : Shared) (H : Hp) (E : XK) : Cx where
  prog := P
  w := w
  K := K
  mg := mg
  base := base
  A := A.deeper (envOfC qual scope s.heap.objs.size f cd)
  N := N
  s₀ := s
  H₀ := H
  env := envOfC qual scope s.heap.objs.size f cd
  outer := outer
  stack := envOfC qual scope s.heap.objs.size f cd :: outer
  ex := []
  calm := true
  fn := fun _ => true
  pn := []
  xe := fun e s' => wpAny (model P w) (A.deeper (envOfC qual scope s.heap.objs.size f cd)) (leaving (envOfC qual scope s.heap.objs.size f cd) e) (fun _ s'' => CX outer H s E e s'') (fun e' s'' => CX outer H s E e' s'') s'

theorem cell_has {sc : Scope} {n : Nat} {x : Str} (h : sc.names.lookup x = some .cell) : ∃ c, (cellsFrom n sc.names []).lookup x = some c := by
  have q := PySem.W.cellsFrom_some sc.names n [] (.inl h)
  exact Option.isSome_iff_exists.mp q

theorem inv_start {CX : CXT} {P : Program} {w : World} {K : PySem.W.Frag} {mg : Str → Option Value} {base : Heap} {N ps : List Str} {qual : Str} {scope : Scope} {f : Addr} {cd : Value} {A : Around} {outer : List Env} {s s1 : Shared} {H : Hp} {E : XK} {us : List Value} {vs : List V}
    (S : FnScope N ps scope) (hd : A.handled = none) (e0 : Env0 P w K mg base A outer s H) (hl : vs.length = ps.length) (r : Vals vs us)
    (x : InCallC s s.heap.objs.size (bindL (envOfC qual scope s.heap.objs.size f cd).kindOf (ps.zip us) fun _ => none) (cellsFrom (s.heap.objs.size + 1) scope.names []) (bindC (envOfC qual scope s.heap.objs.size f cd).kindOf (ps.zip us) fun _ => none) s1) :
    Inv (cxOf CX P w K mg base N qual scope f cd A outer s H E) [] (start N vs) H s1 := by
  have hpl : ps.length ≤ N.length := by have := congrArg List.length S.pre; rw [List.length_take] at this; omega
  obtain ⟨h1, tk, rfl, hk⟩ := x.done
  have noA : ∀ b : Addr, b ∉ (cxOf CX P w K mg base N qual scope f cd A outer s H E).ex := fun b z => absurd (show b ∈ ([] : List Addr) from z) (by simp)
  refine ⟨⟨e0.mod, S.kind, rfl, rfl, Nat.le_refl _, fun y z c h1 h2 => ?_, fun y hy => ?_, fun y c _ h => ?_, fun _ => hd, Around.frames_deeper e0.frames, .inr ⟨rfl, rfl⟩, fun b z => absurd z (noA b), e0.bs, e0.bsz, fun b _ _ => noA b, fun b z => absurd z (noA b), e0.funs, e0.frf⟩,
    rfl, e0.bare, Un.kept hk, ⟨_, x.toInCall.ns, fun i y v h1 h2 h3 => ?_⟩, fun y c h => ⟨_, x.cell y c h⟩, e0.hok.fresh (Nat.le_refl _), fun y c h => ?_, fun p hp => absurd (show p ∈ ([] : List (Addr × Obj)) from hp) (by simp), e0.hok.kept hk, ?_⟩
  · exact name_of_addr x.apart (PySem.mem_of_lookup h1) (PySem.mem_of_lookup h2)
  · have hy : scope.names.lookup y = some .cell ∨ scope.names.lookup y = some .free := hy
    rcases hy with hy | hy
    · exact cell_has hy
    · exact absurd rfl (S.nofree _ (PySem.mem_of_lookup hy))
  · exact Nat.le_of_lt (x.above y c (PySem.mem_of_lookup h))
  · have hi : i < vs.length := by
      unfold start at h2
      by_cases hi : i < vs.length
      · exact hi
      · rw [List.getElem?_append_right (by simpa using hi)] at h2
        rw [List.getElem?_replicate] at h2
        split at h2 <;> cases h2
    have ha : vs[i]? = some v := by
      unfold start at h2
      rw [List.getElem?_append_left (by simpa using hi), List.getElem?_map] at h2
      cases e : vs[i]? with
      | none => rw [e] at h2; cases h2
      | some a => rw [e] at h2; cases h2; rfl
    obtain ⟨u, hu, rv⟩ := r.get ha
    have hp : ps[i]? = some y := by
      rw [← S.pre, List.getElem?_take_of_lt (by omega)]; exact h1
    have ndP : ps.Nodup := by rw [← S.pre]; exact S.nd.sublist (List.take_sublist _ _)
    refine ⟨u, rv, ?_⟩
    rcases S.par y (List.mem_of_getElem? hp) with k | k
    · exact .inl ⟨k, bindL_get ndP hp hu k⟩
    · obtain ⟨c, e⟩ := cell_has (n := s.heap.objs.size + 1) k
      refine .inr ⟨.inl k, c, e, ?_⟩
      have q := x.cell y c e
      rw [bindC_get ndP hp hu (by show scope.names.lookup y ≠ _; rw [k]; decide)] at q
      exact q
  · exact e0.hok.fresh (Nat.le_of_lt (x.above y c (PySem.mem_of_lookup h)))
  · unfold start
    show _ = N.length
    rw [List.length_append, List.length_map, List.length_replicate]
    omega

/-- THE RULE: a def (or a method) of the text, by its body. The body's reading t is chosen for each entry; it is run at the parameters' values -/
theorem fn_of {CX : CXT} {P : Program} {w : World} {K : PySem.W.Frag} {mg : Str → Option Value} {base : Heap} {k : Nat} {f : Addr} {name qual : Str} {params : Arguments} {body : List Stmt} {scope : Scope} {dV kV doc pm cdv ct oc : Value} {an od : Option Addr}
    {osl : Array (Option Value)} {N ps : List Str} {sp : Sp} (lk : K.lookup f = some ⟨oc, od, .func (PySem.W.fnOf name qual params body scope dV kV doc pm an cdv ct), osl⟩) (hcd : PySem.W.codeIn K cdv qual = true) (S : FnScope N ps scope)
    (len : ∀ vs H Q E, sp vs H Q E → vs.length = ps.length)
    (hbody : ∀ (A : Around) (outer : List Env) (s : Shared) (H : Hp) (vs : List V) (Q : VK) (E : XK), Room k (A.deeper (envOfC qual scope s.heap.objs.size f cdv)) → sp vs H Q E →
      ∃ t, PSs (cxOf CX P w K mg base N qual scope f cdv A outer s H E) body t ∧ t { nx := fun _ H' => Q .non H', rt := Q } (start N vs) H) :
    FnOk P w K mg base CX (k + 1) f (PySem.W.fnOf name qual params body scope dV kV doc pm an cdv ct) ps sp := by
  refine ⟨len, fun A outer s H args us vs Q E hr e0 hb r hsp => ?_⟩
  have hl := len _ _ _ _ hsp
  have KX : K.In s.heap := e0.mod.kin.keeps fun b o e => (e0.bs b o e).1
  have lim : s.heap.NoLimit := e0.mod.nolimit.keeps fun b o e => (e0.bs b o e).1
  have hkind : ∀ y ∈ ps.zip us, scope.names.lookup y.1 = some .local ∨ (scope.names.lookup y.1 = some .cell ∧ ((cellsFrom (s.heap.objs.size + 1) scope.names []).lookup y.1).isSome = true) := fun ⟨n, v⟩ hy => by
    rcases S.par n (List.of_mem_zip hy).1 with q | q
    · exact .inl q
    · exact .inr ⟨q, PySem.W.cellsFrom_some _ _ _ (.inl q)⟩
  refine codeAny_call_function hr.depth (KX _ _ lk) rfl S.co S.gen rfl (PySem.W.codeRec_of KX hcd) (hb _ _ _ _ ?_)
  refine wpAny_newFunctionEnv_cells S.kind hkind fun env he s1 x => ?_
  subst he
  refine ⟨lim.keeps x.toInCall.keep, codeAny_func ?_⟩
  obtain ⟨t, ht, hq⟩ := hbody A outer s H vs Q E (hr.deeper _) hsp
  have I : Inv (cxOf CX P w K mg base N qual scope f cdv A outer s H E) [] (start N vs) H s1 := inv_start S hr.hd e0 hl r x
  refine wpAny_mono (ht [] s1 (start N vs) H _ I hq) (fun fl s' hs => ?_) fun e s' hs => hs
  have fin : ∀ {σ' : St} {H' : Hp} {v : V} {u : Value}, Inv (cxOf CX P w K mg base N qual scope f cdv A outer s H E) [] σ' H' s' → RelV v u → Q v H' → CE outer P w H s Q u s' :=
    fun {σ' H' v u} J rv q => ⟨v, H', J.os, J.bare, J.base, J.hok, rv, q⟩
  cases fl with
  | ret u =>
    obtain ⟨v, σ', H', J, rv, q⟩ := hs
    exact fin J rv q
  | next =>
    obtain ⟨σ', H', J, q⟩ := hs
    exact fin (v := V.non) (u := Value.none) J rfl q
  | brk =>
    obtain ⟨_, _, _, q⟩ := hs
    exact False.elim q
  | cont =>
    obtain ⟨_, _, _, q⟩ := hs
    exact False.elim q
end L2

namespace L2
open PySem PySem.Spec PyProof.Rows
section
variable {X : Cx} {x : Str} {p pos : Pos} {e : Expr} {es : List Expr} {t : TA} {id T : String} {r : List V → Hp → VK → Prop}

def tCB (r : List V → Hp → VK → Prop) (t : TA) : TE := fun σ H Q => t σ H fun vs H1 => r vs H1 Q
/-- f(e, ..), f a built-in function -/
theorem pe_callB (hc : CallR X (.builtin id) r) (hg : Gl X x) (hm : X.mg x = none) (hv : bootBuiltins x = some (.builtin id)) (ha : PA X (e :: es) t) (hn : x ≠ "__name__" := by decide) (hdb : (x == ("__debug__" : Str)) = false := by decide)
    (he : starEach (e :: es) X.env = (false, eval e X.env) :: starEach es X.env := by rfl) (hpl : (backTo pos (starEach es X.env)).any (·.1) = false := by rfl) : PE X (.Call (.Name x p) (e :: es) [] pos) (tCB r t) := by
  intro pins s σ H Q I h
  refine wpAny_Call_Name_kw (ld_blt I hg hm hv ?_ hn hdb)
  exact PyProof.Rows.callWith_builtin1 (thn (ha pos pins s σ H _ I h) fun us s1 ⟨vs, H1, I1, r1, q1⟩ => hc pins s1 σ H1 vs us Q I1 r1 q1) he hpl
/-- T(e, ..), T a built-in type -/
theorem pe_callTy (hc : CallR X (.type T) r) (hg : Gl X x) (hm : X.mg x = none) (hv : bootBuiltins x = some (.type T)) (ha : PA X (e :: es) t) (hn : x ≠ "__name__" := by decide) (hdb : (x == ("__debug__" : Str)) = false := by decide)
    (he : starEach (e :: es) X.env = (false, eval e X.env) :: starEach es X.env := by rfl) (hpl : (backTo pos (starEach es X.env)).any (·.1) = false := by rfl) : PE X (.Call (.Name x p) (e :: es) [] pos) (tCB r t) := by
  intro pins s σ H Q I h
  refine wpAny_Call_Name_kw (ld_blt I hg hm hv ?_ hn hdb)
  exact PyProof.Rows.callWith_type1 (thn (ha pos pins s σ H _ I h) fun us s1 ⟨vs, H1, I1, r1, q1⟩ => hc pins s1 σ H1 vs us Q I1 r1 q1) he hpl
end
end L2

namespace HT
open PySem PyProof.Rows



section
open PySem.SeqAt
open PySem.AutoSeq1 (wpAny_loadPart')
open PySem.MeetsSeq PySem.MeetsSeq2 PySem.MeetsSeq3

end

section
variable {prog : Program} {w : World} {A : Around} {E : Value → Shared → Prop} {s : Shared}



/-! ### t[a:b], not the whole -/
/-- a slice's bound as a place among n (d where it is left out) -/
def sIx (n d : Nat) : Option Int → Nat
  | none => d
  | some v => if v < 0 then (v + (n : Int)).toNat else min v.toNat n

end
end HT

namespace L2
open PySem PySem.Spec PyProof.Rows

/-! ### the parts of a slice -/
abbrev TO := St → Hp → (Option Int → Hp → Prop) → Prop
/-- a slice's part (left out, or an int) -/
def PO (X : Cx) (e : Option Expr) (t : TO) : Prop :=
  ∀ (pins : List (Addr × Obj)) (s : Shared) (σ : St) (H : Hp) (Q : Option Int → Hp → Prop), Inv X pins σ H s → t σ H Q →
    wpAny (model X.prog X.w) X.A (evalPart e X.env) (fun u s' => ∃ o H', Inv X pins σ H' s' ∧ IsPart u o ∧ Q o H') X.xe s
def tNoPart : TO := fun _ H Q => Q none H
def tPart (t : TE) : TO := fun σ H Q => t σ H fun x H1 => ∃ i, x = .int i ∧ Q (some i) H1


section
variable {X : Cx} {e : Expr} {te : TE} {lo hi : Option Expr} {tl th : TO} {pos p2 : Pos}

theorem po_none : PO X none tNoPart := by
  intro pins s σ H Q I h
  rw [evalPart_none]
  exact wpAny_pure ⟨none, H, I, .none, h⟩
theorem po_some (h : PE X e te) : PO X (some e) (tPart te) := by
  intro pins s σ H Q I hw
  rw [evalPart_some]
  refine thn (h pins s σ H _ I hw) fun u s1 hq0 => ?_
  obtain ⟨x, H1, I1, r1, q1⟩ := hq0
  obtain ⟨i, rfl, q⟩ := q1
  obtain ⟨t, rfl⟩ := r1
  exact ⟨some i, H1, I1, .int i t, q⟩

/-- what a slice of a value is, by values: the slice object stands at sl -/
def SlR (X : Cx) (r : V → Option Int → Option Int → Hp → VK → Prop) : Prop :=
  ∀ (pins : List (Addr × Obj)) (s : Shared) (σ : St) (H : Hp) (x : V) (v vl vu : Value) (lo hi : Option Int) (sl : Addr) (Q : VK), Inv X pins σ H s → RelV x v → s.heap.IsSliceOf sl vl vu .none → IsPart vl lo → IsPart vu hi → r x lo hi H Q →
    ∃ T id, typeLookup (.type T) "__getitem__" = pure (some (.builtin id)) ∧ s.TypeIs v T ∧ wpAny (model X.prog X.w) X.A (getItem v (.ref sl)) (EP X pins σ Q) X.xe s
def tSl (r : V → Option Int → Option Int → Hp → VK → Prop) (te : TE) (tl th : TO) : TE := fun σ H Q => te σ H fun x H1 => tl σ H1 fun l H2 => th σ H2 fun u H3 => r x l u H3 Q
/-- a[lo:hi], any a -/
theorem pe_slice {r : V → Option Int → Option Int → Hp → VK → Prop} (hr : SlR X r) (he : PE X e te) (hl : PO X lo tl) (hu : PO X hi th) : PE X (.Subscript e (.Slice lo hi none p2) pos) (tSl r te tl th) := by
  intro pins s σ H Q I h
  refine Subscript_ (thn (he pins s σ H _ I h) fun v s1 hq0 => ?_)
  obtain ⟨x, H1, I1, r1, q1⟩ := hq0
  refine wpAny_Slice (thn (hl pins s1 σ H1 _ I1 q1) fun vl s2 ⟨l, H2, I2, pl, q2⟩ => thn (hu pins s2 σ H2 _ I2 q2) fun vu s3 hq0 => ?_)
  obtain ⟨u, H3, I3, pu, q3⟩ := hq0
  rw [evalPart_none]
  refine wpAny_pure ?_
  have I4 : Inv X pins σ H3 { s3 with heap := s3.heap.push { cls := .type "slice", data := .fields #[vl, vu, .none] } } := I3.kept (t' := s3.toks) fun b ob q => Heap.get?_push_of_some _ q
  obtain ⟨T, id, hT, ht, hg⟩ := hr pins { s3 with heap := s3.heap.push { cls := .type "slice", data := .fields #[vl, vu, .none] } } σ H3 x v vl vu l u s3.heap.objs.size Q I4 r1 (Heap.IsSliceOf.new ..) pl pu q3
  show wpAny (model X.prog X.w) X.A (subscriptTail e (.Slice lo hi none p2) v (.ref s3.heap.objs.size)) (EP X pins σ Q) X.xe { s3 with heap := s3.heap.push { cls := .type "slice", data := .fields #[vl, vu, .none] } }
  exact tail_any (ops := [.ref s3.heap.objs.size, v]) ht hT hg (by with_unfolding_all rfl)

/-- the items of xs[lo:hi] -/
def cutV (xs : List V) (lo hi : Option Int) : List V := (xs.drop (HT.sIx xs.length 0 lo)).take (HT.sIx xs.length xs.length hi - HT.sIx xs.length 0 lo)
theorem cutV_length (xs : List V) (lo hi : Option Int) : (cutV xs lo hi).length ≤ xs.length := by
  unfold cutV
  rw [List.length_take, List.length_drop]
  omega

/-! ### t < u, t + u -/
end
end L2

namespace L2
open PySem PySem.Spec PyProof.Rows

/-! ### places -/
/-- the place that an index of any sign means -/
def ixN (n : Nat) (i : Int) : Option Nat := if 0 ≤ i then (if i < n then some i.toNat else none) else if -(n : Int) ≤ i then some (i + n).toNat else none
def atI {α : Type} (xs : List α) (i : Int) : Option α := (ixN xs.length i).bind fun j => xs[j]?
theorem ixN_seq {n : Nat} {i : Int} {j : Nat} (h : ixN n i = some j) : seqIndex? i n = some j ∧ j < n ∧ -(n : Int) ≤ i ∧ i < n := by
  unfold ixN at h
  by_cases h0 : 0 ≤ i
  · rw [if_pos h0] at h
    by_cases h1 : i < n
    · rw [if_pos h1] at h
      have e : i.toNat = j := Option.some.inj h
      exact ⟨by rw [seqIndex_of h0 h1, e], by omega, by omega, h1⟩
    · rw [if_neg h1] at h; cases h
  · rw [if_neg h0] at h
    by_cases h1 : -(n : Int) ≤ i
    · rw [if_pos h1] at h
      have e : (i + n).toNat = j := Option.some.inj h
      exact ⟨by rw [seqIndex_neg (by omega) h1, e], by omega, h1, by omega⟩
    · rw [if_neg h1] at h; cases h
theorem atI_get {α : Type} {xs : List α} {i : Int} {v : α} (h : atI xs i = some v) : ∃ j, seqIndex? i xs.length = some j ∧ xs[j]? = some v ∧ j < xs.length ∧ -(xs.length : Int) ≤ i ∧ i < xs.length := by
  unfold atI at h
  cases e : ixN xs.length i with
  | none => rw [e] at h; cases h
  | some j =>
    rw [e] at h
    obtain ⟨h1, h2, h3, h4⟩ := ixN_seq e
    exact ⟨j, h1, h, h2, h3, h4⟩
theorem atI_nat {α : Type} {xs : List α} {j : Nat} {v : α} (h : xs[j]? = some v) : atI xs (j : Int) = some v := by
  have hj : j < xs.length := (List.getElem?_eq_some_iff.mp h).1
  have e : ixN xs.length (j : Int) = some j := by
    unfold ixN
    rw [if_pos (by omega), if_pos (by omega)]; simp
  unfold atI; rw [e]; exact h

/-! ### what may be subscripted -/
/-- what stands as an index of a plain subscript -/
def PlainIx (b : Expr) : Prop := ∀ o i, subscripted b false o i = operate [o, i] (getItem o i)
/-- a subscript by values -/
def IxR (X : Cx) (r : R2) : Prop :=
  ∀ (value slice : Expr) (pins : List (Addr × Obj)) (s : Shared) (σ : St) (H : Hp) (x y : V) (v u : Value) (Q : VK), Inv X pins σ H s → RelV x v → RelV y u → r x y H Q →
    subscripted slice false v u = operate [v, u] (getItem v u) → wpAny (model X.prog X.w) X.A (subscriptTail value slice v u) (EP X pins σ Q) X.xe s
/-- a call of a builtin's method by values: the receiver, the arguments -/
def MtR (X : Cx) (id : String) (r : V → List V → Hp → VK → Prop) : Prop :=
  ∀ (pins : List (Addr × Obj)) (s : Shared) (σ : St) (H : Hp) (x : V) (xs : List V) (v : Value) (us : List Value) (Q : VK), Inv X pins σ H s → RelV x v → Vals xs us → r x xs H Q →
    wpAny (model X.prog X.w) X.A (call (.builtin id) (v :: us)) (EP X pins σ Q) X.xe s
section
variable {X : Cx} {a b : Expr} {ta tb : TE} {pos : Pos}
/-- a[b] -/
theorem pe_ix {r : R2} (hr : IxR X r) (ha : PE X a ta) (hb : PE X b tb) (hs : PlainIx b) : PE X (.Subscript a b pos) (tOp r ta tb) := by
  intro pins s σ H Q I h
  exact Subscript_ (binT ha hb I h fun v u s2 x y H2 I2 rx ry q => hr a b pins s2 σ H2 x y v u Q I2 rx ry q (hs _ _))

def rIxL (K : PySem.W.Frag) : R2 := fun x y H Q => ∃ p xs i v, x = .ref p ∧ y = .int i ∧ SqL K H p xs ∧ atI xs i = some v ∧ Q v H
def rIxT (K : PySem.W.Frag) : R2 := fun x y H Q => ∃ p xs i v, x = .ref p ∧ y = .int i ∧ SqT K H p xs ∧ atI xs i = some v ∧ Q v H
def rIxS : R2 := fun x y H Q => ∃ z i c, x = .str z ∧ y = .int i ∧ z.length ≤ sizeLine ∧ atI z.cps.toList i = some c ∧ Q (.str ⟨#[c]⟩) H
theorem ix_list : IxR X (rIxL X.K) := by
  intro value slice pins s σ H x y v u Q I rx ry h hs
  obtain ⟨p, xs, i, z, rfl, rfl, hq, he, q⟩ := h
  cases rx
  obtain ⟨t, rfl⟩ := ry
  obtain ⟨its, r, pl, hz⟩ := I.list hq
  obtain ⟨j, h1, h2, h3, h4, h5⟩ := atI_get he
  obtain ⟨w, ew, rw'⟩ := r.get h2
  have hl := r.length
  have hn := line63
  have fin : EP X pins σ Q w s := ⟨z, H, I, rw', q⟩
  by_cases h0 : 0 ≤ i
  · have hj : i.toNat = j := by
      rw [seqIndex_of h0 h5] at h1
      exact Option.some.inj h1
    exact item_listR pl.isList h0 (by omega) (by rw [hj]; simpa using ew) fin hs
  · have hj : (i + (its.toArray.size : Int)).toNat = j := by
      rw [seqIndex_neg (by omega) h4] at h1
      rw [List.size_toArray, ← hl]
      exact Option.some.inj h1
    exact subscriptTail_builtinR (x := w) pl.isList.typeIs slot_list_getitem.lookup
      (wpAny_getItem_list_neg (Q := fun r s' => r = w ∧ EP X pins σ Q r s') pl.isList (by omega) (by rw [List.size_toArray] <;> omega) (by omega) (by rw [hj]; simpa using ew) ⟨rfl, fin⟩) hs
theorem ix_tup : IxR X (rIxT X.K) := by
  intro value slice pins s σ H x y v u Q I rx ry h hs
  obtain ⟨p, xs, i, z, rfl, rfl, hq, he, q⟩ := h
  cases rx
  obtain ⟨t, rfl⟩ := ry
  obtain ⟨its, r, pl, hz⟩ := I.tuple hq
  obtain ⟨j, h1, h2, h3, h4, h5⟩ := atI_get he
  obtain ⟨w, ew, rw'⟩ := r.get h2
  have hl := r.length
  have hn := line63
  have fin : EP X pins σ Q w s := ⟨z, H, I, rw', q⟩
  exact subscriptTail_builtinR (x := w) pl.typeIs slot_tuple_getitem.lookup
    (getItem_tuple (j := j) (Q := fun r s' => r = w ∧ EP X pins σ Q r s') pl (by omega) (by omega) (by rw [List.size_toArray, ← hl]; exact h1) (by simpa using ew) ⟨rfl, fin⟩) hs
theorem ix_str : IxR X rIxS := by
  intro value slice pins s σ H x y v u Q I rx ry h hs
  obtain ⟨z, i, c, rfl, rfl, hz, he, q⟩ := h
  obtain ⟨t, rfl⟩ := rx
  obtain ⟨t', rfl⟩ := ry
  obtain ⟨j, h1, h2, h3, h4, h5⟩ := atI_get he
  have hl : z.cps.toList.length = z.length := by simp [Str.length]
  rw [hl] at h1 h4 h5
  have hn := line63
  exact tail_any (typeIs_str s z t) slot_str_getitem.lookup (getItem_str (c := c) (by
    have e1 : decide (i < -(2 ^ 63 : Int)) = false := decide_eq_false (by omega)
    have e2 : decide (i ≥ 2 ^ 63) = false := decide_eq_false (by omega)
    rw [e1, e2, Bool.or_false]) (by rw [h1]; simpa using h2) ⟨.str ⟨#[c]⟩, H, I.tok _, ⟨_, rfl⟩, q⟩) hs

/-! ### xs[i] = v, any sign -/

/-! ### slices -/
theorem slice_bounds (lo hi : Option Int) (n : Nat) : (sliceBounds lo hi none n).1 = ((HT.sIx n 0 lo : Nat) : Int) ∧ (sliceBounds lo hi none n).2.1 = ((HT.sIx n n hi : Nat) : Int) ∧ (sliceBounds lo hi none n).2.2 = 1 := by
  refine ⟨?_, ?_, rfl⟩
  · cases lo with
    | none => simp [sliceBounds, HT.sIx]
    | some i =>
      simp only [sliceBounds, HT.sIx, Option.getD_none, show (1 : Int) > 0 by decide, if_true]
      by_cases h : i < 0
      · simp only [h, if_true] <;> omega
      · simp only [h, if_false] <;> omega
  · cases hi with
    | none => simp [sliceBounds, HT.sIx]
    | some i =>
      simp only [sliceBounds, HT.sIx, Option.getD_none, show (1 : Int) > 0 by decide, if_true]
      by_cases h : i < 0
      · simp only [h, if_true] <;> omega
      · simp only [h, if_false] <;> omega
theorem slicePick_cut (its : List Value) (lo hi : Option Int) : slicePick its.toArray lo hi none = ((its.drop (HT.sIx its.length 0 lo)).take (HT.sIx its.length its.length hi - HT.sIx its.length 0 lo)).toArray := by
  obtain ⟨h1, h2, h3⟩ := slice_bounds lo hi its.toArray.size
  unfold slicePick
  rw [h1, h2, h3]
  simp only [sliceRange_one, pick_run, List.size_toArray] <;> rfl
/-- xs[lo:hi] of a list: a new list -/
def rSlL (K : PySem.W.Frag) : V → Option Int → Option Int → Hp → VK → Prop := fun x lo hi H Q => ∃ a xs, x = .ref a ∧ SqL K H a xs ∧ ∀ p, H p = none → Q (.ref p) (upd H p (.lst (cutV xs lo hi)))
theorem sl_list : SlR X (rSlL X.K) := by
  intro pins s σ H x v vl vu lo hi sl Q I rx hs pl pu h
  obtain ⟨a, xs, rfl, hx, q⟩ := h
  cases rx
  obtain ⟨its, r, ht, hz⟩ := I.list hx
  have hlen := r.length
  refine ⟨"list", _, slot_list_getitem.lookup, ht.isList.typeIs, ?_⟩
  refine wpAny_getItem_list_slice ht.isList hs pl pu .none (by simp) ?_ (by rw [List.size_toArray] <;> omega)
  rw [slicePick_cut, ← hlen]
  refine ⟨.ref s.heap.objs.size, _, I.laid (t' := s.toks) (o := .lst (cutV xs lo hi)) (fun b ob q => Heap.get?_push_of_some _ q) (Nat.le_refl _) ?_, rfl, q _ (I.hok.fresh (Nat.le_refl _))⟩
  exact ⟨Nat.le_trans (cutV_length xs lo hi) hz, _, 0, (r.drop (HT.sIx xs.length 0 lo)).take (HT.sIx xs.length xs.length hi - HT.sIx xs.length 0 lo), Heap.get?_push_size _ rfl⟩

/-! ### in, not in: flat items -/
def flatV : V → Bool
  | .non => true
  | .bl _ => true
  | .int _ => true
  | .str _ => true
  | _ => false
/-- == of flat values -/
def eqV : V → V → Bool
  | .non, .non => true
  | .bl a, .bl b => a == b
  | .bl a, .int b => (if a then 1 else 0) == b
  | .int a, .bl b => a == (if b then 1 else 0)
  | .int a, .int b => a == b
  | .str a, .str b => a == b
  | _, _ => false
theorem eqAt_V {A : Around} {s : Shared} {y x : V} {u v : Value} (ry : RelV y u) (rx : RelV x v) (fy : flatV y = true) (fx : flatV x = true) : SeqAt.EqAt A s u v (eqV y x) := by
  cases y with
  | non =>
    cases ry
    cases x with
    | non => cases rx; exact SeqAt.EqAt.same _
    | bl b => cases rx; exact SeqAt.EqAt.none_bool b
    | int b => obtain ⟨t, rfl⟩ := rx; exact SeqAt.EqAt.none_int b t
    | str b => obtain ⟨t, rfl⟩ := rx; exact SeqAt.EqAt.none_str b t
    | _ => exact absurd (show false = true from fx) Bool.false_ne_true
  | bl a =>
    cases ry
    cases x with
    | non => cases rx; exact SeqAt.EqAt.bool_none a
    | bl b => cases rx; exact SeqAt.EqAt.bool_bool a b
    | int b => obtain ⟨t, rfl⟩ := rx; exact SeqAt.EqAt.bool_int a b t
    | str b => obtain ⟨t, rfl⟩ := rx; exact SeqAt.EqAt.bool_str a b t
    | _ => exact absurd (show false = true from fx) Bool.false_ne_true
  | int a =>
    obtain ⟨t', rfl⟩ := ry
    cases x with
    | non => cases rx; exact SeqAt.EqAt.int_none a t'
    | bl b => cases rx; exact SeqAt.EqAt.int_bool a t' b
    | int b => obtain ⟨t, rfl⟩ := rx; exact SeqAt.EqAt.int_int a t' b t
    | str b => obtain ⟨t, rfl⟩ := rx; exact SeqAt.EqAt.int_str a t' b t
    | _ => exact absurd (show false = true from fx) Bool.false_ne_true
  | str a =>
    obtain ⟨t', rfl⟩ := ry
    cases x with
    | non => cases rx; exact SeqAt.EqAt.str_none a t'
    | bl b => cases rx; exact SeqAt.EqAt.str_bool a t' b
    | int b => obtain ⟨t, rfl⟩ := rx; exact SeqAt.EqAt.str_int a t' b t
    | str b => obtain ⟨t, rfl⟩ := rx; exact SeqAt.EqAt.str_str a t' b t
    | _ => exact absurd (show false = true from fx) Bool.false_ne_true
  | _ => exact absurd (show false = true from fy) Bool.false_ne_true
/-- the items' answers, read off the values (a value's own answer does not lean on its token) -/
def eqU (x : V) (u : Value) : Bool := match u with
  | .none => eqV .non x
  | .bool b => eqV (.bl b) x
  | .int i _ => eqV (.int i) x
  | .str z _ => eqV (.str z) x
  | _ => false
theorem eqU_of {x y : V} {u : Value} (r : RelV y u) (f : flatV y = true) : eqU x u = eqV y x := by
  cases y with
  | non => cases r; rfl
  | bl b => cases r; rfl
  | int i => obtain ⟨t, rfl⟩ := r; rfl
  | str z => obtain ⟨t, rfl⟩ := r; rfl
  | _ => exact absurd (show false = true from f) Bool.false_ne_true
theorem any_eqU {x : V} : ∀ {xs : List V} {us : List Value}, Vals xs us → xs.all flatV = true → us.any (eqU x) = xs.any fun y => eqV y x
  | _, _, .nil, _ => rfl
  | y :: xs, u :: us, .cons r t, f => by
    rw [List.all_cons, Bool.and_eq_true] at f
    rw [List.any_cons, List.any_cons, eqU_of r f.1, any_eqU t f.2]
theorem mem_eqAt {A : Around} {s : Shared} {x : V} {v : Value} (rx : RelV x v) (fx : flatV x = true) : ∀ {xs : List V} {us : List Value}, Vals xs us → xs.all flatV = true → ∀ u ∈ us, SeqAt.EqAt A s u v (eqU x u)
  | _, _, .nil, _ => fun u hu => by cases hu
  | y :: xs, u :: us, .cons r t, f => fun u' hu => by
    rw [List.all_cons, Bool.and_eq_true] at f
    rcases List.mem_cons.mp hu with rfl | hu
    · rw [eqU_of r f.1]; exact eqAt_V r rx f.1 fx
    · exact mem_eqAt rx fx t f.2 u' hu
def inV (x : V) (xs : List V) : Bool := xs.any fun y => eqV y x
/-- x in a list or tuple of flat items -/
def rIn (K : PySem.W.Frag) (neg : Bool) : R2 := fun x y H Q => ∃ p xs, y = .ref p ∧ (SqL K H p xs ∨ SqT K H p xs) ∧ flatV x = true ∧ xs.all flatV = true ∧ Q (.bl (if neg then !inV x xs else inV x xs)) H
theorem op_in_seq : OpR X (compareOp .In) (rIn X.K false) := by
  intro pins s σ H x y v u Q I rx ry h
  obtain ⟨p, xs, rfl, hq, fx, fs, q⟩ := h
  cases ry
  rcases hq with hq | hq
  · obtain ⟨its, r, pl, hz⟩ := I.list hq
    refine SeqAt.in_listAt (eqU x) pl.isList (fun w hw => mem_eqAt rx fx r fs w (by simpa using hw)) ⟨.bl _, H, I, rfl, ?_⟩
    rw [show its.toArray.any (eqU x) = its.any (eqU x) by simp, any_eqU r fs]
    exact q
  · obtain ⟨its, r, pl, hz⟩ := I.tuple hq
    refine SeqAt.in_tupleAt (eqU x) pl (fun w hw => mem_eqAt rx fx r fs w (by simpa using hw)) ⟨.bl _, H, I, rfl, ?_⟩
    rw [show its.toArray.any (eqU x) = its.any (eqU x) by simp, any_eqU r fs]
    exact q

/-! ### len, list(x), tuple(x) of any list or tuple that is read -/
theorem call_len_seq : CallR X (.builtin "len") (fun xs H Q => ∃ p ys, xs = [.ref p] ∧ (SqL X.K H p ys ∨ SqT X.K H p ys) ∧ Q (.int ys.length) H) := by
  intro pins s σ H xs us Q I r h
  obtain ⟨p, ys, rfl, hq, q⟩ := h
  obtain ⟨u, rfl, rx⟩ := vals1 r
  cases rx
  have hn := line63
  rcases hq with hq | hq
  · obtain ⟨its, r', pl, hz⟩ := I.list hq
    have hlen := r'.length
    exact Calls.call_len_list pl.isList (by simp only [List.size_toArray] <;> omega) ⟨.int ys.length, H, I.tok _, ⟨s.toks + 1, by rw [List.size_toArray, hlen]⟩, q⟩
  · obtain ⟨its, r', pl, hz⟩ := I.tuple hq
    have hlen := r'.length
    exact len_tuple pl (by simp only [List.size_toArray] <;> omega) ⟨.int ys.length, H, I.tok _, ⟨s.toks + 1, by rw [List.size_toArray, hlen]⟩, q⟩
theorem call_list_of : CallR X (.type "list") (fun xs H Q => ∃ p ys, xs = [.ref p] ∧ (SqL X.K H p ys ∨ SqT X.K H p ys) ∧ ∀ l, H l = none → Q (.ref l) (upd H l (.lst ys))) := by
  intro pins s σ H xs us Q I r h
  obtain ⟨p, ys, rfl, hq, q⟩ := h
  obtain ⟨u, rfl, rx⟩ := vals1 r
  cases rx
  have fin : ∀ (its : List Value), Vals ys its → ys.length ≤ sizeLine → ∀ (h' : Heap) (c' : Nat), (∀ b o', s.heap.get? b = some o' → h'.get? b = some o') →
      h'.get? s.heap.objs.size = some { cls := .type "list", dict := none, data := .seq its.toArray c', slots := #[] } → EP X pins σ Q (.ref s.heap.objs.size) { s with heap := h' } := fun its r' hz h' c' kp e =>
    ⟨.ref s.heap.objs.size, _, I.laid (t' := s.toks) kp (Nat.le_refl _) (show ObjOk X.prog X.w _ h' _ (.lst ys) from ⟨hz, its, c', r', e⟩), rfl, q _ (I.hok.fresh (Nat.le_refl _))⟩
  rcases hq with hq | hq
  · obtain ⟨its, r', pl, hz⟩ := I.list hq
    have hlen := r'.length
    obtain ⟨o, ho, hc, n, hd⟩ := pl.isList
    exact call_list_seq p (.inl rfl) ho hc hd (fun h' c' kp e => fin its r' hz h' c' kp e) (by simp only [List.size_toArray] <;> omega)
  · obtain ⟨its, r', pl, hz⟩ := I.tuple hq
    have hlen := r'.length
    obtain ⟨o, ho, hc, n, hd⟩ := pl
    exact call_list_seq p (.inr rfl) ho hc hd (fun h' c' kp e => fin its r' hz h' c' kp e) (by simp only [List.size_toArray] <;> omega)

/-! ### the call of a builtin's method: o.m(..) -/
/-- the value is of that builtin type -/
def tyV (K : PySem.W.Frag) (T : String) (x : V) (H : Hp) : Prop := match x with
  | .str _ => T = "str"
  | .int _ => T = "int"
  | .ref p => (T = "list" ∧ ∃ xs, SqL K H p xs) ∨ (T = "tuple" ∧ ∃ o, K.lookup p = some o ∧ o.cls = .type "tuple" ∧ o.dict = none) ∨
      (T = "dict" ∧ ((∃ kvs, H p = some (.dK kvs)) ∨ ∃ kvs, H p = some (.dT kvs))) ∨ (T = "set" ∧ ∃ S n, H p = some (.set S n))
  | _ => False
theorem tyV_is {pins : List (Addr × Obj)} {σ : St} {H : Hp} {s : Shared} {T : String} {x : V} {v : Value} (I : Inv X pins σ H s) (r : RelV x v) (ty : tyV X.K T x H) :
    s.TypeIs v T ∧ ∀ a, v = .ref a → ∃ ob, s.heap.get? a = some ob ∧ ob.dict = none := by
  cases x with
  | str z =>
    obtain ⟨t, rfl⟩ := r
    cases (show T = "str" from ty)
    exact ⟨typeIs_str s z t, fun _ e => nomatch e⟩
  | int i =>
    obtain ⟨t, rfl⟩ := r
    cases (show T = "int" from ty)
    exact ⟨typeIs_int s i t, fun _ e => nomatch e⟩
  | ref p =>
    cases r
    rcases ty with ⟨rfl, xs, hq⟩ | ⟨rfl, o, hk, hc, hd⟩ | ⟨rfl, hk⟩ | ⟨rfl, S, n, hk⟩
    · obtain ⟨its, _, pl, _⟩ := I.list hq
      refine ⟨pl.isList.typeIs, fun a e => ?_⟩
      cases e
      obtain ⟨o, n, e, c, hd, _⟩ := pl
      exact ⟨o, e, hd⟩
    · refine ⟨⟨o, I.kIn p o hk, hc⟩, fun a e => ?_⟩
      cases e
      exact ⟨o, I.kIn _ o hk, hd⟩
    · have z : ∃ o, s.heap.get? p = some o ∧ o.ExactDict := by
        rcases hk with ⟨kvs, hk⟩ | ⟨kvs, hk⟩
        · obtain ⟨_, _, _, _, o, _, _, e, ex, _⟩ := I.hok p _ hk
          exact ⟨o, e, ex⟩
        · obtain ⟨_, _, _, _, o, _, _, e, ex, _⟩ := I.hok p _ hk
          exact ⟨o, e, ex⟩
      obtain ⟨o, e, ex⟩ := z
      refine ⟨⟨o, e, ex.1⟩, fun a e2 => ?_⟩
      cases e2
      exact ⟨o, e, ex.2.1⟩
    · obtain ⟨o, _, _, _, e, ex, _⟩ := I.hok p _ hk
      refine ⟨⟨o, e, ex.1⟩, fun a e2 => ?_⟩
      cases e2
      exact ⟨o, e, ex.2.1⟩
  | _ => exact False.elim ty
def tBM0 (K : PySem.W.Frag) (T : String) (r : V → List V → Hp → VK → Prop) (to : TE) : TE := fun σ H Q => to σ H fun x H1 => tyV K T x H1 ∧ r x [] H1 Q
def tBM (K : PySem.W.Frag) (T : String) (r : V → List V → Hp → VK → Prop) (to : TE) (t : TA) : TE := fun σ H Q => to σ H fun x H1 => tyV K T x H1 ∧ t σ H1 fun xs H2 => r x xs H2 Q
variable {o e : Expr} {es : List Expr} {to : TE} {t : TA} {name : Str} {apos cpos : Pos} {T id : String} {r : V → List V → Hp → VK → Prop}
theorem pe_bm0 (pa : PlainAttrs T) (slot : Slot T name id) (hty : typeOf (.builtin id) = pure (.type "method_descriptor")) (hm : MtR X id r) (ho : PE X o to)
    (hbase : attributeBase o name X.env (eval o X.env) = eval o X.env := by rfl) (hline : (apos.endLine == cpos.line) = true := by rfl) : PE X (.Call (.Attribute o name apos) [] [] cpos) (tBM0 X.K T r to) := by
  intro pins s σ H Q I h
  refine wpAny_Call_method0_late hbase hline (thn (ho pins s σ H _ I h) fun v s1 hq0 => ?_)
  obtain ⟨x, H1, I1, r1, ty, q1⟩ := hq0
  obtain ⟨h1, h2⟩ := tyV_is I1 r1 ty
  exact ⟨T, id, pa, slot, hty, h1, h2, Calls.callWith_builtin rfl (PySem.evalArgs_none (hm pins s1 σ H1 x [] v [] Q I1 r1 .nil q1))⟩
theorem pe_bm (pa : PlainAttrs T) (slot : Slot T name id) (hty : typeOf (.builtin id) = pure (.type "method_descriptor")) (hm : MtR X id r) (ho : PE X o to) (ha : PA X (e :: es) t)
    (hbase : attributeBase o name X.env (eval o X.env) = eval o X.env := by rfl)
    (hfew : ((backTo cpos (starEach (e :: es) X.env)).all (fun x => !x.1) && (backToKw cpos (keywordEach [] X.env)).all (fun x => x.1.isSome)
      && decide ((e :: es).length + ([] : List Keyword).length + (if ([] : List Keyword).isEmpty then 0 else 1) < 30)) = true := by rfl)
    (hline : (apos.endLine == cpos.line) = true := by rfl) (hs : starEach (e :: es) X.env = (false, eval e X.env) :: starEach es X.env := by rfl) (hplain : (backTo cpos (starEach es X.env)).any (·.1) = false := by rfl) :
    PE X (.Call (.Attribute o name apos) (e :: es) [] cpos) (tBM X.K T r to t) := by
  intro pins s σ H Q I h
  refine wpAny_Call_method_late hbase hfew hline rfl (thn (ho pins s σ H _ I h) fun v s1 hq0 => ?_)
  obtain ⟨x, H1, I1, r1, ty, q1⟩ := hq0
  obtain ⟨h1, h2⟩ := tyV_is I1 r1 ty
  refine ⟨T, id, pa, slot, hty, h1, h2, ?_⟩
  have hA := ha cpos pins s1 σ H1 _ I1 q1
  rw [hs] at hA ⊢
  refine Calls.callWith_builtin (by show (false || (backTo cpos (starEach es X.env)).any (·.1)) = false; rw [hplain] <;> rfl) (Calls.evalArgs_plain ?_)
  exact thn hA fun us s2 ⟨vs, H2, I2, r2, q2⟩ => hm pins s2 σ H2 x vs v us Q I2 r1 r2 q2
/- xs.append(e), list.index on a module's tuple .. are MtR facts of 06m -/
end
end L2

namespace L2
open PySem PySem.Spec PyProof.Rows

def MtM (X : Cx) (id : String) (r : V → List V → Hp → VK → Prop) : Prop :=
  ∀ (pins : List (Addr × Obj)) (s : Shared) (σ : St) (H : Hp) (x : V) (xs : List V) (v : Value) (us : List Value) (Q : VK), Inv X pins σ H s → RelV x v → Vals xs us → r x xs H Q →
    wpAny (model X.prog X.w) X.A (call (.builtin id) (v :: us)) (EP X pins σ Q) X.xe s

/-! ### lists of values -/
theorem Vals.one : ∀ {x : V} {us : List Value}, Vals [x] us → ∃ u, us = [u] ∧ RelV x u
  | _, _, .cons r .nil => ⟨_, rfl, r⟩

section
variable {X : Cx} {pins : List (Addr × Obj)} {σ : St} {H : Hp} {s : Shared} {l b : Addr} {xs ys zs : List V}

/-! ### the two steps: a tracked list is rewritten, a new list is laid -/
theorem Inv.lset {its its' : List Value} {n : Nat} {f : Array Value → Array Value} {t' : Nat} (I : Inv X pins σ H s) (hH : H l = some (.lst xs))
    (e : s.heap.get? l = some { cls := .type "list", data := .seq its.toArray n }) (hf : f its.toArray = its'.toArray) (hv : Vals ys its') (hz : ys.length ≤ sizeLine) :
    Inv X pins σ (upd H l (.lst ys)) { s with heap := s.heap.update l (Obj.mapSeq f), toks := t' } := by
  have q := PySem.IsL.update e f
  rw [hf] at q
  refine I.write (x := l) (e := l) (by rw [hH]; exact trivial) (.inl rfl) (fun b' u hb hu => (Heap.get?_update_other s.heap (Obj.mapSeq f) (Ne.symm hb)).trans hu) ⟨_, q⟩ ?_
  exact ⟨hz, its', _, hv, q⟩
theorem Inv.lnew {its : List Value} {t' : Nat} (I : Inv X pins σ H s) (hv : Vals ys its) (hz : ys.length ≤ sizeLine) :
    Inv X pins σ (upd H s.heap.objs.size (.lst ys)) { s with heap := s.heap.push { cls := .type "list", data := .seq its.toArray }, toks := t' } :=
  I.laid (fun _ _ q => Heap.get?_push_of_some _ q) (Nat.le_refl _) ⟨hz, its, 0, hv, Heap.get?_push_size _ rfl⟩
theorem Inv.fresh (I : Inv X pins σ H s) : H s.heap.objs.size = none := I.hok.fresh (Nat.le_refl _)
theorem Inv.lstM (I : Inv X pins σ H s) (hH : H l = some (.lst xs)) : xs.length ≤ sizeLine ∧ ∃ (its : List Value) (n : Nat), Vals xs its ∧ xs.length = its.length ∧ s.heap.get? l = some { cls := .type "list", data := .seq its.toArray n } := by
  obtain ⟨z, its, n, r, e⟩ := I.hok l _ hH
  exact ⟨z, its, n, r, r.length, e⟩

theorem notLongL {n : Nat} (h : n ≤ sizeLine) : Builtin.List.listTooLong n = false := by
  unfold Builtin.List.listTooLong
  exact decide_eq_false (by omega)
end

section
variable {X : Cx}

/-! ### methods -/
def rAppend : V → List V → Hp → VK → Prop := fun x vs H Q => ∃ l xs y, x = .ref l ∧ vs = [y] ∧ H l = some (.lst xs) ∧ xs.length < sizeLine ∧ Q .non (upd H l (.lst (xs ++ [y])))
theorem mt_append : MtM X "list.append" rAppend := by
  intro pins s σ H x vs v us Q I rx rv h
  obtain ⟨l, xs, y, rfl, rfl, hH, hz, q⟩ := h
  cases rx
  obtain ⟨u, rfl, ru⟩ := rv.one
  obtain ⟨z, its, n, r, hl, e⟩ := I.lstM hH
  refine call_meets F.slot_list_append ⟨_, e, rfl⟩ F.entry_list_append (F.args_list_append_2 _ _) (PySem.list_append l its.toArray n u (by rw [List.size_toArray]; omega)) ⟨e, ?_⟩
  refine ⟨.non, _, I.lset (its' := its ++ [u]) hH e (by simp) (r.append (.cons ru .nil)) ?_, rfl, q⟩
  rw [List.length_append, List.length_singleton]
  omega

def rExtend : V → List V → Hp → VK → Prop := fun x vs H Q => ∃ l b xs zs, x = .ref l ∧ vs = [.ref b] ∧ H l = some (.lst xs) ∧ H b = some (.lst zs) ∧ xs.length + zs.length ≤ sizeLine ∧ Q .non (upd H l (.lst (xs ++ zs)))
theorem mt_extend : MtM X "list.extend" rExtend := by
  intro pins s σ H x vs v us Q I rx rv h
  obtain ⟨l, b, xs, zs, rfl, rfl, hH, hB, hz, q⟩ := h
  cases rx
  obtain ⟨u, rfl, ru⟩ := rv.one
  cases ru
  obtain ⟨z, its, n, r, hl, e⟩ := I.lstM hH
  obtain ⟨z2, its2, n2, r2, hl2, e2⟩ := I.lstM hB
  have hsz : its.toArray.size + its2.toArray.size ≤ sizeLine := by rw [List.size_toArray, List.size_toArray]; omega
  have hlong : ¬ (!its.toArray.isEmpty && Builtin.List.listTooLong (its.toArray.size + its2.toArray.size)) = true := by
    rw [notLongL hsz, Bool.and_false]
    exact Bool.false_ne_true
  refine call_meets F.slot_list_extend ⟨_, e, rfl⟩ F.entry_list_extend (F.args_list_extend_2 _ _)
    (AutoSeq1.list_extend_list_list_0 l its.toArray n b its2.toArray n2 hlong (by rw [List.size_toArray]; omega) (by omega)) ⟨e, e2, ?_⟩
  refine ⟨.non, _, I.lset (its' := its ++ its2) hH e (by simp) (r.append r2) ?_, rfl, q⟩
  rw [List.length_append]
  omega





/-! ### list + list, list += list, list * int -/
def rCat : R2 := fun x y H Q => ∃ l b xs zs, x = .ref l ∧ y = .ref b ∧ H l = some (.lst xs) ∧ H b = some (.lst zs) ∧ xs.length + zs.length ≤ sizeLine ∧ ∀ p, H p = none → Q (.ref p) (upd H p (.lst (xs ++ zs)))
theorem op_cat : OpR X (binaryOp .Add) rCat := by
  intro pins s σ H x y v u Q I rx ry h
  obtain ⟨l, b, xs, zs, rfl, rfl, hH, hB, hz, q⟩ := h
  cases rx
  cases ry
  obtain ⟨z, its, n, r, hl, e⟩ := I.lstM hH
  obtain ⟨z2, its2, n2, r2, hl2, e2⟩ := I.lstM hB
  refine PySem.P.add_list e e2 ?_ (by rw [List.size_toArray, List.size_toArray]; omega)
  have ea : its.toArray ++ its2.toArray = (its ++ its2).toArray := by simp
  rw [ea]
  exact ⟨.ref _, _, I.lnew (t' := s.toks) (r.append r2) (by rw [List.length_append]; omega), rfl, q _ I.fresh⟩

/-! ### del xs[i] -/
end

/-! ### xs[a:b] = ys -/
section
variable {prog : Program} {w : World} {A : Around} {E : Value → Shared → Prop} {s : Shared}
end

section
variable {X : Cx}
end
end L2

namespace L2
open PySem PySem.Spec PyProof.Rows

/-! ### lists of pairs as tables -/
section
variable {κ : Type} [DecidableEq κ]
def valV (kvs : List (κ × V)) (k : κ) : Option V := (kvs.find? fun kv => decide (kv.1 = k)).map (·.2)
/-- in its place, or at the end -/
def putK (kvs : List (κ × V)) (k : κ) (v : V) : List (κ × V) :=
  if (kvs.any fun kv => decide (kv.1 = k)) = true then kvs.map (fun kv => if kv.1 = k then (kv.1, v) else kv) else kvs ++ [(k, v)]

theorem valV_pos {p : κ × V} {r : List (κ × V)} {k : κ} (e : p.1 = k) : valV (p :: r) k = some p.2 := by simp [valV, List.find?_cons, e]
theorem valV_neg {p : κ × V} {r : List (κ × V)} {k : κ} (e : ¬ p.1 = k) : valV (p :: r) k = valV r k := by simp [valV, List.find?_cons, e]
theorem valV_any (k : κ) : ∀ kvs : List (κ × V), (kvs.any fun kv => decide (kv.1 = k)) = (valV kvs k).isSome
  | [] => rfl
  | p :: r => by
    rw [List.any_cons]
    by_cases e : p.1 = k
    · simp only [valV_pos e, decide_eq_true e, Bool.true_or, Option.isSome_some]
    · rw [valV_neg e, decide_eq_false e, Bool.false_or]; exact valV_any k r
theorem length_putK (kvs : List (κ × V)) (k : κ) (v : V) : (putK kvs k v).length ≤ kvs.length + 1 := by
  unfold putK
  split
  · rw [List.length_map]; omega
  · rw [List.length_append, List.length_cons, List.length_nil]; omega

theorem RelO.isSome_eq {o : Option V} {u : Option Value} (r : RelO o u) : o.isSome = u.isSome := by
  cases o with
  | none => cases u with
    | none => rfl
    | some _ => exact (show False from r).elim
  | some _ => cases u with
    | none => exact (show False from r).elim
    | some _ => rfl

/-- raw tables of the same keys -/
theorem KV.val {kvs : List (κ × V)} {vs : List (κ × Value)} (r : KV kvs vs) (k : κ) : RelO (valV kvs k) (valueAt vs k) := by
  unfold KV at r
  induction r with
  | nil => exact True.intro
  | @cons p q ps qs h t ih =>
    obtain ⟨h1, h2⟩ := h
    by_cases e : p.1 = k
    · have e' : q.1 = k := h1.symm.trans e
      have b : valueAt (q :: qs) k = some q.2 := by simp [valueAt, List.find?_cons, e']
      rw [valV_pos e, b]; exact h2
    · have e' : ¬ q.1 = k := fun z => e (h1.trans z)
      have b : valueAt (q :: qs) k = valueAt qs k := by simp [valueAt, List.find?_cons, e']
      rw [valV_neg e, b]; exact ih
theorem KV.any {kvs : List (κ × V)} {vs : List (κ × Value)} (r : KV kvs vs) (k : κ) : (kvs.any fun kv => decide (kv.1 = k)) = vs.any fun kv => decide (kv.1 = k) := by
  unfold KV at r
  induction r with
  | nil => rfl
  | cons h t ih => rw [List.any_cons, List.any_cons, ih, h.1]
theorem KV.repl {kvs : List (κ × V)} {vs : List (κ × Value)} (r : KV kvs vs) (k : κ) {y : V} {u : Value} (ry : RelV y u) :
    KV (kvs.map fun kv => if kv.1 = k then (kv.1, y) else kv) (vs.map fun kv => if kv.1 = k then (kv.1, u) else kv) := by
  unfold KV at r ⊢
  induction r with
  | nil => exact .nil
  | @cons p q ps qs h t ih =>
    rw [List.map_cons, List.map_cons]
    refine .cons ?_ ih
    obtain ⟨h1, h2⟩ := h
    by_cases e : p.1 = k
    · rw [if_pos e, if_pos (h1.symm.trans e)]; exact ⟨h1, ry⟩
    · rw [if_neg e, if_neg (fun z => e (h1.trans z))]; exact ⟨h1, h2⟩
theorem KV.put {kvs : List (κ × V)} {vs : List (κ × Value)} (r : KV kvs vs) (k : κ) {y : V} {u : Value} (ry : RelV y u) : KV (putK kvs k y) (stored vs k u) := by
  unfold putK stored
  rw [r.any k]
  by_cases e : (vs.any fun kv => decide (kv.1 = k)) = true
  · rw [if_pos e, if_pos e]; exact r.repl k ry
  · rw [if_neg e, if_neg e]; exact Paired.snoc r ⟨rfl, ry⟩
theorem KV.length {kvs : List (κ × V)} {vs : List (κ × Value)} (r : KV kvs vs) : kvs.length = vs.length := Paired.length r
end


/-! ### a tracked dict, its keys ints and texts or tuples of these -/
theorem kV_is {P : Program} {w : World} {k : Key} {u : Value} (r : RelV (kV k) u) : (mixKind P w).is k u = true := by
  cases k with
  | inl i => obtain ⟨t, e⟩ := (show ∃ t, u = Value.int i t from r); subst e; exact mixKind_int P w i t
  | inr x => obtain ⟨t, e⟩ := (show ∃ t, u = Value.str x t from r); subst e; exact mixKind_str P w x t
theorem items_are {P : Program} {w : World} : ∀ {ks : List Key} {us : List Value}, Vals (ks.map kV) us → ItemsAre (mixKind P w) ks us
  | [], _, r => by rw [List.map_nil] at r; cases r; exact .nil
  | k :: ks, _, r => by
    rw [List.map_cons] at r
    cases r with
    | cons h t => exact .cons (kV_is h) (items_are t)

/-- raw entries of a dict with tuple keys -/
abbrev KT (H : Hp) : List (List Key × V) → List (List Key × Addr × Value) → Prop := Paired fun p q => p.1 = q.1 ∧ H q.2.1 = some (.tup (p.1.map kV)) ∧ RelV p.2 q.2.2
theorem KT.val {H : Hp} {kvs : List (List Key × V)} {xs : List (List Key × Addr × Value)} (r : KT H kvs xs) (k : List Key) : RelO (valV kvs k) ((atKey xs k).map (·.2)) := by
  induction r with
  | nil => exact True.intro
  | @cons p q ps qs h t ih =>
    obtain ⟨h1, _, h2⟩ := h
    by_cases e : p.1 = k
    · have e' : q.1 = k := h1.symm.trans e
      have b : atKey (q :: qs) k = some q.2 := by simp [atKey, List.find?_cons, e']
      rw [valV_pos e, b]; exact h2
    · have e' : ¬ q.1 = k := fun z => e (h1.trans z)
      have b : atKey (q :: qs) k = atKey qs k := by simp [atKey, List.find?_cons, e']
      rw [valV_neg e, b]; exact ih
theorem KT.repl {H : Hp} {kvs : List (List Key × V)} {xs : List (List Key × Addr × Value)} (r : KT H kvs xs) (k : List Key) {y : V} {u : Value} (ry : RelV y u) :
    KT H (kvs.map fun kv => if kv.1 = k then (kv.1, y) else kv) (xs.map (putAt k u)) := by
  induction r with
  | nil => exact .nil
  | @cons p q ps qs h t ih =>
    rw [List.map_cons, List.map_cons]
    refine .cons ?_ ih
    obtain ⟨h1, h2, h3⟩ := h
    unfold putAt
    by_cases e : p.1 = k
    · rw [if_pos e, if_pos (h1.symm.trans e)]; exact ⟨h1, h2, ry⟩
    · rw [if_neg e, if_neg (fun z => e (h1.trans z))]; exact ⟨h1, h2, h3⟩
theorem KT.put {H : Hp} {kvs : List (List Key × V)} {xs : List (List Key × Addr × Value)} (r : KT H kvs xs) (k : List Key) {b : Addr} {y : V} {u : Value} (hb : H b = some (.tup (k.map kV))) (ry : RelV y u) :
    KT H (putK kvs k y) (storedH xs k b u) := by
  have e : (kvs.any fun kv => decide (kv.1 = k)) = (atKey xs k).isSome := by
    rw [valV_any, (r.val k).isSome_eq, Option.isSome_map]
  unfold putK storedH
  rw [e]
  by_cases q : (atKey xs k).isSome = true
  · rw [if_pos q, if_pos q]; exact r.repl k ry
  · rw [if_neg q, if_neg q]; exact Paired.snoc r ⟨rfl, hb, ry⟩
theorem KT.keeps {H H' : Hp} {kvs : List (List Key × V)} {xs : List (List Key × Addr × Value)} (r : KT H kvs xs) (ht : ∀ b ys, H b = some (.tup ys) → H' b = some (.tup ys)) : KT H' kvs xs :=
  Paired.mapP r fun _ _ z => ⟨z.1, ht _ _ z.2.1, z.2.2⟩

section
variable {P : Program} {w : World} {H : Hp} {h : Heap} {a : Addr}
theorem rd_of {u : HO} (ok : HOk P w H h) (e : Rd H a u) : ObjOk P w H h a u := e.ok ok
theorem dk_rd {kvs : List (Key × V)} (ok : HOk P w H h) (e : Rd H a (.dK kvs)) : kvs.length ≤ sizeLine ∧ (a == sysModules) = false ∧ ∃ vs, KV kvs vs ∧ h.DictOf (mixKind P w) a vs :=
  show ObjOk P w H h a (.dK kvs) from rd_of ok e
theorem dk_of {kvs : List (Key × V)} (ok : HOk P w H h) (e : H a = some (.dK kvs)) : kvs.length ≤ sizeLine ∧ (a == sysModules) = false ∧ ∃ vs, KV kvs vs ∧ h.DictOf (mixKind P w) a vs := dk_rd ok (.inl e)
/-- a tracked tuple of ints and texts is a key -/
theorem key_of {ks : List Key} (ok : HOk P w H h) (e : H a = some (.tup (ks.map kV))) : (tupleKind (mixKind P w)).is h ks a := by
  obtain ⟨_, its, r, o, h1, h2, n, h3⟩ := (show ObjOk P w H h a (.tup (ks.map kV)) from ok a _ e)
  exact ⟨o, its.toArray, n, h1, h2, h3, by simpa using items_are r⟩
theorem dt_rd {kvs : List (List Key × V)} (ok : HOk P w H h) (e : Rd H a (.dT kvs)) : kvs.length ≤ sizeLine ∧ (a == sysModules) = false ∧
    ∃ xs, KT H kvs xs ∧ h.DictOfH (tupleKind (mixKind P w)) a xs := by
  obtain ⟨z, y, xs, r, o, es, ep, h1, h2, h3, h4, h5⟩ := (show ObjOk P w H h a (.dT kvs) from rd_of ok e)
  refine ⟨z, y, xs, r, o, es, ep, h1, h2, h3, h4, fun x hx => ?_, h5⟩
  have all : ∀ {l : List (List Key × V)} {m : List (List Key × Addr × Value)}, KT H l m → ∀ x ∈ m, (tupleKind (mixKind P w)).is h x.1 x.2.1 := by
    intro l m q
    induction q with
    | nil => intro x hx; exact nomatch hx
    | @cons p q ps qs hq t ih =>
      intro x hx
      rcases List.mem_cons.mp hx with e | hx
      · subst e
        exact key_of ok (by rw [← hq.1]; exact hq.2.1)
      · exact ih x hx
  exact all r x hx
theorem dt_of {kvs : List (List Key × V)} (ok : HOk P w H h) (e : H a = some (.dT kvs)) : kvs.length ≤ sizeLine ∧ (a == sysModules) = false ∧
    ∃ xs, KT H kvs xs ∧ h.DictOfH (tupleKind (mixKind P w)) a xs := dt_rd ok (.inl e)
end

/-- what the dict at a holds at the key y -/
def DGet (H : Hp) (a : Addr) (y : V) (r : Option V) : Prop :=
  (∃ kvs k, Rd H a (.dK kvs) ∧ y = kV k ∧ r = valV kvs k) ∨ ∃ kvs k b, Rd H a (.dT kvs) ∧ y = .ref b ∧ H b = some (.tup (k.map kV)) ∧ r = valV kvs k
/-- the heap behind a[y] = v -/
def DPut (H : Hp) (a : Addr) (y v : V) (H' : Hp) : Prop :=
  (∃ kvs k, H a = some (.dK kvs) ∧ y = kV k ∧ kvs.length < sizeLine ∧ H' = upd H a (.dK (putK kvs k v))) ∨
  ∃ kvs k b, H a = some (.dT kvs) ∧ y = .ref b ∧ H b = some (.tup (k.map kV)) ∧ kvs.length < sizeLine ∧ H' = upd H a (.dT (putK kvs k v))
theorem DGet.k {H : Hp} {a : Addr} {kvs : List (Key × V)} {k : Key} (e : H a = some (.dK kvs)) : DGet H a (kV k) (valV kvs k) := .inl ⟨kvs, k, .inl e, rfl, rfl⟩
theorem DPut.k {H : Hp} {a : Addr} {kvs : List (Key × V)} {k : Key} {v : V} (e : H a = some (.dK kvs)) (hl : kvs.length < sizeLine) : DPut H a (kV k) v (upd H a (.dK (putK kvs k v))) := .inl ⟨kvs, k, e, rfl, hl, rfl⟩
theorem DPut.t {H : Hp} {a b : Addr} {kvs : List (List Key × V)} {k : List Key} {v : V} (e : H a = some (.dT kvs)) (eb : H b = some (.tup (k.map kV))) (hl : kvs.length < sizeLine) :
    DPut H a (.ref b) v (upd H a (.dT (putK kvs k v))) := .inr ⟨kvs, k, b, e, rfl, eb, hl, rfl⟩


section
variable {X : Cx} {pins : List (Addr × Obj)} {σ : St} {H : Hp} {s : Shared} {a : Addr} {y v : V} {u r : Value} {o : Option V} {A : Around} {E : Value → Shared → Prop}

theorem Inv.big (I : Inv X pins σ H s) : sysModules < s.heap.objs.size := by
  have h : mainGlobals < s.heap.objs.size := (I.mod.glob.keeps I.bk).lt
  exact Nat.lt_trans (by decide) h

/-- d[y], there -/
theorem d_getItem {Q : Value → Shared → Prop} (hu : A.units + 1 < cLine) (I : Inv X pins σ H s) (g : DGet H a y (some v)) (ry : RelV y u) (h : ∀ w' s', Inv X pins σ H s' → RelV v w' → Q w' s') :
    wpAny (model X.prog X.w) A (getItem (.ref a) u) Q E s := by
  rcases g with ⟨kvs, k, e, ey, l⟩ | ⟨kvs, k, b, e, ey, eb, l⟩
  · subst ey
    obtain ⟨z, hd, vs, rel, dd⟩ := dk_rd I.hok e
    obtain ⟨w', hw, rw'⟩ := RelO.some_of (v := v) (o := valueAt vs k) (by rw [l]; exact rel.val k)
    exact wpAny_getItem_of (kV_is ry) dd.mapOf hw (h w' _ (I.tok _) rw')
  · subst ey
    cases (show u = Value.ref b from ry)
    obtain ⟨z, hd, xs, rel, dd⟩ := dt_rd I.hok e
    obtain ⟨w', hw, rw'⟩ := RelO.some_of (v := v) (o := (atKey xs k).map (·.2)) (by rw [l]; exact rel.val k)
    obtain ⟨p, hp, hp2⟩ := Option.map_eq_some_iff.mp hw
    refine wpAny_getItem_heap (tupleKind_room_in1 hu) (key_of I.hok eb) dd hp ?_
    rw [hp2]
    exact h w' _ (I.tok _) rw'
/-- y in d -/
theorem d_in {Q : Value → Shared → Prop} (hu : A.units + 1 < cLine) (I : Inv X pins σ H s) (g : DGet H a y o) (ry : RelV y u) (h : ∀ s', Inv X pins σ H s' → Q (.bool o.isSome) s') :
    wpAny (model X.prog X.w) A (compareOp .In u (.ref a)) Q E s := by
  rcases g with ⟨kvs, k, e, ey, l⟩ | ⟨kvs, k, b, e, ey, eb, l⟩
  · subst ey
    obtain ⟨z, hd, vs, rel, dd⟩ := dk_rd I.hok e
    refine wpAny_in_of (kV_is ry) hd dd.mapOf ?_
    rw [← (rel.val k).isSome_eq, ← l]
    exact h _ (I.tok _)
  · subst ey
    cases (show u = Value.ref b from ry)
    obtain ⟨z, hd, xs, rel, dd⟩ := dt_rd I.hok e
    refine wpAny_in_heap (tupleKind_room_in1 hu) (key_of I.hok eb) hd dd ?_
    have q := (rel.val k).isSome_eq
    rw [Option.isSome_map] at q
    rw [← q, ← l]
    exact h _ (I.tok _)
theorem d_notIn {Q : Value → Shared → Prop} (hu : A.units + 1 < cLine) (I : Inv X pins σ H s) (g : DGet H a y o) (ry : RelV y u) (h : ∀ s', Inv X pins σ H s' → Q (.bool (!o.isSome)) s') :
    wpAny (model X.prog X.w) A (compareOp .NotIn u (.ref a)) Q E s := by
  rcases g with ⟨kvs, k, e, ey, l⟩ | ⟨kvs, k, b, e, ey, eb, l⟩
  · subst ey
    obtain ⟨z, hd, vs, rel, dd⟩ := dk_rd I.hok e
    refine wpAny_notIn_of (kV_is ry) hd dd.mapOf ?_
    rw [← (rel.val k).isSome_eq, ← l]
    exact h _ (I.tok _)
  · subst ey
    cases (show u = Value.ref b from ry)
    obtain ⟨z, hd, xs, rel, dd⟩ := dt_rd I.hok e
    refine wpAny_notIn_heap (tupleKind_room_in1 hu) (key_of I.hok eb) hd dd ?_
    have q := (rel.val k).isSome_eq
    rw [Option.isSome_map] at q
    rw [← q, ← l]
    exact h _ (I.tok _)
/-- a dict's object is replaced -/
theorem d_write {h' : Heap} {t' : Nat} {ob : HO} (I : Inv X pins σ H s) (mu : Mut (H a)) (hs : Heap.SameBut a s.heap h') (he : ∃ q, h'.get? a = some q) (new : ObjOk X.prog X.w (upd H a ob) h' a ob) :
    Inv X pins σ (upd H a ob) { s with heap := h', toks := t' } :=
  I.write (x := a) (e := a) mu (.inl rfl) (fun b q hb z => (hs.2 b hb).trans z) he new
theorem dk_new {P : Program} {w : World} {H' : Hp} {h' : Heap} {kvs : List (Key × V)} {vs : List (Key × Value)} (z : kvs.length ≤ sizeLine) (hd : (a == sysModules) = false) (rel : KV kvs vs) (dd : h'.DictOf (mixKind P w) a vs) :
    ObjOk P w H' h' a (.dK kvs) := ⟨z, hd, vs, rel, dd⟩
/-- d[y] = v -/
theorem d_setItem {H' : Hp} {Q : Unit → Shared → Prop} (hu : A.units + 1 < cLine) (I : Inv X pins σ H s) (g : DPut H a y v H') (ry : RelV y u) (rv : RelV v r) (h : ∀ s', Inv X pins σ H' s' → Q () s') :
    wpAny (model X.prog X.w) A (setItem (.ref a) u r) Q E s := by
  rcases g with ⟨kvs, k, e, ey, l, eH⟩ | ⟨kvs, k, b, e, ey, eb, l, eH⟩
  · subst ey eH
    obtain ⟨z, hd, vs, rel, dd⟩ := dk_of I.hok e
    have hz : vs.length ≤ sizeLine := by rw [← rel.length]; exact z
    have hl : (putK kvs k v).length ≤ sizeLine := by have := length_putK kvs k v; omega
    refine wpAny_setItem_pairs (hsz := hz) (kV_is ry) dd fun h' dd' hs => h _ ?_
    have he : ∃ q, h'.get? a = some q := let ⟨q, _, _, hq, _⟩ := dd'; ⟨q, hq⟩
    exact d_write I (by rw [e]; exact True.intro) hs he (dk_new hl hd (rel.put k rv) dd')
  · subst ey eH
    cases (show u = Value.ref b from ry)
    obtain ⟨z, hd, xs, rel, dd⟩ := dt_of I.hok e
    have hz : xs.length ≤ sizeLine := by rw [← Paired.length rel]; exact z
    have hl : (putK kvs k v).length ≤ sizeLine := by have := length_putK kvs k v; omega
    refine wpAny_setItem_heap (hsz := hz) (tupleKind_room_in1 hu) (key_of I.hok eb) dd fun h' dd' hs => h _ ?_
    obtain ⟨q, es, ep, hq, h2, h3, h4, _, h5⟩ := dd'
    refine d_write I (by rw [e]; exact True.intro) hs ⟨q, hq⟩ ⟨hl, hd, _, (rel.put k eb rv).keeps fun c ys ec => ?_, q, es, ep, hq, h2, h3, h4, h5⟩
    rw [upd_ne (ne_of ec e (fun z => nomatch z))]
    exact ec
end

section
variable {X : Cx} {pins : List (Addr × Obj)} {σ : St} {H : Hp} {s : Shared} {a : Addr} {kvs : List (Key × V)} {k : Key} {u : Value} {A : Around} {E : Value → Shared → Prop}
/-- len(d) -/
theorem d_len {Q : Value → Shared → Prop} (I : Inv X pins σ H s) (e : Rd H a (.dK kvs)) (h : ∀ t s', Inv X pins σ H s' → Q (.int kvs.length t) s') : wpAny (model X.prog X.w) A (call (.builtin "len") [.ref a]) Q E s := by
  obtain ⟨z, hd, vs, rel, dd⟩ := dk_rd I.hok e
  refine call_len_dict hd dd (by rw [← rel.length]; rw [sizeLine_eq] at z; omega) ?_
  rw [← rel.length]
  exact h _ _ (I.tok _)
end


/-! ### readings and rules -/
/-- the element of a subscription, not a slice -/
def NoSl (i : Expr) : Prop := ∀ ov iv, subscripted i false ov iv = operate [ov, iv] (getItem ov iv)
theorem subD_of {prog : Program} {w : World} {A : Around} {E : Value → Shared → Prop} {s : Shared} {env : Env} {value slice : Expr} {pos : Pos} {T id : String} {Q : Value → Shared → Prop}
    (hl : typeLookup (.type T) "__getitem__" = pure (some (.builtin id))) (hs : NoSl slice)
    (h : wpAny (model prog w) A (eval value env) (fun o s₁ => wpAny (model prog w) A (eval slice env) (fun i s₂ => s₂.TypeIs o T ∧ wpAny (model prog w) A (getItem o i) Q E s₂) E s₁) E s) :
    wpAny (model prog w) A (eval (.Subscript value slice pos) env) Q E s := by
  refine Subscript_ (wpAny_mono h (fun o s₁ h₁ => wpAny_mono h₁ (fun i s₂ h₂ => ?_) fun _ _ x => x) fun _ _ x => x)
  obtain ⟨hT, h₂⟩ := h₂
  unfold subscriptTail
  refine wpAny_bind ?_
  rw [getitemInPython_of_ne hT.not_modules]
  refine wpAny_bind (wpAny_specialOf hT hl ?_)
  have fin : wpAny (model prog w) A (subscripted slice false o i) (fun r s₃ => wpAny (model prog w) A (letTemporaryGo value o r >>= fun _ => pure r) Q E s₃) E s₂ := by
    rw [hs o i]
    exact wpAny_operating (wpAny_mono h₂ (fun r s₃ h₃ => wpAny_bind (wpAny_letTemporaryGo (wpAny_pure h₃))) fun _ _ x => x)
  first
    | exact wpAny_pure (wpAny_bind fin)
    | exact wpAny_bind (wpAny_pure (wpAny_bind fin))
    | exact wpAny_bind fin

theorem dict_typeIs {X : Cx} {pins : List (Addr × Obj)} {σ : St} {H : Hp} {s : Shared} {a : Addr} {y : V} {o : Option V} (I : Inv X pins σ H s) (g : DGet H a y o) : s.TypeIs (.ref a) "dict" := by
  rcases g with ⟨kvs, k, e, _, _⟩ | ⟨kvs, k, b, e, _, _, _⟩
  · obtain ⟨_, _, vs, _, dd⟩ := dk_rd I.hok e
    exact dd.typeIs
  · obtain ⟨_, _, xs, _, dd⟩ := dt_rd I.hok e
    exact dd.typeIs

/-- d[y] -/
def tDGet (td ty : TE) : TE := fun σ H Q => td σ H fun x H1 => ty σ H1 fun y H2 => ∃ a v, x = .ref a ∧ DGet H2 a y (some v) ∧ Q v H2
/-- y in d, y not in d -/
def tDIn (ty td : TE) : TE := fun σ H Q => ty σ H fun y H1 => td σ H1 fun x H2 => ∃ a o, x = .ref a ∧ DGet H2 a y o ∧ Q (.bl o.isSome) H2
def tDNotIn (ty td : TE) : TE := fun σ H Q => ty σ H fun y H1 => td σ H1 fun x H2 => ∃ a o, x = .ref a ∧ DGet H2 a y o ∧ Q (.bl (!o.isSome)) H2
/-- d[y] = v -/
def sDPut (td ty tv : TE) : TS := fun D σ H => tv σ H fun v H1 => td σ H1 fun x H2 => ty σ H2 fun y H3 => ∃ a H4, x = .ref a ∧ DPut H3 a y v H4 ∧ D.nx σ H4

section
variable {X : Cx} {o i e value : Expr} {pos pos' tpos : Pos} {td ty tv : TE}
theorem pe_dget (hu : X.A.units + 1 < cLine) (ho : PE X o td) (hi : PE X i ty) (hs : NoSl i) : PE X (.Subscript o i pos) (tDGet td ty) := by
  intro pins s σ H Q I h
  refine subD_of PySem.F.slot_dict_getitem.lookup hs (thn (ho pins s σ H _ I h) fun u s1 ⟨x, H1, I1, rx, q1⟩ => thn (hi pins s1 σ H1 _ I1 q1) fun iv s2 hq0 => ?_)
  obtain ⟨y, H2, I2, ry, a, v, ex, g, q2⟩ := hq0
  subst ex
  obtain rfl : u = Value.ref a := rx
  exact ⟨dict_typeIs I2 g, d_getItem hu I2 g ry fun w' s3 I3 rw' => ⟨v, H2, I3, rw', q2⟩⟩
theorem pc_din (hu : X.A.units + 1 < cLine) (hi : PE X i ty) (ho : PE X o td) : PC X .In i o (tDIn ty td) := by
  intro pins s σ H Q I h
  refine thn (hi pins s σ H _ I h) fun iv s1 ⟨y, H1, I1, ry, q1⟩ => thn (ho pins s1 σ H1 _ I1 q1) fun u s2 hq0 => ?_
  obtain ⟨x, H2, I2, rx, a, ov, ex, g, q2⟩ := hq0
  subst ex
  obtain rfl : u = Value.ref a := rx
  exact d_in hu I2 g ry fun s3 I3 => ⟨.bl ov.isSome, H2, I3, rfl, q2⟩
theorem pc_dnotin (hu : X.A.units + 1 < cLine) (hi : PE X i ty) (ho : PE X o td) : PC X .NotIn i o (tDNotIn ty td) := by
  intro pins s σ H Q I h
  refine thn (hi pins s σ H _ I h) fun iv s1 ⟨y, H1, I1, ry, q1⟩ => thn (ho pins s1 σ H1 _ I1 q1) fun u s2 hq0 => ?_
  obtain ⟨x, H2, I2, rx, a, ov, ex, g, q2⟩ := hq0
  subst ex
  obtain rfl : u = Value.ref a := rx
  exact d_notIn hu I2 g ry fun s3 I3 => ⟨.bl (!ov.isSome), H2, I3, rfl, q2⟩
theorem ps_dput (hu : X.A.units + 1 < cLine) (ho : PE X o td) (hi : PE X i ty) (hv : PE X value tv) (hs : swapsWith value (some (.Subscript o i pos')) pos.line X.env = pure false) :
    PS X (.Assign [.Subscript o i pos'] value pos) (sDPut td ty tv) := by
  intro pins s σ H D I h
  refine wpAny_Assign_Subscript (thn (hv pins s σ H _ I h) fun r s1 ⟨v, H1, I1, rv, q1⟩ => thn (ho pins s1 σ H1 _ I1 q1) fun u s2 ⟨x, H2, I2, rx, q2⟩ => thn (hi pins s2 σ H2 _ I2 q2) fun iv s3 hq0 => ?_) hs
  obtain ⟨y, H3, I3, ry, a, H4, ex, g, q3⟩ := hq0
  subst ex
  obtain rfl : u = Value.ref a := rx
  exact d_setItem hu I3 g ry rv fun s4 I4 => ⟨σ, H4, I4, q3⟩
end


/-! ### displays -/
theorem dk_empty {P : Program} {w : World} {H : Hp} (h : Heap) (hb : sysModules < h.objs.size) : ObjOk P w H (h.push { cls := .type "dict", data := .dict #[] }) h.objs.size (.dK []) :=
  ⟨Nat.zero_le _, beq_eq_false_iff_ne.mpr (Ne.symm (Nat.ne_of_lt hb)), [], .nil, Heap.DictOf.new h⟩
theorem dt_empty {P : Program} {w : World} {H : Hp} (h : Heap) (hb : sysModules < h.objs.size) : ObjOk P w H (h.push { cls := .type "dict", data := .dict #[] }) h.objs.size (.dT []) :=
  ⟨Nat.zero_le _, beq_eq_false_iff_ne.mpr (Ne.symm (Nat.ne_of_lt hb)), [], .nil, _, #[], 0, Heap.get?_push_size _ rfl, ⟨rfl, rfl, rfl⟩, rfl, rfl, List.nodup_nil⟩
/-- {}, to be a dict of the kind that is wanted -/
def tDNewK : TE := fun _ H Q => ∀ p, H p = none → Q (.ref p) (upd H p (.dK []))
def tDNewT : TE := fun _ H Q => ∀ p, H p = none → Q (.ref p) (upd H p (.dT []))
section
variable {X : Cx} {pos : Pos}
theorem pe_dnewK : PE X (.Dict [] [] pos) tDNewK := fun pins s σ H Q I h =>
  wpAny_Dict_empty ⟨.ref s.heap.objs.size, _, I.laid (a := s.heap.objs.size) (o := .dK []) (t' := s.toks) (fun _ _ q => Heap.get?_push_of_some _ q) (Nat.le_refl _) (dk_empty s.heap I.big), rfl, h _ (I.hok.fresh (Nat.le_refl _))⟩
theorem pe_dnewT : PE X (.Dict [] [] pos) tDNewT := fun pins s σ H Q I h =>
  wpAny_Dict_empty ⟨.ref s.heap.objs.size, _, I.laid (a := s.heap.objs.size) (o := .dT []) (t' := s.toks) (fun _ _ q => Heap.get?_push_of_some _ q) (Nat.le_refl _) (dt_empty s.heap I.big), rfl, h _ (I.hok.fresh (Nat.le_refl _))⟩
end


def mergeK (kvs more : List (Key × V)) : List (Key × V) := more.foldl (fun acc kv => putK acc kv.1 kv.2) kvs
theorem KV.merge : ∀ {more : List (Key × V)} {rs : List (Key × Value)} {kvs : List (Key × V)} {vs : List (Key × Value)}, KV more rs → KV kvs vs → KV (mergeK kvs more) (merged vs rs) := by
  intro more rs kvs vs r
  unfold KV at r
  induction r generalizing kvs vs with
  | nil => intro q; exact q
  | @cons p q ps qs h t ih =>
    intro r0
    have e : KV (putK kvs p.1 p.2) (stored vs q.1 q.2) := by
      have := r0.put p.1 h.2
      rw [← h.1]; exact this
    exact ih e
theorem length_mergeK : ∀ (more kvs : List (Key × V)), (mergeK kvs more).length ≤ kvs.length + more.length
  | [], kvs => by show kvs.length ≤ kvs.length + 0; omega
  | p :: r, kvs => by
    have h1 := length_mergeK r (putK kvs p.1 p.2)
    have h2 := length_putK kvs p.1 p.2
    show (mergeK (putK kvs p.1 p.2) r).length ≤ _
    rw [List.length_cons]; omega


/-! ### methods -/
structure M2 (X : Cx) (o : Expr) (m : Str) (apos : Pos) (e f : Expr) (cpos : Pos) : Prop where
  base : attributeBase o m X.env (eval o X.env) = eval o X.env
  few : ((backTo cpos (starEach [e, f] X.env)).all (fun x => !x.1) && (backToKw cpos (keywordEach [] X.env)).all (fun x => x.1.isSome)
    && decide (([e, f] : List Expr).length + ([] : List Keyword).length + (if ([] : List Keyword).isEmpty then 0 else 1) < 30)) = true
  line : (apos.endLine == cpos.line) = true
  trees : backTo cpos (starEach [e, f] X.env) = [(false, eval e X.env), (false, eval f X.env)]

/-- a is a dict, whatever its keys -/
def IsD (H : Hp) (a : Addr) : Prop := (∃ kvs, Rd H a (.dK kvs)) ∨ ∃ kvs, Rd H a (.dT kvs)
theorem isD_at {X : Cx} {pins : List (Addr × Obj)} {σ : St} {H : Hp} {s : Shared} {a : Addr} (I : Inv X pins σ H s) (d : IsD H a) :
    s.TypeIs (.ref a) "dict" ∧ (∀ b, Value.ref a = .ref b → ∃ ob, s.heap.get? b = some ob ∧ ob.dict = none) ∧ (a == sysModules) = false := by
  rcases d with ⟨kvs, e⟩ | ⟨kvs, e⟩
  · obtain ⟨_, hd, vs, _, dd⟩ := dk_rd I.hok e
    refine ⟨dd.typeIs, fun b q => ?_, hd⟩
    cases q
    obtain ⟨ob, _, _, h1, h2, _⟩ := dd
    exact ⟨ob, h1, h2.2.1⟩
  · obtain ⟨_, hd, xs, _, dd⟩ := dt_rd I.hok e
    refine ⟨dd.typeIs, fun b q => ?_, hd⟩
    cases q
    obtain ⟨ob, _, _, h1, h2, _⟩ := dd
    exact ⟨ob, h1, h2.2.1⟩

section
variable {X : Cx} {pins : List (Addr × Obj)} {σ : St} {H : Hp} {s : Shared} {a : Addr} {y d : V} {u r : Value} {o : Option V} {A : Around} {E : Value → Shared → Prop}
end

section
variable {X : Cx} {o e f : Expr} {apos cpos : Pos} {td ty tx : TE}
end

/-! ### dict(d): a copy -/
section
variable {X : Cx} {pins : List (Addr × Obj)} {σ : St} {H : Hp} {s : Shared} {a : Addr} {kvs : List (Key × V)} {A : Around} {E : Value → Shared → Prop}
end


section
variable {X : Cx} {pins : List (Addr × Obj)} {σ : St} {H : Hp} {s : Shared} {a : Addr} {y : V} {u : Value} {A : Around} {E : Value → Shared → Prop}
end
end L2

namespace Att
open PySem PySem.W PySem.Calls PyProof.Rows

/-! ### the script -/
theorem ints_of_wellAll {P : Params} {h : Heap} : ∀ (ns : List Int) (vs : List Value), WellAll P h vs (ns.map WData.int) → IntsAre vs ns := by
  intro ns
  induction ns with
  | nil =>
    intro vs w
    rw [List.map_nil] at w
    cases w
    exact .nil
  | cons n ns ih =>
    intro vs w
    rw [List.map_cons] at w
    cases w with
    | cons a b =>
      cases a
      exact .cons _ _ (ih _ b)

theorem script_of {l : OpenLaw} {n : Nat} (hn : l.most = some n) {P : Params} {h : Heap} {args : List WData} {vals : List Value}
    (hpre : l.row.toRowW.claim.pre args = true) (hwl : WellAll P h vals args) :
    ∃ a vs ns, vals = [Value.ref a] ∧ args = [WData.list (ns.map WData.int)] ∧ h.get? a = some { cls := .type "list", data := .seq vs.toArray } ∧ IntsAre vs ns ∧ ns.length ≤ n := by
  have hsh : WShape.hasAll [] args [.list .int] = true := (pre_splitW hpre).1
  have hc : l.pre.holds [] { args := args } = true := (pre_splitW hpre).2
  obtain ⟨d, r, rfl, h1, h2⟩ := hasAllW_cons hsh
  obtain rfl := hasAllW_nil h2
  obtain ⟨xs, rfl, h3⟩ := hasW_list h1
  obtain ⟨ns, rfl⟩ := items_int h3
  have hlen : ns.length ≤ n := by
    unfold OpenLaw.pre at hc
    have h4 : (WTm.not (.lt (.lit (.int (n : Int))) (.len (.arg 0)))).holds [] { args := [.list (ns.map .int)] } = true := by
      have h4 := (holds_andW hc).1
      rw [hn] at h4
      exact h4
    have h5 := condW_of h4 (w_not (w_lt w_lit (w_len_list (w_arg rfl))))
    rw [List.length_map] at h5
    refine Nat.le_of_not_lt fun q => ?_
    have q' : (n : Int) < ((ns.length : Nat) : Int) := by omega
    first
      | (rw [decide_eq_true q'] at h5; exact absurd h5 (by decide))
      | (simp at h5; omega)
  cases hwl with
  | cons w1 w2 =>
    cases w2
    cases w1 with
    | list ho hall => exact ⟨_, _, ns, rfl, rfl, ho, ints_of_wellAll ns _ hall, hlen⟩

theorem post_true (l : OpenLaw) (args : List WData) : l.row.toRowW.claim.post args (.bool true) args = true :=
  postW_of (r := l.row.toRowW) (X := (true == true))
    (show WShape.has [] (.bool true) .bool = true by first | rfl | decide | simp [WShape.has, WShape.arms, WShape.armsAll])
    (show (WTm.eq .res (.lit (.bool true))).value [] { args := args, res := some (.bool true), after := args } = some (.bool (true == true)) from w_eq_bool (w_res rfl) w_lit) rfl

/-! ### the attachment: holds_open's last premise (the goal 'hc' behind k_head) from a wpAny of the law's body -/

/-- the same from a codeAny of the CALL (for a layer whose function contracts speak of calls) -/
theorem attach_call {l : OpenLaw} {n : Nat} {q : Program} {loose : List Str} {XP : (Str → Option Value) → Heap → Prop} {YP : World → Heap → Prop} {d : DefRec}
    (hn : l.most = some n) (hdf : d.params.defaults = [])
    (call : ∀ (w : World) (s₀ s₁ : Shared) (mg mb : Str → Option Value) (fa : Addr) (o : Obj) (pm cd doc : Value) (a : Addr) (vs : List Value) (ns : List Int),
      Ground q loose [] XP w s₀ mg mb s₁.heap → YP w s₁.heap →
      s₁.heap.get? fa = some o → o.data = .func (docDef d.name d.params d.body d.scope pm cd doc) → s₁.heap.CodeRec cd d.name → mg d.name = some (.ref fa) →
      s₁.heap.get? a = some { cls := .type "list", data := .seq vs.toArray } → IntsAre vs ns → ns.length ≤ n → s₁.gens = #[] →
      codeAny (model l.prog w) callerA (.call (.ref fa) ⟨[.ref a], []⟩) (fun r s' => r = .ok (.ret (.bool true)) ∧ OldK s₁.heap s'.heap ∧ s'.os = s₁.os ∧ AllBare s'.gens) s₁) :
    WalkO q loose XP YP l.row.toRowW d [] (fun f vs => PySem.call f vs) := by
  intro w s₀ s₁ mg mb G Y fa o pm cd doc dV kV ho hd hcd hD hmg hg args vals as hpre hlay hrd hwl hlo
  obtain rfl : dV = .none := Dflts.none hD hdf
  obtain rfl : kV = .none := Dflts.noKw hD
  obtain ⟨a, vs, ns, rfl, rfl, hobj, hints, hlen⟩ := script_of hn hpre hwl
  refine enter_call (codeAny_mono (call w s₀ s₁ mg mb fa o pm cd doc a vs ns G Y ho (fd_plain hd) hcd hmg hobj hints hlen hg) fun r s' hq => ?_)
  obtain ⟨rfl, h2, h3, h4⟩ := hq
  exact ⟨.inl ⟨.bool true, .bool true, [], rfl, fun _ => rfl, .bool true, post_true l _, fun _ => ⟨List.Pairwise.nil, fun _ hm => (nomatch hm)⟩⟩, h2, h3, h4⟩


/-! ### rules over ANY heap (no ledger) from facts about the written part K: the library's own take a ledger (News) for what they write -/
section
variable {prog : Program} {w : World} {A : Around} {E : Value → Shared → Prop} {s : Shared} {K : Frag}





/-! the whole heap as the ledger: makes every rule that writes through a ledger a rule over any heap -/

end
end Att

namespace L2
open PySem PySem.Spec PyProof.Rows

theorem vals_ints : ∀ {vs : List Value} {ns : List Int}, IntsAre vs ns → Vals (ns.map V.int) vs
  | _, _, .nil => .nil
  | _, _, .cons n t h => .cons ⟨t, rfl⟩ (vals_ints h)

/-- nothing is tracked but the script, known to the object (or it is an object of the module) -/
def Only (H : Hp) : Prop := ∀ b, H b = none ∨ ∃ o xs, H b = some (.frz o (.lst xs))

/-- THE HEAD: the law's promise, at the heap behind the top. F, the promise of the law's def, may use that base is part of the heap (so K.In base, base.Ns mainGlobals mg stand in Mod) -/
theorem law_call {P : Program} {w : World} {K : PySem.W.Frag} {mg mb : Str → Option Value} {CX : CXT} {k : Nat} {fa a : Addr} {fd : FuncData} {x : Str} {sp : Sp} {s₁ : Shared} {vs : List Value} {ns : List Int}
    (KX : K.In s₁.heap) (hns : s₁.heap.Ns mainGlobals mg) (hb : s₁.heap.Ns builtinsNs mb) (hbb : ∀ x : Str, x ≠ "__name__" → mb x = bootBuiltins x) (hlim : s₁.heap.NoLimit) (hg : s₁.gens = #[])
    (ha : s₁.heap.get? a = some { cls := .type "list", data := .seq vs.toArray }) (hi : IntsAre vs ns) (hl : ns.length ≤ sizeLine) (hr : Room k callerA)
    (F : ∀ base : Heap, K.In base → base.Ns mainGlobals mg → FnOk P w K mg base CX k fa fd [x] sp) (hbind : ∀ (s : Shared) (u : Value), BindsTo s fd ⟨[u], []⟩ [(x, u)])
    (hsp : ∀ H : Hp, Only H → SqL K H a (ns.map V.int) → sp [.ref a] H (fun v _ => v = .bl true) fun _ _ _ => False)
    (hCX : ∀ H e s', CX [] H s₁ (fun _ _ _ => False) e s' → False) :
    codeAny (model P w) callerA (.call (.ref fa) ⟨[.ref a], []⟩) (fun r s' => r = .ok (.ret (.bool true)) ∧ OldK s₁.heap s'.heap ∧ s'.os = s₁.os ∧ AllBare s'.gens) s₁ := by
  have rv := vals_ints hi
  have lenV := hi.length
  -- from an abstract heap in which nothing but the script may be tracked
  have core : ∀ H : Hp, Only H → SqL K H a (ns.map V.int) → HOk P w H s₁.heap → (∀ b, H b ≠ none → b = a) → (H a ≠ none → K.lookup a = none) →
      codeAny (model P w) callerA (.call (.ref fa) ⟨[.ref a], []⟩) (fun r s' => r = .ok (.ret (.bool true)) ∧ OldK s₁.heap s'.heap ∧ s'.os = s₁.os ∧ AllBare s'.gens) s₁ := by
    intro H hO hS hok hA hK
    have base_of : ∀ {b : Addr} {o : Obj}, s₁.heap.get? b = some o → H b = none → (hidT s₁.heap H).get? b = some o := fun e n => hidT_get e n
    have noA : ∀ {b : Addr} {o : Obj} {es : Array DictEntry} {ep : Nat}, s₁.heap.get? b = some o → o.data = .dict es ep → H b = none := fun {b o es ep} e d => by
      cases q : H b with
      | none => rfl
      | some u =>
        have e' : b = a := hA b (by rw [q]; simp)
        subst e'
        rw [ha] at e; cases e
        have d' : Data.seq vs.toArray _ = Data.dict es ep := d
        cases d'
    have nsK : ∀ {b : Addr} {m : Str → Option Value}, s₁.heap.Ns b m → (hidT s₁.heap H).Ns b m := fun {b m} ⟨o, es, ep, e, d, r⟩ => ⟨o, es, ep, base_of e (noA e d), d, r⟩
    have hKb : K.In (hidT s₁.heap H) := fun b o e => base_of (KX b o e) (by
      cases q : H b with
      | none => rfl
      | some u =>
        have e' : b = a := hA b (by rw [q]; simp)
        subst e'
        rw [hK (by rw [q]; simp)] at e; cases e)
    have hM : Mod K mg (hidT s₁.heap H) := ⟨hKb, nsK hns, ⟨mb, nsK hb, hbb⟩, let ⟨mc, h1, h2⟩ := hlim; ⟨mc, nsK h1, h2⟩⟩
    have e0 : Env0 P w K mg (hidT s₁.heap H) callerA [] s₁ H := ⟨rfl, hM, fun b o e => of_hidT e, Nat.le_of_eq (hidT_size _ _), trivial, fun b hb => absurd (show b ∈ ([] : List Addr) from hb) (by simp), hok, .of_eq hg⟩
    refine codeAny_mono ((F _ hKb (nsK hns)).run callerA [] s₁ H ⟨[.ref a], []⟩ [.ref a] [.ref a] _ _ hr e0 (hbind s₁ (.ref a)) (.cons rfl .nil) (hsp H hO hS)) fun r s' h => ?_
    cases r with
    | error e => exact (hCX H e s' h).elim
    | ok fl =>
      cases fl with
      | next => exact False.elim h
      | brk => exact False.elim h
      | cont => exact False.elim h
      | ret u =>
        obtain ⟨v, H', os, bare, un, hok', r', q⟩ := h
        have q' : v = .bl true := q
        subst q'
        obtain rfl : u = Value.bool true := r'
        refine ⟨rfl, OldK.of_keep fun b o e => ?_, os, bare⟩
        cases q : H b with
        | none => exact un.keep b o e q (by intro z; exact absurd (show b ∈ ([] : List Addr) from z) (by simp)) (by simp)
        | some u =>
          rcases hO b with z | ⟨ob, xs, z⟩
          · rw [q] at z; cases z
          · have z2 := un.frzs b ob _ z
            obtain ⟨e1, _⟩ := hok b _ z
            obtain ⟨e2, _⟩ := hok' b _ z2
            rw [e] at e1; cases e1
            exact e2
  cases hk : K.lookup a with
  | some o =>
    -- the script is one of the module's own objects
    have e := KX a o hk
    rw [ha] at e
    cases e
    refine core (fun _ => none) (fun _ => .inl rfl) (.inr ⟨_, vs.toArray, _, hk, rfl, rfl, rfl, by rw [List.size_toArray, lenV]; exact hl, by simpa using rv⟩) (fun b u z => by have z' : (none : Option HO) = some u := z; cases z') (fun b z => absurd rfl z) fun z => absurd rfl z
  | none =>
    refine core (fun b => if b = a then some (.frz { cls := .type "list", data := .seq vs.toArray } (.lst (ns.map V.int))) else none) (fun b => ?_) (.inl (.inr ⟨{ cls := .type "list", data := .seq vs.toArray }, if_pos rfl⟩)) (fun b u z => ?_) (fun b z => ?_) fun _ => hk
    · by_cases hb : b = a
      · exact .inr ⟨_, _, if_pos hb⟩
      · exact .inl (if_neg hb)
    · by_cases hb : b = a
      · have z' := (if_pos hb).symm.trans z
        cases z'
        subst hb
        exact ⟨ha, by rw [List.length_map]; exact hl, vs, _, rv, ha⟩
      · have z' := (if_neg hb).symm.trans z
        cases z'
    · by_cases hb : b = a
      · exact hb
      · exact absurd (if_neg hb) z
end L2

namespace L2
open PySem PySem.Spec PyProof.Rows

abbrev KOf {K : PySem.W.Frag} {h : Heap} (_ : K.In h) : PySem.W.Frag := K

/-- the goal that k_head leaves (case hc), from the law's promise. F gives the function object fd (K's own) once, then the promise over every base -/
theorem walk_of {l : PySem.W.OpenLaw} {n k : Nat} {q : Program} {loose : List Str} {XP : (Str → Option Value) → Heap → Prop} {YP : World → Heap → Prop} {d : DefRec} {K : Params → PySem.W.Frag} {CX : World → CXT} {sp : World → Sp} {x : Str}
    (hn : l.most = some n) (hn2 : n ≤ sizeLine) (hdf : d.params.defaults = []) (hr : Room k callerA)
    (hY : ∀ (w : World) (h : Heap), YP w h → (K w.params).In h)
    (F : ∀ (w : World) (mg : Str → Option Value) (fa : Addr) (h : Heap), (K w.params).In h → h.Ns mainGlobals mg → mg d.name = some (.ref fa) →
      ∃ fd : FuncData, (∀ (s : Shared) (u : Value), BindsTo s fd ⟨[u], []⟩ [(x, u)]) ∧
        ∀ base : Heap, (K w.params).In base → base.Ns mainGlobals mg → FnOk l.prog w (K w.params) mg base (CX w) k fa fd [x] (sp w))
    (hsp : ∀ (w : World) (H : Hp) (a : Addr) (ns : List Int), ns.length ≤ n → Only H → SqL (K w.params) H a (ns.map V.int) → sp w [.ref a] H (fun v _ => v = .bl true) fun _ _ _ => False)
    (hCX : ∀ (w : World) (H : Hp) (s : Shared) (e : Value) (s' : Shared), CX w [] H s (fun _ _ _ => False) e s' → False) :
    PySem.W.WalkO q loose XP YP l.row.toRowW d [] (fun f vs => PySem.call f vs) := by
  refine Att.attach_call hn hdf fun w s₀ s₁ mg mb fa o pm cd doc a vs ns G Y ho hd hcd hmg hobj hints hlen hg => ?_
  have KX := hY w _ Y
  obtain ⟨fd, hb, hF⟩ := F w mg fa _ KX G.T.g hmg
  exact law_call KX G.T.g G.T.b G.T.builtins G.T.nolimit hg hobj hints (Nat.le_trans hlen hn2) hr hF hb (fun H hO hS => hsp w H a ns hlen hO hS) fun H e s' => hCX w H s₁ e s'
/-- the same where the promise hangs on the written part alone: (sp := My.sp_law), no hole under a binder -/
theorem walk_ofK {l : PySem.W.OpenLaw} {n k : Nat} {q : Program} {loose : List Str} {XP : (Str → Option Value) → Heap → Prop} {YP : World → Heap → Prop} {d : DefRec} {K : Params → PySem.W.Frag} {CX : CXT} {sp : PySem.W.Frag → Sp} {x : Str}
    (hn : l.most = some n) (hn2 : n ≤ sizeLine) (hdf : d.params.defaults = []) (hr : Room k callerA)
    (hY : ∀ (w : World) (h : Heap), YP w h → (K w.params).In h)
    (F : ∀ (w : World) (mg : Str → Option Value) (fa : Addr) (h : Heap), (K w.params).In h → h.Ns mainGlobals mg → mg d.name = some (.ref fa) →
      ∃ fd : FuncData, (∀ (s : Shared) (u : Value), BindsTo s fd ⟨[u], []⟩ [(x, u)]) ∧
        ∀ base : Heap, (K w.params).In base → base.Ns mainGlobals mg → FnOk l.prog w (K w.params) mg base CX k fa fd [x] (sp (K w.params)))
    (hsp : ∀ (K : PySem.W.Frag) (H : Hp) (a : Addr) (ns : List Int), ns.length ≤ n → Only H → SqL K H a (ns.map V.int) → sp K [.ref a] H (fun v _ => v = .bl true) fun _ _ _ => False)
    (hCX : ∀ (H : Hp) (s : Shared) (e : Value) (s' : Shared), CX [] H s (fun _ _ _ => False) e s' → False) :
    PySem.W.WalkO q loose XP YP l.row.toRowW d [] (fun f vs => PySem.call f vs) :=
  walk_of (K := K) (CX := fun _ => CX) (sp := fun w => sp (K w.params)) hn hn2 hdf hr hY F (fun w H a ns h1 h2 h3 => hsp (K w.params) H a ns h1 h2 h3) fun _ H s e s' => hCX H s e s'
end L2

/- THE LAST THEOREM (shape; LID, My.* are yours):
   My.Adr: a structure of the addresses that your layer names (classes, functions); My.Txt K t: a structure (Prop) of the equations over K;
   My.txt_mk : {K} {implicit addresses ..} (e1 : nsIn K mainGlobals "law" = some (some (.ref f))) (e2 : K.lookup f = some ⟨oc, od, .func (fnOf "law" "law" params body scope dV kV doc pm an cdv ct), sl⟩) (e3 : codeIn K cdv "law" = true) .. : ∃ t, My.Txt K t

set_option maxRecDepth 100000 in
set_option maxHeartbeats 0 in
theorem PySem.Challenge.cw_LID_holds : PySem.Challenge.rw_LID.Holds := by
  w_on; o_law; k_head; (case hw => w_witness2)
  k_fill
  refine L2.walk_of (l := PySem.Challenge.rw_LID) (n := 63) (k := 40) (x := "script") (CX := fun w => ..) (sp := fun _ => My.sp_law) rfl (by decide) rfl ⟨rfl, by decide, by decide⟩ (fun w h Y => PySem.W.kIn_of Y) ?F ?S ?C
  case F =>
    intro w mg fa h KX G hmg
    have T : ∃ t, My.Txt (L2.KOf KX) t := by
      dsimp only [L2.KOf]                          -- K must stand as «<heap const> w.params» for k_is
      refine' My.txt_mk ?e1 ?e2 ?e3 ..
      (case e1 => PySem.W.k_is)                    -- in the order: a name -> its address -> its object -> its parts
      (case e2 => PySem.W.k_is)
      ..
    obtain ⟨t, T⟩ := T
    have e0 := hmg.symm.trans (PySem.W.mg_of KX G T.law)
    cases e0                                       -- fa is the law's own address
    exact ⟨_, fun s u => .of_eq rfl, fun base kb nb => My.law_fn T kb nb⟩     -- if «.of_eq rfl» comes too early: refine' ⟨_, ?b, fun base kb nb => My.law_fn T kb nb⟩; exact fun s u => .of_eq rfl
  case S => exact fun w H a ns hl hO hS => ..
  case C => exact ..
(the tactic k_is has no namespace: write k_is) -/

/-! SHORT WORDS over the layer: a def of the text, its body, what a loop and a test want. -/
namespace L2
open PySem PySem.Spec PyProof.Rows

/-! ### the text by places -/
/-- the j-th statement of a class's body -/
def inClass (s : Stmt) (j : Nat) : Stmt := match s with
  | .ClassDef _ _ _ body _ _ _ _ _ _ _ => body.getD j (.Pass ⟨0, 0, 0, 0⟩)
  | _ => .Pass ⟨0, 0, 0, 0⟩
def defArgs (s : Stmt) : Arguments := match s with
  | .FunctionDef _ a _ _ _ _ _ _ _ _ => a
  | _ => { posonlyargs := [], args := [], vararg := none, kwonlyargs := [], kw_defaults := [], kwarg := none, defaults := [] }
def defBody (s : Stmt) : List Stmt := match s with
  | .FunctionDef _ _ b _ _ _ _ _ _ _ => b
  | _ => []
def defScope (s : Stmt) : Scope := match s with
  | .FunctionDef _ _ _ _ _ _ sc _ _ _ => sc
  | _ => { kind := .function, names := [], isGenerator := false, isCoroutine := false }

/-! ### no exception leaves a def -/
abbrev CX0 : CXT := fun _ _ _ _ _ _ => False
abbrev E0 : XK := fun _ _ _ => False
theorem pass0 {X : Cx} : Passes CX0 X E0 := fun _ _ _ _ _ _ _ h => h.elim

/-! ### a def (or method) of the text as it stands behind the top -/
structure Fun (K : PySem.W.Frag) (x qual : Str) (st : Stmt) (f : Addr) (fd : FuncData) : Prop where
  ex : ∃ (oc : Value) (od : Option Addr) (kV doc pm : Value) (an : Option Addr) (cdv ct : Value) (osl : Array (Option Value)),
    fd = PySem.W.fnOf x qual (defArgs st) (defBody st) (defScope st) .none kV doc pm an cdv ct ∧ K.lookup f = some ⟨oc, od, .func fd, osl⟩ ∧ PySem.W.codeIn K cdv qual = true
  kp : PySem.W.keepIn K (.ref f) = true
section
variable {P : Program} {w : World} {K : PySem.W.Frag} {mg : Str → Option Value} {base : Heap}
/-- THE RULE for a def: its body as a term of rules, and the reading of that term -/
theorem Fun.ok {x qual : Str} {st : Stmt} {f : Addr} {fd : FuncData} {N ps : List Str} {k : Nat} {sp : Sp} (F : Fun K x qual st f fd) (S : FnScope N ps (defScope st)) (len : ∀ vs H Q E, sp vs H Q E → vs.length = ps.length)
    (hbody : ∀ (cdv : Value) (A : Around) (outer : List Env) (s : Shared) (H : Hp) (vs : List V) (Q : VK) (E : XK), Room k (A.deeper (envOfC qual (defScope st) s.heap.objs.size f cdv)) → sp vs H Q E →
      ∃ t, PSs (cxOf CX0 P w K mg base N qual (defScope st) f cdv A outer s H E).nox (defBody st) t ∧ t { nx := fun _ H' => Q .non H', rt := Q } (start N vs) H) : FnOk P w K mg base CX0 (k + 1) f fd ps sp := by
  obtain ⟨oc, od, kV, doc, pm, an, cdv, ct, osl, rfl, lk, hcd⟩ := F.ex
  refine fn_of lk hcd S len fun A outer s H vs Q E hr hsp => ?_
  obtain ⟨t, h, q⟩ := hbody cdv A outer s H vs Q E hr hsp
  exact ⟨t, h.nox, q⟩
theorem fun_mk {x qual : Str} {st : Stmt} {f : Addr} {oc : Value} {od an : Option Addr} {osl : Array (Option Value)} {kV doc pm cdv ct : Value} (l : K.lookup f = some ⟨oc, od, .func (PySem.W.fnOf x qual (defArgs st) (defBody st) (defScope st) .none kV doc pm an cdv ct), osl⟩)
    (c : PySem.W.codeIn K cdv qual = true) (k : PySem.W.keepIn K (.ref f) = true) : Fun K x qual st f (PySem.W.fnOf x qual (defArgs st) (defBody st) (defScope st) .none kV doc pm an cdv ct) := ⟨⟨oc, od, kV, doc, pm, an, cdv, ct, osl, rfl, l, c⟩, k⟩
end
theorem hu_of {A : Around} {k : Nat} (hr : Room k A) : A.units + 1 < cLine := Nat.lt_of_le_of_lt (Nat.add_le_add_left (by decide : 1 ≤ 64) _) hr.units
theorem small1000 {n : Nat} (h : n ≤ 1000) : n < sizeLine := Nat.lt_of_le_of_lt h (by decide)

/-! ### expressions in short: the name that stands in the i-th slot -/
section
variable {X : Cx}
theorem pv (i : Nat) {x : Str} {pos : Pos} (hN : X.N[i]? = some x := by rfl) (hv : Vis X.env.scope x := by first | exact Or.inl rfl | exact Or.inr (Or.inl rfl) | exact Or.inr (Or.inr rfl)) (hd : (x == ("__debug__" : Str)) = false := by decide)
    (hcd : (x == ("__classdict__" : Str)) = false := by decide) : PE X (.Name x pos) (tVar i) := pe_var hN hv hd hcd
end

/-! ### tests -/
theorem iteF {A B : Prop} (h : B) : if false = true then A else B := by
  rw [if_neg Bool.false_ne_true]
  exact h
theorem iteT {A B : Prop} (h : A) : if true = true then A else B := by
  rw [if_pos rfl]
  exact h
theorem ite2 {c A B : Prop} [Decidable c] (h1 : c → A) (h2 : ¬ c → B) : if c then A else B := by
  by_cases h : c
  · rw [if_pos h]
    exact h1 h
  · rw [if_neg h]
    exact h2 h

/-! ### heaps -/
/-- all that was tracked is as it was -/
def Same (H H' : Hp) : Prop := ∀ b o, H b = some o → H' b = some o
theorem Same.refl (H : Hp) : Same H H := fun _ _ h => h
theorem Same.trans {H H1 H2 : Hp} (a : Same H H1) (b : Same H1 H2) : Same H H2 := fun c o h => b c o (a c o h)
theorem Same.free {H H' : Hp} (e : Same H H') {l : Addr} (h : H' l = Option.none) : H l = Option.none := by
  cases q : H l with
  | none => rfl
  | some o =>
    rw [e l o q] at h
    cases h
theorem Same.seq {K : PySem.W.Frag} {H H' : Hp} {a : Addr} {xs : List V} (e : Same H H') (h : SqL K H a xs) : SqL K H' a xs := by
  rcases h with (h | ⟨o, h⟩) | h
  · exact .inl (.inl (e _ _ h))
  · exact .inl (.inr ⟨o, e _ _ h⟩)
  · exact .inr h

section
variable {X : Cx}
/-- len of a dict -/
theorem call_lenD : CallR X (.builtin "len") (fun xs H Q => ∃ a kvs, xs = [V.ref a] ∧ H a = some (.dK kvs) ∧ Q (.int kvs.length) H) := by
  intro pins s σ H xs us Q I r h
  obtain ⟨a, kvs, rfl, ha, q⟩ := h
  obtain ⟨u, rfl, ru⟩ := vals1 r
  cases ru
  exact d_len I (.inl ha) fun t s' I' => ⟨.int kvs.length, H, I', ⟨t, rfl⟩, q⟩
end
/-! ### a dict's pairs: keys that differ -/
section
variable {κ : Type} [DecidableEq κ]
end
end L2


/-! OVER THE HAND LAYER: list comprehensions, walks over texts, and some of Python's own calls, by their readings. -/
namespace L2
open PySem PySem.Spec PyProof.Rows

/-! ### the closure of a comprehension -/
def freeCl (cells : List (Str × Addr)) : List (Str × NameKind) → List (Str × Addr) → List (Str × Addr)
  | [], cs => cs
  | (n, k) :: r, cs => freeCl cells r (if (k == NameKind.free) = true then (match cells.lookup n with | some c => (n, c) :: cs | none => cs) else cs)

theorem closureFor_cells {scope : Scope} {env : Env} (h : ∀ x ∈ scope.names, x.2 = .free → ∃ c, env.cells.lookup x.1 = some c) : closureFor scope env = pure (freeCl env.cells scope.names []) := by
  unfold closureFor
  have go : ∀ (names : List (Str × NameKind)) (cs : List (Str × Addr)), (∀ x ∈ names, x.2 = .free → ∃ c, env.cells.lookup x.1 = some c) →
      (forIn names cs (fun (x : Str × NameKind) (r : List (Str × Addr)) => if (x.2 == NameKind.free) = true then (do let a ← cellOf env x.1; pure (ForInStep.yield ((x.1, a) :: r))) else pure (ForInStep.yield r)) : Sem (List (Str × Addr))) = pure (freeCl env.cells names cs) := by
    intro names
    induction names with
    | nil => intro cs _; rfl
    | cons x r ih =>
      intro cs hc
      obtain ⟨n, k⟩ := x
      have hr : ∀ y ∈ r, y.2 = .free → ∃ c, env.cells.lookup y.1 = some c := fun y hy => hc y (List.mem_cons_of_mem _ hy)
      rw [List.forIn_cons]
      cases e : (k == NameKind.free) with
      | true =>
        obtain ⟨c, hl⟩ := hc (n, k) List.mem_cons_self (by simpa using e)
        have hl' : env.cells.lookup n = some c := hl
        have ec : cellOf env n = pure c := by unfold cellOf; rw [hl']
        show (_ >>= _) = pure (freeCl env.cells r (if (k == NameKind.free) = true then _ else _))
        rw [e, hl']
        simp only [if_true, ec, pure_bind]
        exact ih _ hr
      | false =>
        show (_ >>= _) = pure (freeCl env.cells r (if (k == NameKind.free) = true then _ else _))
        rw [e]
        simp only [Bool.false_eq_true, if_false, pure_bind]
        exact ih _ hr
  exact (congrArg (· >>= fun r => pure r) (go scope.names [] h)).trans (pure_bind _ _)

theorem lookup_cons_eq {α : Type} {y n : Str} {c : α} {r : List (Str × α)} (h : y = n) : ((n, c) :: r).lookup y = some c := by
  subst h; simp
theorem lookup_cons_ne {α : Type} {y n : Str} {c : α} {r : List (Str × α)} (h : ¬ y = n) : ((n, c) :: r).lookup y = r.lookup y := by
  rw [List.lookup_cons, beq_eq_false_iff_ne.mpr h]

theorem freeCl_step {cells : List (Str × Addr)} {n : Str} {k : NameKind} {cs : List (Str × Addr)} (hs : ∀ y d, cs.lookup y = some d → cells.lookup y = some d) :
    ∀ y d, (if (k == NameKind.free) = true then (match cells.lookup n with | some c => (n, c) :: cs | none => cs) else cs).lookup y = some d → cells.lookup y = some d := by
  intro y d h
  split at h
  · split at h
    · rename_i c hc
      by_cases hy : y = n
      · rw [lookup_cons_eq hy] at h
        rw [hy, hc]; exact h
      · rw [lookup_cons_ne hy] at h
        exact hs y d h
    · exact hs y d h
  · exact hs y d h
theorem freeCl_sub (cells : List (Str × Addr)) : ∀ (names : List (Str × NameKind)) (cs : List (Str × Addr)), (∀ y d, cs.lookup y = some d → cells.lookup y = some d) →
    ∀ y d, (freeCl cells names cs).lookup y = some d → cells.lookup y = some d
  | [], _, hs, y, d, h => hs y d h
  | (n, k) :: r, cs, hs, y, d, h => freeCl_sub cells r _ (freeCl_step hs) y d h
theorem freeCl_has (cells : List (Str × Addr)) {x : Str} {c : Addr} (hc : cells.lookup x = some c) : ∀ (names : List (Str × NameKind)) (cs : List (Str × Addr)), (∀ y d, cs.lookup y = some d → cells.lookup y = some d) →
    ((x, NameKind.free) ∈ names ∨ cs.lookup x = some c) → (freeCl cells names cs).lookup x = some c
  | [], _, _, h => by
    rcases h with h | h
    · cases h
    · exact h
  | (n, k) :: r, cs, hs, h => by
    refine freeCl_has cells hc r _ (freeCl_step hs) ?_
    by_cases hx : (x, NameKind.free) = (n, k)
    · cases hx
      right
      rw [if_pos (by rfl), hc]
      exact lookup_cons_eq rfl
    · rcases h with h | h
      · rcases List.mem_cons.mp h with h | h
        · exact absurd h hx
        · exact .inl h
      · right
        split
        · split
          · rename_i c' hc'
            by_cases hn : x = n
            · rw [lookup_cons_eq hn]
              rw [hn, hc'] at hc
              exact hc
            · rw [lookup_cons_ne hn]; exact h
          · exact h
        · exact h

theorem lookup_relabel (env : Env) (x : Str) : ∀ names : List (Str × NameKind),
    (names.map fun (n, k) => if (k == NameKind.free && env.scope.kind == .function && env.kindOf n == some .cell) then (n, NameKind.cell) else (n, k)).lookup x =
      (names.lookup x).map fun k => if (k == NameKind.free && env.scope.kind == .function && env.kindOf x == some .cell) then NameKind.cell else k
  | [] => rfl
  | (n, k) :: r => by
    have ih := lookup_relabel env x r
    rw [List.map_cons]
    by_cases hx : x = n
    · subst hx
      rw [lookup_cons_eq rfl]
      show List.lookup x ((if (k == NameKind.free && env.scope.kind == .function && env.kindOf x == some .cell) = true then (x, NameKind.cell) else (x, k)) :: _) = some (if (k == NameKind.free && env.scope.kind == .function && env.kindOf x == some .cell) = true then NameKind.cell else k)
      by_cases hc : (k == NameKind.free && env.scope.kind == .function && env.kindOf x == some .cell) = true
      · rw [if_pos hc, if_pos hc]; exact lookup_cons_eq rfl
      · rw [if_neg hc, if_neg hc]; exact lookup_cons_eq rfl
    · rw [lookup_cons_ne hx, ← ih]
      show List.lookup x ((if (k == NameKind.free && env.scope.kind == .function && env.kindOf n == some .cell) = true then (n, NameKind.cell) else (n, k)) :: _) = _
      by_cases hc : (k == NameKind.free && env.scope.kind == .function && env.kindOf n == some .cell) = true
      · rw [if_pos hc]; exact lookup_cons_ne hx
      · rw [if_neg hc]; exact lookup_cons_ne hx
theorem relabel_free {scope : Scope} {env : Env} {x : Str} (h : scope.names.lookup x = some .free) : (relabel scope env).names.lookup x = some .cell ∨ (relabel scope env).names.lookup x = some .free := by
  have e := lookup_relabel env x scope.names
  rw [h] at e
  have e' : (relabel scope env).names.lookup x = some (if (NameKind.free == NameKind.free && env.scope.kind == .function && env.kindOf x == some .cell) = true then NameKind.cell else NameKind.free) := e
  rw [e']
  split
  · exact .inl rfl
  · exact .inr rfl
theorem free_relabel {scope : Scope} {env : Env} {x : Str} (nc : ∀ y ∈ scope.names, y.2 ≠ .cell) (h : (relabel scope env).names.lookup x = some .cell ∨ (relabel scope env).names.lookup x = some .free) : (x, NameKind.free) ∈ scope.names := by
  have e := lookup_relabel env x scope.names
  have e' : (relabel scope env).names.lookup x = _ := e
  cases q : scope.names.lookup x with
  | none =>
    rw [q] at e'
    rw [e'] at h
    rcases h with h | h <;> cases h
  | some k =>
    rw [q] at e'
    have m := PySem.mem_of_lookup q
    cases k with
    | free => exact m
    | cell => exact absurd rfl (nc _ m)
    | _ =>
      rw [e'] at h
      rcases h with h | h <;> cases h

/-! ### the context of a comprehension's block -/
structure CompScope (scope osc : Scope) (cap : List Str) : Prop where
  kind : scope.kind = .function
  nocell : ∀ y ∈ scope.names, y.2 ≠ .cell
  loc : ∀ y ∈ scope.names, y.2 = .local → scope.names.lookup y.1 = some .local
  free : ∀ y ∈ scope.names, y.2 = .free → osc.names.lookup y.1 = some .cell ∨ osc.names.lookup y.1 = some .free
  cap : ∀ x ∈ cap, scope.names.lookup x = some .free

def cxC (X : Cx) (N : List Str) (scope : Scope) (C : Addr) (s : Shared) (H : Hp) (ex : List Addr) : Cx where
  prog := X.prog
  w := X.w
  K := X.K
  mg := X.mg
  base := X.base
  A := X.A
  N := N
  s₀ := s
  H₀ := H
  env := compEnvC scope (freeCl X.env.cells scope.names []) C X.env
  outer := X.stack
  stack := X.stack
  ex := ex
  fn := fun _ => false
  calm := X.calm
  pn := []
  xe := fun _ _ => False

/-- the block's names at its start: its own, and those of the outer names at ix that it captures -/
def st0 (own : List Str) (ix : List Nat) (σ : St) : St := own.map (fun _ => none) ++ ix.map fun i => (σ[i]?).join

theorem closure_of {X : Cx} {pins : List (Addr × Obj)} {σ : St} {H : Hp} {s : Shared} {scope : Scope} {cap : List Str} (I : Inv X pins σ H s) (S : CompScope scope X.env.scope cap) :
    closureFor scope X.env = pure (freeCl X.env.cells scope.names []) :=
  closureFor_cells fun x hx hf => I.ok.has x.1 (S.free x hx hf)

theorem inv_comp {X : Cx} {pins : List (Addr × Obj)} {σ : St} {H : Hp} {s : Shared} {scope : Scope} {own cap : List Str} {ix : List Nat} {fp : List Addr} {h₁ : Heap} {m : Str → Option Value} {tk : Nat}
    (I : Inv X pins σ H s) (S : CompScope scope X.env.scope cap) (hix : ix.map (fun i => X.N[i]?) = cap.map some) (hf : ∀ b ∈ fp, FpOk X pins H b) (hlt : ∀ b ∈ fp, b < s.heap.objs.size)
    (hn : h₁.Ns s.heap.objs.size m) (hk : ∀ b o, s.heap.get? b = some o → h₁.get? b = some o) :
    Inv (cxC X (own ++ cap) scope s.heap.objs.size s H fp) [] (st0 own ix σ) H { s with heap := h₁, toks := tk } := by
  have sub : ∀ y d, (freeCl X.env.cells scope.names []).lookup y = some d → X.env.cells.lookup y = some d := freeCl_sub _ _ _ (fun y d h => by cases h)
  have has : ∀ y c, (y, NameKind.free) ∈ scope.names → X.env.cells.lookup y = some c → (freeCl X.env.cells scope.names []).lookup y = some c := fun y c hy hc => freeCl_has _ hc _ _ (fun y d h => by cases h) (.inl hy)
  have hlen : ix.length = cap.length := by
    have := congrArg List.length hix
    simpa using this
  refine ⟨⟨I.mod, S.kind, I.ok.glob, I.ok.blt, Nat.le_refl _, fun x y c e1 e2 => I.ok.inj x y c (sub _ _ e1) (sub _ _ e2), fun x hx => ?_, fun x c z => (by cases z), I.ok.hd, I.ok.frames, .inl rfl, fun b hb => ⟨Nat.ne_of_lt (hlt b hb), fun x c e => (hf b hb).2.2.2.2.1 x c (sub _ _ e)⟩, I.bs,
      Nat.le_trans I.ok.bsz I.sz, fun b o e hb => ?_, fun b hb z => ?_, I.stack, I.stkFree⟩, rfl, I.bare, Un.kept hk, ⟨m, hn, fun i x v e1 e2 e3 => ?_⟩, fun x c e => ?_, I.hok.fresh (Nat.le_refl _), fun x c e => I.freeC x c (sub _ _ e), fun p hp => absurd (show p ∈ ([] : List (Addr × Obj)) from hp) (by simp), I.hok.kept hk, ?_⟩
  · have m' := free_relabel (env := X.env) S.nocell hx
    obtain ⟨c, hc⟩ := I.ok.has x (S.free _ m' rfl)
    exact ⟨c, has x c m' hc⟩
  · obtain ⟨f0, f1, f2, f3, f4, f5⟩ := hf b hb
    rcases f3 with z | z
    · exact I.ok.noex b o e z
    · exact absurd (Nat.lt_of_lt_of_le (Nat.lt_of_lt_of_le (Heap.lt_size e) I.ok.bsz) z) (Nat.lt_irrefl _)
  · obtain ⟨f0, f1, f2, f3, f4, f5⟩ := hf b hb
    rcases List.mem_cons.mp (I.stkSub b z) with z | z
    · exact f1 z
    · exact f2 z
  · have e1 : (own ++ cap)[i]? = some x := e1
    unfold st0 at e2
    by_cases hi : i < own.length
    · rw [List.getElem?_append_left (by simpa using hi), List.getElem?_map] at e2
      cases q : own[i]? with
      | none => rw [q] at e2; cases e2
      | some y => rw [q] at e2; cases e2
    · rw [List.getElem?_append_right (by simpa using hi)] at e1
      rw [List.getElem?_append_right (by simpa using hi), List.length_map, List.getElem?_map] at e2
      generalize i - own.length = j at e1 e2
      cases q : ix[j]? with
      | none => rw [q] at e2; cases e2
      | some k =>
        rw [q] at e2
        have e2 : (σ[k]?).join = some v := Option.some.inj e2
        have eσ : σ[k]? = some (some v) := by
          cases q2 : σ[k]? with
          | none => rw [q2] at e2; cases e2
          | some o => rw [q2] at e2; exact congrArg some e2
        have eN : X.N[k]? = some x := by
          have := congrArg (fun l => l[j]?) hix
          simp only [List.getElem?_map, q, e1, Option.map_some] at this
          exact Option.some.inj this
        have hfr := S.cap x (List.mem_of_getElem? e1)
        have hmem := PySem.mem_of_lookup hfr
        have hout := S.free _ hmem rfl
        obtain ⟨m0, hn0, hl⟩ := I.loc
        obtain ⟨u, r, l⟩ := hl k x v eN eσ (.inr hout)
        rcases l with ⟨kd, _⟩ | ⟨kd, c, e, z⟩
        · have kd : X.env.scope.names.lookup x = some .local := kd
          rcases hout with ho | ho <;> (have ho : X.env.scope.names.lookup x = _ := ho; rw [kd] at ho; cases ho)
        · exact ⟨u, r, .inr ⟨relabel_free hfr, c, has x c hmem e, z.keeps hk⟩⟩
  · obtain ⟨v, q⟩ := I.cell x c (sub _ _ e)
    exact ⟨v, q.keeps hk⟩
  · show (st0 own ix σ).length = (own ++ cap).length
    unfold st0
    simp [hlen]

/-- behind the block: its namespace at C forgotten -/
theorem inv_back {X : Cx} {pins : List (Addr × Obj)} {σ σ' : St} {H H' : Hp} {s s' : Shared} {scope : Scope} {N : List Str} {fp : List Addr} {h' : Heap}
    (I : Inv X pins σ H s) (hf : ∀ b ∈ fp, FpOk X pins H b) (J : Inv (cxC X N scope s.heap.objs.size s H fp) [] σ' H' s') (hs : Heap.SameBut s.heap.objs.size s'.heap h') : Inv X pins σ H' { s' with heap := h' } := by
  have ne : ∀ b o, s.heap.get? b = some o → b ≠ s.heap.objs.size := fun b o e => Nat.ne_of_lt (Heap.lt_size e)
  have B : Un (frs X.stack) fp H H' s.heap s'.heap := J.base
  refine I.call' (s' := { s' with heap := h' }) (ch := fp) J.os ⟨fun b o e n hb hx => ?_, fun b o e n hb hx => ?_, B.free, fun b o e hx => ?_, B.tups, B.frzs, B.tbls⟩ (fun b ob e => ?_) J.bare fun b hb => ?_
  · exact (hs.2 b (ne b o e)).trans (B.keep b o e n hb hx)
  · obtain ⟨sl, e1⟩ := B.slot b o e n hb hx
    exact ⟨sl, (hs.2 b (ne b o e)).trans e1⟩
  · obtain ⟨o', e1⟩ := B.there b o e hx
    exact ⟨o', (hs.2 b (ne b o e)).trans e1⟩
  · have fr : H' s.heap.objs.size = none := J.free
    refine (J.hok b ob e).stay (fun c w' hc q => (hs.2 c ?_).trans q) (fun _ q => q) fun _ _ q => q
    rintro rfl
    rcases hc with hc | hc
    · rw [← hc, fr] at e; cases e
    · rw [fr] at hc; cases hc
  · obtain ⟨f0, f1, f2, f3, f4, f5⟩ := hf b hb
    exact ⟨f3, f1, f4, f5⟩

/-! ### the tests of a comprehension -/
def PIf (X : Cx) (ifs : List Expr) (t : TT) : Prop :=
  ∀ (pins : List (Addr × Obj)) (s : Shared) (σ : St) (H : Hp) (Q : Bool → Hp → Prop), Inv X pins σ H s → t σ H Q →
    wpAny (model X.prog X.w) X.A (forIn ifs true fun c r => if r = true then do let ok ← isTrue c X.env (eval c X.env); pure (ForInStep.yield ok) else pure (ForInStep.yield r)) (TP X pins σ Q) X.xe s
def tYes : TT := fun _ H Q => Q true H
theorem pif_nil {X : Cx} : PIf X [] tYes := fun _ s σ H Q I h => wpAny_tests_nil ⟨H, I, h⟩
theorem pif_one {X : Cx} {c : Expr} {t : TT} (h : PT X c t) : PIf X [c] t := fun pins s σ H Q I hw => wpAny_tests_one (h pins s σ H Q I hw)

theorem codeAny_compLoop_all {prog : Program} {w : World} {A : Around} {R : Result → Shared → Prop} {s : Shared} {elt target iter : Expr} {ifs : List Expr} {scope : Scope} {pos : Pos} {it acc : Value} {env : Env} (I : Nat → Shared → Prop)
    (turn : ∀ n s, I n s → wpAny (model prog w) A (pyNext it) (fun r s₁ => match r with
      | none => R (.ok .next) s₁
      | some v => wpAny (model prog w) A (letOwnedTupleGo target it v) (fun _ s₁' => wpAny (model prog w) A (assign target env v) (fun _ s₂ =>
          wpAny (model prog w) A (forIn ifs true fun c r => if r = true then do let ok ← isTrue c env (eval c env); pure (ForInStep.yield ok) else pure (ForInStep.yield r)) (fun ok s₃ =>
            if ok = true then wpAny (model prog w) A (eval elt env) (fun x s₄ =>
              wpAny (model prog w) A (call (.builtin "list.append") [acc, x]) (fun _ s₅ => ∃ m, m < n ∧ I m s₅) (notedBy (model prog w) A env fun e s' => R (.error e) s') s₄) (notedBy (model prog w) A env fun e s' => R (.error e) s') s₃
            else ∃ m, m < n ∧ I m s₃) (notedBy (model prog w) A env fun e s' => R (.error e) s') s₂) (notedBy (model prog w) A env fun e s' => R (.error e) s') s₁') (notedBy (model prog w) A env fun e s' => R (.error e) s') s₁) (notedBy (model prog w) A env fun e s' => R (.error e) s') s)
    (n : Nat) (h : I n s) : codeAny (model prog w) A (.compLoop (.ListComp elt [⟨target, iter, ifs, 0⟩] scope pos) 0 it acc env) R s := by
  refine codeAny_loop rfl I (fun n s hI => ?_) n h
  show wpAny _ A ((compTurn (.ListComp elt [⟨target, iter, ifs, 0⟩] scope pos) 0 it acc env).onRaise (fun x => do noteFrame x env; theTreesLotGoes x)) _ _ s
  refine wpAny_noted ?_
  rw [compTurn_list]
  refine wpAny_bind (wpAny_standAt (wpAny_bind (wpAny_mono (turn n s hI) (fun r s₁ h₁ => ?_) fun _ _ h' => h')))
  cases r with
  | none => exact wpAny_pure h₁
  | some v =>
    refine wpAny_bind (wpAny_mono h₁ (fun _ s₁' h₁' => ?_) fun _ _ h' => h')
    refine wpAny_bind (wpAny_mono h₁' (fun _ s₂ h₂ => wpAny_bind (wpAny_mono h₂ (fun ok s₃ h₃ => ?_) fun _ _ h' => h')) fun _ _ h' => h')
    cases ok with
    | false => exact wpAny_pure ⟨rfl, h₃⟩
    | true =>
      exact wpAny_bind (wpAny_bind (wpAny_mono h₃ (fun x s₄ h₄ => wpAny_bind (wpAny_mono h₄ (fun _ s₅ h₅ => wpAny_pure (wpAny_pure ⟨rfl, h₅⟩)) fun _ _ h' => h')) fun _ _ h' => h'))

/-! ### [e for x in it if c] -/
/-- what the walk over J from the heap H1 wants, the list standing at D -/
def CompW (own : List Str) (ix : List Nat) (J : It) (g : TG) (tc : TT) (te : TE) (σ : St) (H1 : Hp) (D : Addr) (Q : VK) : Prop :=
  ∃ W : Nat → Nat → St → List V → Hp → Prop, (∃ m, W 0 m (st0 own ix σ) [] (upd H1 D (.lst []))) ∧ ∀ i m σ' ys H', W i m σ' ys H' → H' D = some (.lst ys) ∧
    ((J.stop i H' ∧ Q (.ref D) H') ∨ (J.go i H' ∧ ys.length < sizeLine ∧ ∀ x H2, J.yld i H' x H2 → g x σ' H2 fun σ3 H3 => tc σ3 H3 fun b H4 =>
      if b = true then te σ3 H4 fun y H5 => H5 D = some (.lst ys) ∧ ∃ m', m' < m ∧ W (i + 1) m' σ3 (ys ++ [y]) (upd H5 D (.lst (ys ++ [y]))) else H4 D = some (.lst ys) ∧ ∃ m', m' < m ∧ W (i + 1) m' σ3 ys H4))
def tComp (own : List Str) (ix : List Nat) (wi : TI) (g : TG) (tc : TT) (te : TE) : TE := fun σ H Q => wi σ H fun J H1 => ∀ D, H1 D = none → CompW own ix J g tc te σ H1 D Q

section
variable {X : Cx} {tg iter elt : Expr} {ifs : List Expr} {scope : Scope} {pos : Pos} {own cap : List Str} {ix : List Nat} {wi : TI} {g : TG} {tc : TT} {te : TE}

/-- the block runs: what holds behind it is RR -/
theorem comp_run {pins : List (Addr × Obj)} {σ : St} {s : Shared} {E : Value → Shared → Prop} {RR : Value → Addr → Result → Shared → Prop} {Q : VK}
    (hc : X.calm = true) (S : CompScope scope X.env.scope cap) (hix : ix.map (fun i => X.N[i]?) = cap.map some)
    (hg : ∀ C s H ex, PG (cxC X (own ++ cap) scope C s H ex) tg g) (ht : ∀ C s H ex, PIf (cxC X (own ++ cap) scope C s H ex) ifs tc) (he : ∀ C s H ex, PE (cxC X (own ++ cap) scope C s H ex) elt te)
    {itv : Value} (h : PIE X pins σ tg (fun J H1 => ∀ D, H1 D = none → CompW own ix J g tc te σ H1 D Q) itv s)
    (hR : ∀ (D C : Addr) (s' : Shared) (H' : Hp) (m : Str → Option Value), s'.heap.Ns C m → FpOk X pins H' C → (∀ h', Heap.SameBut C s'.heap h' → Inv X pins σ H' { s' with heap := h' }) → Q (.ref D) H' → RR (.ref D) C (.ok .next) s') :
    wpAny (model X.prog X.w) X.A (newList []) (fun acc s₃ => wpAny (model X.prog X.w) X.A (newFunctionEnv scope X.env.globals (freeCl X.env.cells scope.names []) [] X.env.qual none .none (some X.env)) (fun cenv s₄ =>
      codeAny (model X.prog X.w) X.A (.compStart (.ListComp elt [⟨tg, iter, ifs, 0⟩] scope pos) 0 itv acc { cenv with scope := relabel scope X.env }) (RR acc cenv.locals) s₄) E s₃) E s := by
  obtain ⟨it, fp, tn, J, H2, rfl, I2, T, st2, f2, q2⟩ := h
  refine wpAny_newObj_type (wpAny_newFunctionEnv S.nocell (by intro y hy; simp at hy) (fun h₁ hns₁ hsb₁ => ?_) S.kind)
  dsimp only at hns₁ hsb₁ ⊢
  have hD : H2 s.heap.objs.size = none := I2.hok.fresh (Nat.le_refl _)
  obtain ⟨W, ⟨m0, w0⟩, turn⟩ := q2 s.heap.objs.size hD
  have I3 : Inv X pins σ (upd H2 s.heap.objs.size (.lst [])) { s with heap := s.heap.push { cls := .type "list", data := .seq ([] : List Value).toArray } } := I2.lnew (t' := s.toks) (its := []) .nil (Nat.zero_le _)
  have ltD : ∀ b ∈ fp, b < s.heap.objs.size := fun b hb => by
    obtain ⟨o, e, _⟩ := T.obj 0 _ st2 b hb
    exact Heap.lt_size e
  have f3 : ∀ b ∈ fp, FpOk X pins (upd H2 s.heap.objs.size (.lst [])) b := fun b hb => ⟨by rw [upd_ne (Nat.ne_of_lt (ltD b hb))]; exact (f2 b hb).1, (f2 b hb).2⟩
  generalize hH : s.heap.push { cls := .type "list", data := .seq ([] : List Value).toArray } = H3 at I3 hns₁ hsb₁ ⊢
  have sz : H3.objs.size = s.heap.objs.size + 1 := by rw [← hH, Heap.size_push]
  have up : ∀ b o, H3.get? b = some o → h₁.get? b = some o := fun b o e => hsb₁.extBut b o (Nat.ne_of_lt (Heap.lt_size e)) (Heap.get?_push_of_some _ e)
  have old : ∀ b o, s.heap.get? b = some o → h₁.get? b = some o := fun b o e => up b o (by rw [← hH]; exact Heap.get?_push_of_some _ e)
  have lt3 : ∀ b ∈ fp, b < ({ s with heap := H3 } : Shared).heap.objs.size := fun b hb => by show b < H3.objs.size; rw [sz]; exact Nat.lt_succ_of_lt (ltD b hb)
  have st4 : tn 0 h₁ := T.keep _ _ _ st2 fun b _ o e => old b o e
  have stat : ∀ {H' : Hp}, (∀ b ∈ fp, H' b = none) → ∀ b ∈ fp, FpOk (cxC X (own ++ cap) scope H3.objs.size { s with heap := H3 } (upd H2 s.heap.objs.size (.lst [])) fp) [] H' b := fun hn b hb =>
    ⟨hn b hb, Nat.ne_of_lt (lt3 b hb), fun z => (List.mem_cons.mp (I3.stkSub b z)).elim (f2 b hb).2.1 (f2 b hb).2.2.1, .inl hb, fun x c e => (f2 b hb).2.2.2.2.1 x c (freeCl_sub _ _ _ (fun y d h => by cases h) _ _ e), fun p hp => absurd (show p ∈ ([] : List (Addr × Obj)) from hp) (by simp)⟩
  have loop : ∀ s₄ : Shared, s₄ = { s with heap := h₁, toks := s.toks + ([] : List (Str × Value)).length } →
      codeAny (model X.prog X.w) X.A (.compLoop (.ListComp elt [⟨tg, iter, ifs, 0⟩] scope pos) 0 (.ref it) (.ref s.heap.objs.size) (compEnvC scope (freeCl X.env.cells scope.names []) H3.objs.size X.env))
        (RR (.ref s.heap.objs.size) H3.objs.size) s₄ := by
    rintro s₄ rfl
    have I4 := inv_comp (own := own) (fp := fp) (tk := s.toks + ([] : List (Str × Value)).length) I3 S hix f3 lt3 hns₁ up
    refine codeAny_compLoop_all (fun n s' => ∃ i σ' ys H', Inv (cxC X (own ++ cap) scope H3.objs.size { s with heap := H3 } (upd H2 s.heap.objs.size (.lst [])) fp) [] σ' H' s' ∧ tn i s'.heap ∧ (∀ b ∈ fp, H' b = none) ∧ W i n σ' ys H') ?_ m0
      ⟨0, _, [], _, I4, st4, fun b hb => (f3 b hb).1, w0⟩
    rintro n s5 ⟨i, σ5, ys, H5, I5, st5, fr5, w5⟩
    obtain ⟨hD5, turn5⟩ := turn i n σ5 ys H5 w5
    rcases turn5 with ⟨stop, q⟩ | ⟨go, hz, step⟩
    · refine thn (T.done (cxC X (own ++ cap) scope H3.objs.size { s with heap := H3 } (upd H2 s.heap.objs.size (.lst [])) fp) rfl rfl rfl hc i [] s5 σ5 H5 _ I5 (stat fr5) st5 stop) fun r s6 hq0 => ?_
      obtain ⟨hr, I6⟩ := hq0
      subst hr
      obtain ⟨m6, hn6, _⟩ := I6.loc
      exact hR _ _ s6 H5 m6 hn6 (I3.fpOk (Nat.le_refl _) I6.free) (fun h' hs => inv_back I3 f3 I6 hs) q
    · refine thn (T.item (cxC X (own ++ cap) scope H3.objs.size { s with heap := H3 } (upd H2 s.heap.objs.size (.lst [])) fp) rfl rfl rfl hc i [] s5 σ5 H5 _ I5 (stat fr5) st5 go) fun r s6 hq0 => ?_
      obtain ⟨u, hr, h6⟩ := hq0
      subst hr
      refine thn h6 fun _ s7 hq0 => ?_
      obtain ⟨x, H7, I7, r7, y7, st7, fr7⟩ := hq0
      have I7' := I7.pinned (stat fr7) (T.obj _ _ st7)
      refine wpAny_mono (hg _ _ _ _ _ s7 σ5 H7 x u _ I7' r7 (step x H7 y7)) (fun _ s8 hq0 => ?_) fun _ _ z => False.elim z
      obtain ⟨σ8, H8, I8, q8⟩ := hq0
      refine wpAny_mono (ht _ _ _ _ _ s8 σ8 H8 _ I8 q8) (fun ok s9 hq0 => ?_) fun _ _ z => False.elim z
      obtain ⟨H9, I9, q9⟩ := hq0
      have again : ∀ {s' : Shared} {σ' : St} {H' : Hp} {ys' : List V} {m' : Nat}, Inv (cxC X (own ++ cap) scope H3.objs.size { s with heap := H3 } (upd H2 s.heap.objs.size (.lst [])) fp) ([] ++ pinsAt fp s7.heap) σ' H' s' → m' < n → W (i + 1) m' σ' ys' H' →
          ∃ m, m < n ∧ ∃ i σ' ys H', Inv (cxC X (own ++ cap) scope H3.objs.size { s with heap := H3 } (upd H2 s.heap.objs.size (.lst [])) fp) [] σ' H' s' ∧ tn i s'.heap ∧ (∀ b ∈ fp, H' b = none) ∧ W i m σ' ys H' := fun {s' σ' H' ys' m'} I' hm w' => by
        refine ⟨m', hm, i + 1, σ', ys', H', I'.unpinned, T.keep _ _ _ st7 fun b hb o e => (I'.pin (b, o) (List.mem_append_right _ (List.mem_append_right _ (mem_pinsAt hb e)))).1, fun b hb => ?_, w'⟩
        obtain ⟨o, e, d⟩ := T.obj _ _ st7 b hb
        exact (I'.pin (b, o) (List.mem_append_right _ (List.mem_append_right _ (mem_pinsAt hb e)))).2.1
      cases ok with
      | false =>
        rw [if_neg Bool.false_ne_true] at q9 ⊢
        obtain ⟨_, m', hm, w'⟩ := q9
        exact again I9 hm w'
      | true =>
        rw [if_pos rfl] at q9 ⊢
        refine wpAny_mono (he _ _ _ _ _ s9 σ8 H9 _ I9 q9) (fun v s10 hq0 => ?_) fun _ _ z => False.elim z
        obtain ⟨y, H10, I10, r10, hD10, m', hm, w'⟩ := hq0
        refine wpAny_mono (mt_append (X := cxC X (own ++ cap) scope H3.objs.size { s with heap := H3 } (upd H2 s.heap.objs.size (.lst [])) fp) _ s10 σ8 H10 (.ref s.heap.objs.size) [y] (.ref s.heap.objs.size) [v] (fun _ H' => H' = upd H10 s.heap.objs.size (.lst (ys ++ [y]))) I10 rfl (.cons r10 .nil) ⟨_, ys, y, rfl, rfl, hD10, hz, rfl⟩)
          (fun _ s11 ⟨_, H11, I11, _, e11⟩ => ?_) fun _ _ z => False.elim z
        subst e11
        exact again I11 hm w'
  exact codeAny_compStart_list (loop _ rfl) (T.self _ 0 _ _ _ st4 (loop _ rfl))

theorem pe_comp {osc : Scope} (hc : X.calm = true) (S' : CompScope scope osc cap) (hix : ix.map (fun i => X.N[i]?) = cap.map some) (hi : PI X tg iter wi)
    (hg : ∀ C s H ex, PG (cxC X (own ++ cap) scope C s H ex) tg g) (ht : ∀ C s H ex, PIf (cxC X (own ++ cap) scope C s H ex) ifs tc) (he : ∀ C s H ex, PE (cxC X (own ++ cap) scope C s H ex) elt te)
    (hs : ∀ x, foldedSetIterable iter X.env x = pure x := by intro _; rfl) (ho : X.env.scope = osc := by rfl) : PE X (.ListComp elt [⟨tg, iter, ifs, 0⟩] scope pos) (tComp own ix wi g tc te) := by
  have S : CompScope scope X.env.scope cap := ho ▸ S'
  intro pins s σ H Q I h
  rw [eval_ListComp]
  refine wpAny_comprehension_free (use := none) rfl hs (closure_of I S) S.kind S.loc (thn (hi pins s σ H _ I h) fun xv s₁ h₁ => thn h₁ fun itv s₂ h₂ => ?_)
  refine comp_run (RR := fun acc C => compPost (model X.prog X.w) X.A X.xe none (EP X pins σ Q) acc C) hc S hix hg ht he h₂ fun D C s' H' m hn _ hI q => ?_
  exact ⟨m, hn, fun h' hs' => ⟨.ref D, H', hI h' hs', rfl, q⟩⟩
/-- name = [e for ..], on one line: the name is stored ahead of the block's end -/
theorem ps_setC {osc : Scope} {i : Nat} {y : Str} {py spos : Pos} (hc : X.calm = true) (hN : X.N.Nodup) (hi' : X.N[i]? = some y) (hy : X.env.scope.names.lookup y = some .local)
    (hsw : swapsWith (.ListComp elt [⟨tg, iter, ifs, 0⟩] scope pos) (some (.Name y py)) spos.line X.env = pure true) (S' : CompScope scope osc cap) (hix : ix.map (fun i => X.N[i]?) = cap.map some) (hi : PI X tg iter wi)
    (hg : ∀ C s H ex, PG (cxC X (own ++ cap) scope C s H ex) tg g) (ht : ∀ C s H ex, PIf (cxC X (own ++ cap) scope C s H ex) ifs tc) (he : ∀ C s H ex, PE (cxC X (own ++ cap) scope C s H ex) elt te)
    (hs : ∀ x, foldedSetIterable iter X.env x = pure x := by intro _; rfl) (ho : X.env.scope = osc := by rfl) : PS X (.Assign [.Name y py] (.ListComp elt [⟨tg, iter, ifs, 0⟩] scope pos) spos) (tAsg (tComp own ix wi g tc te) (gName i)) := by
  have S : CompScope scope X.env.scope cap := ho ▸ S'
  intro pins s σ H D I h
  rw [exec_Assign_Name_used _ _ _ _ hsw]
  refine wpAny_bind (wpAny_standAt (wpAny_bind ?_))
  show wpAny _ X.A (do let _ ← comprehension (.ListComp elt [⟨tg, iter, ifs, 0⟩] scope pos) scope X.env _ (newList []) false (eval iter X.env) (some (assign (.Name y py) X.env))) _ _ s
  refine wpAny_bind (wpAny_mono (wpAny_comprehension_free (use := some (assign (.Name y py) X.env)) (Q := fun _ s' => SP X pins D .next s') rfl hs (closure_of I S) S.kind S.loc
    (thn (hi pins s σ H _ I h) fun xv s₁ h₁ => thn h₁ fun itv s₂ h₂ => ?_)) (fun _ s' hq => wpAny_pure (wpAny_pure hq)) fun _ _ e => e)
  refine comp_run (RR := fun acc C => compPost (model X.prog X.w) X.A X.xe (some (assign (.Name y py) X.env)) (fun _ s' => SP X pins D .next s') acc C) hc S hix hg ht he h₂ fun D' C s' H' m hn hF hI q => ?_
  show wpAny _ X.A (assign (.Name y py) X.env (.ref D')) _ _ _
  have I' : Inv X pins σ H' s' := hI s'.heap (Heap.SameBut.refl ..)
  refine wpAny_assign_Name (store_ok2 I' hN hi' (.inl hy) (v := .ref D') rfl (fun s'' I'' hq0 => ?_) (.inr hy))
  obtain ⟨a, hs'', ha⟩ := hq0
  obtain ⟨f0, f1, f2, f3, f4, f5⟩ := hF
  have hCa : C ≠ a := by
    rcases ha with ha | ha
    · rw [ha]; exact f1
    · exact fun z => f4 _ _ ha z.symm
  exact ⟨m, hn.sameBut hs'' hCa, fun h' hs' => ⟨_, H', I''.turned (t' := s''.toks) (fun b o hb e => (hs'.2 b hb).trans e) f0 f1 f3 f4 f5, q⟩⟩
end

/-! ### walks over values that stay as they are -/
/-- J gives xs one by one and leaves the heap, where P holds -/
structure Fix (J : It) (xs : List V) (P : Hp → Prop) : Prop where
  go : ∀ i H, P H → i < xs.length → J.go i H
  yld : ∀ i H x H', P H → J.yld i H x H' → H' = H ∧ (i < xs.length → xs[i]? = some x)
  stop : ∀ i H, P H → xs.length ≤ i → J.stop i H
theorem fix_list {K : PySem.W.Frag} {a : Addr} {xs : List V} : Fix (Itl K a) xs (fun H => SqL K H a xs) :=
  ⟨fun i H h hi => ⟨xs, xs[i], h, by simp [hi]⟩, fun i H x H' h y => ⟨y.1, fun _ => y.2 xs h⟩, fun i H h hi => ⟨xs, h, hi⟩⟩
theorem fix_rng {lo : Int} {n : Nat} : Fix (Itr lo n) ((List.range n).map fun i => V.int (lo + (i : Nat))) (fun _ => True) :=
  ⟨fun i H h hi => by show i < n; simpa using hi, fun i H x H' h y => ⟨y.1, fun hi => by
    have hi' : i < n := by simpa using hi
    rw [List.getElem?_map, List.getElem?_range hi', y.2]; rfl⟩, fun i H h hi => by show n ≤ i; simpa using hi⟩


/-- a comprehension with one name over such values whose test and element change nothing -/
theorem comp_pure {J : It} {xs : List V} {P : Hp → Prop} {own : List Str} {ix : List Nat} {tc : TT} {te : TE} {σ : St} {H1 : Hp} {D : Addr} {Q : VK} (F : Fix J xs P) (p : V → Bool) (f : V → V)
    (hP : ∀ ys, P (upd H1 D (.lst ys))) (hz : xs.length ≤ sizeLine)
    (ht : ∀ x ∈ xs, ∀ ys (Q' : Bool → Hp → Prop), Q' (p x) (upd H1 D (.lst ys)) → tc ((st0 own ix σ).set 0 (some x)) (upd H1 D (.lst ys)) Q')
    (he : ∀ x ∈ xs, p x = true → ∀ ys (Q' : VK), Q' (f x) (upd H1 D (.lst ys)) → te ((st0 own ix σ).set 0 (some x)) (upd H1 D (.lst ys)) Q')
    (hQ : Q (.ref D) (upd H1 D (.lst ((xs.filter p).map f)))) : CompW own ix J (gName 0) tc te σ H1 D Q := by
  refine ⟨fun i m σ' ys H' => m = xs.length - i ∧ i ≤ xs.length ∧ (∀ z, σ'.set 0 z = (st0 own ix σ).set 0 z) ∧ ys = ((xs.take i).filter p).map f ∧ H' = upd H1 D (.lst ys),
    ⟨xs.length, by simp, Nat.zero_le _, fun _ => rfl, by simp, rfl⟩, ?_⟩
  rintro i m σ' ys H' ⟨rfl, hi, hσ, rfl, rfl⟩
  refine ⟨upd_same, ?_⟩
  by_cases hlt : i < xs.length
  · refine .inr ⟨F.go i _ (hP _) hlt, ?_, fun x H2 y => ?_⟩
    · rw [List.length_map]
      have h1 : ((xs.take i).filter p).length ≤ (xs.take i).length := List.length_filter_le _ _
      rw [List.length_take] at h1
      omega
    · obtain ⟨e, y'⟩ := F.yld i _ x H2 (hP _) y
      subst e
      have hx := y' hlt
      have hm : x ∈ xs := List.mem_of_getElem? hx
      have tk := take_succ_filter p xs i x hx
      show tc (σ'.set 0 (some x)) _ _
      rw [hσ]
      refine ht x hm _ _ ?_
      have σσ : ∀ z, ((st0 own ix σ).set 0 (some x)).set 0 z = (st0 own ix σ).set 0 z := fun z => List.set_set ..
      cases hp : p x with
      | true =>
        rw [if_pos rfl]
        refine he x hm hp _ _ ⟨upd_same, xs.length - (i + 1), by omega, rfl, hlt, σσ, ?_, ?_⟩
        · rw [tk, hp]; simp
        · rw [upd_upd]
      | false =>
        rw [if_neg Bool.false_ne_true]
        refine ⟨upd_same, xs.length - (i + 1), by omega, rfl, hlt, σσ, ?_, ?_⟩
        · rw [tk, hp]; simp
        · rfl
  · have e : i = xs.length := by omega
    subst e
    refine .inl ⟨F.stop _ _ (hP _) (Nat.le_refl _), ?_⟩
    rw [List.take_length]
    exact hQ

/-! ### for c in text -/
def sg (c : Nat) : V := .str ⟨#[c]⟩

/-! ### some of Python's own -/
section
variable {X : Cx}
theorem boolsAre_of : ∀ {bs : List Bool} {us : List Value}, Vals (bs.map V.bl) us → us = bs.map Value.bool
  | [], _, r => by cases r; rfl
  | b :: bs, _, r => by
    cases r with
    | cons r1 r2 => rw [show _ = Value.bool b from r1, boolsAre_of r2]; rfl
theorem all_range (bs : List Bool) : ((List.range bs.length).all fun i => (bs[i]?).getD true) = bs.all id := by
  rw [Bool.eq_iff_iff, List.all_eq_true, List.all_eq_true]
  constructor
  · intro h b hb
    obtain ⟨i, hi, e⟩ := List.mem_iff_getElem.mp hb
    have := h i (List.mem_range.mpr hi)
    rw [List.getElem?_eq_getElem hi, Option.getD_some, e] at this
    exact this
  · intro h i hi
    have hi' := List.mem_range.mp hi
    rw [List.getElem?_eq_getElem hi', Option.getD_some]
    exact h _ (List.getElem_mem hi')
/-- all of a list of bools -/
theorem call_allB (hc : X.calm = true) : CallR X (.builtin "all") (fun xs H Q => ∃ (a : Addr) (bs : List Bool), xs = [V.ref a] ∧ SqL X.K H a (bs.map V.bl) ∧ Q (.bl (bs.all id)) H) := by
  intro pins s σ H xs us Q I r h
  obtain ⟨a, bs, rfl, ha, q⟩ := h
  obtain ⟨u, rfl, ru⟩ := vals1 r
  cases ru
  obtain ⟨its, rv, pl, hz⟩ := I.list ha
  have e : its = bs.map Value.bool := boolsAre_of rv
  subst e
  have hl := pl.isList
  have hlt : a < s.heap.objs.size := by obtain ⟨_, e, _⟩ := hl; exact Heap.lt_size e
  refine call_all_walk (wpAny_pyIter_list hl ?_)
  refine ⟨s.heap.objs.size, [s.heap.objs.size, a], [s.heap.objs.size], (bs.map Value.bool).toArray.size, _, _, fun i => (bs[i]?).getD true, rfl, Walks.list (A := X.A.in1) (I.ok.hd hc) _ a (Nat.ne_of_lt hlt) (bs.map Value.bool).toArray,
    ⟨⟨_, Heap.get?_push_size _ rfl, rfl, rfl⟩, hl.push _⟩, fun i v s' Q' E' hP hQ => ?_, fun h' tk hk => ?_⟩
  · have hP' : (bs.map Value.bool)[i]? = some v := by simpa using hP
    rw [List.getElem?_map] at hP'
    cases e : bs[i]? with
    | none => rw [e] at hP'; cases hP'
    | some b =>
      rw [e] at hP'
      cases hP'
      simp only [e, Option.getD_some] at hQ
      exact wpAny_truthy_bool hQ
  · have e : ((List.range (bs.map Value.bool).toArray.size).all fun i => (bs[i]?).getD true) = bs.all id := by
      rw [List.size_toArray, List.length_map]; exact all_range bs
    rw [e]
    refine ⟨.bl (bs.all id), H, ?_, rfl, q⟩
    exact I.kept fun b o eb => hk b o (fun z => by rw [List.mem_singleton.mp z] at eb; exact absurd (Heap.lt_size eb) (Nat.lt_irrefl _)) (Heap.get?_push_of_some _ eb)
theorem strsAre_of : ∀ {ys : List Str} {us : List Value}, Vals (ys.map V.str) us → StrsAre us ys
  | [], _, r => by cases r; exact .nil
  | y :: ys, _, r => by
    cases r with
    | cons r1 r2 =>
      obtain ⟨t, rfl⟩ := r1
      exact .cons y t (strsAre_of r2)
theorem mt_join : MtR X "str.join" (fun x xs H Q => ∃ (sep : Str) (p : Addr) (ys : List Str), x = V.str sep ∧ xs = [V.ref p] ∧ SqL X.K H p (ys.map V.str) ∧ (ys.map (·.length)).sum + ys.length * sep.length ≤ 16777216 ∧ Q (.str (Txt.join sep ys)) H) := by
  intro pins s σ H x xs v us Q I rx rs h
  obtain ⟨sep, p, ys, rfl, rfl, hp, hz, q⟩ := h
  obtain ⟨t, rfl⟩ := rx
  obtain ⟨u, rfl, ru⟩ := vals1 rs
  cases ru
  obtain ⟨its, rv, pl, _⟩ := I.list hp
  exact PyProof.Rows.join_list pl.isList (by simpa using strsAre_of rv) hz fun t' k => ⟨.str _, H, I.tok _, ⟨_, rfl⟩, q⟩
def rSlS : V → Option Int → Option Int → Hp → VK → Prop := fun x lo hi H Q => ∃ z, x = .str z ∧ z.length ≤ sizeLine ∧ Q (.str (Txt.slice z lo hi)) H
theorem sl_str : SlR X rSlS := by
  intro pins s σ H x v vl vu lo hi sl Q I rx hs pl pu h
  obtain ⟨z, rfl, hz, q⟩ := h
  obtain ⟨t, rfl⟩ := rx
  refine ⟨"str", _, F.slot_str_getitem.lookup, typeIs_str _ _ _, ?_⟩
  have fin : ∀ (t' : Tok) (k : Nat), EP X pins σ Q (.str (Txt.slice z lo hi) t') { s with toks := k } := fun t' k => ⟨.str _, H, I.tok k, ⟨_, rfl⟩, q⟩
  obtain ⟨o, ho, hcl, hd⟩ := hs
  cases pl <;> cases pu
  · exact wpAny_getItem_str_slice (l := none) (u := none) (st := none) ⟨o, ho, hcl, hd⟩ rfl (post_val_or_str ⟨Nat.le_trans (Txt.slice_le z _ _) hz, fin⟩)
  · exact wpAny_getItem_str_slice (l := none) (u := some (_, _)) (st := none) ⟨o, ho, hcl, hd⟩ rfl (post_val_or_str ⟨Nat.le_trans (Txt.slice_le z _ _) hz, fin⟩)
  · exact wpAny_getItem_str_slice (l := some (_, _)) (u := none) (st := none) ⟨o, ho, hcl, hd⟩ rfl (post_val_or_str ⟨Nat.le_trans (Txt.slice_le z _ _) hz, fin⟩)
  · exact wpAny_getItem_str_slice (l := some (_, _)) (u := some (_, _)) (st := none) ⟨o, ho, hcl, hd⟩ rfl (post_val_or_str ⟨Nat.le_trans (Txt.slice_le z _ _) hz, fin⟩)
/-- isinstance(x, T), T one of Python's own -/
theorem call_isi : CallR X (.builtin "isinstance") (fun xs H Q => ∃ x t n b, xs = [x, V.ty n] ∧ TyOf X.K H x t ∧ PySem.W.kitOne X.K t (.type n) = some b ∧ Q (.bl b) H) := by
  intro pins s σ H xs us Q I r h
  obtain ⟨x, t, n, b, rfl, ty, e, q⟩ := h
  obtain ⟨u, w', rfl, ru, rw'⟩ := vals2 r
  cases rw'
  exact isinst_ok I ru ty e fun tk => ⟨.bl b, H, I.tok tk, rfl, q⟩
end
end L2

/-! SHORT WORDS: a def of the text by its name, its promise, a call of it. -/
namespace L2
open PySem PySem.Spec PyProof.Rows
/-! lists of a length that is known: no matcher is laid -/
theorem len1 {Pl : List Value → Prop} (h : ∀ a, Pl [a]) : ∀ us : List Value, us.length = 1 → Pl us
  | [a], _ => h a
theorem len2 {Pl : List Value → Prop} (h : ∀ a b, Pl [a, b]) : ∀ us : List Value, us.length = 2 → Pl us
  | [a, b], _ => h a b
theorem len3 {Pl : List Value → Prop} (h : ∀ a b c, Pl [a, b, c]) : ∀ us : List Value, us.length = 3 → Pl us
  | [a, b, c], _ => h a b c

/-- the def x of the text, as the top has left it -/
def Df (K : PySem.W.Frag) (mg : Str → Option Value) (x : Str) (st : Stmt) (ps : List Str) : Prop :=
  ∃ (f : Addr) (fd : FuncData), Fun K x x st f fd ∧ mg x = some (.ref f) ∧ ∀ us : List Value, us.length = ps.length → bindArgs fd ⟨us, []⟩ = pure (ps.zip us)
theorem df_mk {K : PySem.W.Frag} {h : Heap} {mg : Str → Option Value} (X : K.In h) (G : h.Ns mainGlobals mg) {x : Str} {st : Stmt} {ps : List Str} {f : Addr} {oc kV dc pm cd ct : Value} {od an : Option Addr} {sl : Array (Option Value)}
    (hb : ∀ (kV doc pm : Value) (an : Option Addr) (cdv ct : Value) (us : List Value), us.length = ps.length → bindArgs (PySem.W.fnOf x x (defArgs st) (defBody st) (defScope st) .none kV doc pm an cdv ct) ⟨us, []⟩ = pure (ps.zip us))
    (a : PySem.W.nsIn K mainGlobals x = some (some (.ref f))) (l : K.lookup f = some ⟨oc, od, .func (PySem.W.fnOf x x (defArgs st) (defBody st) (defScope st) .none kV dc pm an cd ct), sl⟩) (c : PySem.W.codeIn K cd x = true) (k : PySem.W.keepIn K (.ref f) = true) : Df K mg x st ps :=
  ⟨f, _, fun_mk l c k, PySem.W.mg_of X G a, fun us hl => hb kV dc pm an cd ct us hl⟩
theorem const_mk {K : PySem.W.Frag} {h : Heap} {mg : Str → Option Value} (X : K.In h) (G : h.Ns mainGlobals mg) {x : Str} {u : Value} (a : PySem.W.nsIn K mainGlobals x = some (some u)) : mg x = some u := PySem.W.mg_of X G a
theorem blt_mk {K : PySem.W.Frag} {h : Heap} {mg : Str → Option Value} (X : K.In h) (G : h.Ns mainGlobals mg) {x : Str} (a : PySem.W.nsIn K mainGlobals x = some none) : mg x = none := PySem.W.mg_none_of X G a
/-- what a def promises -/
def Has (P : Program) (w : World) (K : PySem.W.Frag) (mg : Str → Option Value) (base : Heap) (x : Str) (ps : List Str) (k : Nat) (sp : Sp) : Prop :=
  ∃ (f : Addr) (fd : FuncData), mg x = some (.ref f) ∧ PySem.W.keepIn K (.ref f) = true ∧ (∃ oc od osl, K.lookup f = some ⟨oc, od, .func fd, osl⟩) ∧ (∀ us : List Value, us.length = ps.length → bindArgs fd ⟨us, []⟩ = pure (ps.zip us)) ∧ FnOk P w K mg base CX0 k f fd ps sp
section
variable {P : Program} {w : World} {K : PySem.W.Frag} {mg : Str → Option Value} {base : Heap}
/-- THE RULE: a def keeps its promise, by its body -/
theorem Df.has {x : Str} {st : Stmt} {N ps : List Str} {k : Nat} {sp : Sp} (D : Df K mg x st ps) (S : FnScope N ps (defScope st)) (len : ∀ vs H Q E, sp vs H Q E → vs.length = ps.length)
    (hbody : ∀ (f : Addr) (cdv : Value) (A : Around) (outer : List Env) (s : Shared) (H : Hp) (vs : List V) (Q : VK) (E : XK), Room k (A.deeper (envOfC x (defScope st) s.heap.objs.size f cdv)) → sp vs H Q E →
      ∃ t, PSs (cxOf CX0 P w K mg base N x (defScope st) f cdv A outer s H E).nox (defBody st) t ∧ t { nx := fun _ H' => Q .non H', rt := Q } (start N vs) H) : Has P w K mg base x ps (k + 1) sp := by
  obtain ⟨f, fd, F, a, b⟩ := D
  obtain ⟨oc, od, kV, doc, pm, an, cdv, ct, osl, e, lk, hcd⟩ := id F.ex
  exact ⟨f, fd, a, F.kp, ⟨oc, od, osl, lk⟩, b, F.ok S len (hbody f)⟩
end
section
variable {X : Cx} {k : Nat} {ps : List Str} {sp : Sp} {x : Str} {p pos : Pos} {e : Expr} {es : List Expr} {t : TA}
/-- f(e, ..) of a def that has promised -/
theorem pe_fn (F : Has X.prog X.w X.K X.mg X.base x ps k sp) (hr : Room k X.A) (hg : Gl X x) (ha : PA X (e :: es) t) (hdb : (x == ("__debug__" : Str)) = false := by decide)
    (he : starEach (e :: es) X.env = (false, eval e X.env) :: starEach es X.env := by rfl) (hpl : (backTo pos (starEach es X.env)).any (·.1) = false := by rfl) : PE X (.Call (.Name x p) (e :: es) [] pos) (tCall sp [] E0 t) := by
  obtain ⟨f, fd, a, kp, lk, b, G⟩ := F
  exact pe_call G hr hg a kp (.all b) .nil pass0 ha hdb he hpl
end
/-- THE HEAD of a law of one script of at most 63 ints -/
theorem law_walk {l : PySem.W.OpenLaw} {q : Program} {loose : List Str} {XP : (Str → Option Value) → Heap → Prop} {YP : World → Heap → Prop} {d : DefRec} {K : Params → PySem.W.Frag} {k : Nat} {x : Str} {sp : PySem.W.Frag → Sp}
    (hn : l.most = some 63) (hdf : d.params.defaults = []) (hr : Room k callerA) (hY : ∀ (w : World) (h : Heap), YP w h → (K w.params).In h)
    (hsp : ∀ (K : PySem.W.Frag) (H : Hp) (a : Addr) (ns : List Int), ns.length ≤ 63 → SqL K H a (ns.map V.int) → sp K [.ref a] H (fun v _ => v = .bl true) fun _ _ _ => False)
    (F : ∀ (w : World) (mg : Str → Option Value) (h : Heap), (K w.params).In h → h.Ns mainGlobals mg → ∀ base : Heap, (K w.params).In base → base.Ns mainGlobals mg → Has l.prog w (K w.params) mg base d.name [x] k (sp (K w.params))) :
    PySem.W.WalkO q loose XP YP l.row.toRowW d [] (fun f vs => PySem.call f vs) := by
  refine L2.walk_ofK (n := 63) (k := k) (x := x) (CX := CX0) (sp := sp) hn (by decide) hdf hr hY (fun w mg fa h KX G hmg => ?_) (fun K H a ns hl _ hS => hsp K H a ns hl hS) fun _ _ _ _ z => z
  obtain ⟨f, fd, a, kp, ⟨oc, od, osl, lk⟩, b, _⟩ := F w mg h KX G h KX G
  have ef : fa = f := by
    rw [hmg] at a
    cases a; rfl
  subst ef
  refine ⟨fd, fun s u => .of_eq (b [u] rfl), fun base kb nb => ?_⟩
  obtain ⟨f', fd', a', kp', ⟨oc', od', osl', lk'⟩, b', G'⟩ := F w mg h KX G base kb nb
  have ef : f' = fa := by
    rw [hmg] at a'
    cases a'; rfl
  subst ef
  rw [lk] at lk'
  cases lk'
  exact G'
end L2

/-! == of lists and tuples at any depth; in, not in over such items; sorted of two ints; str of a word. -/
namespace L2
open PySem PySem.Spec PyProof.Rows
/-- x == y comes out as b, at most n levels deep -/
inductive DEq (K : PySem.W.Frag) (H : Hp) : Nat → V → V → Bool → Prop where
  | flat {n : Nat} {x y : V} (fx : flatV x = true) (fy : flatV y = true) : DEq K H n x y (eqV x y)
  | lst {n : Nat} {a b : Addr} {xs ys : List V} (e : Nat → Bool) (hx : SqL K H a xs) (hy : SqL K H b ys) (hl : xs.length = ys.length) (he : ∀ (i : Nat) x y, xs[i]? = some x → ys[i]? = some y → DEq K H n x y (e i)) :
      DEq K H (n + 1) (.ref a) (.ref b) ((List.range xs.length).all e)
  | lstN {n : Nat} {a b : Addr} {xs ys : List V} (hx : SqL K H a xs) (hy : SqL K H b ys) (hl : xs.length ≠ ys.length) : DEq K H (n + 1) (.ref a) (.ref b) false
  | tup {n : Nat} {a b : Addr} {xs ys : List V} (e : Nat → Bool) (hx : SqT K H a xs) (hy : SqT K H b ys) (he : ∀ (i : Nat) x y, xs[i]? = some x → ys[i]? = some y → DEq K H n x y (e i)) :
      DEq K H (n + 1) (.ref a) (.ref b) ((List.range (min xs.length ys.length)).all e && xs.length == ys.length)
  | lt {n : Nat} {a b : Addr} {xs ys : List V} (hx : SqL K H a xs) (hy : SqT K H b ys) : DEq K H (n + 1) (.ref a) (.ref b) false
  | tl {n : Nat} {a b : Addr} {xs ys : List V} (hx : SqT K H a xs) (hy : SqL K H b ys) : DEq K H (n + 1) (.ref a) (.ref b) false
theorem eqV_refl {x : V} (h : flatV x = true) : eqV x x = true := by
  cases x <;> first | rfl | (simp [flatV] at h; done) | (simp [eqV]; done)
section
variable {X : Cx} {pins : List (Addr × Obj)} {σ : St} {H : Hp} {s : Shared}
theorem notBoth (I : Inv X pins σ H s) {a : Addr} {xs ys : List V} (hx : SqL X.K H a xs) (hy : SqT X.K H a ys) : False := by
  obtain ⟨its, _, ⟨o, n, e, c, _, _⟩, _⟩ := I.list hx
  obtain ⟨its', _, ⟨o', e', c', _⟩, _⟩ := I.tuple hy
  rw [e] at e'
  cases e'
  rw [c] at c'
  injection c' with c'
  exact absurd c' (by decide)
theorem DEq.refl (I : Inv X pins σ H s) {n : Nat} {x y : V} {b : Bool} (h : DEq X.K H n x y b) : x = y → b = true := by
  induction h with
  | flat fx fy => intro e; subst e; exact eqV_refl fx
  | lst e hx hy hl he ih =>
    intro q
    cases q
    have := I.list_inj hx hy
    subst this
    rw [List.all_eq_true]
    intro i hi
    have hi := List.mem_range.mp hi
    exact ih i _ _ (List.getElem?_eq_getElem hi) (List.getElem?_eq_getElem hi) rfl
  | lstN hx hy hl =>
    intro q
    cases q
    exact absurd (congrArg List.length (I.list_inj hx hy)) hl
  | tup e hx hy he ih =>
    intro q
    cases q
    have := I.tuple_inj hx hy
    subst this
    rw [Nat.min_self, beq_self_eq_true, Bool.and_true, List.all_eq_true]
    intro i hi
    have hi := List.mem_range.mp hi
    exact ih i _ _ (List.getElem?_eq_getElem hi) (List.getElem?_eq_getElem hi) rfl
  | lt hx hy => intro q; cases q; exact (notBoth I hx hy).elim
  | tl hx hy => intro q; cases q; exact (notBoth I hy hx).elim
theorem in1_units (A : Around) : A.in1.units ≤ A.units + 1 := by
  first
    | exact Nat.le_refl _
    | exact Nat.le_succ _
    | (unfold Around.in1; simp)
/-- of the objects themselves; as an item -/
theorem DEq.at (I : Inv X pins σ H s) {n : Nat} {x y : V} {b : Bool} (h : DEq X.K H n x y b) : ∀ {u v : Value} {A : Around}, RelV x u → RelV y v → A.units + n < cLine →
    SeqAt.EqAt A s u v b ∧ ((∃ p q, x = .ref p ∧ y = .ref q) → SeqAt.RcAt A s u v b) := by
  induction h with
  | flat fx fy =>
    intro u v A ru rv hu
    refine ⟨eqAt_V ru rv fx fy, fun hq0 => ?_⟩
    obtain ⟨p, q, e, _⟩ := hq0
    subst e
    cases fx
  | @lst n a b xs ys e hx hy hl he ih =>
    intro u v A ru rv hu
    cases ru
    cases rv
    obtain ⟨its, r1, p1, _⟩ := I.list hx
    obtain ⟨its2, r2, p2, _⟩ := I.list hy
    have l1 := r1.length
    have l2 := r2.length
    have h1 := in1_units A
    have rc : SeqAt.RcAt A s (.ref a) (.ref b) ((List.range xs.length).all e) := by
      have := SeqAt.RcAt.lists (A := A) (e := e) p1.isList p2.isList (by simp; omega) (by omega) (fun j j1 j2 => by
        have g1 : xs[j]? = some (xs[j]'(by simp at j1; omega)) := List.getElem?_eq_getElem _
        have g2 : ys[j]? = some (ys[j]'(by simp at j2; omega)) := List.getElem?_eq_getElem _
        obtain ⟨w1, q1, t1⟩ := r1.get g1
        obtain ⟨w2, q2, t2⟩ := r2.get g2
        have := (ih j _ _ g1 g2 t1 t2 (A := A.in1) (by omega)).1
        have z1 : its.toArray[j] = w1 := by
          have := List.getElem?_eq_some_iff.mp q1
          obtain ⟨_, z⟩ := this
          simpa using z
        have z2 : its2.toArray[j] = w2 := by
          have := List.getElem?_eq_some_iff.mp q2
          obtain ⟨_, z⟩ := this
          simpa using z
        rw [z1, z2]
        exact this)
      have es : its.toArray.size = xs.length := by simp; omega
      rw [es] at this
      exact this
    refine ⟨?_, fun _ => rc⟩
    by_cases hab : a = b
    · subst hab
      have := (DEq.lst e hx hy hl he).refl I rfl
      rw [this]
      exact .same _
    · exact .of_refs hab rc
  | @lstN n a b xs ys hx hy hl =>
    intro u v A ru rv hu
    cases ru
    cases rv
    obtain ⟨its, r1, p1, _⟩ := I.list hx
    obtain ⟨its2, r2, p2, _⟩ := I.list hy
    have l1 := r1.length
    have l2 := r2.length
    have rc : SeqAt.RcAt A s (.ref a) (.ref b) false := SeqAt.RcAt.lists_lengths p1.isList p2.isList (by simp; omega) (by omega)
    refine ⟨?_, fun _ => rc⟩
    by_cases hab : a = b
    · subst hab
      exact absurd (congrArg List.length (I.list_inj hx hy)) hl
    · exact .of_refs hab rc
  | @tup n a b xs ys e hx hy he ih =>
    intro u v A ru rv hu
    cases ru
    cases rv
    obtain ⟨its, r1, p1, _⟩ := I.tuple hx
    obtain ⟨its2, r2, p2, _⟩ := I.tuple hy
    have l1 := r1.length
    have l2 := r2.length
    have h1 := in1_units A
    have rc : SeqAt.RcAt A s (.ref a) (.ref b) ((List.range (min xs.length ys.length)).all e && xs.length == ys.length) := by
      have := SeqAt.RcAt.tuples (A := A) (e := e) (show s.heap.IsTuple a its.toArray from p1) (show s.heap.IsTuple b its2.toArray from p2) (by omega) (fun j j1 j2 => by
        have g1 : xs[j]? = some (xs[j]'(by simp at j1; omega)) := List.getElem?_eq_getElem _
        have g2 : ys[j]? = some (ys[j]'(by simp at j2; omega)) := List.getElem?_eq_getElem _
        obtain ⟨w1, q1, t1⟩ := r1.get g1
        obtain ⟨w2, q2, t2⟩ := r2.get g2
        have := (ih j _ _ g1 g2 t1 t2 (A := A.in1) (by omega)).1
        have z1 : its.toArray[j] = w1 := by
          have := List.getElem?_eq_some_iff.mp q1
          obtain ⟨_, z⟩ := this
          simpa using z
        have z2 : its2.toArray[j] = w2 := by
          have := List.getElem?_eq_some_iff.mp q2
          obtain ⟨_, z⟩ := this
          simpa using z
        rw [z1, z2]
        exact this)
      have es : its.toArray.size = xs.length := by simp; omega
      have es2 : its2.toArray.size = ys.length := by simp; omega
      rw [es, es2] at this
      exact this
    refine ⟨?_, fun _ => rc⟩
    by_cases hab : a = b
    · subst hab
      have := (DEq.tup e hx hy he).refl I rfl
      rw [this]
      exact .same _
    · exact .of_refs hab rc
  | @lt n a b xs ys hx hy =>
    intro u v A ru rv hu
    cases ru
    cases rv
    obtain ⟨its, r1, p1, _⟩ := I.list hx
    obtain ⟨its2, r2, p2, _⟩ := I.tuple hy
    exact ⟨SeqAt.EqAt.list_tuple p1.isList (show s.heap.IsTuple b its2.toArray from p2) (by omega), fun _ => SeqAt.RcAt.list_tuple p1.isList (show s.heap.IsTuple b its2.toArray from p2) (by omega)⟩
  | @tl n a b xs ys hx hy =>
    intro u v A ru rv hu
    cases ru
    cases rv
    obtain ⟨its, r1, p1, _⟩ := I.tuple hx
    obtain ⟨its2, r2, p2, _⟩ := I.list hy
    exact ⟨SeqAt.EqAt.tuple_list (show s.heap.IsTuple a its.toArray from p1) p2.isList (by omega), fun _ => SeqAt.RcAt.tuple_list (show s.heap.IsTuple a its.toArray from p1) p2.isList (by omega)⟩
end
section
variable {X : Cx} {pins : List (Addr × Obj)} {σ : St} {H : Hp} {s : Shared}
theorem items_at (I : Inv X pins σ H s) {n : Nat} {xs ys : List V} {its its2 : List Value} {e : Nat → Bool} (r1 : Vals xs its) (r2 : Vals ys its2) (he : ∀ (i : Nat) x y, xs[i]? = some x → ys[i]? = some y → DEq X.K H n x y (e i)) {A : Around} (hu : A.units + n < cLine) :
    ∀ (j : Nat) (h1 : j < its.toArray.size) (h2 : j < its2.toArray.size), SeqAt.EqAt A s its.toArray[j] its2.toArray[j] (e j) := fun j j1 j2 => by
  have l1 := r1.length
  have l2 := r2.length
  have g1 : xs[j]? = some (xs[j]'(by simp at j1; omega)) := List.getElem?_eq_getElem _
  have g2 : ys[j]? = some (ys[j]'(by simp at j2; omega)) := List.getElem?_eq_getElem _
  obtain ⟨w1, q1, t1⟩ := r1.get g1
  obtain ⟨w2, q2, t2⟩ := r2.get g2
  have := ((he j _ _ g1 g2).at I t1 t2 (A := A) hu).1
  have z1 : its.toArray[j] = w1 := by
    obtain ⟨_, z⟩ := List.getElem?_eq_some_iff.mp q1
    simpa using z
  have z2 : its2.toArray[j] = w2 := by
    obtain ⟨_, z⟩ := List.getElem?_eq_some_iff.mp q2
    simpa using z
  rw [z1, z2]
  exact this
theorem DEq.ne (I : Inv X pins σ H s) {n : Nat} {p q : Addr} {b : Bool} (h : DEq X.K H n (.ref p) (.ref q) b) {A : Around} (hu : A.units + n < cLine) : SeqAt.RcNeAt A s (.ref p) (.ref q) (!b) := by
  have h1 := in1_units A
  cases h with
  | flat fx fy => cases fx
  | lst e hx hy hl he =>
    obtain ⟨its, r1, p1, _⟩ := I.list hx
    obtain ⟨its2, r2, p2, _⟩ := I.list hy
    have l1 := r1.length
    have l2 := r2.length
    have := SeqAt.RcNeAt.lists (A := A) (e := e) p1.isList p2.isList (by simp; omega) (by omega) (items_at I r1 r2 he (A := A.in1) (by omega))
    rw [List.size_toArray, ← l1] at this
    exact this
  | lstN hx hy hl =>
    obtain ⟨its, r1, p1, _⟩ := I.list hx
    obtain ⟨its2, r2, p2, _⟩ := I.list hy
    have l1 := r1.length
    have l2 := r2.length
    exact SeqAt.RcNeAt.lists_lengths p1.isList p2.isList (by simp; omega) (by omega)
  | tup e hx hy he =>
    obtain ⟨its, r1, p1, _⟩ := I.tuple hx
    obtain ⟨its2, r2, p2, _⟩ := I.tuple hy
    have l1 := r1.length
    have l2 := r2.length
    have := SeqAt.RcNeAt.tuples (A := A) (e := e) (show s.heap.IsTuple p its.toArray from p1) (show s.heap.IsTuple q its2.toArray from p2) (by omega) (items_at I r1 r2 he (A := A.in1) (by omega))
    rw [List.size_toArray, List.size_toArray, ← l1, ← l2] at this
    exact this
  | lt hx hy =>
    obtain ⟨its, r1, p1, _⟩ := I.list hx
    obtain ⟨its2, r2, p2, _⟩ := I.tuple hy
    exact SeqAt.RcNeAt.list_tuple p1.isList (show s.heap.IsTuple q its2.toArray from p2) (by omega)
  | tl hx hy =>
    obtain ⟨its, r1, p1, _⟩ := I.tuple hx
    obtain ⟨its2, r2, p2, _⟩ := I.list hy
    exact SeqAt.RcNeAt.tuple_list (show s.heap.IsTuple p its.toArray from p1) p2.isList (by omega)
end
section
variable {X : Cx}
/-- == of two lists or tuples -/
def rEqD (K : PySem.W.Frag) : R2 := fun x y H Q => ∃ p q b, x = .ref p ∧ y = .ref q ∧ DEq K H 8 x y b ∧ Q (.bl b) H
theorem op_eqD (hu : X.A.units + 9 < cLine) : OpR X (compareOp .Eq) (rEqD X.K) := by
  intro pins s σ H x y v u Q I rx ry h
  obtain ⟨p, q, b, rfl, rfl, d, hq⟩ := h
  exact (d.at I rx ry (A := X.A) (by omega)).2 ⟨p, q, rfl, rfl⟩ X.prog X.w _ _ ⟨.bl b, H, I, rfl, hq⟩
def rNeD (K : PySem.W.Frag) : R2 := fun x y H Q => ∃ p q b, x = .ref p ∧ y = .ref q ∧ DEq K H 8 x y b ∧ Q (.bl (!b)) H
theorem op_neD (hu : X.A.units + 9 < cLine) : OpR X (compareOp .NotEq) (rNeD X.K) := by
  intro pins s σ H x y v u Q I rx ry h
  obtain ⟨p, q, b, rfl, rfl, d, hq⟩ := h
  cases rx
  cases ry
  exact d.ne I (A := X.A) (by omega) X.prog X.w _ _ ⟨.bl (!b), H, I, rfl, hq⟩
/-- x in a list (or tuple) whose items may be lists and tuples -/
def rInD (K : PySem.W.Frag) (neg : Bool) : R2 := fun x y H Q => ∃ (p : Addr) (xs : List V) (e : V → Bool), y = .ref p ∧ (SqL K H p xs ∨ SqT K H p xs) ∧ (∀ z ∈ xs, DEq K H 8 z x (e z)) ∧ Q (.bl (if neg then !xs.any e else xs.any e)) H
theorem valsMem : ∀ {xs : List V} {us : List Value} {u : Value}, Vals xs us → u ∈ us → ∃ x ∈ xs, RelV x u
  | _, _, _, .cons r t, h => by
    rcases List.mem_cons.mp h with h | h
    · subst h; exact ⟨_, List.mem_cons_self .., r⟩
    · obtain ⟨x, hx, q⟩ := valsMem t h
      exact ⟨x, List.mem_cons_of_mem _ hx, q⟩
def absE (e : V → Bool) (u : Value) : Bool := match absV u with
  | some x => e x
  | none => false
theorem absE_of {e : V → Bool} {x : V} {u : Value} (r : RelV x u) : absE e u = e x := by unfold absE; rw [r.abs]
theorem any_abs {e : V → Bool} : ∀ {xs : List V} {us : List Value}, Vals xs us → us.any (absE e) = xs.any e
  | _, _, .nil => rfl
  | _, _, .cons r t => by rw [List.any_cons, List.any_cons, absE_of r, any_abs t]
theorem op_notInD (hu : X.A.units + 10 < cLine) : OpR X (compareOp .NotIn) (rInD X.K true) := by
  intro pins s σ H x y v u Q I rx ry h
  obtain ⟨p, xs, e, rfl, hq, hd, q⟩ := h
  cases ry
  have h1 := in1_units X.A
  have items : ∀ {its : List Value}, Vals xs its → ∀ z, z ∈ its.toArray → SeqAt.EqAt X.A.in1 s z v (absE e z) := fun {its} r z hz => by
    obtain ⟨x', hx', rz⟩ := valsMem r (by simpa using hz)
    rw [absE_of rz]
    exact ((hd x' hx').at I rz rx (A := X.A.in1) (by omega)).1
  rcases hq with hq | hq
  · obtain ⟨its, r, pl, hz⟩ := I.list hq
    refine SeqAt.notIn_listAt (absE e) pl.isList (items r) ⟨.bl _, H, I, rfl, ?_⟩
    rw [show its.toArray.any (absE e) = its.any (absE e) by simp, any_abs r]
    exact q
  · obtain ⟨its, r, pl, hz⟩ := I.tuple hq
    refine SeqAt.notIn_tupleAt (absE e) pl (items r) ⟨.bl _, H, I, rfl, ?_⟩
    rw [show its.toArray.any (absE e) = its.any (absE e) by simp, any_abs r]
    exact q
end
end L2
namespace L2
open PySem PySem.Spec PyProof.Rows
/-! ### words, rows, sorted, comprehensions whose elements make things -/
def Wd (v : V) : Prop := (∃ x, v = .str x ∧ x.length ≤ 100) ∨ ∃ i : Int, v = .int i ∧ i.natAbs < 10 ^ 60
theorem Wd.flat {v : V} (h : Wd v) : flatV v = true := by
  rcases h with ⟨x, rfl, _⟩ | ⟨i, rfl, _⟩ <;> rfl
section
variable {X : Cx}
end
/-- two flat tuples -/
def eqL (xs ys : List V) : Bool := (List.range (min xs.length ys.length)).all (fun i => match xs[i]?, ys[i]? with | some x, some y => eqV x y | _, _ => true) && xs.length == ys.length
theorem DEq.flatT {K : PySem.W.Frag} {H : Hp} {n : Nat} {a b : Addr} {xs ys : List V} (hx : SqT K H a xs) (hy : SqT K H b ys) (fx : ∀ x ∈ xs, flatV x = true) (fy : ∀ x ∈ ys, flatV x = true) : DEq K H (n + 1) (.ref a) (.ref b) (eqL xs ys) := by
  refine DEq.tup _ hx hy fun i x y e1 e2 => ?_
  rw [e1, e2]
  exact DEq.flat (fx x (List.mem_of_getElem? e1)) (fy y (List.mem_of_getElem? e2))
theorem eqL_refl {xs : List V} (h : ∀ x ∈ xs, flatV x = true) : eqL xs xs = true := by
  unfold eqL
  rw [beq_self_eq_true, Bool.and_true, List.all_eq_true]
  intro i hi
  rw [Nat.min_self] at hi
  have hi := List.mem_range.mp hi
  rw [List.getElem?_eq_getElem hi]
  exact eqV_refl (h _ (List.getElem_mem hi))
/-- the same list, the same tuple, by contents -/
theorem DEq.sameL {K : PySem.W.Frag} {H : Hp} {n : Nat} {a b : Addr} {xs : List V} (hx : SqL K H a xs) (hy : SqL K H b xs) (h : ∀ x ∈ xs, DEq K H n x x true) : DEq K H (n + 1) (.ref a) (.ref b) true := by
  have := DEq.lst (n := n) (fun _ => true) hx hy rfl fun i x y e1 e2 => by
    rw [e1] at e2; cases e2
    exact h x (List.mem_of_getElem? e1)
  rw [show (List.range xs.length).all (fun _ => true) = true from List.all_eq_true.mpr fun _ _ => rfl] at this
  exact this
theorem DEq.sameT {K : PySem.W.Frag} {H : Hp} {n : Nat} {a b : Addr} {xs ys : List V} (hx : SqT K H a xs) (hy : SqT K H b ys) (hl : xs.length = ys.length) (h : ∀ (i : Nat) x y, xs[i]? = some x → ys[i]? = some y → DEq K H n x y true) : DEq K H (n + 1) (.ref a) (.ref b) true := by
  have := DEq.tup (n := n) (fun _ => true) hx hy h
  rw [show (List.range (min xs.length ys.length)).all (fun _ => true) = true from List.all_eq_true.mpr fun _ _ => rfl, hl, beq_self_eq_true] at this
  exact this
theorem Same.tup {K : PySem.W.Frag} {H H' : Hp} {a : Addr} {xs : List V} (e : Same H H') (h : SqT K H a xs) : SqT K H' a xs := by
  rcases h with (h | ⟨o, h⟩) | h
  · exact .inl (.inl (e _ _ h))
  · exact .inl (.inr ⟨o, e _ _ h⟩)
  · exact .inr h
theorem Same.new {H : Hp} {D : Addr} {o : HO} (h : H D = none) : Same H (upd H D o) := fun b u e => by rw [upd_ne (ne_of_none e h)]; exact e
/-- what is tracked stays, but at D, which was not -/
theorem Same.upd {H H' : Hp} {D : Addr} {o : HO} (e : Same H H') (h : H D = none) : Same H (upd H' D o) := fun b u q => by
  rw [upd_ne (ne_of_none q h)]; exact e b u q
end L2

/-! The rules that lean on the written part, with that part given: within a comprehension's block nothing else fits. -/
namespace L2
open PySem PySem.Spec PyProof.Rows
section
variable {X : Cx} (K : PySem.W.Frag) (h : X.K = K)
include h
theorem ix_listK : IxR X (rIxL K) := h ▸ ix_list
theorem ix_tupK : IxR X (rIxT K) := h ▸ ix_tup
theorem sl_listK : SlR X (rSlL K) := h ▸ sl_list
theorem op_in_seqK : OpR X (compareOp .In) (rIn K false) := h ▸ op_in_seq
theorem op_eqDK (hu : X.A.units + 9 < cLine) : OpR X (compareOp .Eq) (rEqD K) := h ▸ op_eqD hu
theorem op_neDK (hu : X.A.units + 9 < cLine) : OpR X (compareOp .NotEq) (rNeD K) := h ▸ op_neD hu
theorem op_notInDK (hu : X.A.units + 10 < cLine) : OpR X (compareOp .NotIn) (rInD K true) := h ▸ op_notInD hu
theorem call_len_seqK : CallR X (.builtin "len") (fun xs H Q => ∃ p ys, xs = [.ref p] ∧ (SqL K H p ys ∨ SqT K H p ys) ∧ Q (.int ys.length) H) := h ▸ call_len_seq
theorem call_list_ofK : CallR X (.type "list") (fun xs H Q => ∃ p ys, xs = [.ref p] ∧ (SqL K H p ys ∨ SqT K H p ys) ∧ ∀ l, H l = none → Q (.ref l) (upd H l (.lst ys))) := h ▸ call_list_of
theorem call_isiK : CallR X (.builtin "isinstance") (fun xs H Q => ∃ x t n b, xs = [x, V.ty n] ∧ TyOf K H x t ∧ PySem.W.kitOne K t (.type n) = some b ∧ Q (.bl b) H) := h ▸ call_isi
theorem call_allBK (hc : X.calm = true) : CallR X (.builtin "all") (fun xs H Q => ∃ (a : Addr) (bs : List Bool), xs = [V.ref a] ∧ SqL K H a (bs.map V.bl) ∧ Q (.bl (bs.all id)) H) := h ▸ call_allB hc
theorem mt_joinK : MtR X "str.join" (fun x xs H Q => ∃ (sep : Str) (p : Addr) (ys : List Str), x = V.str sep ∧ xs = [V.ref p] ∧ SqL K H p (ys.map V.str) ∧ (ys.map (·.length)).sum + ys.length * sep.length ≤ 16777216 ∧ Q (.str (Txt.join sep ys)) H) := h ▸ mt_join
variable {o e : Expr} {es : List Expr} {to : TE} {t : TA} {name : Str} {apos cpos : Pos} {T id : String} {r : V → List V → Hp → VK → Prop}
theorem pe_bm0K (pa : PlainAttrs T) (slot : Slot T name id) (hty : typeOf (.builtin id) = pure (.type "method_descriptor")) (hm : MtR X id r) (ho : PE X o to)
    (hbase : attributeBase o name X.env (eval o X.env) = eval o X.env := by rfl) (hline : (apos.endLine == cpos.line) = true := by rfl) : PE X (.Call (.Attribute o name apos) [] [] cpos) (tBM0 K T r to) := h ▸ pe_bm0 pa slot hty hm ho hbase hline
theorem pe_bmK (pa : PlainAttrs T) (slot : Slot T name id) (hty : typeOf (.builtin id) = pure (.type "method_descriptor")) (hm : MtR X id r) (ho : PE X o to) (ha : PA X (e :: es) t)
    (hbase : attributeBase o name X.env (eval o X.env) = eval o X.env := by rfl)
    (hfew : ((backTo cpos (starEach (e :: es) X.env)).all (fun x => !x.1) && (backToKw cpos (keywordEach [] X.env)).all (fun x => x.1.isSome)
      && decide ((e :: es).length + ([] : List Keyword).length + (if ([] : List Keyword).isEmpty then 0 else 1) < 30)) = true := by rfl)
    (hline : (apos.endLine == cpos.line) = true := by rfl) (hs : starEach (e :: es) X.env = (false, eval e X.env) :: starEach es X.env := by rfl) (hplain : (backTo cpos (starEach es X.env)).any (·.1) = false := by rfl) :
    PE X (.Call (.Attribute o name apos) (e :: es) [] cpos) (tBM K T r to t) := h ▸ pe_bm pa slot hty hm ho ha hbase hfew hline hs hplain
end
section
variable {X : Cx} {tg : Expr} (K : PySem.W.Frag) (h : X.K = K)
include h
theorem pi_listK {l : Expr} {tl : TE} (hl : PE X l tl) : PI X tg l (iList K tl) := h ▸ pi_list hl
theorem pg_tupK {es : List Expr} {k : Nat} {t : TGs} {n : Nat} {pos : Pos} (hc : X.calm = true) (h' : PGs X es t)
    (hn : (assignEach es X.env).length = n := by rfl) (hst : (assignEach es X.env).findIdx? (·.1) = none := by rfl) : PG X (.Tuple es k pos) (gTup K n t) := h ▸ pg_tup hc h' hn hst
end
theorem hu10 {A : Around} {k : Nat} (hr : Room k A) : A.units + 9 < cLine := Nat.lt_of_le_of_lt (Nat.add_le_add_left (by decide : 9 ≤ 64) _) hr.units
theorem hu11 {A : Around} {k : Nat} (hr : Room k A) : A.units + 10 < cLine := Nat.lt_of_le_of_lt (Nat.add_le_add_left (by decide : 10 ≤ 64) _) hr.units
end L2

/-! Short ways: a test whose two ways are gone once; lists compared with the empty list; what a slice is. -/
namespace L2
open PySem PySem.Spec PyProof.Rows
theorem ifS_same {c : TT} {t u : TS} {D : Ends} {σ : St} {H : Hp} (b : Bool) (ht : ∀ Q' : Bool → Hp → Prop, (∀ H', Same H H' → Q' b H') → c σ H Q') (hs : ∀ H', Same H H' → if b = true then t D σ H' else u D σ H') : tIfS c t u D σ H := ht _ hs
theorem ifS_at {c : TT} {t u : TS} {D : Ends} {σ : St} {H : Hp} (b : Bool) (ht : ∀ Q' : Bool → Hp → Prop, Q' b H → c σ H Q') (hs : if b = true then t D σ H else u D σ H) : tIfS c t u D σ H := ht _ hs
theorem DEq.nilL {K : PySem.W.Frag} {H : Hp} {n : Nat} {a b : Addr} {xs : List V} (hx : SqL K H a xs) (hy : SqL K H b []) : DEq K H (n + 1) (.ref a) (.ref b) (decide (xs = [])) := by
  by_cases h : xs = []
  · subst h
    exact DEq.lst (fun _ => true) hx hy rfl fun i x y e _ => by simp at e
  · rw [decide_eq_false h]
    exact DEq.lstN hx hy fun z => h (List.length_eq_zero_iff.mp z)
theorem atI_0 {α : Type} {x : α} {xs : List α} : atI (x :: xs) 0 = some x := by
  have := atI_nat (xs := x :: xs) (j := 0) (v := x) rfl
  exact this
theorem le_line {n : Nat} (h : n ≤ 1000) : n ≤ sizeLine := Nat.le_of_lt (small1000 h)
end L2

/-! split; enumerate and zip, walked. -/
namespace L2
open PySem PySem.Spec PyProof.Rows
open Builtin Builtin.Str
section
variable {X : Cx}
end
end L2
namespace L2
open PySem PySem.Spec PyProof.Rows
section
variable {X : Cx} {pins : List (Addr × Obj)} {σ : St} {H : Hp} {s : Shared} {h' : Heap}
/-- some untracked records of ours have turned -/
theorem Inv.turnedL {t' : Nat} {ch : List Addr} (I : Inv X pins σ H s) (k : ∀ b o, b ∉ ch → s.heap.get? b = some o → h'.get? b = some o) (hf : ∀ b ∈ ch, FpOk X pins H b) : Inv X pins σ H { s with heap := h', toks := t' } := by
  have nit : ∀ b u, H b = some u → b ∉ ch := fun b u e z => by rw [(hf b z).1] at e; cases e
  refine I.step (g' := s.gens) (d' := s.drawn) (ch := ch) (fun b hb => ⟨(hf b hb).2.2.2.1, (hf b hb).2.1, (hf b hb).2.2.2.2.1, (hf b hb).2.2.2.2.2⟩) (fun b o _ _ hc e _ => k b o hc e) (fun b o _ _ hc e _ => ⟨o.slots, k b o hc e⟩) (fun _ _ _ _ n => n)
    (fun b o hc e => ⟨o, k b o hc e⟩) (fun _ _ e => e) (fun _ _ _ e => e) (fun b ps e => ⟨#[], by rw [e]; simp⟩) (fun m hm => ?_) (fun b u e => ?_) I.bare
  · obtain ⟨o, es, ep, ho, r⟩ := hm
    exact ⟨o, es, ep, k _ o (fun z => (hf _ z).2.1 rfl) ho, r⟩
  · refine (I.hok b u e).stay (fun c v hc q => k c v ?_ q) (fun _ q => q) fun _ _ q => q
    rcases hc with z | z
    · rw [z]; exact nit b u e
    · exact nit c _ z
end
/-! ### enumerate -/
end L2


/-! zip of two sequences, each a list or a tuple. -/
namespace L2
open PySem PySem.Spec PyProof.Rows
section
variable {prog : Program} {w : World} {A : Around} {E : Value → Shared → Prop} {s : Shared}
end
end L2
namespace L2
open PySem PySem.Spec PyProof.Rows
section
variable {prog : Program} {w : World} {A : Around} {E : Value → Shared → Prop} {s : Shared} {z TI TO i1 i2 l1 l2 : Addr} {k1 k2 : Nat} {xs ys : Array Value} {x y a b : Value} {t1 t2 : Bool}
end
end L2


/-! zip and enumerate as what a loop or a comprehension walks. -/
namespace L2
open PySem PySem.Spec PyProof.Rows
section
variable {prog : Program} {w : World} {A : Around} {E : Value → Shared → Prop} {s : Shared} {z TI TO i1 i2 l1 l2 : Addr} {k1 k2 : Nat} {xs ys : Array Value} {x y a b : Value} {t1 t2 : Bool}
end
section
variable {X : Cx} {pins : List (Addr × Obj)} {σ : St} {H : Hp} {s : Shared} {a : Addr} {xs ys : List V}
end
end L2

/-! zip(..) and enumerate(.., start = n) made. -/
namespace L2
open PySem PySem.Spec PyProof.Rows
open Sem (wp)
section
variable {prog : Program} {w : World} {A : Around} {E : Value → Shared → Prop} {s : Shared}
end
/-! ### zip in a loop's head -/
section
variable {X : Cx}
end
/-! ### enumerate(.., start = n) -/
section
variable {prog : Program} {w : World} {A : Around} {E : Value → Shared → Prop} {s : Shared}
end
section
variable {X : Cx}
end
end L2

/-! a dict's keys, whatever they are, walked; list of a dict, of its values. -/
namespace L2
open PySem PySem.Spec PyProof.Rows
open Sem (wp)
/-- a dict by its very entries -/
def RawD (h : Heap) (d : Addr) (es : Array DictEntry) (ep : Nat) : Prop := ∃ o, h.get? d = some o ∧ o.ExactDict ∧ o.data = .dict es ep
theorem RawD.at {h h' : Heap} {d : Addr} {es : Array DictEntry} {ep : Nat} (q : RawD h d es ep) (k : ∀ o, h.get? d = some o → h'.get? d = some o) : RawD h' d es ep := let ⟨o, ho, r⟩ := q; ⟨o, k o ho, r⟩
theorem RawD.typeIs {s : Shared} {d : Addr} {es : Array DictEntry} {ep : Nat} (q : RawD s.heap d es ep) : s.TypeIs (.ref d) "dict" := let ⟨o, ho, c, _⟩ := q; ⟨o, ho, c.1⟩
section
variable {prog : Program} {w : World} {A : Around} {E : Value → Shared → Prop} {s : Shared}
theorem iter_raw {d : Addr} {es : Array DictEntry} {ep : Nat} {Q : Value → Shared → Prop} (hd : (d == sysModules) = false) (hm : RawD s.heap d es ep)
    (hQ : Q (.ref s.heap.objs.size) { s with heap := s.heap.push { cls := .type "dict_keyiterator", data := .fields #[.ref d, .int 0 0, .int es.size 0, .int ep 0] } }) : wpAny (model prog w) A (pyIter (.ref d)) Q E s := by
  obtain ⟨o, ho, hc, hdat⟩ := id hm
  have T : s.TypeIs (.ref d) "dict" := hm.typeIs
  refine wpAny_pyIter_slot T F.slot_dict_iter (wpAny_call_entry F.slot_dict_iter T F.entry_dict_iter ?_ (F.args_dict_iter_1 _))
  unfold Builtin.«dict.__iter__»
  refine wpAny_bind ?_
  unfold Builtin.Dict.dictSlotNone
  refine wpAny_bind (wpAny_notOrdered_dict T ?_)
  show wpAny (model prog w) _ (pure (Value.ref d)) _ _ s
  refine wpAny_pure ?_
  show wpAny (model prog w) _ (Builtin.Dict.showsAll d >>= _) _ _ s
  unfold Builtin.Dict.showsAll
  rw [if_neg (by rw [hd]; exact Bool.false_ne_true)]
  refine wpAny_bind (wpAny_pure (wpAny_bind (wpAny_dictEntries ho hdat (wpAny_bind (wpAny_dictEpoch ho hdat ?_)))))
  exact wpAny_bind (wpAny_newObj_type (wpAny_pure ⟨_, rfl, "dict_keyiterator", _, ⟨_, Heap.get?_push_size _ rfl, rfl⟩, F.slot_dict_keyiterator_next.lookup, hQ⟩))
theorem key_item {it d : Addr} {i ep : Nat} {es : Array DictEntry} {e : DictEntry} {Q : Option Value → Shared → Prop} (hit : s.heap.IsKeyIter it d i es.size ep) (hm : RawD s.heap d es ep) (hx : es[i]? = some e)
    (hQ : ∀ h1, h1.IsKeyIter it d (i + 1) es.size ep → Heap.SameBut it s.heap h1 → Q (some e.key) { s with heap := h1 }) : wpAny (model prog w) A (pyNext (.ref it)) Q E s := by
  obtain ⟨o, ho, hc, hd⟩ := id hit
  obtain ⟨od, hod, hcd, hdd⟩ := id hm
  obtain ⟨hlt, he⟩ := Array.getElem?_eq_some_iff.mp hx
  subst he
  unfold pyNext
  refine wpAny_bind (wpAny_attempt (wpAny_callSpecial?_slot (name := Str.ofString "__next__") hit.typeIs F.slot_dict_keyiterator_next (wpAny_call_entry F.slot_dict_keyiterator_next hit.typeIs F.entry_dict_keyiterator_next ?_ (F.args_dict_keyiterator_next_1 _))))
  refine wpAny_bind (wpAny_pure (wpAny_bind (wpAny_bind ?_)))
  refine wpAny_bind (wpAny_typeNameOfWhole_keyiter hit.typeIs (wpAny_pure (wpAny_bind (wpAny_fieldsOf ho hd ?_))))
  have own : Builtin.Dict_items.ownsTuple "dict_keyiterator" = false := by decide
  simp only [own, Bool.false_eq_true, if_false]
  show wpAny (model prog w) _ (if (Value.ref d == Value.none) = true then _ else _) _ _ s
  rw [if_neg (show ¬ ((Value.ref d == Value.none) = true) from Bool.false_ne_true)]
  refine wpAny_bind (wpAny_pure (wpAny_bind (wpAny_dictEntries hod hdd ?_)))
  rw [if_neg (by simp)]
  refine wpAny_bind (wpAny_pure (wpAny_bind (wpAny_dictEpoch hod hdd ?_)))
  rw [if_neg (by simp)]
  refine wpAny_pure ?_
  simp only [show ¬ ((i : Int) < 0) from by omega, if_false, Int.toNat_natCast, Array.getElem?_eq_getElem hlt]
  refine wpAny_bind (wpAny_bind (wpAny_typeNameOfWhole_keyiter hit.typeIs (wpAny_pure (wpAny_bind (wpAny_isOneOf_keyiter hit.typeIs ?_)))))
  show wpAny (model prog w) _ (setField (.ref it) 1 (rawInt ((i : Int) + 1)) >>= _) _ _ s
  refine wpAny_bind (wpAny_setField ho hd (by simp) ?_)
  have nx : (s.heap.update it (Obj.mapFields (·.setIfInBounds 1 (rawInt ((i : Int) + 1))))).IsKeyIter it d (i + 1) es.size ep :=
    ⟨_, Heap.get?_update_self _ ho (Obj.isFreed_of_fields (Obj.data_mapFields hd _)), (Obj.cls_mapFields ..).trans hc, by rw [Obj.data_mapFields hd]; simp [rawInt]⟩
  refine wpAny_bind (wpAny_holding (wpAny_bind (wpAny_isOneOf_keyiter (s := { s with heap := s.heap.update it (Obj.mapFields (·.setIfInBounds 1 (rawInt ((i : Int) + 1)))) }) nx.typeIs ?_)))
  show wpAny (model prog w) _ (pure es[i].key) _ _ _
  exact wpAny_pure (wpAny_pure ⟨_, rfl, wpAny_pure (hQ _ nx (Heap.SameBut.update ..))⟩)
theorem key_end {it d : Addr} {i ep : Nat} {es : Array DictEntry} {Q : Option Value → Shared → Prop} (hh : A.handled = none) (hit : s.heap.IsKeyIter it d i es.size ep) (hm : RawD s.heap d es ep) (hx : es.size ≤ i)
    (hQ : ∀ h1, Heap.ExtBut it s.heap h1 → Q none { s with heap := h1 }) : wpAny (model prog w) A (pyNext (.ref it)) Q E s := by
  obtain ⟨o, ho, hc, hd⟩ := id hit
  obtain ⟨od, hod, hcd, hdd⟩ := id hm
  unfold pyNext
  refine wpAny_bind (wpAny_attempt (wpAny_callSpecial?_slot (name := Str.ofString "__next__") hit.typeIs F.slot_dict_keyiterator_next (wpAny_call_entry F.slot_dict_keyiterator_next hit.typeIs F.entry_dict_keyiterator_next ?_ (F.args_dict_keyiterator_next_1 _))))
  refine wpAny_bind (wpAny_pure (wpAny_bind (wpAny_bind ?_)))
  refine wpAny_bind (wpAny_typeNameOfWhole_keyiter hit.typeIs (wpAny_pure (wpAny_bind (wpAny_fieldsOf ho hd ?_))))
  have own : Builtin.Dict_items.ownsTuple "dict_keyiterator" = false := by decide
  simp only [own, Bool.false_eq_true, if_false]
  show wpAny (model prog w) _ (if (Value.ref d == Value.none) = true then _ else _) _ _ s
  rw [if_neg (show ¬ ((Value.ref d == Value.none) = true) from Bool.false_ne_true)]
  refine wpAny_bind (wpAny_pure (wpAny_bind (wpAny_dictEntries hod hdd ?_)))
  rw [if_neg (by simp)]
  refine wpAny_bind (wpAny_pure (wpAny_bind (wpAny_dictEpoch hod hdd ?_)))
  rw [if_neg (by simp)]
  refine wpAny_pure ?_
  simp only [show ¬ ((i : Int) < 0) from by omega, if_false, Int.toNat_natCast, Array.getElem?_eq_none hx]
  refine wpAny_bind (wpAny_bind (wpAny_typeNameOfWhole_keyiter hit.typeIs (wpAny_pure ?_)))
  show wpAny (model prog w) _ (setField (.ref it) 0 .none >>= _) _ _ s
  refine wpAny_bind (wpAny_setField ho hd (by simp) ?_)
  show wpAny (model prog w) _ (newExc (.type "StopIteration") [] >>= _) _ _ _
  refine wpAny_bind ?_
  simp only [newExc, newTuple]
  refine wpAny_bind (wpAny_newObj_type (wpAny_bind (m := firstArgMember _ _) (wpAny_of_eq (a := Value.none) (by first | rfl | (simp only [firstArgMember]; rfl)) (wpAny_newObj_type ?_ (by size_fits)))) (by size_fits))
  simp only [raiseNew]
  refine wpAny_bind (wpAny_handled ?_)
  rw [show A.in1.handled = none from hh]
  refine wpAny_bind (wpAny_pure (wpAny_throw ?_))
  exact wpAny_bind (wpAny_isInstance (T := "StopIteration") (b := true) ⟨_, Heap.get?_push_size _ rfl, rfl⟩ isSubtype_stop (wpAny_pure (hQ _ (((Heap.SameBut.update ..).extBut.push _).push _))))
theorem walks_raw (hh : A.handled = none) (I d : Addr) (hne : d ≠ I) (es : Array DictEntry) (ep : Nat) :
    Walks prog w A I [I, d] [I] es.size (fun i v => ∃ e, es[i]? = some e ∧ v = e.key) (fun i h => h.IsKeyIter I d i es.size ep ∧ RawD h d es ep) where
  sub := fun b hb => by simp at hb; simp [hb]
  frame := fun _ _ _ st hk => ⟨st.1.at fun o e => hk I (by simp) o e, st.2.at fun o e => hk d (by simp) o e⟩
  item := fun i s Q E hi st hQ => by
    have hx : es[i]? = some es[i] := Array.getElem?_eq_getElem hi
    exact key_item st.1 st.2 hx fun h1 it' hs => hQ _ h1 s.toks ⟨_, hx, rfl⟩ ⟨it', st.2.at fun o e => (hs.2 d hne).trans e⟩ fun b o hb e => (hs.2 b (fun h => hb (by simp [h]))).trans e
  done := fun s Q E st hQ => key_end hh st.1 st.2 (Nat.le_refl _) fun h1 he => hQ h1 s.toks fun b o hb e => he b o (fun h => hb (by simp [h])) e
  self := fun _ _ _ _ st hQ => wpAny_pyIter_keyiter st.1 hQ
theorem hint_dict {d : Addr} {Q : Bool → Shared → Prop} (T : s.TypeIs (.ref d) "dict") (hq : Q false s) : wpAny (model prog w) A (Builtin.List.listLengthHint (.ref d)) Q E s := by
  unfold Builtin.List.listLengthHint
  refine wpAny_bind (wpAny_specialOf T F.slot_dict_len.lookup ?_)
  have e : splitId "dict.__len__" = some ("dict", "__len__") := by kernel_rfl
  simp only [e]
  have sub : isSubtype (.type "dict") (.type "dict") = pure true := by rw [isSubtype_type]; kernel_rfl
  exact wpAny_bind (wpAny_isInstance (T := "dict") (b := true) T sub (wpAny_bind (wpAny_typeOf T (wpAny_pure hq))))
theorem hint_vals {d : Addr} {Q : Bool → Shared → Prop} (T : s.TypeIs (.ref d) "dict_values") (hq : Q false s) : wpAny (model prog w) A (Builtin.List.listLengthHint (.ref d)) Q E s := by
  unfold Builtin.List.listLengthHint
  refine wpAny_bind (wpAny_specialOf T F.slot_dict_values_len.lookup ?_)
  have e : splitId "dict_values.__len__" = some ("dict_values", "__len__") := by kernel_rfl
  simp only [e]
  have sub : isSubtype (.type "dict_values") (.type "dict_values") = pure true := by rw [isSubtype_type]; kernel_rfl
  exact wpAny_bind (wpAny_isInstance (T := "dict_values") (b := true) T sub (wpAny_bind (wpAny_typeOf T (wpAny_pure hq))))
end
section
variable {prog : Program} {w : World} {A : Around} {s : Shared} {R : Result → Shared → Prop} {I : Addr} {fp wr : List Addr} {n : Nat} {P : Nat → Value → Prop} {St : Nat → Heap → Prop}
/-- the rest of list's making, where an iterator has come -/
theorem list_rest (W : Walks prog w A.in1 I fp wr n P St) (hn : n ≤ sizeLine) (S : Addr) (c : Nat) (hst : St 0 s.heap) (hS : S ∉ fp) (hl : s.heap.get? S = some { cls := .type "list", data := .seq #[] c })
    (hR : ∀ s1 acc c1, Moved (S :: wr) (fun a b => b = a) s s1 → s1.heap.get? S = some { cls := .type "list", dict := none, data := .seq acc c1, slots := #[] } → ItemsOf P acc n → R (.ok (.ret .none)) s1) :
    wpAny (model prog w) A.in1 (rule "list.extend.makes-room" >>= fun _ => Builtin.List.listTouch (.ref S) >>= fun _ => again (.builtin "list.extend.loop" ⟨[.ref S, .ref I, .none], []⟩))
      (fun fin s1 => match fin with | .done f => R (.ok f) s1 | .again c1 => c1.quiet = true ∧ codeAny (model prog w) A c1 R s1) (fun e s1 => R (.error e) s1) s := by
  refine wpAny_bind (wpAny_rule (wpAny_bind ?_))
  show wpAny (model prog w) A.in1 (updateSeq S (·.push .none) >>= fun _ => updateSeq S (·.pop)) _ _ _
  refine wpAny_bind (wpAny_updateSeq hl rfl ?_)
  have l2 := Heap.get?_update_self (Obj.mapSeq (·.push Value.none)) hl rfl
  refine wpAny_updateSeq (hz := by seq_fits) l2 rfl ?_
  have l3 := Heap.get?_update_self (Obj.mapSeq (·.pop)) l2 rfl
  have oth : ∀ b o, b ≠ S → s.heap.get? b = some o → ((s.heap.update S (Obj.mapSeq (·.push Value.none))).update S (Obj.mapSeq (·.pop))).get? b = some o := fun b o hb e => (Heap.get?_update_other _ _ (Ne.symm hb)).trans ((Heap.get?_update_other _ _ (Ne.symm hb)).trans e)
  refine wpAny_pure ⟨plainId_quiet F.plain_extend_loop _, codeAny_extend_loopS W.toS hn _ hS _ n 0 _ _ _ rfl (Nat.zero_le _) (W.toS.frame 0 s _ s.toks hst (Nat.le_refl _) fun b hb o e => oth b o (fun h => hS (h ▸ hb)) e) l3 (ItemsOf.nil P) fun s1 acc c1 hm h1 h2 => ?_⟩
  have m0 : Moved (S :: wr) (fun (a b : Array GenState) => b = a) s { s with heap := (s.heap.update S (Obj.mapSeq (·.push Value.none))).update S (Obj.mapSeq (·.pop)) } := ⟨fun b o hb e => oth b o (fun h => hb (by simp [h])) e, rfl, rfl, rfl, Nat.le_refl _⟩
  exact hR s1 acc c1 (Moved.trans (fun _ _ _ h1 h2 => h2.trans h1) m0 hm) h1 h2
end
section
variable {prog : Program} {w : World} {A : Around} {s : Shared} {R : Result → Shared → Prop}
/-- list's init: the new list is emptied, then it takes what comes -/
theorem list_init {S : Addr} {x : Value} (hl : s.heap.get? S = some { cls := .type "list", data := .seq #[] })
    (h : wpAny (model prog w) A.in1 (Builtin.List.listExtendWith (.ref S) x .none) (fun fin s1 => match fin with | .done f => R (.ok f) s1 | .again c1 => c1.quiet = true ∧ codeAny (model prog w) A c1 R s1) (fun e s1 => R (.error e) s1)
      { s with heap := s.heap.update S (Obj.mapSeq (fun _ => (#[] : Array Value))) }) :
    wpAny (model prog w) A.in1 (Builtin.«list.__init__» ⟨[.ref S, x], []⟩) (fun fin s1 => match fin with | .done f => R (.ok f) s1 | .again c1 => c1.quiet = true ∧ codeAny (model prog w) A c1 R s1) (fun e s1 => R (.error e) s1) s := by
  show wpAny (model prog w) A.in1 (do let was ← Builtin.List.listItems (.ref S); Builtin.List.listUpdate (.ref S) (fun _ => #[]); letGo was.toList.reverse; Builtin.List.listExtendWith (.ref S) x .none) _ _ s
  refine wpAny_bind ?_
  unfold Builtin.List.listItems
  refine wpAny_bind (wpAny_seqItems hl rfl (wpAny_pure ?_))
  show wpAny (model prog w) A.in1 (updateSeq S (fun _ => #[]) >>= fun _ => letGo (#[] : Array Value).toList.reverse >>= fun _ => Builtin.List.listExtendWith (.ref S) x .none) _ _ s
  exact wpAny_bind (wpAny_updateSeq hl rfl (wpAny_bind (wpAny_letGo h)))
end
section
variable {prog : Program} {w : World} {A : Around} {E : Value → Shared → Prop} {s : Shared}
theorem list_of_dict {d : Addr} {es : Array DictEntry} {ep : Nat} {Q : Value → Shared → Prop} (hh : A.handled = none) (hd : (d == sysModules) = false) (hm : RawD s.heap d es ep) (hn : es.size ≤ sizeLine)
    (hQ : ∀ h1 acc c tk, (∀ b o, s.heap.get? b = some o → h1.get? b = some o) → h1.get? s.heap.objs.size = some { cls := .type "list", dict := none, data := .seq acc c, slots := #[] } → ItemsOf (fun i v => ∃ e, es[i]? = some e ∧ v = e.key) acc es.size →
      Q (.ref s.heap.objs.size) { s with heap := h1, toks := tk }) : wpAny (model prog w) A (call (.type "list") [.ref d]) Q E s := by
  have dl : d < s.heap.objs.size := by obtain ⟨o, ho, _⟩ := hm; exact Heap.lt_size ho
  refine callType_codes (Q₁ := fun obj s1 => obj = .ref s.heap.objs.size ∧ s1 = { s with heap := s.heap.push { cls := .type "list", data := .seq #[] } }) F.called_list (F.typeCall_list_1 _) F.entry_list_init (code_list_new _ ⟨rfl, rfl⟩) fun obj s1 h1 => ?_
  obtain ⟨rfl, rfl⟩ := h1
  have hS : (s.heap.push { cls := .type "list", data := .seq #[] }).get? s.heap.objs.size = some { cls := .type "list", data := .seq #[] } := Heap.get?_push_size _ rfl
  refine ⟨⟨_, hS, rfl⟩, F.args_list_init_2 _ _, list_init hS ?_⟩
  have l2 := Heap.get?_update_self (Obj.mapSeq (fun _ => (#[] : Array Value))) hS rfl
  have old : ∀ b o, s.heap.get? b = some o → ((s.heap.push { cls := .type "list", data := .seq #[] }).update s.heap.objs.size (Obj.mapSeq (fun _ => (#[] : Array Value)))).get? b = some o := fun b o e =>
    (Heap.get?_update_other _ _ (fun z => Nat.lt_irrefl _ (z ▸ Heap.lt_size e))).trans (Heap.get?_push_of_some _ e)
  have hm2 := hm.at (h' := (s.heap.push { cls := .type "list", data := .seq #[] }).update s.heap.objs.size (Obj.mapSeq (fun _ => (#[] : Array Value)))) fun o e => old d o e
  have zu : ((s.heap.push { cls := .type "list", data := .seq #[] }).update s.heap.objs.size (Obj.mapSeq (fun _ => (#[] : Array Value)))).objs.size = s.heap.objs.size + 1 := by rw [Heap.size_update, Heap.size_push]
  generalize (s.heap.push { cls := .type "list", data := .seq #[] }).update s.heap.objs.size (Obj.mapSeq (fun _ => (#[] : Array Value))) = g at l2 old hm2 zu
  have T : ({ s with heap := g } : Shared).TypeIs (.ref d) "dict" := hm2.typeIs
  unfold Builtin.List.listExtendWith
  refine wpAny_bind (wpAny_typeOf T ?_)
  have sr : Builtin.List.listSameRef (.ref s.heap.objs.size) (.ref d) = false := by
    have : s.heap.objs.size ≠ d := Ne.symm (Nat.ne_of_lt dl)
    simp [Builtin.List.listSameRef, this]
  have t1 : (Value.type "dict" == Value.type "list") = false := by decide
  have t2 : (Value.type "dict" == Value.type "tuple") = false := by decide
  simp only [sr, t1, t2, Bool.or_false, Bool.false_eq_true, if_false]
  refine wpAny_bind (iter_raw (s := { s with heap := g }) hd hm2 ?_)
  have hm3 := hm2.at (h' := g.push { cls := .type "dict_keyiterator", data := .fields #[.ref d, .int 0 0, .int es.size 0, .int ep 0] }) fun o e => Heap.get?_push_of_some _ e
  refine wpAny_bind (wpAny_holding (hint_dict (s := { s with heap := g.push { cls := .type "dict_keyiterator", data := .fields #[.ref d, .int 0 0, .int es.size 0, .int ep 0] } }) hm3.typeIs ?_))
  have dI : d ≠ g.objs.size := by rw [zu]; exact Nat.ne_of_lt (Nat.lt_succ_of_lt dl)
  have SI : s.heap.objs.size ∉ [g.objs.size, d] := by
    rw [zu]
    intro z
    simp only [List.mem_cons, List.not_mem_nil, or_false] at z
    rcases z with z | z
    · exact absurd z (Nat.ne_of_lt (Nat.lt_succ_self _))
    · exact absurd z (Ne.symm (Nat.ne_of_lt dl))
  refine list_rest (A := A.in1) (s := { s with heap := g.push { cls := .type "dict_keyiterator", data := .fields #[.ref d, .int 0 0, .int es.size 0, .int ep 0] } }) (walks_raw (A := A.in1.in1) hh g.objs.size d dI es ep) hn _ _ ⟨⟨_, Heap.get?_push_size _ rfl, rfl, rfl⟩, hm3⟩ SI (Heap.get?_push_of_some _ l2) fun s2 acc c hmv h2 h3 => ?_
  obtain ⟨hp, ge, dr, tk, os⟩ := s2
  obtain ⟨m1, m2, m3, m4, m5⟩ := hmv
  obtain rfl : ge = s.gens := m2
  obtain rfl : dr = s.drawn := m3
  obtain rfl : os = s.os := m4
  refine ⟨rfl, hQ hp acc c tk (fun b o e => m1 b o ?_ (Heap.get?_push_of_some _ (old b o e))) h2 h3⟩
  intro z
  have bl := Heap.lt_size e
  simp only [List.mem_cons, List.not_mem_nil, or_false] at z
  rcases z with z | z
  · exact absurd bl (by rw [z]; exact Nat.lt_irrefl _)
  · have z : b = g.objs.size := z
    rw [z, zu] at bl
    exact absurd bl (Nat.not_lt_of_le (Nat.le_succ _))
theorem list_of_vals {κ : Type} [DecidableEq κ] {knd : KeyKind prog w κ} {d v : Addr} {kvs : List (κ × Value)} {Q : Value → Shared → Prop} (hh : A.handled = none) (hv : s.heap.IsValuesView v d) (hm : s.heap.DictOf knd d kvs) (hn : kvs.length ≤ sizeLine)
    (hQ : ∀ h1 acc c tk, (∀ b o, s.heap.get? b = some o → h1.get? b = some o) → h1.get? s.heap.objs.size = some { cls := .type "list", dict := none, data := .seq acc c, slots := #[] } → ItemsOf (fun i v => ∃ k, kvs[i]? = some (k, v)) acc kvs.length →
      Q (.ref s.heap.objs.size) { s with heap := h1, toks := tk }) : wpAny (model prog w) A (call (.type "list") [.ref v]) Q E s := by
  obtain ⟨ep, hm⟩ := hm.dictAt
  have dl : d < s.heap.objs.size := hm.lt_size
  have vl : v < s.heap.objs.size := by obtain ⟨o, ho, _⟩ := hv; exact Heap.lt_size ho
  refine callType_codes (Q₁ := fun obj s1 => obj = .ref s.heap.objs.size ∧ s1 = { s with heap := s.heap.push { cls := .type "list", data := .seq #[] } }) F.called_list (F.typeCall_list_1 _) F.entry_list_init (code_list_new _ ⟨rfl, rfl⟩) fun obj s1 h1 => ?_
  obtain ⟨rfl, rfl⟩ := h1
  have hS : (s.heap.push { cls := .type "list", data := .seq #[] }).get? s.heap.objs.size = some { cls := .type "list", data := .seq #[] } := Heap.get?_push_size _ rfl
  refine ⟨⟨_, hS, rfl⟩, F.args_list_init_2 _ _, list_init hS ?_⟩
  have l2 := Heap.get?_update_self (Obj.mapSeq (fun _ => (#[] : Array Value))) hS rfl
  have old : ∀ b o, s.heap.get? b = some o → ((s.heap.push { cls := .type "list", data := .seq #[] }).update s.heap.objs.size (Obj.mapSeq (fun _ => (#[] : Array Value)))).get? b = some o := fun b o e =>
    (Heap.get?_update_other _ _ (fun z => Nat.lt_irrefl _ (z ▸ Heap.lt_size e))).trans (Heap.get?_push_of_some _ e)
  have hm2 := hm.keep old
  have hv2 : ((s.heap.push { cls := .type "list", data := .seq #[] }).update s.heap.objs.size (Obj.mapSeq (fun _ => (#[] : Array Value)))).IsValuesView v d := let ⟨o, ho, r⟩ := hv; ⟨o, old v o ho, r⟩
  have zu : ((s.heap.push { cls := .type "list", data := .seq #[] }).update s.heap.objs.size (Obj.mapSeq (fun _ => (#[] : Array Value)))).objs.size = s.heap.objs.size + 1 := by rw [Heap.size_update, Heap.size_push]
  generalize (s.heap.push { cls := .type "list", data := .seq #[] }).update s.heap.objs.size (Obj.mapSeq (fun _ => (#[] : Array Value))) = g at l2 old hm2 hv2 zu
  have T : ({ s with heap := g } : Shared).TypeIs (.ref v) "dict_values" := hv2.typeIs
  unfold Builtin.List.listExtendWith
  refine wpAny_bind (wpAny_typeOf T ?_)
  have sr : Builtin.List.listSameRef (.ref s.heap.objs.size) (.ref v) = false := by
    have : s.heap.objs.size ≠ v := Ne.symm (Nat.ne_of_lt vl)
    simp [Builtin.List.listSameRef, this]
  have t1 : (Value.type "dict_values" == Value.type "list") = false := by decide
  have t2 : (Value.type "dict_values" == Value.type "tuple") = false := by decide
  simp only [sr, t1, t2, Bool.or_false, Bool.false_eq_true, if_false]
  refine wpAny_bind (wpAny_pyIter_values (s := { s with heap := g }) hv2 hm2 ?_)
  have hm3 := hm2.push { cls := .type "dict_valueiterator", data := .fields #[.ref d, .int 0 0, .int kvs.length 0, .int ep 0] }
  have hv3 : (g.push { cls := .type "dict_valueiterator", data := .fields #[.ref d, .int 0 0, .int kvs.length 0, .int ep 0] }).IsValuesView v d := let ⟨o, ho, r⟩ := hv2; ⟨o, Heap.get?_push_of_some _ ho, r⟩
  refine wpAny_bind (wpAny_holding (hint_vals (s := { s with heap := g.push { cls := .type "dict_valueiterator", data := .fields #[.ref d, .int 0 0, .int kvs.length 0, .int ep 0] } }) hv3.typeIs ?_))
  have dI : d ≠ g.objs.size := by rw [zu]; exact Nat.ne_of_lt (Nat.lt_succ_of_lt dl)
  have SI : s.heap.objs.size ∉ [g.objs.size, d] := by
    rw [zu]
    intro z
    simp only [List.mem_cons, List.not_mem_nil, or_false] at z
    rcases z with z | z
    · exact absurd z (Nat.ne_of_lt (Nat.lt_succ_self _))
    · exact absurd z (Ne.symm (Nat.ne_of_lt dl))
  refine list_rest (A := A.in1) (s := { s with heap := g.push { cls := .type "dict_valueiterator", data := .fields #[.ref d, .int 0 0, .int kvs.length 0, .int ep 0] } }) (Walks.dictValues (A := A.in1.in1) hh g.objs.size d dI kvs ep) hn _ _ ⟨⟨_, Heap.get?_push_size _ rfl, rfl, rfl⟩, hm3⟩ SI (Heap.get?_push_of_some _ l2) fun s2 acc c hmv h2 h3 => ?_
  obtain ⟨hp, ge, dr, tk, os⟩ := s2
  obtain ⟨m1, m2, m3, m4, m5⟩ := hmv
  obtain rfl : ge = s.gens := m2
  obtain rfl : dr = s.drawn := m3
  obtain rfl : os = s.os := m4
  refine ⟨rfl, hQ hp acc c tk (fun b o e => m1 b o ?_ (Heap.get?_push_of_some _ (old b o e))) h2 h3⟩
  intro z
  have bl := Heap.lt_size e
  simp only [List.mem_cons, List.not_mem_nil, or_false] at z
  rcases z with z | z
  · exact absurd bl (by rw [z]; exact Nat.lt_irrefl _)
  · have z : b = g.objs.size := z
    rw [z, zu] at bl
    exact absurd bl (Nat.not_lt_of_le (Nat.le_succ _))
end
end L2

/-! list(d), list(d.values()) as rules. -/
namespace L2
open PySem PySem.Spec PyProof.Rows
theorem Vals.of_get : ∀ {xs : List V} {us : List Value}, xs.length = us.length → (∀ (i : Nat) x u, xs[i]? = some x → us[i]? = some u → RelV x u) → Vals xs us
  | [], [], _, _ => .nil
  | x :: xs, u :: us, hl, h => .cons (h 0 x u rfl rfl) (Vals.of_get (by simpa using hl) fun i y v e1 e2 => h (i + 1) y v (by simpa using e1) (by simpa using e2))
  | [], _ :: _, hl, _ => by simp at hl
  | _ :: _, [], hl, _ => by simp at hl
theorem key_rel {k : Key} {v : Value} (h : keyIs k v = true) : RelV (kV k) v := by
  rcases keyIs_shape h with ⟨i, t, rfl, rfl⟩ | ⟨x, t, rfl, rfl⟩
  · exact ⟨t, rfl⟩
  · exact ⟨t, rfl⟩
theorem Paired.get' {α β : Type} {F : α → β → Prop} : ∀ {l₁ : List α} {l₂ : List β} {i : Nat} {a : α}, Paired F l₁ l₂ → l₁[i]? = some a → ∃ b, l₂[i]? = some b ∧ F a b
  | _, _, _, _, .nil, e => by simp at e
  | _, _, 0, _, .cons r _, e => by simp at e; subst e; exact ⟨_, rfl, r⟩
  | _, _, i + 1, a, .cons _ t, e => by
    obtain ⟨u, h1, h2⟩ := Paired.get' (i := i) (a := a) t (by simpa using e)
    exact ⟨u, by simpa using h1, h2⟩
section
variable {X : Cx}
/-- a list just made out of what was walked -/
theorem list_fin {pins : List (Addr × Obj)} {σ : St} {H : Hp} {s : Shared} {Q : VK} {ys : List V} {h1 : Heap} {acc : Array Value} {c tk : Nat} (I : Inv X pins σ H s) (kp : ∀ b o, s.heap.get? b = some o → h1.get? b = some o)
    (e : h1.get? s.heap.objs.size = some { cls := .type "list", dict := none, data := .seq acc c, slots := #[] }) (r : Vals ys acc.toList) (hz : ys.length ≤ sizeLine) (q : ∀ l, H l = none → Q (.ref l) (upd H l (.lst ys))) : EP X pins σ Q (.ref s.heap.objs.size) { s with heap := h1, toks := tk } :=
  ⟨.ref s.heap.objs.size, _, I.laid (t' := tk) (o := .lst ys) kp (Nat.le_refl _) ⟨hz, acc.toList, c, r, by simpa using e⟩, rfl, q _ (I.hok.fresh (Nat.le_refl _))⟩
theorem call_list_dK (hc : X.calm = true) : CallR X (.type "list") (fun xs H Q => ∃ p kvs, xs = [V.ref p] ∧ H p = some (.dK kvs) ∧ ∀ l, H l = none → Q (.ref l) (upd H l (.lst (kvs.map fun kv => kV kv.1)))) := by
  intro pins s σ H xs us Q I r h
  obtain ⟨p, kvs, rfl, hp, q⟩ := h
  obtain ⟨u, rfl, ru⟩ := vals1 r
  cases ru
  obtain ⟨z, hd, vs, rel, o, es, ep, e, ex, dt, kk, pr, nd⟩ := I.hok p _ hp
  have l1 : kvs.length = vs.length := Paired.length rel
  have l2 : es.size = vs.length := by rw [← pr.length]; simp
  refine list_of_dict (I.ok.hd hc) hd ⟨o, e, ex, dt⟩ (by omega) fun h1 acc c tk kp el it => list_fin I kp el (Vals.of_get ?_ fun i x v ex ev => ?_) (by rw [List.length_map]; exact z) q
  · have := it.1
    simp only [List.length_map, Array.length_toList]
    omega
  · rw [List.getElem?_map] at ex
    cases ek : kvs[i]? with
    | none => rw [ek] at ex; cases ex
    | some kv =>
      rw [ek] at ex
      cases ex
      obtain ⟨en, hen, rfl⟩ := it.2 i v (by simpa using ev)
      obtain ⟨w', hw, rw'⟩ := Paired.get' rel ek
      have := (pr.get? (e := en) (k := w'.1) (v := w'.2) (by simpa using hen) (by rw [hw])).1
      have e1 : kv.1 = w'.1 := rw'.1
      show RelV (kV kv.1) en.key
      rw [e1]
      exact key_rel this
/-- a view of a dict's values -/
def vwO (p d : Addr) : HO := .ext fun h => h.IsValuesView p d
theorem mt_values : MtR X "dict.values" (fun x xs H Q => ∃ d kvs, x = V.ref d ∧ xs = [] ∧ H d = some (.dK kvs) ∧ ∀ p, H p = none → Q (.ref p) (upd H p (vwO p d))) := by
  intro pins s σ H x xs v us Q I rx rs h
  obtain ⟨d, kvs, rfl, rfl, hd, q⟩ := h
  cases rx
  cases rs
  obtain ⟨z, hs, vs, rel, dd⟩ := I.hok d _ hd
  refine call_meetsIn PySem.F.slot_dict_values dd.typeIs PySem.F.entry_dict_values (PySem.F.args_dict_values_1 _) (meets_dict_values (mixKind X.prog X.w) d hs) ⟨⟨vs, dd⟩, ?_⟩
  refine ⟨.ref s.heap.objs.size, _, I.laid (t' := s.toks) (a := s.heap.objs.size) (o := vwO s.heap.objs.size d) (fun b u e => Heap.get?_push_of_some _ e) (Nat.le_refl _) ⟨⟨_, Heap.get?_push_size _ rfl, rfl, rfl⟩, ⟨_, Heap.get?_push_size _ rfl⟩, fun h1 h2 ⟨o, ho, r⟩ k => ⟨o, k o ho, r⟩⟩, rfl, q _ (I.hok.fresh (Nat.le_refl _))⟩
theorem call_list_vw (hc : X.calm = true) : CallR X (.type "list") (fun xs H Q => ∃ p d kvs, xs = [V.ref p] ∧ H p = some (vwO p d) ∧ H d = some (.dK kvs) ∧ ∀ l, H l = none → Q (.ref l) (upd H l (.lst (kvs.map (·.2))))) := by
  intro pins s σ H xs us Q I r h
  obtain ⟨p, d, kvs, rfl, hp, hd, q⟩ := h
  obtain ⟨u, rfl, ru⟩ := vals1 r
  cases ru
  obtain ⟨z, hs, vs, rel, dd⟩ := I.hok d _ hd
  obtain ⟨hv, _, _⟩ := I.hok p _ hp
  have l1 : kvs.length = vs.length := Paired.length rel
  refine list_of_vals (I.ok.hd hc) hv dd (by omega) fun h1 acc c tk kp el it => list_fin I kp el (Vals.of_get ?_ fun i x v ex ev => ?_) (by rw [List.length_map]; exact z) q
  · have := it.1
    simp only [List.length_map, Array.length_toList]
    omega
  · rw [List.getElem?_map] at ex
    cases ek : kvs[i]? with
    | none => rw [ek] at ex; cases ex
    | some kv =>
      rw [ek] at ex
      cases ex
      obtain ⟨k, hk⟩ := it.2 i v (by simpa using ev)
      obtain ⟨w', hw, rw'⟩ := Paired.get' rel ek
      rw [hk] at hw
      cases hw
      exact rw'.2
end
end L2

/-! a dict of the module's, its values tuples of texts; methods by promise; a comprehension over zip. -/
namespace L2
open PySem PySem.Spec PyProof.Rows
section
variable {X : Cx} {pins : List (Addr × Obj)} {σ : St} {H : Hp} {s : Shared}
end
/-! ### x in, not in, D[x] for it -/
section
variable {X : Cx} {a : Addr} {l : List (Str × List V)} {g : Str} {e : Expr} {ty : TE} {p pos : Pos}
end
/-! ### methods by promise -/
/-- the method m of the class at C, as the top has left it -/
def DfM (K : PySem.W.Frag) (C : Addr) (qual m : Str) (st : Stmt) (ps : List Str) : Prop :=
  ∃ (f : Addr) (fd : FuncData), Fun K m qual st f fd ∧ Meth K C m f ∧ ∀ us : List Value, us.length = ps.length → bindArgs fd ⟨us, []⟩ = pure (ps.zip us)
theorem dfm_mk {K : PySem.W.Frag} {C : Addr} {qual m : Str} {st : Stmt} {ps : List Str} {f : Addr} {oc kV dc pm cd ct : Value} {od an : Option Addr} {sl : Array (Option Value)}
    (hb : ∀ (kV doc pm : Value) (an : Option Addr) (cdv ct : Value) (us : List Value), us.length = ps.length → bindArgs (PySem.W.fnOf m qual (defArgs st) (defBody st) (defScope st) .none kV doc pm an cdv ct) ⟨us, []⟩ = pure (ps.zip us))
    (a : PySem.W.findIn K (.ref C) m = some (some (.ref f))) (l : K.lookup f = some ⟨oc, od, .func (PySem.W.fnOf m qual (defArgs st) (defBody st) (defScope st) .none kV dc pm an cd ct), sl⟩) (c : PySem.W.codeIn K cd qual = true) (k : PySem.W.keepIn K (.ref f) = true)
    (i : PySem.W.isFn K (.ref f) = true) : DfM K C qual m st ps := ⟨f, _, fun_mk l c k, ⟨a, i, k⟩, fun us hl => hb kV dc pm an cd ct us hl⟩
def HasM (P : Program) (w : World) (K : PySem.W.Frag) (mg : Str → Option Value) (base : Heap) (C : Addr) (m : Str) (ps : List Str) (k : Nat) (sp : Sp) : Prop :=
  ∃ (f : Addr) (fd : FuncData), Meth K C m f ∧ (∀ us : List Value, us.length = ps.length → bindArgs fd ⟨us, []⟩ = pure (ps.zip us)) ∧ FnOk P w K mg base CX0 k f fd ps sp
section
variable {P : Program} {w : World} {K : PySem.W.Frag} {mg : Str → Option Value} {base : Heap}
theorem DfM.has {C : Addr} {qual m : Str} {st : Stmt} {N ps : List Str} {k : Nat} {sp : Sp} (D : DfM K C qual m st ps) (S : FnScope N ps (defScope st)) (len : ∀ vs H Q E, sp vs H Q E → vs.length = ps.length)
    (hbody : ∀ (f : Addr) (cdv : Value) (A : Around) (outer : List Env) (s : Shared) (H : Hp) (vs : List V) (Q : VK) (E : XK), Room k (A.deeper (envOfC qual (defScope st) s.heap.objs.size f cdv)) → sp vs H Q E →
      ∃ t, PSs (cxOf CX0 P w K mg base N qual (defScope st) f cdv A outer s H E).nox (defBody st) t ∧ t { nx := fun _ H' => Q .non H', rt := Q } (start N vs) H) : HasM P w K mg base C m ps (k + 1) sp := by
  obtain ⟨f, fd, F, a, b⟩ := D
  obtain ⟨oc, od, kV, doc, pm, an, cdv, ct, osl, e, lk, hcd⟩ := id F.ex
  exact ⟨f, fd, a, b, F.ok S len (hbody f)⟩
end
section
variable {X : Cx} {k : Nat} {ps : List Str} {sp : Sp} {C : Addr} {m x : Str} {p pos apos : Pos} {o e : Expr} {es : List Expr} {t : TA} {ta : TE}
end
/-! ### [e for x, y in zip(..)] -/
end L2
namespace L2
open PySem PySem.Spec PyProof.Rows
section
variable {X : Cx} (K : PySem.W.Frag) (h : X.K = K)
include h
end
end L2


namespace L2
open PySem PySem.Spec PyProof.Rows
end L2

/-! blanks: a text times an int. -/
namespace L2
open PySem PySem.Spec PyProof.Rows
section
variable {X : Cx}
end
end L2

/-! A comprehension with any target; a op b op c op d; a sign times an int. -/
namespace L2
open PySem PySem.Spec PyProof.Rows
/-- one turn more of n -/
def CStep (n i : Nat) (p : Prop) : Prop := ∃ m', m' < n - i ∧ m' = n - (i + 1) ∧ i + 1 ≤ n ∧ p
theorem cstep {n i : Nat} {p : Prop} (h : i < n) (q : p) : CStep n i p := ⟨n - (i + 1), by omega, rfl, h, q⟩
theorem get_lt {α : Type} {xs : List α} {i : Nat} {x : α} (h : xs[i]? = some x) : i < xs.length := (List.getElem?_eq_some_iff.mp h).1
theorem comp_gen {J : It} {xs : List V} {P : Hp → Prop} {own : List Str} {ix : List Nat} {g : TG} {tc : TT} {te : TE} {σ : St} {H1 : Hp} {D : Addr} {Q : VK} (F : Fix J xs P)
    (R : Nat → St → List V → Hp → Prop) (h0 : R 0 (st0 own ix σ) [] (upd H1 D (.lst [])))
    (hP : ∀ i σ' ys H', R i σ' ys H' → P H' ∧ H' D = some (.lst ys) ∧ ys.length ≤ i) (hz : xs.length ≤ sizeLine)
    (hs : ∀ i x σ' ys H', xs[i]? = some x → R i σ' ys H' → g x σ' H' fun σ3 H3 => tc σ3 H3 fun b H4 =>
      if b = true then te σ3 H4 fun y H5 => H5 D = some (.lst ys) ∧ CStep xs.length i (R (i + 1) σ3 (ys ++ [y]) (upd H5 D (.lst (ys ++ [y])))) else H4 D = some (.lst ys) ∧ CStep xs.length i (R (i + 1) σ3 ys H4))
    (hQ : ∀ σ' ys H', R xs.length σ' ys H' → Q (.ref D) H') : CompW own ix J g tc te σ H1 D Q := by
  refine ⟨fun i m σ' ys H' => m = xs.length - i ∧ i ≤ xs.length ∧ R i σ' ys H', ⟨xs.length, by simp, Nat.zero_le _, h0⟩, ?_⟩
  rintro i m σ' ys H' ⟨rfl, hi, r⟩
  obtain ⟨p1, p2, p3⟩ := hP i σ' ys H' r
  refine ⟨p2, ?_⟩
  by_cases hlt : i < xs.length
  · refine .inr ⟨F.go i _ p1 hlt, by omega, fun x H2 y => ?_⟩
    obtain ⟨e, y'⟩ := F.yld i _ x H2 p1 y
    subst e
    exact hs i x σ' ys _ (y' hlt) r
  · have e : i = xs.length := by omega
    subst e
    exact .inl ⟨F.stop _ _ p1 (Nat.le_refl _), hQ σ' ys H' r⟩
section
variable {X : Cx} {a b c d : Expr} {ta tb tc td : TE} {pos : Pos}
end
end L2

/-! MATHEMATICS of names and numbers: texts by their codes. -/
namespace Dm
open PySem PySem.NumText
abbrev co (x : Str) : List Nat := x.cps.toList
theorem co_len (x : Str) : (co x).length = x.length := by simp [Str.length]
theorem ext_co {x y : Str} (h : co x = co y) : x = y := by
  cases x with
  | mk a => cases y with
    | mk b =>
      have : a = b := by
        have h : a.toList = b.toList := h
        exact Array.toList_inj.mp h
      rw [this]
theorem co_mk (l : List Nat) : co ⟨l.toArray⟩ = l := by simp [co]
def sIx' (n d : Nat) : Option Int → Nat
  | none => d
  | some i => if i < 0 then (max (i + (n : Int)) 0).toNat else min i.toNat n
theorem pickN (l : List Nat) (i k : Nat) : ((List.range k).map fun m => i + m).filterMap (fun j => l[j]?) = (l.drop i).take k := by
  induction k generalizing i with
  | zero => simp
  | succ k ih =>
    rw [List.range_succ_eq_map, List.map_cons, List.map_map]
    have e : ((List.range k).map ((fun m => i + m) ∘ Nat.succ)) = (List.range k).map fun m => (i + 1) + m := by
      apply List.map_congr_left
      intro a _
      simp only [Function.comp, Nat.succ_eq_add_one]; omega
    rw [e, List.filterMap_cons]
    simp only [Nat.add_zero]
    rw [ih (i + 1)]
    cases h : l[i]? with
    | none =>
      have hl : l.length ≤ i := List.getElem?_eq_none_iff.mp h
      rw [List.drop_eq_nil_of_le hl, List.drop_eq_nil_of_le (by omega)]; simp
    | some v =>
      obtain ⟨hi, e⟩ := List.getElem?_eq_some_iff.mp h
      rw [List.drop_eq_getElem_cons hi, List.take_succ_cons, e]
def clipS (n : Nat) (d : Int) : Option Int → Int
  | none => d
  | some i => max 0 (min (if i < 0 then i + (n : Int) else i) n)
theorem clipS_eq (n d : Nat) (hd : d ≤ n) (o : Option Int) : clipS n d o = ((sIx' n d o : Nat) : Int) := by
  cases o with
  | none => rfl
  | some i => simp only [sIx', clipS]; split <;> omega
theorem sIx'_le (n d : Nat) (hd : d ≤ n) (o : Option Int) : sIx' n d o ≤ n := by
  cases o with
  | none => exact hd
  | some i => simp only [sIx']; split <;> omega
theorem indices_eq (lo hi : Option Int) (n : Nat) : Builtin.Str.strSliceIndices lo hi 1 n = (List.range (sIx' n n hi - sIx' n 0 lo)).map fun m => sIx' n 0 lo + m := by
  have : Builtin.Str.strSliceIndices lo hi 1 n = sliceRange (clipS n 0 lo) (clipS n n hi) 1 := by
    cases lo <;> cases hi <;> rfl
  rw [this, show (0 : Int) = ((0 : Nat) : Int) from rfl, clipS_eq n 0 (Nat.zero_le _), clipS_eq n n (Nat.le_refl _)]
  unfold sliceRange
  simp only [show (1 : Int) > 0 by decide, if_true, Int.one_mul, Int.ediv_one]
  have ec : (if ((sIx' n 0 lo : Nat) : Int) < ((sIx' n n hi : Nat) : Int) then ((sIx' n n hi : Nat) : Int) - ((sIx' n 0 lo : Nat) : Int) + 1 - 1 else 0).toNat = sIx' n n hi - sIx' n 0 lo := by
    split <;> omega
  rw [ec]
  apply List.map_congr_left
  intro a _
  omega
theorem slice_co (x : Str) (lo hi : Option Int) : co (Txt.slice x lo hi) = ((co x).drop (sIx' x.length 0 lo)).take (sIx' x.length x.length hi - sIx' x.length 0 lo) := by
  have key : (Builtin.Str.strSliceIndices lo hi 1 x.length).filterMap (x.cps[·]?) = ((co x).drop (sIx' x.length 0 lo)).take (sIx' x.length x.length hi - sIx' x.length 0 lo) := by
    rw [indices_eq, ← pickN (co x)]
    congr 1
    funext j
    simp [co]
  unfold Txt.slice
  split
  · rename_i h
    have hl : (Builtin.Str.strSliceIndices lo hi 1 x.length).length = x.length := by
      simpa using h
    rw [indices_eq, List.length_map, List.length_range] at hl
    have h1 := sIx'_le x.length x.length (Nat.le_refl _) hi
    have h2 : sIx' x.length 0 lo = 0 ∨ x.length = 0 := by omega
    have h3 := co_len x
    rcases h2 with h2 | h2
    · rw [hl, h2, List.drop_zero, List.take_of_length_le (by omega)]
    · have : co x = [] := List.length_eq_zero_iff.mp (by omega)
      rw [this]; simp
  · rw [co_mk]; exact key

/-! ### names -/
def NAMES : Str := "abcdefghijklmnopqrstuvwxyz0123456789-"
def mades (l : List Nat) (sg : Str) : Bool := l.all fun c => decide (c ∈ co sg)
def nameB (x : Str) : Bool := decide (1 ≤ x.length) && decide (x.length ≤ 12) && mades (co x) NAMES

/-! ### numbers -/
/-! ### str(n) -/
/-! ### the law's own reckoning -/
end Dm

/-! MATHEMATICS of the drawn names. -/
namespace Dm
open PySem PySem.NumText
def cellI (ns : List Int) (i : Int) : Int := ns.getD i.toNat 0
def pt (c k m : Int) : Int := (c % 99991 + 17) * (48271 + 7919 * k) % 65537 * (k + 3) % 8191 % m
theorem pt_bd (c k m : Int) (h : 0 < m) : 0 ≤ pt c k m ∧ pt c k m < m := ⟨Int.emod_nonneg _ (by omega), Int.emod_lt_of_pos _ h⟩
/-- the number of the sign at j of the k-th name -/
def nmI (one at' : Int) (k j : Nat) : Int := if (j : Int) = at' then pt one ((j : Int) + 2) 37 + k else pt one ((j : Int) + 2) 37
def nmN (one at' : Int) (k j : Nat) : Nat := (co NAMES).getD (nmI one at' k j % 37).toNat 0
def nmC (one at' : Int) (k size : Nat) : List Nat := (List.range size).map (nmN one at' k)
theorem names_len : (co NAMES).length = 37 := by decide +kernel
theorem names_nd : (co NAMES).Nodup := by decide +kernel
theorem ix37 (z : Int) : 0 ≤ z % 37 ∧ (z % 37).toNat < (co NAMES).length := by
  have h1 := Int.emod_nonneg z (show (37 : Int) ≠ 0 by decide)
  have h2 := Int.emod_lt_of_pos z (show (0 : Int) < 37 by decide)
  rw [names_len]
  omega
theorem nmN_mem (one at' : Int) (k j : Nat) : nmN one at' k j ∈ co NAMES := by
  unfold nmN
  have h := (ix37 (nmI one at' k j)).2
  rw [List.getD_eq_getElem?_getD, List.getElem?_eq_getElem h]
  exact List.getElem_mem h
theorem names_inj {i j : Nat} (hi : i < (co NAMES).length) (hj : j < (co NAMES).length) (h : (co NAMES).getD i 0 = (co NAMES).getD j 0) : i = j := by
  rw [List.getD_eq_getElem?_getD, List.getD_eq_getElem?_getD, List.getElem?_eq_getElem hi, List.getElem?_eq_getElem hj] at h
  have h : (co NAMES)[i] = (co NAMES)[j] := h
  exact (List.getElem_inj names_nd).mp h
theorem nmC_len (one at' : Int) (k size : Nat) : (nmC one at' k size).length = size := by unfold nmC; simp
theorem nmC_get {one at' : Int} {k size j : Nat} (h : j < size) : (nmC one at' k size)[j]? = some (nmN one at' k j) := by
  unfold nmC
  rw [List.getElem?_map, List.getElem?_range h]; rfl
def strOf (l : List Nat) : Str := ⟨l.toArray⟩
theorem co_strOf (l : List Nat) : co (strOf l) = l := co_mk l
theorem strOf_inj {l m : List Nat} (h : strOf l = strOf m) : l = m := by
  have := congrArg co h
  rwa [co_strOf, co_strOf] at this
theorem nameB_of {x : Str} (h1 : 1 ≤ (co x).length) (h2 : (co x).length ≤ 12) (h3 : ∀ c ∈ co x, c ∈ co NAMES) : nameB x = true := by
  rw [co_len] at h1 h2
  unfold nameB
  rw [decide_eq_true h1, decide_eq_true h2]
  show mades (co x) NAMES = true
  exact List.all_eq_true.mpr fun c hc => decide_eq_true (h3 c hc)
theorem nmC_mem {one at' : Int} {k size c : Nat} (h : c ∈ nmC one at' k size) : c ∈ co NAMES := by
  obtain ⟨j, _, rfl⟩ := List.mem_map.mp h
  exact nmN_mem ..
theorem nodup_map_range {f : Nat → Str} {n : Nat} (h : ∀ i j, i < n → j < n → f i = f j → i = j) : ((List.range n).map f).Nodup := by
  unfold List.Nodup
  rw [List.pairwise_map]
  refine List.Pairwise.imp_of_mem (R := (· ≠ ·)) (fun {a b} ha hb hab e => ?_) List.nodup_range
  exact hab (h a b (List.mem_range.mp ha) (List.mem_range.mp hb) e)
end Dm
namespace Dm
open PySem PySem.NumText
theorem emp_is : (Str.ofString "" : Str) = strOf [] := by decide +kernel
theorem app_strOf (l m : List Nat) : strOf l ++ strOf m = strOf (l ++ m) := by
  apply ext_co
  show (l.toArray ++ m.toArray).toList = (l ++ m).toArray.toList
  simp
theorem len_strOf (l : List Nat) : (strOf l).length = l.length := by show l.toArray.size = _; simp
theorem slice_take (l : List Nat) (z : Int) (h0 : 0 ≤ z) (h1 : z ≤ l.length) : Txt.slice (strOf l) none (some z) = strOf (l.take z.toNat) := by
  apply ext_co
  rw [slice_co, co_strOf, co_strOf, len_strOf]
  simp only [sIx']
  rw [if_neg (by omega), List.drop_zero, Nat.sub_zero]
  congr 1
  omega
end Dm

/-! TELLINGS as data: rows of words. -/
namespace Dm
open PySem PySem.NumText L2
def KINDS : List Str := ["over", "cuts", "fills", "same"]
def YearOk (z : Int) : Prop := z.natAbs < 10 ^ 60
/-- a tie between units of us -/
inductive TieOk (us : List Str) : List V → Prop where
  | plain {kd x y : Str} (hk : kd ∈ KINDS) (hx : x ∈ us) (hy : y ∈ us) : TieOk us [.str kd, .str x, .str y]
  | after {x y : Str} {n : Int} (hx : x ∈ us) (hy : y ∈ us) (h0 : 0 ≤ n) (h1 : YearOk n) : TieOk us [.str "after", .str x, .str y, .int n]
theorem name_le {x : Str} (h : nameB x = true) : x.length ≤ 12 := by
  unfold nameB at h
  simp only [Bool.and_eq_true, decide_eq_true_eq] at h
  exact h.1.2
theorem kinds_le : ∀ k ∈ KINDS, k.length ≤ 100 := by decide +kernel
theorem TieOk.words {us : List Str} {ws : List V} (h : TieOk us ws) (hu : ∀ x ∈ us, nameB x = true) : (∀ v ∈ ws, Wd v) ∧ ws.length ≤ 5 ∧ ∃ x r, ws = .str x :: r := by
  have nm : ∀ x ∈ us, Wd (.str x) := fun x hx => .inl ⟨x, rfl, Nat.le_trans (name_le (hu x hx)) (by decide)⟩
  cases h with
  | plain hk hx hy =>
    refine ⟨fun v hv => ?_, by simp, _, _, rfl⟩
    simp only [List.mem_cons, List.not_mem_nil, or_false] at hv
    rcases hv with rfl | rfl | rfl
    · exact .inl ⟨_, rfl, kinds_le _ hk⟩
    · exact nm _ hx
    · exact nm _ hy
  | after hx hy h0 h1 =>
    refine ⟨fun v hv => ?_, by simp, _, _, rfl⟩
    simp only [List.mem_cons, List.not_mem_nil, or_false] at hv
    rcases hv with rfl | rfl | rfl | rfl
    · exact .inl ⟨_, rfl, by decide +kernel⟩
    · exact nm _ hx
    · exact nm _ hy
    · exact .inr ⟨_, rfl, h1⟩
/-- tuples lie at these addresses -/
abbrev Tups (H : Hp) : List Addr → List (List V) → Prop := Paired fun a ws => H a = some (.tup ws)
theorem Tups.same {H H' : Hp} (s : Same H H') : ∀ {as : List Addr} {wss : List (List V)}, Tups H as wss → Tups H' as wss
  | _, _, .nil => .nil
  | _, _, .cons h t => .cons (s _ _ h) (Tups.same s t)
theorem Tups.get {H : Hp} : ∀ {as : List Addr} {wss : List (List V)} {a : Addr}, Tups H as wss → a ∈ as → ∃ ws ∈ wss, H a = some (.tup ws)
  | _, _, _, .cons h t, ha => by
    rcases List.mem_cons.mp ha with ha | ha
    · subst ha; exact ⟨_, List.mem_cons_self .., h⟩
    · obtain ⟨ws, hw, e⟩ := Tups.get t ha
      exact ⟨ws, List.mem_cons_of_mem _ hw, e⟩
theorem Tups.snoc {H : Hp} {a : Addr} {ws : List V} {as : List Addr} {wss : List (List V)} (t : Tups H as wss) (h : H a = some (.tup ws)) : Tups H (as ++ [a]) (wss ++ [ws]) := Paired.snoc t h
end Dm

/-! A telling on the heap: four lists and their tuples. -/
namespace Dm
open PySem PySem.NumText L2
theorem Tups.stay {H H' : Hp} (s : ∀ b xs, H b = some (.tup xs) → H' b = some (.tup xs)) : ∀ {as : List Addr} {wss : List (List V)}, Tups H as wss → Tups H' as wss
  | _, _, .nil => .nil
  | _, _, .cons h t => .cons (s _ _ h) (Tups.stay s t)
theorem tup_stay {H : Hp} {p : Addr} {xs ys : List V} (h : H p = some (.lst xs)) : ∀ b zs, H b = some (.tup zs) → upd H p (.lst ys) b = some (.tup zs) := fun b zs e => by
  rw [upd_ne (ne_of e h (by intro z; cases z))]; exact e
section
variable {H H' : Hp} {pu pt pf pr p : Addr} {us : List Str} {ts fs rs : List (List V)} {at' af ar : List Addr} {ws : List V}
end
theorem take_fresh {xs : List Str} (nd : xs.Nodup) (k : Nat) (h : k < xs.length) : xs[k] ∉ xs.take k := by
  intro z
  obtain ⟨j, hj, e⟩ := List.mem_iff_getElem.mp z
  rw [List.getElem_take] at e
  rw [List.length_take] at hj
  have := (List.getElem_inj nd).mp e
  omega
theorem eqV_wd {x y : V} (hx : Wd x) (hy : Wd y) : eqV x y = decide (x = y) := by
  rcases hx with ⟨a, rfl, _⟩ | ⟨a, rfl, _⟩ <;> rcases hy with ⟨b, rfl, _⟩ | ⟨b, rfl, _⟩
  · show (a == b) = _
    by_cases h : a = b
    · subst h; simp
    · rw [decide_eq_false (fun z => h (V.str.inj z))]
      exact beq_eq_false_iff_ne.mpr h
  · exact (decide_eq_false (fun z => nomatch z)).symm
  · exact (decide_eq_false (fun z => nomatch z)).symm
  · show (a == b) = _
    by_cases h : a = b
    · subst h; simp
    · rw [decide_eq_false (fun z => h (V.int.inj z))]
      exact beq_eq_false_iff_ne.mpr h
theorem eqL_wd {xs ys : List V} (hx : ∀ v ∈ xs, Wd v) (hy : ∀ v ∈ ys, Wd v) : eqL xs ys = decide (xs = ys) := by
  by_cases h : xs = ys
  · subst h
    rw [eqL_refl fun x q => (hx x q).flat, decide_eq_true rfl]
  · rw [decide_eq_false h]
    rw [← Bool.not_eq_true]
    intro q
    unfold eqL at q
    rw [Bool.and_eq_true] at q
    obtain ⟨q1, q2⟩ := q
    have q2 : xs.length = ys.length := by simpa using q2
    apply h
    apply List.ext_getElem q2
    intro i h1 h2
    have := List.all_eq_true.mp q1 i (List.mem_range.mpr (by omega))
    rw [List.getElem?_eq_getElem h1, List.getElem?_eq_getElem h2] at this
    have e : eqV xs[i] ys[i] = true := this
    rw [eqV_wd (hx _ (List.getElem_mem h1)) (hy _ (List.getElem_mem h2))] at e
    exact of_decide_eq_true e
theorem Tups.len {H : Hp} {as : List Addr} {wss : List (List V)} (t : Tups H as wss) : as.length = wss.length := Paired.length t
/-- is the tuple at p one of those? -/
theorem Tups.any {H : Hp} {as : List Addr} {wss : List (List V)} {ws : List V} (t : Tups H as wss) : ∀ (e : V → Bool), (∀ a vs, vs ∈ wss → H a = some (.tup vs) → e (.ref a) = decide (vs = ws)) → (as.map V.ref).any e = decide (ws ∈ wss) := by
  intro e he
  induction t with
  | nil => simp
  | @cons a vs as wss h t ih =>
    rw [List.map_cons, List.any_cons, he a vs (List.mem_cons_self ..) h, ih fun b us q r => he b us (List.mem_cons_of_mem _ q) r]
    by_cases q : vs = ws
    · subst q; simp
    · rw [decide_eq_false q, Bool.false_or]
      have : ws ∈ vs :: wss ↔ ws ∈ wss := by
        rw [List.mem_cons]
        constructor
        · rintro (z | z)
          · exact absurd z.symm q
          · exact z
        · exact .inr
      exact decide_eq_decide.mpr this.symm
/-- what a tuple's equality with the tuple of words at p says -/
def tupE (H : Hp) (ws : List V) : V → Bool
  | .ref a => match H a with
    | some (.tup vs) => decide (vs = ws)
    | _ => false
  | _ => false
theorem tupE_of {H : Hp} {ws vs : List V} {a : Addr} (h : H a = some (.tup vs)) : tupE H ws (.ref a) = decide (vs = ws) := by
  show (match H a with | some (.tup vs) => decide (vs = ws) | _ => false) = _
  rw [h]
theorem Tups.anyE {H : Hp} {as : List Addr} {wss : List (List V)} {ws : List V} (t : Tups H as wss) : (as.map V.ref).any (tupE H ws) = decide (ws ∈ wss) := t.any _ fun _ _ _ h => tupE_of h
theorem Tups.deq {K : PySem.W.Frag} {H : Hp} {n : Nat} {as : List Addr} {wss : List (List V)} {ws : List V} {p : Addr} (t : Tups H as wss) (hw : ∀ vs ∈ wss, ∀ v ∈ vs, Wd v) (hp : H p = some (.tup ws)) (hv : ∀ v ∈ ws, Wd v) :
    ∀ z ∈ as.map V.ref, DEq K H (n + 1) z (.ref p) (tupE H ws z) := by
  intro z hz
  obtain ⟨a, ha, rfl⟩ := List.mem_map.mp hz
  obtain ⟨vs, hvs, e⟩ := t.get ha
  rw [tupE_of e, ← eqL_wd (hw vs hvs) hv]
  exact DEq.flatT (SqT.of e) (SqT.of hp) (fun x q => (hw vs hvs x q).flat) fun x q => (hv x q).flat
end Dm

/-! LINES of words, texts of lines: by their codes. -/
namespace Dm
open PySem PySem.NumText L2
/-- joined -/
def jc (s : List Nat) : List (List Nat) → List Nat
  | [] => []
  | [x] => x
  | x :: y :: r => x ++ s ++ jc s (y :: r)
theorem jc_len (s : List Nat) : ∀ l : List (List Nat), (jc s l).length ≤ (l.map List.length).sum + l.length * s.length
  | [] => Nat.zero_le _
  | [x] => by simp [jc]
  | x :: y :: r => by
    have := jc_len s (y :: r)
    show (x ++ s ++ jc s (y :: r)).length ≤ _
    rw [List.length_append, List.length_append, List.map_cons, List.sum_cons, List.length_cons, Nat.succ_mul]
    omega
theorem co_app (x y : Str) : co (x ++ y) = co x ++ co y := by
  show (x.cps ++ y.cps).toList = _
  simp
theorem co_glued (sep : Str) : ∀ l : List Str, co (Txt.join sep l) = jc (co sep) (l.map co) := by
  have go : ∀ l : List Str, co (Str.join sep l) = jc (co sep) (l.map co) := by
    intro l
    induction l with
    | nil => rfl
    | cons x r ih =>
      cases r with
      | nil => rfl
      | cons y r =>
        show co (x ++ sep ++ Str.join sep (y :: r)) = co x ++ co sep ++ jc (co sep) ((y :: r).map co)
        rw [co_app, co_app, ih]
  intro l
  cases l with
  | nil => rfl
  | cons x r =>
    show co (Builtin.Str.glued sep (x :: r)) = _
    rw [StrLaws.glued_eq_join]
    exact go _
theorem join_strOf (sep : Str) (l : List Str) : Txt.join sep l = strOf (jc (co sep) (l.map co)) := ext_co (by rw [co_glued, co_strOf])
theorem blank_is : (Str.ofString " " : Str) = strOf [32] := by decide +kernel
theorem feed_is : (Str.ofString "\n" : Str) = strOf [10] := by decide +kernel
theorem sum_le {l : List (List Nat)} {k : Nat} (h : ∀ x ∈ l, x.length ≤ k) : (l.map List.length).sum ≤ l.length * k := by
  induction l with
  | nil => simp
  | cons x r ih =>
    rw [List.map_cons, List.sum_cons, List.length_cons, Nat.succ_mul]
    have := h x (List.mem_cons_self ..)
    have := ih fun y hy => h y (List.mem_cons_of_mem _ hy)
    omega
end Dm

namespace Dm
open PySem PySem.NumText L2
theorem cutV_ints (ns : List Int) (lo hi : Option Int) : ∃ cs : List Int, cutV (ns.map V.int) lo hi = cs.map V.int ∧ cs.length ≤ ns.length := by
  refine ⟨(ns.drop (HT.sIx (ns.map V.int).length 0 lo)).take (HT.sIx (ns.map V.int).length (ns.map V.int).length hi - HT.sIx (ns.map V.int).length 0 lo), ?_, ?_⟩
  · unfold cutV
    rw [List.map_take, List.map_drop]
  · rw [List.length_take, List.length_drop]
    omega
end Dm

/-! Rows at addresses; periods. -/
namespace Dm
open PySem PySem.NumText L2
theorem rows_at {α : Type} {H : Hp} {g : α → List V} {ads : List Addr} {ps : List α} {i : Nat} {x : V} (t : Tups H ads (ps.map g)) (hx : (ads.map V.ref)[i]? = some x) :
    ∃ q p, x = .ref q ∧ ps[i]? = some p ∧ ads[i]? = some q ∧ H q = some (.tup (g p)) := by
  rw [List.getElem?_map] at hx
  cases e : ads[i]? with
  | none => rw [e] at hx; cases hx
  | some q =>
    rw [e] at hx
    cases hx
    obtain ⟨ws, h1, h2⟩ := Paired.get' t e
    rw [List.getElem?_map] at h1
    cases e' : ps[i]? with
    | none => rw [e'] at h1; cases h1
    | some p =>
      rw [e'] at h1
      cases h1
      exact ⟨q, p, rfl, rfl, rfl, h2⟩
theorem take_all {α : Type} {p : α → Prop} {xs : List α} {i : Nat} {x : α} (hx : xs[i]? = some x) (h : ∀ y ∈ xs.take i, p y) (hp : p x) : ∀ y ∈ xs.take (i + 1), p y := by
  intro y hy
  rw [List.take_add_one, hx, List.mem_append] at hy
  rcases hy with hy | hy
  · exact h y hy
  · simp at hy; subst hy; exact hp
theorem at_two {u v : V} {i : Int} (h0 : 0 ≤ i) (h1 : i < 2) : ∃ z, atI [u, v] i = some z ∧ (z = u ∨ z = v) := by
  have h : i = 0 ∨ i = 1 := by omega
  rcases h with rfl | rfl
  · exact ⟨u, rfl, .inl rfl⟩
  · exact ⟨v, rfl, .inr rfl⟩
end Dm

/-! Ties as data, ones as labels, what same ties join. -/
namespace Dm
open PySem PySem.NumText L2
structure Tie where
  k : Str
  a : Str
  b : Str
  g : Option Int
def tieV (t : Tie) : List V := .str t.k :: .str t.a :: .str t.b :: (match t.g with
  | some n => [V.int n]
  | none => [])
def SAME : Str := "same"
structure TOk (us : List Str) (t : Tie) : Prop where
  ok : TieOk us (tieV t)
  a : t.a ∈ us
  b : t.b ∈ us
theorem tieV_0 (t : Tie) : atI (tieV t) 0 = some (.str t.k) := atI_0
theorem tieV_1 (t : Tie) : atI (tieV t) 1 = some (.str t.a) := atI_nat (xs := tieV t) (j := 1) rfl
theorem tieV_2 (t : Tie) : atI (tieV t) 2 = some (.str t.b) := atI_nat (xs := tieV t) (j := 2) rfl
/-! ### the order of texts -/
theorem co_anti {x y : Str} (h1 : ¬ co x < co y) (h2 : ¬ co y < co x) : x = y := by
  rw [List.not_lt] at h1 h2
  exact ext_co (List.le_antisymm h2 h1)
theorem co_asymm {x y : Str} (h1 : co x < co y) (h2 : co y < co x) : False := List.lt_irrefl _ (List.lt_trans h1 h2)
/-- y < m and not f < m: y < f -/
theorem co_le {y m f : List Nat} (h1 : y < m) (h2 : ¬ f < m) : y < f := by
  exact Decidable.byContradiction fun z => h2 (List.lt_of_le_of_lt (List.not_lt.mp z) h1)
def minS (x y : Str) : Str := if co y < co x then y else x
theorem minS_or (x y : Str) : minS x y = x ∨ minS x y = y := by unfold minS; split <;> simp
theorem minS_l (x y : Str) : ¬ co x < co (minS x y) := by
  unfold minS
  split
  · next h => exact fun z => co_asymm h z
  · exact List.lt_irrefl _
theorem minS_r (x y : Str) : ¬ co y < co (minS x y) := by
  unfold minS
  split
  · exact List.lt_irrefl _
  · next h => exact h
/-! ### what same ties join -/
def Nb (ts : List Tie) (y z : Str) : Prop := ∃ t ∈ ts, t.k = SAME ∧ ((t.a = y ∧ t.b = z) ∨ (t.b = y ∧ t.a = z))
inductive Cn (ts : List Tie) : Str → Str → Prop where
  | refl (x : Str) : Cn ts x x
  | step {x y z : Str} (h : Cn ts x y) (n : Nb ts y z) : Cn ts x z
theorem Nb.symm {ts : List Tie} {y z : Str} (h : Nb ts y z) : Nb ts z y := by
  obtain ⟨t, ht, hk, h⟩ := h
  exact ⟨t, ht, hk, h.elim (fun q => .inr ⟨q.2, q.1⟩) fun q => .inl ⟨q.2, q.1⟩⟩
theorem Cn.trans {ts : List Tie} {x y z : Str} (h : Cn ts x y) (h2 : Cn ts y z) : Cn ts x z := by
  induction h2 with
  | refl => exact h
  | step _ n ih => exact ih.step n
theorem Cn.one {ts : List Tie} {y z : Str} (n : Nb ts y z) : Cn ts y z := (Cn.refl y).step n
theorem Cn.symm {ts : List Tie} {x y : Str} (h : Cn ts x y) : Cn ts y x := by
  induction h with
  | refl => exact .refl _
  | step _ n ih => exact (Cn.one n.symm).trans ih
theorem Nb.mono {ts ts' : List Tie} {y z : Str} (h : Nb ts y z) (s : ∀ t ∈ ts, t ∈ ts') : Nb ts' y z := by
  obtain ⟨t, ht, r⟩ := h
  exact ⟨t, s t ht, r⟩
theorem Cn.mono {ts ts' : List Tie} {y z : Str} (h : Cn ts y z) (s : ∀ t ∈ ts, t ∈ ts') : Cn ts' y z := by
  induction h with
  | refl => exact .refl _
  | step _ n ih => exact ih.step (n.mono s)
theorem Nb.mem {us : List Str} {ts : List Tie} {y z : Str} (h : Nb ts y z) (ht : ∀ t ∈ ts, t.a ∈ us ∧ t.b ∈ us) : z ∈ us := by
  obtain ⟨t, h1, _, h2⟩ := h
  rcases h2 with ⟨_, rfl⟩ | ⟨_, rfl⟩
  · exact (ht t h1).2
  · exact (ht t h1).1
theorem Cn.mem {us : List Str} {ts : List Tie} {y z : Str} (h : Cn ts y z) (hy : y ∈ us) (ht : ∀ t ∈ ts, t.a ∈ us ∧ t.b ∈ us) : z ∈ us := by
  cases h with
  | refl => exact hy
  | step _ n => exact n.mem ht
/-! ### the labels -/
def jn (lab : Str → Str) (f s : Str) : Str → Str := fun x => if lab x = f ∨ lab x = s then minS f s else lab x
def stp (lab : Str → Str) (t : Tie) : Str → Str := if t.k = SAME then jn lab (lab t.a) (lab t.b) else lab
def labs (ts : List Tie) : Str → Str := ts.foldl stp id
structure Good (ts : List Tie) (lab : Str → Str) : Prop where
  to : ∀ x, Cn ts x (lab x)
  eq : ∀ x y, Cn ts x y → lab x = lab y
  le : ∀ x y, Cn ts x y → ¬ co y < co (lab x)
theorem good_nil : Good [] id := by
  have h : ∀ x y, Cn [] x y → x = y := by
    intro x y c
    induction c with
    | refl => rfl
    | step _ n _ => obtain ⟨t, ht, _⟩ := n; cases ht
  exact ⟨fun x => .refl x, h, fun x y c => by rw [h x y c]; exact List.lt_irrefl _⟩
theorem good_snoc {ts : List Tie} {lab : Str → Str} {t : Tie} (g : Good ts lab) : Good (ts ++ [t]) (stp lab t) := by
  have sub : ∀ u ∈ ts, u ∈ ts ++ [t] := fun u hu => List.mem_append_left _ hu
  by_cases hk : t.k = SAME
  · unfold stp
    rw [if_pos hk]
    have nt : Nb (ts ++ [t]) t.a t.b := ⟨t, by simp, hk, .inl ⟨rfl, rfl⟩⟩
    have ca : ∀ x, lab x = lab t.a → Cn (ts ++ [t]) x t.a := fun x e => by
      have h1 := (g.to x).mono sub
      have h2 := (g.to t.a).mono sub
      rw [e] at h1
      exact h1.trans h2.symm
    have cb : ∀ x, lab x = lab t.b → Cn (ts ++ [t]) x t.b := fun x e => by
      have h1 := (g.to x).mono sub
      have h2 := (g.to t.b).mono sub
      rw [e] at h1
      exact h1.trans h2.symm
    have la : Cn (ts ++ [t]) t.a (lab t.a) := (g.to t.a).mono sub
    have lb : Cn (ts ++ [t]) t.b (lab t.b) := (g.to t.b).mono sub
    have to : ∀ x, Cn (ts ++ [t]) x (jn lab (lab t.a) (lab t.b) x) := by
      intro x
      unfold jn
      split
      · next h =>
        have hx : Cn (ts ++ [t]) x t.a := h.elim (ca x) fun e => (cb x e).trans (Cn.one nt.symm)
        rcases minS_or (lab t.a) (lab t.b) with e | e
        · rw [e]; exact hx.trans la
        · rw [e]; exact (hx.trans (Cn.one nt)).trans lb
      · exact (g.to x).mono sub
    have ja : jn lab (lab t.a) (lab t.b) t.a = minS (lab t.a) (lab t.b) := if_pos (.inl rfl)
    have jb : jn lab (lab t.a) (lab t.b) t.b = minS (lab t.a) (lab t.b) := if_pos (.inr rfl)
    have eq : ∀ x y, Cn (ts ++ [t]) x y → jn lab (lab t.a) (lab t.b) x = jn lab (lab t.a) (lab t.b) y := by
      intro x y c
      induction c with
      | refl => rfl
      | @step y z _ n ih =>
        rw [ih]
        obtain ⟨u, hu, hku, h⟩ := n
        rcases List.mem_append.mp hu with hu | hu
        · have : lab y = lab z := g.eq y z (Cn.one ⟨u, hu, hku, h⟩)
          unfold jn
          rw [this]
        · have hu : u = t := by simpa using hu
          subst hu
          rcases h with ⟨rfl, rfl⟩ | ⟨rfl, rfl⟩
          · rw [ja, jb]
          · rw [ja, jb]
    refine ⟨to, eq, fun x y c => ?_⟩
    rw [eq x y c]
    have old := g.le y y (.refl y)
    unfold jn
    split
    · next h =>
      rcases h with e | e
      · intro z
        rw [e] at old
        exact old (co_le z (minS_l _ _))
      · intro z
        rw [e] at old
        exact old (co_le z (minS_r _ _))
    · exact old
  · unfold stp
    rw [if_neg hk]
    have back : ∀ x y, Cn (ts ++ [t]) x y → Cn ts x y := by
      intro x y c
      induction c with
      | refl => exact .refl _
      | step _ n ih =>
        obtain ⟨u, hu, hku, h⟩ := n
        rcases List.mem_append.mp hu with hu | hu
        · exact ih.step ⟨u, hu, hku, h⟩
        · have hu : u = t := by simpa using hu
          subst hu
          exact absurd hku hk
    exact ⟨fun x => (g.to x).mono sub, fun x y c => g.eq x y (back x y c), fun x y c => g.le x y (back x y c)⟩
theorem good_all : ∀ (ts2 ts : List Tie) (lab : Str → Str), Good ts lab → Good (ts ++ ts2) (ts2.foldl stp lab)
  | [], ts, lab, g => by rw [List.append_nil]; exact g
  | t :: r, ts, lab, g => by
    have := good_all r (ts ++ [t]) (stp lab t) (good_snoc g)
    rw [List.append_assoc] at this
    exact this
theorem labs_good (ts : List Tie) : Good ts (labs ts) := good_all ts [] id good_nil
theorem labs_step {ts : List Tie} {i : Nat} {t : Tie} (h : ts[i]? = some t) : labs (ts.take (i + 1)) = stp (labs (ts.take i)) t := by
  unfold labs
  rw [List.take_add_one, h, List.foldl_append]
  rfl
theorem labs_mem {us : List Str} {ts : List Tie} {x : Str} (hx : x ∈ us) (ht : ∀ t ∈ ts, t.a ∈ us ∧ t.b ∈ us) : labs ts x ∈ us := ((labs_good ts).to x).mem hx ht
/-! ### the dict of labels -/
def dN (us : List Str) (lab : Str → Str) : List (Key × V) := us.map fun x => (Sum.inr x, V.str (lab x))
theorem dN_val {us : List Str} {lab : Str → Str} {x : Str} (h : x ∈ us) : valV (dN us lab) (Sum.inr x) = some (.str (lab x)) := by
  induction us with
  | nil => cases h
  | cons y r ih =>
    unfold dN
    rw [List.map_cons]
    by_cases e : y = x
    · subst e
      exact valV_pos rfl
    · have hx : x ∈ r := by
        rcases List.mem_cons.mp h with h | h
        · exact absurd h.symm e
        · exact h
      have := ih hx
      unfold valV at this ⊢
      rw [List.find?_cons_of_neg (by simpa using e)]
      exact this
theorem dN_put {us : List Str} {lab : Str → Str} {x y : Str} (h : x ∈ us) : putK (dN us lab) (Sum.inr x) (.str y) = dN us (fun z => if z = x then y else lab z) := by
  have ha : ((dN us lab).any fun kv => decide (kv.1 = (Sum.inr x : Key))) = true := by
    rw [List.any_eq_true]
    exact ⟨(Sum.inr x, V.str (lab x)), List.mem_map.mpr ⟨x, h, rfl⟩, decide_eq_true rfl⟩
  unfold putK
  rw [if_pos ha]
  unfold dN
  rw [List.map_map]
  apply List.map_congr_left
  intro z _
  show (if (Sum.inr z : Key) = Sum.inr x then (Sum.inr z, V.str y) else (Sum.inr z, V.str (lab z))) = _
  by_cases e : z = x
  · subst e; simp
  · rw [if_neg (fun q => e (Sum.inr.inj q))]
    show _ = (Sum.inr z, V.str (if z = x then y else lab z))
    rw [if_neg e]
theorem dN_new {us : List Str} {x : Str} (h : x ∉ us) : putK (dN us id) (Sum.inr x) (.str x) = dN (us ++ [x]) id := by
  have ha : ¬ ((dN us id).any fun kv => decide (kv.1 = (Sum.inr x : Key))) = true := by
    rw [List.any_eq_true]
    rintro ⟨kv, h1, h2⟩
    obtain ⟨z, hz, rfl⟩ := List.mem_map.mp h1
    have h2 : z = x := Sum.inr.inj (of_decide_eq_true h2)
    subst h2
    exact h hz
  unfold putK
  rw [if_neg ha]
  unfold dN
  rw [List.map_append]
  rfl
theorem dN_congr {us : List Str} {f g : Str → Str} (h : ∀ x ∈ us, f x = g x) : dN us f = dN us g := by
  unfold dN
  apply List.map_congr_left
  intro x hx
  rw [h x hx]
theorem dN_len (us : List Str) (f : Str → Str) : (dN us f).length = us.length := List.length_map _
theorem dN_keys (us : List Str) (f : Str → Str) : ((dN us f).map fun kv => kV kv.1) = us.map V.str := by
  unfold dN
  rw [List.map_map]
  rfl
/-! ### closed under same ties -/
theorem nodup_le {us rs : List Str} (hn : rs.Nodup) (hs : ∀ x ∈ rs, x ∈ us) : rs.length ≤ us.length := by
  induction rs generalizing us with
  | nil => simp
  | cons a r ih =>
    rw [List.nodup_cons] at hn
    have ha := hs a (by simp)
    have h2 : ∀ x ∈ r, x ∈ us.erase a := fun x hx => by
      refine (List.mem_erase_of_ne (fun z => by subst z; exact hn.1 hx)).mpr (hs x (List.mem_cons_of_mem _ hx))
    have := ih hn.2 h2
    rw [List.length_erase_of_mem ha] at this
    have hp : 0 < us.length := List.length_pos_of_mem ha
    rw [List.length_cons]
    omega
end Dm

/-! Sorted lists of texts; the groups of ones; dicts with text keys. -/
namespace Dm
open PySem PySem.NumText L2
def Rises (l : List Str) : Prop := l.Pairwise (fun a b => ¬ co b < co a)
theorem rises_unique : ∀ {a b : List Str}, a.Perm b → Rises a → Rises b → a = b
  | [], b, p, _, _ => by rw [List.nil_perm.mp p]
  | x :: r, [], p, _, _ => by have := p.length_eq; cases this
  | x :: r, y :: r', p, ha, hb => by
    have hx : x ∈ y :: r' := p.mem_iff.mp (by simp)
    have hy : y ∈ x :: r := p.mem_iff.mpr (by simp)
    have e : x = y := by
      rcases List.mem_cons.mp hx with h | h
      · exact h
      · rcases List.mem_cons.mp hy with h2 | h2
        · exact h2.symm
        · exact co_anti ((List.pairwise_cons.mp hb).1 x h) ((List.pairwise_cons.mp ha).1 y h2)
    subst e
    rw [rises_unique (List.Perm.cons_inv p) (List.pairwise_cons.mp ha).2 (List.pairwise_cons.mp hb).2]
def insS (x : Str) : List Str → List Str
  | [] => [x]
  | y :: r => if co y < co x then y :: insS x r else x :: y :: r
def srt : List Str → List Str
  | [] => []
  | x :: r => insS x (srt r)
theorem insS_perm (x : Str) : ∀ l, (insS x l).Perm (x :: l)
  | [] => .refl _
  | y :: r => by
    unfold insS
    split
    · exact ((insS_perm x r).cons y).trans (.swap x y r)
    · exact .refl _
theorem srt_perm : ∀ l, (srt l).Perm l
  | [] => .refl _
  | x :: r => (insS_perm x (srt r)).trans ((srt_perm r).cons x)
theorem insS_rises (x : Str) : ∀ l, Rises l → Rises (insS x l)
  | [], _ => List.pairwise_singleton ..
  | y :: r, h => by
    unfold insS
    obtain ⟨h1, h2⟩ := List.pairwise_cons.mp h
    split
    · next c =>
      refine List.pairwise_cons.mpr ⟨fun z hz => ?_, insS_rises x r h2⟩
      rcases List.mem_cons.mp ((insS_perm x r).mem_iff.mp hz) with e | hz
      · subst e; exact fun q => co_asymm q c
      · exact h1 z hz
    · next c =>
      refine List.pairwise_cons.mpr ⟨fun z hz => ?_, h⟩
      rcases List.mem_cons.mp hz with e | hz
      · subst e; exact c
      · intro q
        exact h1 z hz (co_le q c)
theorem srt_rises : ∀ l, Rises (srt l)
  | [] => .nil
  | x :: r => insS_rises x (srt r) (srt_rises r)
theorem srt_eq {ms us : List Str} (p : ms.Perm us) (h : Rises ms) : ms = srt us := rises_unique (p.trans (srt_perm us).symm) h (srt_rises us)
theorem srt_nodup {us : List Str} (h : us.Nodup) : (srt us).Nodup := (srt_perm us).nodup_iff.mpr h
theorem srt_mem {us : List Str} {x : Str} : x ∈ srt us ↔ x ∈ us := (srt_perm us).mem_iff
theorem srt_len (us : List Str) : (srt us).length = us.length := (srt_perm us).length_eq
/-- without doubles it rises strictly -/
theorem srt_lt {us : List Str} (h : us.Nodup) : (srt us).Pairwise (fun a b => co a < co b) := by
  have h1 := srt_rises us
  have h2 := srt_nodup h
  refine (h1.and h2).imp fun {a b} hq0 => ?_
  obtain ⟨p, q⟩ := hq0
  exact Decidable.byContradiction fun k => q (co_anti k p)
theorem lt_index {ss : List Str} (h : ss.Pairwise (fun a b => co a < co b)) {i j : Nat} {x y : Str} (hx : ss[i]? = some x) (hy : ss[j]? = some y) (hl : co x < co y) : i < j := by
  obtain ⟨hi, ex⟩ := List.getElem?_eq_some_iff.mp hx
  obtain ⟨hj, ey⟩ := List.getElem?_eq_some_iff.mp hy
  rcases Nat.lt_trichotomy i j with c | c | c
  · exact c
  · subst c
    rw [ex] at ey
    subst ey
    exact absurd hl (List.lt_irrefl _)
  · have := (List.pairwise_iff_getElem.mp h) j i hj hi c
    rw [ex, ey] at this
    exact (co_asymm hl this).elim
/-! ### dicts with text keys -/
def dV (ks : List Str) (f : Str → V) : List (Key × V) := ks.map fun x => (Sum.inr x, f x)
theorem dV_val {ks : List Str} {f : Str → V} {x : Str} (h : x ∈ ks) : valV (dV ks f) (Sum.inr x) = some (f x) := by
  induction ks with
  | nil => cases h
  | cons y r ih =>
    unfold dV
    rw [List.map_cons]
    by_cases e : y = x
    · subst e
      exact valV_pos rfl
    · have hx : x ∈ r := by
        rcases List.mem_cons.mp h with h | h
        · exact absurd h.symm e
        · exact h
      have := ih hx
      unfold valV at this ⊢
      rw [List.find?_cons_of_neg (by simpa using e)]
      exact this
theorem dV_none {ks : List Str} {f : Str → V} {x : Str} (h : x ∉ ks) : valV (dV ks f) (Sum.inr x) = none := by
  unfold valV
  rw [List.find?_eq_none.mpr]
  · rfl
  · intro kv hkv
    obtain ⟨z, hz, rfl⟩ := List.mem_map.mp hkv
    intro e
    have e : z = x := Sum.inr.inj (of_decide_eq_true e)
    subst e
    exact h hz
theorem dV_put {ks : List Str} {f : Str → V} {x : Str} {v : V} (h : x ∈ ks) : putK (dV ks f) (Sum.inr x) v = dV ks (fun z => if z = x then v else f z) := by
  have ha : ((dV ks f).any fun kv => decide (kv.1 = (Sum.inr x : Key))) = true := by
    rw [List.any_eq_true]
    exact ⟨(Sum.inr x, f x), List.mem_map.mpr ⟨x, h, rfl⟩, decide_eq_true rfl⟩
  unfold putK
  rw [if_pos ha]
  unfold dV
  rw [List.map_map]
  apply List.map_congr_left
  intro z _
  show (if (Sum.inr z : Key) = Sum.inr x then (Sum.inr z, v) else (Sum.inr z, f z)) = (Sum.inr z, if z = x then v else f z)
  by_cases e : z = x
  · subst e; simp
  · rw [if_neg (fun q => e (Sum.inr.inj q)), if_neg e]
theorem dV_new {ks : List Str} {f : Str → V} {x : Str} {v : V} (h : x ∉ ks) : putK (dV ks f) (Sum.inr x) v = dV (ks ++ [x]) (fun z => if z = x then v else f z) := by
  have ha : ¬ ((dV ks f).any fun kv => decide (kv.1 = (Sum.inr x : Key))) = true := by
    rw [List.any_eq_true]
    rintro ⟨kv, h1, h2⟩
    obtain ⟨z, hz, rfl⟩ := List.mem_map.mp h1
    have h2 : z = x := Sum.inr.inj (of_decide_eq_true h2)
    subst h2
    exact h hz
  unfold putK
  rw [if_neg ha]
  unfold dV
  rw [List.map_append]
  congr 1
  · apply List.map_congr_left
    intro z hz
    have : ¬ z = x := fun e => h (e ▸ hz)
    show _ = (Sum.inr z, if z = x then v else f z)
    rw [if_neg this]
  · show [(Sum.inr x, v)] = [(Sum.inr x, if x = x then v else f x)]
    rw [if_pos rfl]
theorem dV_congr {ks : List Str} {f g : Str → V} (h : ∀ x ∈ ks, f x = g x) : dV ks f = dV ks g := by
  unfold dV
  apply List.map_congr_left
  intro x hx
  rw [h x hx]
theorem dV_len (ks : List Str) (f : Str → V) : (dV ks f).length = ks.length := List.length_map _
theorem dV_keys (ks : List Str) (f : Str → V) : ((dV ks f).map fun kv => kV kv.1) = ks.map V.str := by
  unfold dV
  rw [List.map_map]
  rfl
theorem dV_vals (ks : List Str) (f : Str → V) : ((dV ks f).map (·.2)) = ks.map f := by
  unfold dV
  rw [List.map_map]
  rfl
/-! ### groups -/
def keysOf (ts : List Tie) (ss : List Str) : List Str := ss.filter fun x => decide (labs ts x = x)
def grpOf (ts : List Tie) (ss : List Str) (k : Str) : List Str := ss.filter fun x => decide (labs ts x = k)
def onesOf (us : List Str) (ts : List Tie) : List (List Str) := (keysOf ts (srt us)).map (grpOf ts (srt us))
theorem keys_step {ts : List Tie} {ss : List Str} {i : Nat} {u : Str} (h : ss[i]? = some u) : keysOf ts (ss.take (i + 1)) = keysOf ts (ss.take i) ++ (if labs ts u = u then [u] else []) := by
  unfold keysOf
  rw [List.take_add_one, h, List.filter_append]
  by_cases c : labs ts u = u
  · rw [if_pos c]; simp [c]
  · rw [if_neg c]; simp [c]
theorem grp_step {ts : List Tie} {ss : List Str} {i : Nat} {u k : Str} (h : ss[i]? = some u) : grpOf ts (ss.take (i + 1)) k = grpOf ts (ss.take i) k ++ (if labs ts u = k then [u] else []) := by
  unfold grpOf
  rw [List.take_add_one, h, List.filter_append]
  by_cases c : labs ts u = k
  · rw [if_pos c]; simp [c]
  · rw [if_neg c]; simp [c]
theorem labs_idem (ts : List Tie) (x : Str) : labs ts (labs ts x) = labs ts x := ((labs_good ts).eq x _ ((labs_good ts).to x)).symm
theorem labs_le (ts : List Tie) (x : Str) : ¬ co x < co (labs ts x) := (labs_good ts).le x x (.refl x)
/-- the first met of a one is its name -/
theorem key_met {us : List Str} {ts : List Tie} (nd : us.Nodup) (ht : ∀ t ∈ ts, t.a ∈ us ∧ t.b ∈ us) {i : Nat} {u : Str} (h : (srt us)[i]? = some u) (hne : labs ts u ≠ u) : labs ts u ∈ keysOf ts ((srt us).take i) := by
  have hu : u ∈ us := srt_mem.mp (List.mem_of_getElem? h)
  have hl : labs ts u ∈ srt us := srt_mem.mpr (labs_mem hu ht)
  obtain ⟨j, hj, ej⟩ := List.mem_iff_getElem.mp hl
  have ej' : (srt us)[j]? = some (labs ts u) := by rw [List.getElem?_eq_getElem hj, ej]
  have hlt : co (labs ts u) < co u := Decidable.byContradiction fun k => hne (co_anti k (labs_le ts u))
  have hij := lt_index (srt_lt nd) ej' h hlt
  unfold keysOf
  rw [List.mem_filter]
  refine ⟨?_, decide_eq_true (labs_idem ts u)⟩
  rw [List.mem_take_iff_getElem]
  exact ⟨j, by omega, ej⟩
theorem key_new {us : List Str} {ts : List Tie} (nd : us.Nodup) {i : Nat} {u : Str} (h : (srt us)[i]? = some u) : u ∉ keysOf ts ((srt us).take i) ∧ (labs ts u = u → grpOf ts ((srt us).take i) u = []) := by
  have hi := (List.getElem?_eq_some_iff.mp h).1
  have eu := (List.getElem?_eq_some_iff.mp h).2
  have hlt : ∀ x ∈ (srt us).take i, co x < co u := by
    intro x hx
    obtain ⟨j, hj, ej⟩ := List.mem_take_iff_getElem.mp hx
    have := (List.pairwise_iff_getElem.mp (srt_lt nd)) j i (by omega) hi (by omega)
    rw [ej, eu] at this
    exact this
  refine ⟨fun z => ?_, fun e => ?_⟩
  · have := hlt u (List.mem_filter.mp z).1
    exact List.lt_irrefl _ this
  · unfold grpOf
    rw [List.filter_eq_nil_iff]
    intro x hx c
    have c : labs ts x = u := of_decide_eq_true c
    have := labs_le ts x
    rw [c] at this
    exact this (hlt x hx)
end Dm

/-! What the groups of ones are. -/
namespace Dm
open PySem PySem.NumText L2
section
variable {us : List Str} {ts : List Tie}
theorem keys_mem {k : Str} : k ∈ keysOf ts (srt us) ↔ k ∈ us ∧ labs ts k = k := by
  unfold keysOf
  rw [List.mem_filter, srt_mem, decide_eq_true_iff]
theorem keys_nodup (nd : us.Nodup) : (keysOf ts (srt us)).Nodup := (srt_nodup nd).sublist (List.filter_sublist ..)
theorem keys_lt (nd : us.Nodup) : (keysOf ts (srt us)).Pairwise (fun a b => co a < co b) := (srt_lt nd).sublist (List.filter_sublist ..)
theorem grp_lt (nd : us.Nodup) (k : Str) : (grpOf ts (srt us) k).Pairwise (fun a b => co a < co b) := (srt_lt nd).sublist (List.filter_sublist ..)
theorem grp_mem {k y : Str} : y ∈ grpOf ts (srt us) k ↔ y ∈ us ∧ labs ts y = k := by
  unfold grpOf
  rw [List.mem_filter, srt_mem, decide_eq_true_iff]
theorem labs_key (ht : ∀ t ∈ ts, t.a ∈ us ∧ t.b ∈ us) {x : Str} (hx : x ∈ us) : labs ts x ∈ keysOf ts (srt us) := keys_mem.mpr ⟨labs_mem hx ht, labs_idem ts x⟩
theorem grp_head (nd : us.Nodup) {k : Str} (hk : k ∈ keysOf ts (srt us)) : ∃ r, grpOf ts (srt us) k = k :: r := by
  obtain ⟨h1, h2⟩ := keys_mem.mp hk
  have hm : k ∈ grpOf ts (srt us) k := grp_mem.mpr ⟨h1, h2⟩
  have hp := grp_lt (ts := ts) nd k
  cases e : grpOf ts (srt us) k with
  | nil => rw [e] at hm; cases hm
  | cons x r =>
    rw [e] at hm hp
    rcases List.mem_cons.mp hm with z | z
    · rw [z]; exact ⟨r, rfl⟩
    · have h3 := (List.pairwise_cons.mp hp).1 k z
      have hx : x ∈ grpOf ts (srt us) k := by rw [e]; simp
      have h4 := labs_le ts x
      rw [(grp_mem.mp hx).2] at h4
      exact absurd h3 h4
theorem ones_len (nd : us.Nodup) : (onesOf us ts).length ≤ us.length := by
  unfold onesOf
  rw [List.length_map]
  have := List.length_filter_le (fun x => decide (labs ts x = x)) (srt us)
  rw [srt_len] at this
  exact this
end
end Dm

/-! Eight names; where units stand. -/
namespace Dm
open PySem PySem.NumText L2
end Dm

/-! Tellings: units, ties, finds, a frame. -/
namespace Dm
open PySem PySem.NumText L2
structure Fnd where
  n : Str
  u : Str
  lo : Int
  hi : Int
end Dm

/-! What lies beneath what; ways down; the shortest way round. -/
namespace Dm
open PySem PySem.NumText L2
abbrev Ln := Str → List (Str × Addr)
def lnkOf (ts : List Tie) (z : List (Tie × Addr)) : Ln := fun k => (z.filter fun p => decide (p.1.k ≠ SAME ∧ labs ts p.1.a = k)).map fun p => (labs ts p.1.b, p.2)
theorem lnk_step {ts : List Tie} {z : List (Tie × Addr)} {i : Nat} {t : Tie} {r : Addr} {k : Str} (h : z[i]? = some (t, r)) : lnkOf ts (z.take (i + 1)) k = lnkOf ts (z.take i) k ++ (if t.k ≠ SAME ∧ labs ts t.a = k then [(labs ts t.b, r)] else []) := by
  unfold lnkOf
  rw [List.take_add_one, h, List.filter_append, List.map_append]
  by_cases c : t.k ≠ SAME ∧ labs ts t.a = k
  · rw [if_pos c]
    simp [c.1, c.2]
  · rw [if_neg c]
    congr 1
    have : ((some (t, r)).toList.filter fun p => decide (p.1.k ≠ SAME ∧ labs ts p.1.a = k)) = [] := by
      rw [List.filter_eq_nil_iff]
      intro p hp
      have : p = (t, r) := by simpa using hp
      subst this
      intro e
      exact c (of_decide_eq_true e)
    rw [this]; rfl
theorem lnk_mem {ts : List Tie} {z : List (Tie × Addr)} {k l : Str} {r : Addr} : (l, r) ∈ lnkOf ts z k ↔ ∃ t, (t, r) ∈ z ∧ t.k ≠ SAME ∧ labs ts t.a = k ∧ labs ts t.b = l := by
  unfold lnkOf
  rw [List.mem_map]
  constructor
  · rintro ⟨⟨t, r'⟩, h, e⟩
    rw [List.mem_filter, decide_eq_true_iff] at h
    simp only [Prod.mk.injEq] at e
    obtain ⟨e1, e2⟩ := e
    subst e2
    exact ⟨t, h.1, h.2.1, h.2.2, e1⟩
  · rintro ⟨t, h1, h2, h3, h4⟩
    refine ⟨(t, r), ?_, by simp [h4]⟩
    rw [List.mem_filter, decide_eq_true_iff]
    exact ⟨h1, h2, h3⟩
theorem lnk_len {ts : List Tie} {z : List (Tie × Addr)} {k : Str} : (lnkOf ts z k).length ≤ z.length := by
  unfold lnkOf
  rw [List.length_map]
  exact List.length_filter_le _ _
/-- ways down, by the ties that they go along -/
inductive Wk (ln : Ln) (s : Str) : List Addr → Str → Prop
  | nil : Wk ln s [] s
  | snoc {rs : List Addr} {m l : Str} {r : Addr} (w : Wk ln s rs m) (h : (l, r) ∈ ln m) : Wk ln s (rs ++ [r]) l
/-- reached in so many steps -/
def Rc (ln : Ln) (s : Str) (n : Nat) (v : Str) : Prop := ∃ rs, Wk ln s rs v ∧ rs.length = n
theorem Rc.zero {ln : Ln} {s v : Str} (h : Rc ln s 0 v) : v = s := by
  obtain ⟨rs, w, e⟩ := h
  cases w with
  | nil => rfl
  | snoc w h => simp at e
theorem Rc.succ {ln : Ln} {s v : Str} {n : Nat} (h : Rc ln s (n + 1) v) : ∃ u r, Rc ln s n u ∧ (v, r) ∈ ln u := by
  obtain ⟨rs, w, e⟩ := h
  cases w with
  | nil => simp at e
  | snoc w h => exact ⟨_, _, ⟨_, w, by simpa using e⟩, h⟩
theorem Rc.step {ln : Ln} {s v u : Str} {n : Nat} {r : Addr} (h : Rc ln s n u) (e : (v, r) ∈ ln u) : Rc ln s (n + 1) v := by
  obtain ⟨rs, w, q⟩ := h
  exact ⟨_, w.snoc e, by simp [q]⟩
/-- what is known when all ways of d ties have been grown -/
structure Bf (ln : Ln) (s : Str) (d : Nat) (M ns : List Str) : Prop where
  met : ∀ v ∈ M, ∃ j, 1 ≤ j ∧ j ≤ d ∧ Rc ln s j v
  no : ∀ j, 1 ≤ j → j ≤ d → ¬ Rc ln s j s
  all : ∀ v, Rc ln s d v → (∀ j, 1 ≤ j → j < d → ¬ Rc ln s j v) → v ∈ ns
theorem Bf.zero {ln : Ln} {s : Str} : Bf ln s 0 [] [s] :=
  ⟨fun v h => (List.not_mem_nil h).elim, fun j h1 h2 => by omega, fun v h _ => by rw [h.zero]; simp⟩
/-- no edge of what is new leads back, and all its edges lead to what is met -/
theorem Bf.succ {ln : Ln} {s : Str} {d : Nat} {M ns ms : List Str} (b : Bf ln s d M ns) (hm : ∀ v ∈ ms, Rc ln s (d + 1) v) (hs : ∀ u ∈ ns, ∀ v r, (v, r) ∈ ln u → v ≠ s ∧ v ∈ M ++ ms) : Bf ln s (d + 1) (M ++ ms) ms := by
  refine ⟨fun v h => ?_, fun j h1 h2 q => ?_, fun v h hj => ?_⟩
  · rcases List.mem_append.mp h with h | h
    · obtain ⟨j, a, c, e⟩ := b.met v h
      exact ⟨j, a, by omega, e⟩
    · exact ⟨d + 1, by omega, by omega, hm v h⟩
  · by_cases c : j ≤ d
    · exact b.no j h1 c q
    · have e : j = d + 1 := by omega
      subst e
      obtain ⟨u, r, hu, he⟩ := q.succ
      by_cases c2 : ∃ j, 1 ≤ j ∧ j < d ∧ Rc ln s j u
      · obtain ⟨j, a1, a2, a3⟩ := c2
        exact b.no (j + 1) (by omega) (by omega) (a3.step he)
      · exact (hs u (b.all u hu fun j a1 a2 a3 => c2 ⟨j, a1, a2, a3⟩) s r he).1 rfl
  · obtain ⟨u, r, hu, he⟩ := h.succ
    have hu' : u ∈ ns := b.all u hu fun j a1 a2 a3 => hj (j + 1) (by omega) (by omega) (a3.step he)
    rcases List.mem_append.mp (hs u hu' v r he).2 with h | h
    · obtain ⟨j, a1, a2, a3⟩ := b.met v h
      exact absurd a3 (hj j a1 (by omega))
    · exact h
/-- nothing new any more: no way round at all -/
theorem Bf.done {ln : Ln} {s : Str} {d : Nat} {M : List Str} (b : Bf ln s d M []) : ∀ j, 1 ≤ j → ¬ Rc ln s j s := by
  have low : ∀ j v, 1 ≤ j → Rc ln s j v → ∃ j', 1 ≤ j' ∧ j' ≤ d ∧ Rc ln s j' v ∧ j' < max d 1 := by
    intro j
    induction j with
    | zero => intro v h; omega
    | succ j ih =>
      intro v _ h
      have at_d : Rc ln s d v → ∃ j', 1 ≤ j' ∧ j' ≤ d ∧ Rc ln s j' v ∧ j' < max d 1 := fun q => by
        by_cases c : ∃ j, 1 ≤ j ∧ j < d ∧ Rc ln s j v
        · obtain ⟨i, a1, a2, a3⟩ := c
          exact ⟨i, a1, by omega, a3, by omega⟩
        · exact nomatch b.all v q fun i a1 a2 a3 => c ⟨i, a1, a2, a3⟩
      by_cases c1 : j + 1 < d
      · exact ⟨j + 1, by omega, by omega, h, by omega⟩
      · by_cases c2 : j + 1 = d
        · exact at_d (c2 ▸ h)
        · obtain ⟨u, r, hu, he⟩ := h.succ
          by_cases c3 : j = 0
          · have : d = 0 := by omega
            subst this
            subst c3
            exact (nomatch b.all s ⟨[], .nil, rfl⟩ fun i a1 a2 a3 => by omega)
          · obtain ⟨j', a1, a2, a3, a4⟩ := ih u (by omega) hu
            by_cases c4 : j' + 1 = d
            · exact at_d (c4 ▸ a3.step he)
            · exact ⟨j' + 1, by omega, by omega, a3.step he, by omega⟩
  intro j h q
  obtain ⟨j', a1, a2, a3, _⟩ := low j s h q
  exact b.no j' a1 a2 a3
/-- beneath, on the heap -/
structure Bn (H : Hp) (pd : Addr) (ob : Obj) (keys : List Str) (ln : Ln) (ad : Str → Addr) (bs : Str → List Addr) : Prop where
  d : H pd = some (.frz ob (.dK (dV keys fun k => .ref (ad k))))
  l : ∀ k ∈ keys, H (ad k) = some (.lst ((bs k).map V.ref))
  e : ∀ k ∈ keys, Paired (fun b (p : Str × Addr) => H b = some (.tup [.str p.1, .ref p.2])) (bs k) (ln k)
theorem Bn.same {H H' : Hp} {pd : Addr} {ob : Obj} {keys : List Str} {ln : Ln} {ad : Str → Addr} {bs : Str → List Addr} (b : Bn H pd ob keys ln ad bs) (s : Same H H') : Bn H' pd ob keys ln ad bs :=
  ⟨s _ _ b.d, fun k hk => s _ _ (b.l k hk), fun k hk => Paired.mapP (b.e k hk) fun _ _ h => s _ _ h⟩
theorem pairs_at {α : Type} {F : Addr → α → Prop} {as : List Addr} {ps : List α} {i : Nat} {x : V} (t : Paired F as ps) (hx : (as.map V.ref)[i]? = some x) : ∃ q p, x = .ref q ∧ ps[i]? = some p ∧ as[i]? = some q ∧ F q p := by
  rw [List.getElem?_map] at hx
  cases e : as[i]? with
  | none => rw [e] at hx; cases hx
  | some q =>
    rw [e] at hx
    cases hx
    obtain ⟨p, h1, h2⟩ := Paired.get' t e
    exact ⟨q, p, rfl, h1, rfl, h2⟩
end Dm

/-! The ways down as they grow, on the heap. -/
namespace Dm
open PySem PySem.NumText L2
/-- a way: where it has come, and its ties -/
def WayAt (H : Hp) (b : Addr) (e : Str × List Addr) : Prop := ∃ q, H b = some (.tup [.str e.1, .ref q]) ∧ H q = some (.lst (e.2.map V.ref))
def WayN (pl : Addr) (H : Hp) (b : Addr) (e : Str × List Addr) : Prop := ∃ q, q ≠ pl ∧ H b = some (.tup [.str e.1, .ref q]) ∧ H q = some (.lst (e.2.map V.ref))
def tru : Str → V := fun _ => .bl true
theorem dV_tru {M : List Str} {v : Str} (h : v ∉ M) : putK (dV M tru) (Sum.inr v) (.bl true) = dV (M ++ [v]) tru := by
  rw [dV_new h]
  refine dV_congr fun z _ => ?_
  unfold tru
  split <;> rfl
structure Grow (Hw H' : Hp) (pm pl : Addr) (ln : Ln) (s : Str) (keys M : List Str) (d : Nat) (ml : List Addr) (fs : List (Str × List Addr)) : Prop where
  kp : ∀ b o, b ≠ pm → Hw b = some o → H' b = some o
  m : H' pm = some (.dK (dV (M ++ fs.map Prod.fst) tru))
  l : H' pl = some (.lst (ml.map V.ref))
  w : Paired (WayN pl H') ml fs
  ok : ∀ e ∈ fs, Wk ln s e.2 e.1 ∧ e.2.length = d + 1 ∧ e.1 ∈ keys
  nd : (M ++ fs.map Prod.fst).Nodup
section
variable {Hw H' : Hp} {pm pl : Addr} {ln : Ln} {s : Str} {keys M : List Str} {d : Nat} {ml : List Addr} {fs : List (Str × List Addr)}
theorem Grow.add (g : Grow Hw H' pm pl ln s keys M d ml fs) (hw : Hw pl = none) (npl : pl ≠ pm) {v : Str} {rs : List Addr} (hv : v ∉ M ++ fs.map Prod.fst) {H2 : Hp} (s2 : Same (upd H' pm (.dK (dV (M ++ fs.map Prod.fst ++ [v]) tru))) H2) {q b : Addr}
    (hq : H2 q = some (.lst (rs.map V.ref))) (nq : q ≠ pl) (hb : H2 b = some (.tup [.str v, .ref q])) (ok : Wk ln s rs v ∧ rs.length = d + 1 ∧ v ∈ keys) :
    Grow Hw (upd H2 pl (.lst (ml.map V.ref ++ [.ref b]))) pm pl ln s keys M d (ml ++ [b]) (fs ++ [(v, rs)]) := by
  have l2 : H2 pl = some (.lst (ml.map V.ref)) := s2 _ _ (by rw [upd_ne npl]; exact g.l)
  have ntup : ∀ b vs, H2 b = some (.tup vs) → b ≠ pl := fun b vs e z => by rw [z, l2] at e; cases e
  refine ⟨fun c o n e => ?_, ?_, ?_, ?_, fun e he => ?_, ?_⟩
  · rw [upd_ne (ne_of_none e hw)]
    exact s2 _ _ (by rw [upd_ne n]; exact g.kp c o n e)
  · rw [upd_ne (Ne.symm npl), List.map_append, ← List.append_assoc]
    exact s2 _ _ upd_same
  · rw [upd_same, List.map_append]; rfl
  · refine Paired.snoc (Paired.mapP g.w fun c e h => ?_) ?_
    · obtain ⟨q', n', h1, h2⟩ := h
      have h1' := s2 _ _ (show upd H' pm (.dK (dV (M ++ fs.map Prod.fst ++ [v]) tru)) c = _ by rw [upd_ne (fun z => by rw [z, g.m] at h1; cases h1)]; exact h1)
      have h2' := s2 _ _ (show upd H' pm (.dK (dV (M ++ fs.map Prod.fst ++ [v]) tru)) q' = _ by rw [upd_ne (fun z => by rw [z, g.m] at h2; cases h2)]; exact h2)
      exact ⟨q', n', by rw [upd_ne (ntup _ _ h1')]; exact h1', by rw [upd_ne n']; exact h2'⟩
    · exact ⟨q, nq, by rw [upd_ne (ntup _ _ hb)]; exact hb, by rw [upd_ne nq]; exact hq⟩
  · rcases List.mem_append.mp he with he | he
    · exact g.ok e he
    · have : e = (v, rs) := by simpa using he
      subst this
      exact ok
  · rw [List.map_append, ← List.append_assoc]
    rw [List.nodup_append]
    refine ⟨g.nd, by simp, fun a ha c hc e => ?_⟩
    have hc : c = v := by simpa using hc
    subst hc
    subst e
    exact hv ha
end
theorem Bn.get {H : Hp} {pd : Addr} {ob : Obj} {keys : List Str} {ln : Ln} {ad : Str → Addr} {bs : Str → List Addr} (b : Bn H pd ob keys ln ad bs) {k : Str} (hk : k ∈ keys) : DGet H pd (.str k) (some (.ref (ad k))) := by
  have : DGet H pd (kV (Sum.inr k)) (valV (dV keys fun k => .ref (ad k)) (Sum.inr k)) := .inl ⟨_, _, .inr ⟨ob, b.d⟩, rfl, rfl⟩
  rwa [dV_val hk] at this
/-- what round_through tells -/
def Shr (ln : Ln) (s : Str) (rs : List Addr) : Prop := (rs = [] ∧ ∀ j, 1 ≤ j → ¬ Rc ln s j s) ∨ (rs ≠ [] ∧ Wk ln s rs s ∧ ∀ j, 1 ≤ j → j < rs.length → ¬ Rc ln s j s)
end Dm
namespace Dm
open PySem PySem.NumText L2
/-- what shortest_round tells -/
def Rnd (ln : Ln) (keys : List Str) (rs : List Addr) : Prop := (rs = [] ∧ ∀ s ∈ keys, ∀ j, 1 ≤ j → ¬ Rc ln s j s) ∨ (rs ≠ [] ∧ (∃ s ∈ keys, Wk ln s rs s) ∧ ∀ s ∈ keys, ∀ j, 1 ≤ j → j < rs.length → ¬ Rc ln s j s)
theorem Rnd.nil {ln : Ln} : Rnd ln [] [] := .inl ⟨rfl, fun s h => (List.not_mem_nil h).elim⟩
theorem Rnd.step {ln : Ln} {keys : List Str} {u : Str} {rs xs : List Addr} (h : Rnd ln keys rs) (g : Shr ln u xs) : Rnd ln (keys ++ [u]) (if xs ≠ [] ∧ (rs = [] ∨ xs.length < rs.length) then xs else rs) := by
  have mem : ∀ {s : Str}, s ∈ keys ++ [u] → s ∈ keys ∨ s = u := fun h => by simpa using h
  have low : ∀ {n : Nat}, n ≤ xs.length ∨ xs = [] → ∀ j, 1 ≤ j → j < n → ¬ Rc ln u j u := fun hn j h1 h2 => by
    rcases g with ⟨e, g⟩ | ⟨e, _, g⟩
    · exact g j h1
    · exact g j h1 (by rcases hn with hn | hn; omega; exact absurd hn e)
  by_cases c : xs ≠ [] ∧ (rs = [] ∨ xs.length < rs.length)
  · rw [if_pos c]
    rcases g with ⟨e, _⟩ | ⟨_, g1, g2⟩
    · exact absurd e c.1
    · refine .inr ⟨c.1, ⟨u, by simp, g1⟩, fun s hs j h1 h2 => ?_⟩
      rcases mem hs with hs | rfl
      · rcases h with ⟨_, h⟩ | ⟨hn, _, h⟩
        · exact h s hs j h1
        · rcases c.2 with z | z
          · exact absurd z hn
          · exact h s hs j h1 (by omega)
      · exact g2 j h1 h2
  · rw [if_neg c]
    rcases h with ⟨e, h⟩ | ⟨hn, ⟨s, hs, hw⟩, h⟩
    · have ex : xs = [] := Decidable.byContradiction fun z => c ⟨z, .inl e⟩
      refine .inl ⟨e, fun s hs j h1 => ?_⟩
      rcases mem hs with hs | rfl
      · exact h s hs j h1
      · rcases g with ⟨_, g⟩ | ⟨z, _⟩
        · exact g j h1
        · exact absurd ex z
    · refine .inr ⟨hn, ⟨s, List.mem_append_left _ hs, hw⟩, fun s hs j h1 h2 => ?_⟩
      rcases mem hs with hs | rfl
      · exact h s hs j h1 h2
      · refine low (n := rs.length) ?_ j h1 h2
        by_cases z : xs = []
        · exact .inr z
        · exact .inl (Nat.le_of_not_lt fun q => c ⟨z, .inr q⟩)
theorem lnk_closed {us : List Str} {ts : List Tie} {ads : List Addr} (ht : ∀ t ∈ ts, t.a ∈ us ∧ t.b ∈ us) : ∀ k ∈ keysOf ts (srt us), ∀ l r, (l, r) ∈ lnkOf ts (ts.zip ads) k → l ∈ keysOf ts (srt us) := by
  intro k _ l r h
  obtain ⟨t, h1, _, _, rfl⟩ := lnk_mem.mp h
  exact labs_key ht (ht t (List.of_mem_zip h1).1).2
theorem dV_at {ks : List Str} {f : Str → V} {i : Nat} {k : Key} {v : V} (h : (dV ks f)[i]? = some (k, v)) : ∃ u, ks[i]? = some u ∧ k = Sum.inr u ∧ v = f u := by
  unfold dV at h
  rw [List.getElem?_map] at h
  cases e : ks[i]? with
  | none => rw [e] at h; cases h
  | some u =>
    rw [e] at h
    cases h
    exact ⟨u, rfl, rfl, rfl⟩
end Dm

/-! Labels made by going over the same ties again and again; ones that stay when those without what lies beneath are taken out. -/
namespace Dm
open PySem PySem.NumText L2
/-! ### labels -/
/-! ### what stays -/
abbrev Lk := List (Str × Str)
/-! ### ways and what stays -/
/-- links without their ties -/
def lkOf (ts : List Tie) : Lk := (ts.filter fun t => decide (t.k ≠ SAME)).map fun t => (labs ts t.a, labs ts t.b)
theorem lk_mem {ts : List Tie} {x y : Str} : (x, y) ∈ lkOf ts ↔ ∃ t ∈ ts, t.k ≠ SAME ∧ labs ts t.a = x ∧ labs ts t.b = y := by
  unfold lkOf
  rw [List.mem_map]
  constructor
  · rintro ⟨t, h, e⟩
    rw [List.mem_filter, decide_eq_true_iff] at h
    simp only [Prod.mk.injEq] at e
    exact ⟨t, h.1, h.2, e⟩
  · rintro ⟨t, h1, h2, h3, h4⟩
    exact ⟨t, by rw [List.mem_filter, decide_eq_true_iff]; exact ⟨h1, h2⟩, by rw [h3, h4]⟩
theorem lk_ln {ts : List Tie} {ads : List Addr} (hl : ads.length = ts.length) {x y : Str} : (x, y) ∈ lkOf ts ↔ ∃ r, (y, r) ∈ lnkOf ts (ts.zip ads) x := by
  rw [lk_mem]
  constructor
  · rintro ⟨t, h1, h2, h3, h4⟩
    obtain ⟨i, hi, e⟩ := List.mem_iff_getElem.mp h1
    refine ⟨ads[i]'(by omega), lnk_mem.mpr ⟨t, ?_, h2, h3, h4⟩⟩
    rw [List.mem_iff_getElem]
    exact ⟨i, by rw [List.length_zip]; omega, by rw [List.getElem_zip, e]⟩
  · rintro ⟨r, h⟩
    obtain ⟨t, h1, h2, h3, h4⟩ := lnk_mem.mp h
    exact ⟨t, (List.of_mem_zip h1).1, h2, h3, h4⟩
/-- a set from which one can always go on has a round -/
theorem closed_round {ln : Ln} {F : List Str} (hn : F ≠ []) (h : ∀ x ∈ F, ∃ y ∈ F, ∃ r, (y, r) ∈ ln x) : ∃ s ∈ F, ∃ j, 1 ≤ j ∧ Rc ln s j s := by
  obtain ⟨x0, h0⟩ := List.exists_mem_of_ne_nil F hn
  have hf : ∃ f : Str → Str, ∀ x ∈ F, f x ∈ F ∧ ∃ r, (f x, r) ∈ ln x := by
    refine ⟨fun x => if c : x ∈ F then (h x c).choose else x, fun x hx => ?_⟩
    dsimp only
    rw [dif_pos hx]
    exact (h x hx).choose_spec
  obtain ⟨f, hf⟩ := hf
  let x : Nat → Str := fun n => Nat.rec x0 (fun _ y => f y) n
  have hx : ∀ n, x n ∈ F := by
    intro n
    induction n with
    | zero => exact h0
    | succ n ih => exact (hf _ ih).1
  have go : ∀ i d, Rc ln (x i) d (x (i + d)) := by
    intro i d
    induction d with
    | zero => exact ⟨[], .nil, rfl⟩
    | succ d ih =>
      obtain ⟨r, e⟩ := (hf _ (hx (i + d))).2
      exact ih.step e
  have rep : ∃ i j, i < j ∧ x i = x j := by
    refine Classical.byContradiction fun hn => ?_
    have nd : ((List.range (F.length + 1)).map x).Nodup := nodup_map_range fun i j _ _ e => by
      rcases Nat.lt_trichotomy i j with c | c | c
      · exact absurd ⟨i, j, c, e⟩ hn
      · exact c
      · exact absurd ⟨j, i, c, e.symm⟩ hn
    have := nodup_le nd (us := F) fun y hy => by
      obtain ⟨i, _, rfl⟩ := List.mem_map.mp hy
      exact hx i
    simp at this
    omega
  obtain ⟨i, j, hij, e⟩ := rep
  refine ⟨x i, hx i, j - i, by omega, ?_⟩
  have := go i (j - i)
  rwa [show i + (j - i) = j by omega, ← e] at this
end Dm

/-! A telling on the heap, as its units and ties; links as rows. -/
namespace Dm
open PySem PySem.NumText L2
structure Tel (K : PySem.W.Frag) (H : Hp) (p pu pt : Addr) (x y : V) (us : List Str) (ads : List Addr) (ts : List Tie) : Prop where
  p : SqT K H p [x, .ref pu, .ref pt, y]
  u : SqL K H pu (us.map V.str)
  t : SqL K H pt (ads.map V.ref)
  tt : Tups H ads (ts.map tieV)
  nd : us.Nodup
  ul : us.length < 64
  tl : ts.length ≤ 900
  ok : ∀ t ∈ ts, TOk us t
section
variable {K : PySem.W.Frag} {H H' : Hp} {p pu pt : Addr} {x y : V} {us : List Str} {ads : List Addr} {ts : List Tie}
theorem Tel.same (h : Tel K H p pu pt x y us ads ts) (s : Same H H') : Tel K H' p pu pt x y us ads ts := ⟨s.tup h.p, s.seq h.u, s.seq h.t, h.tt.same s, h.nd, h.ul, h.tl, h.ok⟩
theorem Tel.ends (h : Tel K H p pu pt x y us ads ts) : ∀ t ∈ ts, t.a ∈ us ∧ t.b ∈ us := fun t ht => ⟨(h.ok t ht).a, (h.ok t ht).b⟩
theorem Tel.len (h : Tel K H p pu pt x y us ads ts) : ads.length = ts.length := by have := h.tt.len; rw [List.length_map] at this; exact this
theorem Tel.klen (h : Tel K H p pu pt x y us ads ts) : (keysOf ts (srt us)).length ≤ 63 := by
  have := ones_len (us := us) (ts := ts) h.nd
  have := h.ul
  unfold onesOf at *
  rw [List.length_map] at *
  omega
end
end Dm
namespace Dm
open PySem PySem.NumText L2
end Dm

/-! Tellings alike; a round, tie by tie. -/
namespace Dm
open PySem PySem.NumText L2
section
variable {K : PySem.W.Frag} {H : Hp} {n : Nat}
end
theorem Rnd.nil_iff {ln : Ln} {keys : List Str} {rs : List Addr} (h : Rnd ln keys rs) : rs ≠ [] ↔ ∃ s ∈ keys, ∃ j, 1 ≤ j ∧ Rc ln s j s := by
  rcases h with ⟨e, h⟩ | ⟨e, ⟨s, hs, w⟩, _⟩
  · exact ⟨fun z => absurd e z, fun ⟨s, hs, j, hj, r⟩ => absurd r (h s hs j hj)⟩
  · exact ⟨fun _ => ⟨s, hs, _, List.length_pos_iff.mpr e, _, w, rfl⟩, fun _ => e⟩
end Dm

/-! The least number of steps from a one back to itself. -/
namespace Dm
open PySem PySem.NumText L2
end Dm
namespace Dm
open PySem PySem.NumText L2
end Dm

/-! One order of all ones. -/
namespace Dm
open PySem PySem.NumText L2
def NoR (ln : Ln) (keys : List Str) : Prop := ∀ s ∈ keys, ∀ j, 1 ≤ j → ¬ Rc ln s j s
def restB (M : List Str) (L : List (Str × Addr)) : Bool := L.all fun p => decide (p.1 ∈ M)
def frees (ln : Ln) (keys M : List Str) : List Str := keys.filter fun x => decide (x ∉ M) && restB M (ln x)
theorem restB_iff {M : List Str} {L : List (Str × Addr)} : restB M L = true ↔ ∀ l r, (l, r) ∈ L → l ∈ M := by
  unfold restB
  rw [List.all_eq_true]
  constructor
  · intro h l r hm
    exact of_decide_eq_true (h (l, r) hm)
  · intro h p hp
    exact decide_eq_true (h p.1 p.2 hp)
theorem frees_mem {ln : Ln} {keys M : List Str} {x : Str} : x ∈ frees ln keys M ↔ x ∈ keys ∧ x ∉ M ∧ ∀ l r, (l, r) ∈ ln x → l ∈ M := by
  unfold frees
  rw [List.mem_filter, Bool.and_eq_true, decide_eq_true_iff, restB_iff]
/-- where none goes round and not all are placed, some one is free -/
theorem frees_ne {ln : Ln} {keys M : List Str} (cl : ∀ k ∈ keys, ∀ l r, (l, r) ∈ ln k → l ∈ keys) (nr : NoR ln keys) (hx : ∃ x ∈ keys, x ∉ M) : frees ln keys M ≠ [] := by
  intro z
  obtain ⟨x, h1, h2⟩ := hx
  obtain ⟨s, hs, j, hj, r⟩ := closed_round (ln := ln) (F := keys.filter fun x => decide (x ∉ M)) (List.ne_nil_of_mem (List.mem_filter.mpr ⟨h1, decide_eq_true h2⟩)) fun y hy => by
    rw [List.mem_filter, decide_eq_true_iff] at hy
    refine Classical.byContradiction fun hn => ?_
    have : y ∈ frees ln keys M := frees_mem.mpr ⟨hy.1, hy.2, fun l r hl => Decidable.byContradiction fun q => hn ⟨l, List.mem_filter.mpr ⟨cl y hy.1 l r hl, decide_eq_true q⟩, r, hl⟩⟩
    rw [z] at this
    cases this
  exact nr s (List.mem_filter.mp hs).1 j hj r
/-- placed so far, in their order -/
structure Ord (ln : Ln) (keys os : List Str) : Prop where
  nd : os.Nodup
  sub : ∀ x ∈ os, x ∈ keys
  low : ∀ (i : Nat) o, os[i]? = some o → ∀ l r, (l, r) ∈ ln o → l ∈ os.take i
  least : ∀ (i : Nat) o, os[i]? = some o → ∀ x ∈ keys, x ∉ os.take i → (∀ l r, (l, r) ∈ ln x → l ∈ os.take i) → ¬ co x < co o
theorem Ord.nil {ln : Ln} {keys : List Str} : Ord ln keys [] := ⟨by simp, by simp, by simp, by simp⟩
theorem Ord.snoc {ln : Ln} {keys os : List Str} {u : Str} {r : List Str} (h : Ord ln keys os) (kl : keys.Pairwise (fun a b => co a < co b)) (hu : frees ln keys os = u :: r) : Ord ln keys (os ++ [u]) := by
  have hm : u ∈ frees ln keys os := by rw [hu]; simp
  obtain ⟨m1, m2, m3⟩ := frees_mem.mp hm
  have at' : ∀ (i : Nat) o, (os ++ [u])[i]? = some o → (i < os.length ∧ os[i]? = some o ∧ (os ++ [u]).take i = os.take i) ∨ (i = os.length ∧ o = u ∧ (os ++ [u]).take i = os) := by
    intro i o e
    by_cases c : i < os.length
    · rw [List.getElem?_append_left c] at e
      exact .inl ⟨c, e, by rw [List.take_append_of_le_length (by omega)]⟩
    · have hi := (List.getElem?_eq_some_iff.mp e).1
      rw [List.length_append] at hi
      have hi : i < os.length + 1 := hi
      have : i = os.length := by omega
      subst this
      simp at e
      exact .inr ⟨rfl, e.symm, by simp⟩
  refine ⟨?_, fun x hx => ?_, fun i o e l r' hl => ?_, fun i o e x hx hn hl => ?_⟩
  · rw [List.nodup_append]
    refine ⟨h.nd, by simp, fun a ha b hb e => ?_⟩
    have hb : b = u := by simpa using hb
    subst hb
    subst e
    exact m2 ha
  · rcases List.mem_append.mp hx with hx | hx
    · exact h.sub x hx
    · have : x = u := by simpa using hx
      rw [this]; exact m1
  · rcases at' i o e with ⟨c, e', et⟩ | ⟨c, rfl, et⟩
    · rw [et]; exact h.low i o e' l r' hl
    · rw [et]; exact m3 l r' hl
  · rcases at' i o e with ⟨c, e', et⟩ | ⟨c, rfl, et⟩
    · rw [et] at hn hl
      exact h.least i o e' x hx hn hl
    · rw [et] at hn hl
      have hxf : x ∈ frees ln keys os := frees_mem.mpr ⟨hx, hn, hl⟩
      have pw : (frees ln keys os).Pairwise (fun a b => co a < co b) := kl.sublist (List.filter_sublist ..)
      rw [hu] at hxf pw
      rcases List.mem_cons.mp hxf with rfl | hxf
      · exact List.lt_irrefl _
      · exact fun z => co_asymm z ((List.pairwise_cons.mp pw).1 x hxf)
theorem Ord.perm {ln : Ln} {keys os : List Str} (h : Ord ln keys os) (kn : keys.Nodup) (hl : os.length = keys.length) : os.Perm keys := by
  rw [List.perm_ext_iff_of_nodup h.nd kn]
  intro x
  refine ⟨h.sub x, fun hx => ?_⟩
  refine Decidable.byContradiction fun hn => ?_
  have := nodup_le (us := keys) (rs := x :: os) (List.nodup_cons.mpr ⟨hn, h.nd⟩) fun y hy => by
    rcases List.mem_cons.mp hy with rfl | hy
    · exact hx
    · exact h.sub y hy
  rw [List.length_cons] at this
  omega
end Dm
namespace Dm
open PySem PySem.NumText L2
theorem strs_deqM {K : PySem.W.Frag} {H : Hp} {n : Nat} {xs : List Str} : ∀ x ∈ xs.map V.str, DEq K H n x x true := fun x hx => by
  obtain ⟨z, _, rfl⟩ := List.mem_map.mp hx
  have := DEq.flat (K := K) (H := H) (n := n) (x := .str z) (y := .str z) rfl rfl
  rwa [show eqV (.str z) (.str z) = true from by simp [eqV]] at this
end Dm
namespace Dm
open PySem PySem.NumText L2
end Dm

/-! min and sorted of texts; list.insert. -/
namespace L2
open PySem PySem.Spec PyProof.Rows
theorem cmp_strs {prog : Program} {w : World} {A : Around} {P : Nat → Value → Prop} (val : Nat → Str) (hval : ∀ i v, P i v → ∃ t, v = Value.str (val i) t) :
    CmpOf prog w A .Lt P (fun i j => decide ((val i).cps.toList < (val j).cps.toList)) := fun i j vi vj s Q E hi hj h => by
  obtain ⟨t, rfl⟩ := hval i vi hi
  obtain ⟨u, rfl⟩ := hval j vj hj
  exact richCompare_gives (op := .Lt) (typeIs_str s _ t) (typeIs_str s _ u) PySem.F.slot_str_lt PySem.F.entry_str_lt (PySem.F.args_str_lt_2 _ _) (gives_str_lt _ _ t u) (fun x => nomatch x) h
theorem min_two_strs {prog : Program} {w : World} {A : Around} {E : Value → Shared → Prop} {s : Shared} {a b : Str} {t u : Tok} {Q : Value → Shared → Prop} (hh : A.handled = none)
    (h : ∀ h' tk, (∀ c o, s.heap.get? c = some o → h'.get? c = some o) → Q (if b.cps.toList < a.cps.toList then .str b u else .str a t) { s with heap := h', toks := tk }) :
    wpAny (model prog w) A (call (.builtin "min") [.str a t, .str b u]) Q E s := by
  have hT : (s.heap.push { cls := .type "tuple", data := .seq #[.str a t, .str b u] }).IsTuple s.heap.objs.size #[.str a t, .str b u] := ⟨_, Heap.get?_push_size _ rfl, rfl, 0, rfl⟩
  refine call_min_two (wpAny_pyIter_tuple hT ?_)
  have hsz : (s.heap.push { cls := .type "tuple", data := .seq #[.str a t, .str b u] }).objs.size = s.heap.objs.size + 1 := Heap.size_push ..
  refine ⟨_, [_, s.heap.objs.size], [_], _, _, _, _, rfl, Walks.tuple (A := A.in1) hh _ s.heap.objs.size (by rw [hsz]; exact Nat.ne_of_lt (Nat.lt_succ_self _)) #[.str a t, .str b u],
    ⟨⟨_, Heap.get?_push_size _ rfl, rfl, rfl⟩, hT.push _⟩, fun c hc => ?_, (by show 0 < 2; decide), cmp_strs (fun i => if i = 0 then a else b) (fun i v e => ?_), fun v h' tk hP hk => ?_⟩
  · show c < ((s.heap.push _).push _).objs.size
    rw [Heap.size_push, hsz]
    rcases List.mem_cons.mp hc with rfl | hc
    · rw [hsz]; exact Nat.lt_succ_self _
    · rcases List.mem_cons.mp hc with rfl | hc
      · exact Nat.lt_succ_of_lt (Nat.lt_succ_self _)
      · cases hc
  · match i, e with
    | 0, e => cases e; exact ⟨t, rfl⟩
    | 1, e => cases e; exact ⟨u, rfl⟩
    | i + 2, e => simp at e
  · have hold : ∀ c o, s.heap.get? c = some o → h'.get? c = some o := fun c o e => by
      refine hk c o (fun hm => ?_) (Heap.get?_push_of_some _ (Heap.get?_push_of_some _ e))
      rcases List.mem_cons.mp hm with e1 | hm
      · have := Heap.lt_size e; rw [e1, hsz] at this; exact Nat.lt_irrefl _ (Nat.lt_of_succ_lt this)
      · cases hm
    have := h h' tk hold
    have hv : v = if b.cps.toList < a.cps.toList then Value.str b u else Value.str a t := by
      have hP' : (#[Value.str a t, Value.str b u])[argBest (fun i j => decide ((if i = 0 then a else b).cps.toList < (if j = 0 then a else b).cps.toList)) 1]? = some v := hP
      by_cases hba : b.cps.toList < a.cps.toList
      · have e : argBest (fun i j => decide ((if i = 0 then a else b).cps.toList < (if j = 0 then a else b).cps.toList)) 1 = 1 := by simp [argBest, hba]
        rw [e] at hP'
        rw [if_pos hba]
        exact (Option.some.inj hP').symm
      · have e : argBest (fun i j => decide ((if i = 0 then a else b).cps.toList < (if j = 0 then a else b).cps.toList)) 1 = 0 := by simp [argBest, hba]
        rw [e] at hP'
        rw [if_neg hba]
        exact (Option.some.inj hP').symm
    rw [hv]; exact this
theorem risingS_pairwise : ∀ (r : List Str) (x : Str), risingS x r = true → (x :: r).Pairwise (fun a b => ¬ b.cps.toList < a.cps.toList)
  | [], x, _ => List.pairwise_singleton ..
  | y :: r, x, h => by
    unfold risingS at h
    rw [Bool.and_eq_true] at h
    have ih := risingS_pairwise r y h.2
    have h1 : ¬ y.cps.toList < x.cps.toList := by
      intro z
      have : ltCps y.cps.toList x.cps.toList = true := by rw [ltCps_eq]; exact decide_eq_true z
      rw [this] at h
      simp at h
    refine List.pairwise_cons.mpr ⟨fun b hb => ?_, ih⟩
    rcases List.mem_cons.mp hb with rfl | hb
    · exact h1
    · intro z
      have h2 := (List.pairwise_cons.mp ih).1 b hb
      rw [List.not_lt] at h1 h2
      exact absurd z (List.not_lt.mpr (List.le_trans h1 h2))
theorem sortedS_pairwise {ss : List Str} (h : sortedS ss = true) : ss.Pairwise (fun a b => ¬ b.cps.toList < a.cps.toList) := by
  cases ss with
  | nil => exact .nil
  | cons x r => exact risingS_pairwise r x h
section
variable {X : Cx}
theorem call_min2s (hc : X.calm = true) : CallR X (.builtin "min") (fun xs H Q => ∃ i j, xs = [.str i, .str j] ∧ Q (.str (if j.cps.toList < i.cps.toList then j else i)) H) := by
  intro pins s σ H xs us Q I r h
  obtain ⟨i, j, rfl, q⟩ := h
  obtain ⟨u, w', rfl, ⟨t, rfl⟩, ⟨t', rfl⟩⟩ := vals2 r
  refine min_two_strs (I.ok.hd hc) fun h' tk k => ⟨_, H, I.kept k, ?_, q⟩
  by_cases hj : j.cps.toList < i.cps.toList
  · rw [if_pos hj, if_pos hj]; exact ⟨_, rfl⟩
  · rw [if_neg hj, if_neg hj]; exact ⟨_, rfl⟩
theorem call_sortedS {K : PySem.W.Frag} (h : X.K = K) : CallR X (.builtin "sorted") (fun xs H Q => ∃ (a : Addr) (ns : List Str), xs = [V.ref a] ∧ SqL K H a (ns.map V.str) ∧ ns.length < 64 ∧
    ∀ (p : Addr) (ms : List Str), H p = none → ms.Perm ns → ms.Pairwise (fun a b => ¬ b.cps.toList < a.cps.toList) → Q (.ref p) (upd H p (.lst (ms.map V.str)))) := by
  subst h
  intro pins s σ H xs us Q I r h
  obtain ⟨a, ns, rfl, ha, hn, q⟩ := h
  obtain ⟨u, rfl, ru⟩ := vals1 r
  cases ru
  obtain ⟨its, rv, pl, hz⟩ := I.list ha
  have hl := rv.length
  rw [List.length_map] at hl
  refine PyProof.Rows.sorted_strs pl.isList (strsAre_of rv) (by omega) fun out ms a1 a2 a3 => ?_
  obtain ⟨e, he⟩ := PyProof.Rows.sortedAll_at s.heap its out
  have hn' : H (s.heap.objs.size + 1) = none := I.hok.fresh (Nat.le_succ _)
  have hm : ms.length = ns.length := a2.length_eq
  have hs : sizeLine = 16777216 := sizeLine_eq
  have vs : ∀ {us : List Value} {ys : List Str}, StrsAre us ys → Vals (ys.map V.str) us := by
    intro us ys h
    induction h with
    | nil => exact .nil
    | cons x t _ ih => exact .cons ⟨t, rfl⟩ ih
  refine ⟨.ref (s.heap.objs.size + 1), _, I.laid (t' := s.toks) (a := s.heap.objs.size + 1) (o := .lst (ms.map V.str)) (fun b o eb => PyProof.Rows.sortedAll_old eb) (Nat.le_succ _) ⟨?_, out.toList, e, vs a1, ?_⟩, rfl, q _ ms hn' a2 (sortedS_pairwise a3)⟩
  · rw [List.length_map]; omega
  · rw [he]
end
end L2

/-! t[lo:hi] where it may be the whole of t; d.setdefault(k, x). -/
namespace HT
open PySem PySem.Spec PyProof.Rows PySem.Calls
section
variable {prog : Program} {w : World} {A : Around} {E : Value → Shared → Prop} {s : Shared}
end
end HT
namespace L2
open PySem PySem.Spec PyProof.Rows
section
variable {X : Cx}
end
section
variable {X : Cx} {pins : List (Addr × Obj)} {σ : St} {H : Hp} {s : Shared} {a : Addr} {u r : Value} {A : Around} {E : Value → Shared → Prop}
theorem d_setdefault {kvs : List (Key × V)} {k : Key} {z : V} {Q : Value → Shared → Prop} (I : Inv X pins σ H s) (e : H a = some (.dK kvs)) (ry : RelV (kV k) u) (rz : RelV z r) (hl : kvs.length < sizeLine)
    (h1 : ∀ v, valV kvs k = some v → ∀ w' s', Inv X pins σ H s' → RelV v w' → Q w' s') (h2 : valV kvs k = none → ∀ s', Inv X pins σ (upd H a (.dK (putK kvs k z))) s' → Q r s') :
    wpAny (model X.prog X.w) A (call (.builtin "dict.setdefault") [.ref a, u, r]) Q E s := by
  obtain ⟨hz, hd, vs, rel, dd⟩ := dk_of I.hok e
  refine call_meetsIn PySem.F.slot_dict_setdefault dd.typeIs PySem.F.entry_dict_setdefault (PySem.F.args_dict_setdefault_3 _ _ _) (kt_meets_setdefault (mixKind X.prog X.w) a (kV_is ry) hd r)
    ⟨vs, dd, by rw [← rel.length]; exact hz, fun v hv => ?_, fun hn h' dd' hs => ?_⟩
  · cases l : valV kvs k with
    | some v0 =>
      obtain ⟨w', hw, rw'⟩ := RelO.some_of (v := v0) (o := valueAt vs k) (by rw [← l]; exact rel.val k)
      rw [hw] at hv
      cases hv
      exact h1 v0 l _ _ (I.tok _) rw'
    | none =>
      have hn : valueAt vs k = none := RelO.none_of (by have := rel.val k; rw [l] at this; exact this)
      rw [hn] at hv
      cases hv
  · cases l : valV kvs k with
    | some v0 =>
      obtain ⟨w', hw, rw'⟩ := RelO.some_of (v := v0) (o := valueAt vs k) (by rw [← l]; exact rel.val k)
      rw [hw] at hn
      cases hn
    | none =>
      have hl2 : (putK kvs k z).length ≤ sizeLine := by have := length_putK kvs k z; omega
      have he : ∃ q, h'.get? a = some q := let ⟨q, _, _, hq, _⟩ := dd'; ⟨q, hq⟩
      exact h2 l _ (d_write I (by rw [e]; exact True.intro) hs he (dk_new hl2 hd (rel.put k rz) dd'))
end
def tDSet (td ty tx : TE) : TE := fun σ H Q => td σ H fun x H1 => ∃ a, x = .ref a ∧ IsD H1 a ∧ ty σ H1 fun y H2 => tx σ H2 fun z H3 => ∃ kvs k, H3 a = some (.dK kvs) ∧ y = kV k ∧ kvs.length < sizeLine ∧
  (∀ v, valV kvs k = some v → Q v H3) ∧ (valV kvs k = none → Q z (upd H3 a (.dK (putK kvs k z))))
theorem pe_dsetdef {X : Cx} {o e f : Expr} {apos cpos : Pos} {td ty tx : TE} (ho : PE X o td) (he : PE X e ty) (hf : PE X f tx) (m : M2 X o "setdefault" apos e f cpos) : PE X (.Call (.Attribute o "setdefault" apos) [e, f] [] cpos) (tDSet td ty tx) := by
  intro pins s σ H Q I h
  refine wpAny_Call_method m.base m.few m.line PySem.F.plainAttrs_dict PySem.F.slot_dict_setdefault PySem.F.type_dict_setdefault (thn (ho pins s σ H _ I h) fun u s1 hq0 => ?_)
  obtain ⟨x, H1, I1, rx, a, ex, d, q1⟩ := hq0
  subst ex
  obtain rfl : u = Value.ref a := rx
  obtain ⟨t1, t2, _⟩ := isD_at I1 d
  refine ⟨t1, t2, ?_⟩
  rw [m.trees]
  refine Calls.callWith_builtin rfl (Calls.evalArgs_plain (Calls.spliced_cons (thn (he pins s1 σ H1 _ I1 q1) fun iv s2 ⟨y, H2, I2, ry, q2⟩ =>
    Calls.spliced_cons (thn (hf pins s2 σ H2 _ I2 q2) fun fv s3 ⟨z, H3, I3, rz, kvs, k, ea, ey, hl, q3, q4⟩ => Calls.spliced_nil ?_))))
  subst ey
  exact d_setdefault I3 ea ry rz hl (fun v l w' s4 I4 rw' => ⟨v, H3, I4, rw', q3 v l⟩) fun l s4 I4 => ⟨z, _, I4, rz, q4 l⟩
end L2

/-! set(texts): the set is made, with its order left open. -/
namespace L2
open PySem PySem.Spec PyProof.Rows
section
variable {prog : Program} {w : World} {A : Around} {E : Value → Shared → Prop} {s : Shared}
end
end L2

namespace L2
open PySem PySem.Spec PyProof.Rows
/-- the first i, each once -/
def dd (val : Nat → Str) : Nat → List Str
  | 0 => []
  | i + 1 => if val i ∈ dd val i then dd val i else dd val i ++ [val i]
section
variable {prog : Program} {w : World} {A : Around} {R : Result → Shared → Prop} {I : Addr} {fp wr : List Addr} {G : Array GenState → Array GenState → Prop} {n : Nat} {P : Nat → Value → Prop} {St : Nat → Shared → Prop}
end
section
variable {prog : Program} {w : World} {A : Around} {E : Value → Shared → Prop} {s : Shared}
end
end L2

namespace L2
open PySem PySem.Spec PyProof.Rows
section
variable {prog : Program} {w : World} {A : Around} {E : Value → Shared → Prop} {s : Shared}
end
end L2

/-! a set of texts is walked, in any order. -/
namespace L2
open PySem PySem.Spec PyProof.Rows
section
variable {prog : Program} {w : World} {A : Around} {E : Value → Shared → Prop} {s : Shared}
end
end L2

namespace L2
open PySem PySem.Spec PyProof.Rows
section
variable {prog : Program} {w : World} {A : Around} {E : Value → Shared → Prop} {s : Shared}
end
end L2

namespace L2
open PySem PySem.Spec PyProof.Rows
section
variable {prog : Program} {w : World} {A : Around} {E : Value → Shared → Prop} {s : Shared}
end
end L2

namespace L2
open PySem PySem.Spec PyProof.Rows
section
variable {prog : Program} {w : World} {A : Around} {E : Value → Shared → Prop} {s : Shared}
end
end L2

/-! sorted(set(texts)). -/
namespace L2
open PySem PySem.Spec PyProof.Rows
section
variable {prog : Program} {w : World} {A : Around} {s : Shared} {R : Result → Shared → Prop} {I : Addr} {fp wr : List Addr} {n : Nat} {P : Nat → Value → Prop} {St : Nat → Heap → Prop}
theorem list_restR (W : Walks prog w A.in1 I fp wr n P St) (hn : n ≤ sizeLine) (S : Addr) (c : Nat) (hst : St 0 s.heap) (hS : S ∉ fp) (hl : s.heap.get? S = some { cls := .type "list", data := .seq #[] c }) (r : Value)
    (hR : ∀ s1 acc c1, Moved (S :: wr) (fun a b => b = a) s s1 → s1.heap.get? S = some { cls := .type "list", dict := none, data := .seq acc c1, slots := #[] } → ItemsOf P acc n → R (.ok (.ret r)) s1) :
    wpAny (model prog w) A.in1 (rule "list.extend.makes-room" >>= fun _ => Builtin.List.listTouch (.ref S) >>= fun _ => again (.builtin "list.extend.loop" ⟨[.ref S, .ref I, r], []⟩))
      (fun fin s1 => match fin with | .done f => R (.ok f) s1 | .again c1 => c1.quiet = true ∧ codeAny (model prog w) A c1 R s1) (fun e s1 => R (.error e) s1) s := by
  refine wpAny_bind (wpAny_rule (wpAny_bind ?_))
  show wpAny (model prog w) A.in1 (updateSeq S (·.push .none) >>= fun _ => updateSeq S (·.pop)) _ _ _
  refine wpAny_bind (wpAny_updateSeq hl rfl ?_)
  have l2 := Heap.get?_update_self (Obj.mapSeq (·.push Value.none)) hl rfl
  refine wpAny_updateSeq (hz := by seq_fits) l2 rfl ?_
  have l3 := Heap.get?_update_self (Obj.mapSeq (·.pop)) l2 rfl
  have oth : ∀ b o, b ≠ S → s.heap.get? b = some o → ((s.heap.update S (Obj.mapSeq (·.push Value.none))).update S (Obj.mapSeq (·.pop))).get? b = some o := fun b o hb e => (Heap.get?_update_other _ _ (Ne.symm hb)).trans ((Heap.get?_update_other _ _ (Ne.symm hb)).trans e)
  refine wpAny_pure ⟨plainId_quiet PySem.F.plain_extend_loop _, codeAny_extend_loopS W.toS hn _ hS _ n 0 _ _ _ rfl (Nat.zero_le _) (W.toS.frame 0 s _ s.toks hst (Nat.le_refl _) fun b hb o e => oth b o (fun h => hS (h ▸ hb)) e) l3 (ItemsOf.nil P) fun s1 acc c1 hm h1 h2 => ?_⟩
  have m0 : Moved (S :: wr) (fun (a b : Array GenState) => b = a) s { s with heap := (s.heap.update S (Obj.mapSeq (·.push Value.none))).update S (Obj.mapSeq (·.pop)) } := ⟨fun b o hb e => oth b o (fun h => hb (by simp [h])) e, rfl, rfl, rfl, Nat.le_refl _⟩
  exact hR s1 acc c1 (Moved.trans (fun _ _ _ h1 h2 => h2.trans h1) m0 hm) h1 h2
end
section
variable {prog : Program} {w : World} {A : Around} {E : Value → Shared → Prop} {s : Shared}
theorem items_list {P : Nat → Value → Prop} {acc : Array Value} {n : Nat} (h : ItemsOf P acc n) (l : List Value) (hl : l.length = n) (hp : ∀ i v, P i v → l[i]? = some v) : acc.toList = l := by
  apply List.ext_getElem?
  intro i
  by_cases hi : i < n
  · have hs : i < acc.size := by rw [h.1]; exact hi
    have e : acc[i]? = some acc[i] := Array.getElem?_eq_getElem hs
    rw [hp i _ (h.2 i _ e), Array.getElem?_toList, e]
  · have h1 : acc.toList.length ≤ i := by rw [Array.length_toList, h.1]; omega
    have h2 : l.length ≤ i := by omega
    rw [List.getElem?_eq_none h1, List.getElem?_eq_none h2]
end
end L2

/-! set(texts), sorted(set of texts) as rules. -/
namespace L2
open PySem PySem.Spec PyProof.Rows
section
variable {prog : Program} {w : World} {A : Around} {E : Value → Shared → Prop} {s : Shared}
end
section
variable {X : Cx}
end
end L2

/-! an if whose two ways meet again. -/
namespace L2
open PySem PySem.Spec PyProof.Rows
theorem ifS_ex {c : TT} {t u : TS} {D : Ends} {σ : St} {H : Hp} (P : St → Prop) (b : Bool) (ht : ∀ Q' : Bool → Hp → Prop, Q' b H → c σ H Q') (h1 : b = true → ∃ σ1, P σ1 ∧ (D.nx σ1 H → t D σ H)) (h2 : b = false → ∃ σ2, P σ2 ∧ (D.nx σ2 H → u D σ H))
    (hn : ∀ σ', P σ' → D.nx σ' H) : tIfS c t u D σ H := by
  refine ifS_at b ht ?_
  cases b with
  | true =>
    obtain ⟨σ1, p, h⟩ := h1 rfl
    exact iteT (h (hn _ p))
  | false =>
    obtain ⟨σ2, p, h⟩ := h2 rfl
    exact iteF (h (hn _ p))
end L2

/-! a dict that is known to the object, walked; a dict made known. -/
namespace L2
open PySem PySem.Spec PyProof.Rows
def Itd (a : Addr) (ob : Obj) (kvs : List (Key × V)) : It :=
  ⟨fun i H => H a = some (.frz ob (.dK kvs)) ∧ i < kvs.length, fun i H x H' => H' = H ∧ ∃ kv, kvs[i]? = some kv ∧ x = kV kv.1, fun i H => H a = some (.frz ob (.dK kvs)) ∧ kvs.length ≤ i⟩
theorem turn_dict {P : Program} {w : World} {K : PySem.W.Frag} {tg : Expr} (a it : Addr) {ob : Obj} {kvs : List (Key × V)} {es : Array DictEntry} {ep : Nat} (hd : ob.data = .dict es ep) (hl : es.size = kvs.length) : Turn P w K tg (Itd a ob kvs) [it] it (fun i h => h.IsKeyIter it a i es.size ep) where
  mem := by simp
  obj := fun i h st b hb => by
    have e : b = it := by simpa using hb
    subst e
    obtain ⟨o, e, c, d⟩ := st
    exact ⟨o, e, fun v z => by rw [d] at z; cases z⟩
  keep := fun i h h' st k => st.at fun o e => k it (by simp) o e
  item := by
    intro X hP hw hK hc i pins s σ H E I hf st hg
    subst hP hw hK
    obtain ⟨hq, hx⟩ := hg
    obtain ⟨e0, z, hs, vs, rel, o, es', ep', e, ex, dt, kk, pr, nd⟩ := I.hok a _ hq
    rw [e0] at e
    cases e
    rw [hd] at dt
    cases dt
    have hi : i < es.size := by omega
    have hen : es[i]? = some es[i] := Array.getElem?_eq_getElem hi
    obtain ⟨f0, f1, f2, f3, f4, f5⟩ := hf it (by simp)
    refine key_item st ⟨ob, e0, ex, hd⟩ hen fun h' st' sb => ?_
    have I1 : Inv X pins σ H { s with heap := h' } := I.turned (t' := s.toks) (fun b o hb e => (sb.2 b hb).trans e) f0 f1 f3 f4 f5
    obtain ⟨oi, ei, ci, di⟩ := id st'
    have ek : kvs[i]? = some kvs[i] := List.getElem?_eq_getElem hx
    obtain ⟨w', hw, rw'⟩ := Paired.get' rel ek
    have := (pr.get? (e := es[i]) (k := w'.1) (v := w'.2) (i := i) (by rw [Array.getElem?_toList]; exact hen) (by rw [hw])).1
    have e1 : kvs[i].1 = w'.1 := rw'.1
    exact ⟨_, rfl, go_of (s := { s with heap := h' }) ei ci di (by decide) ⟨kV kvs[i].1, H, I1, by rw [e1]; exact key_rel this, ⟨rfl, _, ek, rfl⟩, st', fun b hb => (hf b hb).1⟩⟩
  done := by
    intro X hP hw hK hc i pins s σ H E I hf st hg
    subst hP hw hK
    obtain ⟨hq, hx⟩ := hg
    obtain ⟨e0, z, hs, vs, rel, o, es', ep', e, ex, dt, kk, pr, nd⟩ := I.hok a _ hq
    rw [e0] at e
    cases e
    obtain ⟨f0, f1, f2, f3, f4, f5⟩ := hf it (by simp)
    exact key_end (I.ok.hd hc) st ⟨ob, e0, ex, hd⟩ (by omega) fun h' eb => ⟨rfl, I.turned (t' := s.toks) (fun b o hb e => eb b o hb e) f0 f1 f3 f4 f5⟩
  self := fun _ _ _ _ _ st h => wpAny_pyIter_keyiter st h
section
variable {X : Cx} {tg : Expr}
def iDict (tl : TE) : TI := fun σ H R => tl σ H fun x H1 => ∃ a ob kvs, x = .ref a ∧ H1 a = some (.frz ob (.dK kvs)) ∧ R (Itd a ob kvs) H1
theorem pi_dict {l : Expr} {tl : TE} (hl : PE X l tl) : PI X tg l (iDict tl) := by
  intro pins s σ H R I h
  refine thn (hl pins s σ H _ I h) fun v s1 hq0 => ?_
  obtain ⟨x, H1, I1, r1, q1⟩ := hq0
  obtain ⟨a, ob, kvs, e, hq, q⟩ := q1
  subst e
  cases r1
  obtain ⟨e0, z, hs, vs, rel, o, es, ep, e, ex, dt, kk, pr, nd⟩ := I1.hok a _ hq
  have e0' := e0
  rw [e0] at e
  cases e
  have l1 : kvs.length = vs.length := Paired.length rel
  have l2 : es.size = vs.length := by rw [← pr.length]; simp
  refine iter_raw hs ⟨ob, e0, ex, dt⟩ ?_
  refine ⟨s1.heap.objs.size, [s1.heap.objs.size], _, _, H1, rfl, I1.kept (t' := s1.toks) fun b o e => Heap.get?_push_of_some _ e, turn_dict a _ dt (l2.trans l1.symm), ⟨_, Heap.get?_push_size _ rfl, rfl, rfl⟩, fun b hb => ?_, q⟩
  have e : b = s1.heap.objs.size := by simpa using hb
  subst e
  exact I1.fpOk (Nat.le_refl _) (I1.hok.fresh (Nat.le_refl _))
/-- over a dict that is known -/
theorem for_dict {a : Addr} {ob : Obj} {kvs : List (Key × V)} {g : TG} {tb : TS} {D : Ends} {σ : St} {H : Hp} (Pv : Nat → St → Hp → Prop) (h0 : Pv 0 σ H) (hl : ∀ i σ H, i ≤ kvs.length → Pv i σ H → H a = some (.frz ob (.dK kvs)))
    (hs : ∀ i k v σ H, kvs[i]? = some (k, v) → Pv i σ H → g (kV k) σ H fun σ2 H2 => tb { D with nx := Pv (i + 1), ct := Pv (i + 1), bk := D.nx } σ2 H2) (hd : ∀ σ H, Pv kvs.length σ H → D.nx σ H) :
    ∃ W : Nat → Nat → St → Hp → Prop, (∃ m, W 0 m σ H) ∧ ∀ i m σ H, W i m σ H →
      ((Itd a ob kvs).stop i H ∧ D.nx σ H) ∨ ((Itd a ob kvs).go i H ∧ ∃ N : St → Hp → Prop, (∀ σ' H', N σ' H' → ∃ m', m' < m ∧ W (i + 1) m' σ' H') ∧ ∀ x H', (Itd a ob kvs).yld i H x H' → g x σ H' fun σ2 H2 => tb { D with nx := N, ct := N, bk := D.nx } σ2 H2) := by
  refine ⟨fun i m σ H => m = kvs.length - i ∧ i ≤ kvs.length ∧ Pv i σ H, ⟨kvs.length, by simp, Nat.zero_le _, h0⟩, ?_⟩
  rintro i m σ H ⟨rfl, hi, p⟩
  have q := hl i σ H hi p
  by_cases hlt : i < kvs.length
  · refine .inr ⟨⟨q, hlt⟩, Pv (i + 1), fun σ' H' p' => ⟨kvs.length - (i + 1), by omega, rfl, hlt, p'⟩, fun x H' y => ?_⟩
    obtain ⟨e, kv, y, rfl⟩ := y
    subst e
    exact hs i kv.1 kv.2 σ _ y p
  · have e : i = kvs.length := by omega
    subst e
    exact .inl ⟨⟨q, Nat.le_refl _⟩, hd σ H p⟩
/-- a dict is made known -/
theorem Inv.frozen {pins : List (Addr × Obj)} {σ : St} {H : Hp} {s : Shared} {a : Addr} {kvs : List (Key × V)} (I : Inv X pins σ H s) (h : H a = some (.dK kvs)) : ∃ ob, Inv X pins σ (upd H a (.frz ob (.dK kvs))) s := by
  obtain ⟨o, e⟩ : ∃ o, s.heap.get? a = some o := by
    obtain ⟨_, _, _, _, o, _, _, e, _⟩ := I.hok a _ h
    exact ⟨o, e⟩
  have ok := I.hok a _ h
  refine ⟨o, I.write (e := a) (h' := s.heap) (t' := s.toks) (by rw [h]; trivial) (.inl rfl) (fun b u _ q => q) ⟨o, e⟩ ⟨e, ?_⟩⟩
  obtain ⟨z, hd, vs, r⟩ := ok
  exact ⟨z, hd, vs, r⟩
def tFrz (ts : TS) : TS := fun D σ H => ts D σ H ∨ ∃ a kvs, H a = some (.dK kvs) ∧ ∀ ob, ts D σ (upd H a (.frz ob (.dK kvs)))
theorem ps_frz {st : Stmt} {ts : TS} (h : PS X st ts) : PS X st (tFrz ts) := by
  intro pins s σ H D I q
  rcases q with q | ⟨a, kvs, ha, q⟩
  · exact h pins s σ H D I q
  · obtain ⟨ob, I'⟩ := I.frozen ha
    exact h pins s σ _ D I' (q ob)
end
end L2

/-! a known dict's values walked; sorted(dict); list.reverse; a comprehension over a known dict. -/
namespace L2
open PySem PySem.Spec PyProof.Rows
section
variable {X : Cx} {tg : Expr}
theorem fix_dict {a : Addr} {ob : Obj} {kvs : List (Key × V)} : Fix (Itd a ob kvs) (kvs.map fun kv => kV kv.1) (fun H => H a = some (.frz ob (.dK kvs))) :=
  ⟨fun i H h hi => ⟨h, by simpa using hi⟩, fun i H x H' h y => ⟨y.1, fun _ => by obtain ⟨kv, h1, h2⟩ := y.2; rw [List.getElem?_map, h1, h2]; rfl⟩, fun i H h hi => ⟨h, by simpa using hi⟩⟩
theorem call_lenDR : CallR X (.builtin "len") (fun xs H Q => ∃ a kvs, xs = [V.ref a] ∧ Rd H a (.dK kvs) ∧ Q (.int kvs.length) H) := by
  intro pins s σ H xs us Q I r h
  obtain ⟨a, kvs, rfl, ha, q⟩ := h
  obtain ⟨u, rfl, ru⟩ := vals1 r
  cases ru
  exact d_len I ha fun t s' I' => ⟨.int kvs.length, H, I', ⟨t, rfl⟩, q⟩
end
section
variable {prog : Program} {w : World} {A : Around} {E : Value → Shared → Prop} {s : Shared}
theorem extend_dict {S d : Addr} {es : Array DictEntry} {ep : Nat} {c : Nat} {r : Value} {R : Result → Shared → Prop} (hh : A.handled = none) (hd : (d == sysModules) = false) (hm : RawD s.heap d es ep) (hz : es.size ≤ sizeLine)
    (hS : s.heap.get? S = some { cls := .type "list", data := .seq #[] c }) (hne : S ≠ d)
    (hR : ∀ h1 acc c1 tk, (∀ b o, b ≠ S → s.heap.get? b = some o → h1.get? b = some o) → h1.get? S = some { cls := .type "list", dict := none, data := .seq acc c1, slots := #[] } → acc.toList = es.toList.map (·.key) → R (.ok (.ret r)) { s with heap := h1, toks := tk }) :
    wpAny (model prog w) A.in1 (Builtin.List.listExtendWith (.ref S) (.ref d) r) (fun fin s1 => match fin with | .done f => R (.ok f) s1 | .again c1 => c1.quiet = true ∧ codeAny (model prog w) A c1 R s1) (fun e s1 => R (.error e) s1) s := by
  have dl : d < s.heap.objs.size := by obtain ⟨o, ho, _⟩ := hm; exact Heap.lt_size ho
  have sl : S < s.heap.objs.size := Heap.lt_size hS
  have T : s.TypeIs (.ref d) "dict" := hm.typeIs
  unfold Builtin.List.listExtendWith
  refine wpAny_bind (wpAny_typeOf T ?_)
  have sr : Builtin.List.listSameRef (.ref S) (.ref d) = false := by simp [Builtin.List.listSameRef, hne]
  have t1 : (Value.type "dict" == Value.type "list") = false := by decide
  have t2 : (Value.type "dict" == Value.type "tuple") = false := by decide
  simp only [sr, t1, t2, Bool.or_false, Bool.false_eq_true, if_false]
  refine wpAny_bind (iter_raw hd hm ?_)
  have old : ∀ b o, s.heap.get? b = some o → (s.heap.push { cls := .type "dict_keyiterator", data := .fields #[.ref d, .int 0 0, .int es.size 0, .int ep 0] }).get? b = some o := fun b o e => Heap.get?_push_of_some _ e
  have hm3 := hm.at (h' := s.heap.push { cls := .type "dict_keyiterator", data := .fields #[.ref d, .int 0 0, .int es.size 0, .int ep 0] }) fun o e => old d o e
  refine wpAny_bind (wpAny_holding (hint_dict (s := { s with heap := s.heap.push { cls := .type "dict_keyiterator", data := .fields #[.ref d, .int 0 0, .int es.size 0, .int ep 0] } }) hm3.typeIs ?_))
  have SI : S ∉ [s.heap.objs.size, d] := by
    simp only [List.mem_cons, List.not_mem_nil, or_false]
    exact fun z => z.elim (Nat.ne_of_lt sl) hne
  refine list_restR (A := A) (s := { s with heap := s.heap.push { cls := .type "dict_keyiterator", data := .fields #[.ref d, .int 0 0, .int es.size 0, .int ep 0] } }) (walks_raw (A := A.in1) hh s.heap.objs.size d (Nat.ne_of_lt dl) es ep) hz S c ⟨⟨_, Heap.get?_push_size _ rfl, rfl, rfl⟩, hm3⟩ SI (old _ _ hS) r fun s1 acc c1 hmv h1 h2 => ?_
  obtain ⟨hp1, ge, dr, tk, os⟩ := s1
  obtain ⟨m1, m2, m3, m4, m5⟩ := hmv
  obtain rfl : ge = s.gens := m2
  obtain rfl : dr = s.drawn := m3
  obtain rfl : os = s.os := m4
  refine hR hp1 acc c1 tk (fun b o hb e => m1 b o ?_ (old b o e)) h1 (items_list h2 (es.toList.map (·.key)) (by rw [List.length_map, Array.length_toList]) fun i v ⟨e, h3, h4⟩ => by rw [List.getElem?_map, Array.getElem?_toList, h3, h4]; rfl)
  intro z
  simp only [List.mem_cons, List.not_mem_nil, or_false] at z
  exact z.elim hb fun z => absurd (Heap.lt_size e) (by rw [z]; exact Nat.lt_irrefl _)
theorem collect_dict {d : Addr} {es : Array DictEntry} {ep : Nat} {Q : List Value → Shared → Prop} (hh : A.handled = none) (hd : (d == sysModules) = false) (hm : RawD s.heap d es ep) (hz : es.size ≤ sizeLine)
    (hQ : ∀ h1 tk, (∀ b o, s.heap.get? b = some o → h1.get? b = some o) → s.heap.objs.size < h1.objs.size → Q (es.toList.map (·.key)) { s with heap := h1, toks := tk }) : wpAny (model prog w) A (collect (.ref d)) Q E s := by
  have dl : d < s.heap.objs.size := by obtain ⟨o, ho, _⟩ := hm; exact Heap.lt_size ho
  unfold collect
  refine wpAny_bind (wpAny_runValue (codeAny_builtin PySem.F.entry_proto_collect ?_))
  rw [Around.under_plainId PySem.F.plain_proto_collect _]
  show wpAny _ A.in1 (newList [] >>= fun l => again (.builtin "list.__iadd__" ⟨[l, .ref d], []⟩)) _ _ s
  refine wpAny_bind (wpAny_newObj_type ?_)
  refine wpAny_pure ⟨plainId_quiet PySem.F.plain_list_iadd _, codeAny_builtin PySem.F.entry_list_iadd ?_⟩
  rw [Around.under_plainId PySem.F.plain_list_iadd _]
  show wpAny _ A.in1 (Builtin.List.listExtendWith (.ref s.heap.objs.size) (.ref d) (.ref s.heap.objs.size)) _ _ _
  have hS : (s.heap.push { cls := .type "list", data := .seq ([] : List Value).toArray }).get? s.heap.objs.size = some { cls := .type "list", data := .seq #[] } := Heap.get?_push_size _ rfl
  have old : ∀ b o, s.heap.get? b = some o → (s.heap.push { cls := .type "list", data := .seq ([] : List Value).toArray }).get? b = some o := fun b o e => Heap.get?_push_of_some _ e
  have hm2 := hm.at (h' := s.heap.push { cls := .type "list", data := .seq ([] : List Value).toArray }) (fun o e => old d o e)
  refine extend_dict (prog := prog) (A := A) (r := .ref s.heap.objs.size) (R := fun r s' => match r with
    | .ok (.ret v) => wpAny (model prog w) A (match v with
      | .ref a => do
        let o ← load a
        match o.data with
        | .seq xs _ => pure xs.toList
        | _ => unsupported "internal:collect"
      | _ => unsupported "internal:collect") Q E s'
    | .ok _ => False
    | .error e => E e s') (s := { s with heap := s.heap.push { cls := .type "list", data := .seq ([] : List Value).toArray } }) hh hd hm2 hz hS (Ne.symm (Nat.ne_of_lt dl)) fun h1 acc c1 tk k e p => ?_
  show wpAny _ A (load s.heap.objs.size >>= _) _ _ _
  refine wpAny_bind (wpAny_load e ?_)
  rw [← p] at hQ
  exact wpAny_pure (hQ h1 tk (fun b o eb => k b o (fun z => Nat.lt_irrefl _ (z ▸ Heap.lt_size eb)) (old b o eb)) (Heap.lt_size e))
end
section
variable {X : Cx}
end
end L2

/-! max(ints, default=d). -/
namespace L2
open PySem PySem.Spec PyProof.Rows
theorem gt_ints {prog : Program} {w : World} {A : Around} {s : Shared} {a b : Int} {t u : Tok} {Q : Value → Shared → Prop} {E : Value → Shared → Prop} (q : Q (.bool (decide (a > b))) s) : wpAny (model prog w) A (richCompare .Gt (.int a t) (.int b u)) Q E s :=
  CmpOf.ints_gt (P := fun i v => (i = 0 ∧ v = .int a t) ∨ (i = 1 ∧ v = .int b u)) (fun i => if i = 0 then a else b) (fun i v h => by
    rcases h with ⟨rfl, rfl⟩ | ⟨rfl, rfl⟩
    · exact ⟨t, rfl⟩
    · exact ⟨u, rfl⟩) 0 1 _ _ s Q E (.inl ⟨rfl, rfl⟩) (.inr ⟨rfl, rfl⟩) q
section
variable {prog : Program} {w : World} {A : Around} {R : Result → Shared → Prop}
/-- the best so far stands in the list at S; the walk over the list at l is at j -/
structure MaxAt (h : Heap) (l it S : Addr) (its : Array Value) (vb : Value) (j : Nat) (c : Nat) : Prop where
  i : h.IsListIter it l j
  l : h.IsList l its
  s : h.get? S = some { cls := .type "list", dict := none, data := .seq #[vb, vb] c, slots := #[] }
theorem maxD_loop {l it S : Addr} {its : Array Value} {val : Nat → Int} {dv : Value} (hh : A.handled = none) (hv : ∀ i v, its[i]? = some v → ∃ t, v = Value.int (val i) t) (n1 : S ≠ it) (n2 : S ≠ l) (n3 : l ≠ it) :
    ∀ (k j b : Nat) (s : Shared) (vb : Value) (c : Nat), its.size - j = k → MaxAt s.heap l it S its vb j c → its[b]? = some vb → (∀ i, i < j → val i ≤ val b) → j ≤ its.size →
      (∀ (v : Value) (b' : Nat) (h' : Heap) (tk : Nat), its[b']? = some v → (∀ i, i < its.size → val i ≤ val b') → (∀ d o, d ≠ it → d ≠ S → s.heap.get? d = some o → h'.get? d = some o) → R (.ok (.ret v)) { s with heap := h', toks := tk }) →
      codeAny (model prog w) A (.builtin "max.loop" ⟨[.ref it, .none, .ref S], [("default", dv)]⟩) R s := by
  have nm : (toString "max" ++ toString ".loop" : String) = "max.loop" := by decide
  intro k
  induction k with
  | zero =>
    intro j b s vb c hk M eb best hj q
    refine codeAny_builtin F.entry_max_loop ?_
    rw [Around.under_plainId F.plain_max_loop _]
    show wpAny _ A.in1 (seqItems? (.ref S) >>= _) _ _ s
    refine wpAny_bind (wpAny_seqItems M.s rfl (wpAny_bind (wpAny_tryCatch (wpAny_pyNext_list_end (A := A.in1) hh M.i M.l (Array.getElem?_eq_none (show its.size ≤ j by omega)) fun h' eb' => ?_))))
    have s' := eb' S _ n1 M.s
    refine wpAny_bind (m := updateSeq S (fun _ => #[])) ?_
    refine wpAny_updateSeq s' rfl (wpAny_bind (wpAny_letGo (wpAny_pure ?_)))
    exact q vb b _ s.toks eb (fun i hi => best i (by omega)) fun d o d1 d2 e => by
      rw [Heap.get?_update_other _ _ (Ne.symm d2)]
      exact eb' d o d1 e
  | succ k ih =>
    intro j b s vb c hk M eb best hj q
    have hlt : j < its.size := by omega
    have ej : its[j]? = some its[j] := Array.getElem?_eq_getElem hlt
    obtain ⟨t1, e1⟩ := hv j _ ej
    obtain ⟨t2, e2⟩ := hv b _ eb
    refine codeAny_builtin F.entry_max_loop ?_
    rw [Around.under_plainId F.plain_max_loop _]
    show wpAny _ A.in1 (seqItems? (.ref S) >>= _) _ _ s
    refine wpAny_bind (wpAny_seqItems M.s rfl (wpAny_bind (wpAny_tryCatch (wpAny_pyNext_list_item M.i M.l ej fun h' it' sb => ?_))))
    have s' : h'.get? S = _ := (sb.2 S n1).trans M.s
    have l' : h'.IsList l its := by
      obtain ⟨o, ho, r⟩ := M.l
      exact ⟨o, (sb.2 l n3).trans ho, r⟩
    rw [e1, e2]
    rw [e1] at ej
    rw [e2] at s' eb
    refine wpAny_bind (wpAny_pure ?_)
    refine wpAny_bind (wpAny_tryCatch (wpAny_holding (wpAny_bind (gt_ints (s := { s with heap := h' }) (t := t1) (u := t2) ?_))))
    refine wpAny_bind (wpAny_holding (wpAny_truthy_bool (wpAny_bind (wpAny_letGo (wpAny_pure ?_)))))
    by_cases c1 : val j > val b
    · rw [decide_eq_true c1, if_pos rfl]
      refine wpAny_bind (m := updateSeq S (fun _ => #[Value.int (val j) t1, Value.int (val j) t1])) ?_
      refine wpAny_updateSeq s' rfl (wpAny_bind (wpAny_letGo ?_))
      rw [nm]
      have keep : ∀ d o, d ≠ S → h'.get? d = some o → (h'.update S (Obj.mapSeq fun _ => #[Value.int (val j) t1, Value.int (val j) t1])).get? d = some o := fun d o d1 e => (Heap.get?_update_other _ _ (Ne.symm d1)).trans e
      obtain ⟨c', M'⟩ : ∃ c', MaxAt (h'.update S (Obj.mapSeq fun _ => #[Value.int (val j) t1, Value.int (val j) t1])) l it S its (Value.int (val j) t1) (j + 1) c' := by
        refine ⟨_, it'.at fun o e => keep it o (Ne.symm n1) e, ?_, Heap.get?_update_self _ s' rfl⟩
        obtain ⟨o, ho, r⟩ := l'
        exact ⟨o, keep l o (Ne.symm n2) ho, r⟩
      refine wpAny_pure ⟨plainId_quiet F.plain_max_loop _, ih (j + 1) j _ _ _ (by omega) M' ej (fun i hi => ?_) hlt fun v b' h2 tk ev hb kp => ?_⟩
      · by_cases c2 : i = j
        · subst c2; exact Int.le_refl _
        · have := best i (by omega); omega
      · exact q v b' h2 tk ev hb fun d o d1 d2 e => kp d o d1 d2 (keep d o d2 ((sb.2 d d1).trans e))
    · rw [decide_eq_false c1, if_neg Bool.false_ne_true]
      refine wpAny_bind (wpAny_letGo ?_)
      rw [nm]
      refine wpAny_pure ⟨plainId_quiet F.plain_max_loop _, ih (j + 1) b { s with heap := h' } _ c (by omega) ⟨it', l', s'⟩ eb (fun i hi => ?_) hlt fun v b' h2 tk ev hb kp => ?_⟩
      · by_cases c2 : i = j
        · subst c2; omega
        · exact best i (by omega)
      · exact q v b' h2 tk ev hb fun d o d1 d2 e => kp d o d1 d2 ((sb.2 d d1).trans e)
/-- the first step, and the walk over nothing -/
theorem maxD_first {l it S : Addr} {its : Array Value} {val : Nat → Int} {dv : Value} {s : Shared} {c : Nat} (hh : A.handled = none) (hv : ∀ i v, its[i]? = some v → ∃ t, v = Value.int (val i) t) (n1 : S ≠ it) (n2 : S ≠ l) (n3 : l ≠ it)
    (hi : s.heap.IsListIter it l 0) (hl : s.heap.IsList l its) (hS : s.heap.get? S = some { cls := .type "list", dict := none, data := .seq #[] c, slots := #[] })
    (q : ∀ (v : Value) (h' : Heap) (tk : Nat), (its.size = 0 ∧ v = dv) ∨ (∃ b, its[b]? = some v ∧ ∀ i, i < its.size → val i ≤ val b) → (∀ d o, d ≠ it → d ≠ S → s.heap.get? d = some o → h'.get? d = some o) → R (.ok (.ret v)) { s with heap := h', toks := tk }) :
    codeAny (model prog w) A (.builtin "max.loop" ⟨[.ref it, .none, .ref S], [("default", dv)]⟩) R s := by
  have nm : (toString "max" ++ toString ".loop" : String) = "max.loop" := by decide
  refine codeAny_builtin F.entry_max_loop ?_
  rw [Around.under_plainId F.plain_max_loop _]
  show wpAny _ A.in1 (seqItems? (.ref S) >>= _) _ _ s
  by_cases h0 : its.size = 0
  · refine wpAny_bind (wpAny_seqItems hS rfl (wpAny_bind (wpAny_tryCatch (wpAny_pyNext_list_end (A := A.in1) hh hi hl (Array.getElem?_eq_none (by omega)) fun h' eb' => ?_))))
    refine wpAny_bind (wpAny_rule (wpAny_pure ?_))
    exact q dv h' s.toks (.inl ⟨h0, rfl⟩) fun d o d1 _ e => eb' d o d1 e
  · have ej : its[0]? = some its[0] := Array.getElem?_eq_getElem (by omega)
    refine wpAny_bind (wpAny_seqItems hS rfl (wpAny_bind (wpAny_tryCatch (wpAny_pyNext_list_item hi hl ej fun h' it' sb => ?_))))
    have s' : h'.get? S = _ := (sb.2 S n1).trans hS
    have l' : h'.IsList l its := by
      obtain ⟨o, ho, r⟩ := hl
      exact ⟨o, (sb.2 l n3).trans ho, r⟩
    refine wpAny_bind (wpAny_pure ?_)
    refine wpAny_bind (m := updateSeq S (fun _ => #[its[0], its[0]])) ?_
    refine wpAny_updateSeq s' rfl ?_
    rw [nm]
    have keep : ∀ d o, d ≠ S → h'.get? d = some o → (h'.update S (Obj.mapSeq fun _ => #[its[0], its[0]])).get? d = some o := fun d o d1 e => (Heap.get?_update_other _ _ (Ne.symm d1)).trans e
    obtain ⟨c', M'⟩ : ∃ c', MaxAt (h'.update S (Obj.mapSeq fun _ => #[its[0], its[0]])) l it S its its[0] 1 c' := by
      refine ⟨_, it'.at fun o e => keep it o (Ne.symm n1) e, ?_, Heap.get?_update_self _ s' rfl⟩
      obtain ⟨o, ho, r⟩ := l'
      exact ⟨o, keep l o (Ne.symm n2) ho, r⟩
    refine wpAny_pure ⟨plainId_quiet F.plain_max_loop _, maxD_loop hh hv n1 n2 n3 _ 1 0 _ _ _ rfl M' ej (fun i hi => ?_) (by omega) fun v b' h2 tk ev hb kp => ?_⟩
    · have : i = 0 := by omega
      subst this
      exact Int.le_refl _
    · exact q v h2 tk (.inr ⟨b', ev, hb⟩) fun d o d1 d2 e => kp d o d1 d2 (keep d o d2 ((sb.2 d d1).trans e))
end
section
variable {prog : Program} {w : World} {A : Around} {E : Value → Shared → Prop} {s : Shared}
theorem argsMaxD (a d : Value) : argsOk "max" ⟨[a], [("default", d)]⟩ := by unfold argsOk; kernel_rfl
theorem call_maxD {l : Addr} {its : Array Value} {val : Nat → Int} {dv : Value} {Q : Value → Shared → Prop} (hh : A.handled = none) (hl : s.heap.IsList l its) (hv : ∀ i v, its[i]? = some v → ∃ t, v = Value.int (val i) t)
    (q : ∀ (v : Value) (h' : Heap) (tk : Nat), (its.size = 0 ∧ v = dv) ∨ (∃ b, its[b]? = some v ∧ ∀ i, i < its.size → val i ≤ val b) → (∀ d o, s.heap.get? d = some o → h'.get? d = some o) → Q v { s with heap := h', toks := tk }) :
    wpAny (model prog w) A (call (.builtin "max") [.ref l] [("default", dv)]) Q E s := by
  have nm : (toString "max" ++ toString ".loop" : String) = "max.loop" := by decide
  have hlt : l < s.heap.objs.size := by obtain ⟨_, e, _⟩ := hl; exact Heap.lt_size e
  have body : wpAny (model prog w) A.in1 (Builtin.«max» ⟨[.ref l], [("default", dv)]⟩) (fun fin s' => match fin with
      | .done f => (match (Except.ok f : Result) with | .ok (.ret v) => Q v s' | .ok _ => False | .error e => E e s')
      | .again c' => c'.quiet = true ∧ codeAny (model prog w) A c' (fun r s' => match r with | .ok (.ret v) => Q v s' | .ok _ => False | .error e => E e s') s') E s := by
    show wpAny _ A.in1 (Builtin.Builtins.bindParams "max" ["key", "default"] 0 ⟨[], [("default", dv)]⟩ >>= _) _ _ s
    refine wpAny_bind (wpAny_of_eq (show Builtin.Builtins.bindParams "max" ["key", "default"] 0 ⟨[], [("default", dv)]⟩ = pure [none, some dv] from rfl) ?_)
    refine wpAny_bind (wpAny_pure (wpAny_bind (wpAny_pyIter_list hl ?_)))
    refine wpAny_bind (wpAny_newObj_type ?_)
    rw [nm]
    have zu : (s.heap.push { cls := .type "list_iterator", data := .fields #[.ref l, .int 0 0] }).objs.size = s.heap.objs.size + 1 := Heap.size_push ..
    have old1 : ∀ d o, s.heap.get? d = some o → (s.heap.push { cls := .type "list_iterator", data := .fields #[.ref l, .int 0 0] }).get? d = some o := fun d o e => Heap.get?_push_of_some _ e
    have hit : (s.heap.push { cls := .type "list_iterator", data := .fields #[.ref l, .int 0 0] }).IsListIter s.heap.objs.size l 0 := ⟨_, Heap.get?_push_size _ rfl, rfl, rfl⟩
    have hl1 : (s.heap.push { cls := .type "list_iterator", data := .fields #[.ref l, .int 0 0] }).IsList l its := by
      obtain ⟨o, ho, r⟩ := hl
      exact ⟨o, old1 l o ho, r⟩
    generalize s.heap.push { cls := .type "list_iterator", data := .fields #[.ref l, .int 0 0] } = g at zu old1 hit hl1
    have hl2 : (g.push { cls := .type "list", data := .seq ([] : List Value).toArray }).IsList l its := by
      obtain ⟨o, ho, r⟩ := hl1
      exact ⟨o, Heap.get?_push_of_some _ ho, r⟩
    refine wpAny_pure ⟨plainId_quiet F.plain_max_loop _, maxD_first (it := s.heap.objs.size) (S := g.objs.size) hh hv ?_ ?_ ?_ (hit.at fun o e => Heap.get?_push_of_some _ e) hl2 (Heap.get?_push_size _ rfl) fun v h' tk hb kp => ?_⟩
    · rw [zu]; exact Nat.succ_ne_self _
    · rw [zu]; exact Ne.symm (Nat.ne_of_lt (Nat.lt_succ_of_lt hlt))
    · exact Nat.ne_of_lt hlt
    · refine q v h' tk hb fun d o e => kp d o (fun z => ?_) (fun z => ?_) (Heap.get?_push_of_some _ (old1 d o e))
      · exact absurd (Heap.lt_size e) (by rw [z]; exact Nat.lt_irrefl _)
      · exact absurd (Heap.lt_size e) (by rw [z, zu]; exact Nat.not_lt_of_le (Nat.le_succ _))
  refine wpAny_call (codeAny_call_builtin F.plain_max F.entry_max ?_)
  have ha := argsMaxD (.ref l) dv
  simp only [checkBuiltinCall, F.kind_max]
  cases sg : Manifest.signature? "max" with
  | none => exact wpAny_pure body
  | some g =>
    simp only [argsOk, sg] at ha
    have ha : Bind.checkArgs "max" g ⟨[.ref l], [("default", dv)]⟩ = pure () := ha
    show wpAny _ A.in1 (Bind.checkArgs "max" g ⟨[.ref l], [("default", dv)]⟩) _ _ s
    rw [ha]
    exact wpAny_pure body
end
def MaxIs (ns : List Int) (d m : Int) : Prop := (ns = [] ∧ m = d) ∨ (m ∈ ns ∧ ∀ y ∈ ns, y ≤ m)
def tMaxD (K : PySem.W.Frag) (d : Int) (te : TE) : TE := fun σ H Q => te σ H fun x H1 => ∃ (p : Addr) (ns : List Int), x = .ref p ∧ SqL K H1 p (ns.map V.int) ∧ ∀ m, MaxIs ns d m → Q (.int m) H1
section
variable {X : Cx}
theorem pe_maxD (K : PySem.W.Frag) (hK : X.K = K) (d : Int) {e : Expr} {te : TE} {p pos kpos cpos : Pos} {j : Nat} (hc : X.calm = true) (hg : Gl X "max") (hm : X.mg "max" = none) (he : PE X e te)
    (hs : starEach [e] X.env = [(false, eval e X.env)] := by rfl) : PE X (.Call (.Name "max" p) [e] [⟨some "default", .Constant (.int d) j cpos, kpos⟩] pos) (tMaxD K d te) := by
  subst hK
  intro pins s σ H Q I h
  refine wpAny_Call_Name_kw (ld_blt I hg hm boot_max ?_)
  refine PySem.W.callWith_of (P := fun _ => True) (first := []) (by rw [hs]; rfl) (fun h _ => ⟨.machine, .inr (.inl rfl), fun _ _ _ _ _ q => wpAny_pure q⟩) (PyProof.Rows.evalArgs_kw2 rfl ?_ hs)
  refine thn (pa_cons he pa_nil hs pos pins s σ H (fun vs H1 => match vs with | [x] => ∃ (p : Addr) (ns : List Int), x = .ref p ∧ SqL X.K H1 p (ns.map V.int) ∧ ∀ m, MaxIs ns d m → Q (.int m) H1 | _ => False) I h) fun us s1 hq0 => ?_
  obtain ⟨vs, H1, I1, r, q⟩ := hq0
  match vs, q with
  | [x], q =>
    obtain ⟨l, ns, rfl, hl, q⟩ := q
    obtain ⟨u, rfl, ru⟩ := vals1 r
    cases ru
    refine thn (pk_cons (nm := some "default") (kpos := kpos) (pe_int (i := d) (j := j) (pos := cpos)) pk_nil pos pins s1 σ H1 (fun zs H2 => zs = [.int d] ∧ H2 = H1) I1 ⟨rfl, rfl⟩) fun ws s2 ⟨zs, H2, I2, rz, q2⟩ => ⟨trivial, ?_⟩
    obtain ⟨rfl, rfl⟩ := q2
    obtain ⟨v, rfl, t, rfl⟩ := vals1 rz
    obtain ⟨its, rv, pl, hz⟩ := I2.list hl
    have len := rv.length
    rw [List.length_map] at len
    have hv : ∀ i v, its.toArray[i]? = some v → ∃ t, v = Value.int (ns.getD i 0) t := by
      intro i v e
      have e' : its[i]? = some v := by simpa using e
      have hi : i < ns.length := by have := (List.getElem?_eq_some_iff.mp e').1; omega
      obtain ⟨w, e2, rw'⟩ := rv.get (i := i) (x := .int ns[i]) (by simp [hi])
      rw [e'] at e2
      cases e2
      have : ns.getD i 0 = ns[i] := by rw [List.getD_eq_getElem?_getD, List.getElem?_eq_getElem hi]; rfl
      rw [this]
      exact rw'
    refine call_maxD (I2.ok.hd hc) pl.isList hv fun v h' tk hb kp => ?_
    have sz : its.toArray.size = ns.length := by rw [List.size_toArray]; exact len.symm
    rcases hb with ⟨h0, rfl⟩ | ⟨b, eb, hb⟩
    · refine ⟨.int d, _, I2.kept kp, ⟨t, rfl⟩, q d (.inl ⟨?_, rfl⟩)⟩
      exact List.length_eq_zero_iff.mp (by omega)
    · obtain ⟨t', rfl⟩ := hv b _ eb
      have hbn : b < ns.length := by
        have := (Array.getElem?_eq_some_iff.mp eb).1
        omega
      have eg : ∀ i (hi : i < ns.length), ns.getD i 0 = ns[i] := fun i hi => by rw [List.getD_eq_getElem?_getD, List.getElem?_eq_getElem hi]; rfl
      refine ⟨.int (ns.getD b 0), _, I2.kept kp, ⟨t', rfl⟩, q _ (.inr ⟨?_, fun y hy => ?_⟩)⟩
      · rw [eg b hbn]; exact List.getElem_mem _
      · obtain ⟨i, hi, rfl⟩ := List.mem_iff_getElem.mp hy
        have := hb i (by omega)
        rwa [eg i hi] at this
end
end L2

/-! Levels. -/
namespace Dm
open PySem PySem.NumText L2
def rowB (lv : Str → Nat) (j : Nat) (x : Str) : Bool := decide (lv x = j)
def lvN (lv : Str → Nat) (L : List (Str × Addr)) : List Int := L.map fun p => (lv p.1 : Int) + 1
def lvU (lv : Str → Nat) (u : Str) (m : Nat) : Str → Nat := fun x => if x = u then m else lv x
structure Lv (ln : Ln) (M : List Str) (lv : Str → Nat) (n : Nat) : Prop where
  cl : ∀ x ∈ M, ∀ l r, (l, r) ∈ ln x → l ∈ M
  mx : ∀ x ∈ M, MaxIs (lvN lv (ln x)) 0 (lv x)
  lt : ∀ x ∈ M, lv x < n
  all : ∀ j, j < n → ∃ x ∈ M, lv x = j
theorem Lv.nil {ln : Ln} {lv : Str → Nat} : Lv ln [] lv 0 := ⟨by simp, by simp, by simp, by simp⟩
theorem Lv.mem {ln : Ln} {M M' : List Str} {lv : Str → Nat} {n : Nat} (h : Lv ln M lv n) (e : ∀ x, x ∈ M ↔ x ∈ M') : Lv ln M' lv n :=
  ⟨fun x hx l r hl => (e l).mp (h.cl x ((e x).mpr hx) l r hl), fun x hx => h.mx x ((e x).mpr hx), fun x hx => h.lt x ((e x).mpr hx), fun j hj => by
    obtain ⟨x, hx, z⟩ := h.all j hj
    exact ⟨x, (e x).mp hx, z⟩⟩
theorem Lv.next {ln : Ln} {M : List Str} {lv : Str → Nat} {n : Nat} {u : Str} (h : Lv ln M lv n) (hc : ∀ l r, (l, r) ∈ ln u → l ∈ M) {m : Int} (hm : MaxIs (lvN lv (ln u)) 0 m) : ∃ k : Nat, m = k ∧ k ≤ n := by
  rcases hm with ⟨_, rfl⟩ | ⟨hm, _⟩
  · exact ⟨0, rfl, by omega⟩
  · unfold lvN at hm
    rw [List.mem_map] at hm
    obtain ⟨⟨l, r⟩, hl, rfl⟩ := hm
    have := h.lt l (hc l r hl)
    exact ⟨lv l + 1, by simp, by omega⟩
theorem lvN_congr {lv lv' : Str → Nat} {L : List (Str × Addr)} (h : ∀ l r, (l, r) ∈ L → lv l = lv' l) : lvN lv L = lvN lv' L := by
  unfold lvN
  refine List.map_congr_left fun p hp => ?_
  rw [h p.1 p.2 hp]
theorem lvU_old {lv : Str → Nat} {u x : Str} {k : Nat} (h : x ≠ u) : lvU lv u k x = lv x := by unfold lvU; rw [if_neg h]
theorem lvU_new {lv : Str → Nat} {u : Str} {k : Nat} : lvU lv u k u = k := by unfold lvU; rw [if_pos rfl]
theorem Lv.step {ln : Ln} {M : List Str} {lv : Str → Nat} {n : Nat} {u : Str} (h : Lv ln M lv n) (hu : u ∉ M) (hc : ∀ l r, (l, r) ∈ ln u → l ∈ M) {k : Nat} (hm : MaxIs (lvN lv (ln u)) 0 k) (hk : k ≤ n) :
    Lv ln (M ++ [u]) (lvU lv u k) (if k = n then n + 1 else n) := by
  have ne : ∀ x ∈ M, x ≠ u := fun x hx z => hu (z ▸ hx)
  have cg : ∀ x, (∀ l r, (l, r) ∈ ln x → l ∈ M) → lvN (lvU lv u k) (ln x) = lvN lv (ln x) := fun x hx => lvN_congr fun l r hl => lvU_old (ne l (hx l r hl))
  have sp : ∀ x, x ∈ M ++ [u] → x ∈ M ∨ x = u := fun x hx => by
    rcases List.mem_append.mp hx with h | h
    · exact .inl h
    · exact .inr (by simpa using h)
  refine ⟨fun x hx l r hl => ?_, fun x hx => ?_, fun x hx => ?_, fun j hj => ?_⟩
  · rcases sp x hx with hx | rfl
    · exact List.mem_append_left _ (h.cl x hx l r hl)
    · exact List.mem_append_left _ (hc l r hl)
  · rcases sp x hx with hx | rfl
    · rw [cg x (h.cl x hx), lvU_old (ne x hx)]; exact h.mx x hx
    · rw [cg x hc, lvU_new]; exact hm
  · rcases sp x hx with hx | rfl
    · rw [lvU_old (ne x hx)]
      have := h.lt x hx
      split <;> omega
    · rw [lvU_new]
      split <;> omega
  · by_cases c : j < n
    · obtain ⟨x, hx, e⟩ := h.all j c
      exact ⟨x, List.mem_append_left _ hx, by rw [lvU_old (ne x hx)]; exact e⟩
    · refine ⟨u, by simp, ?_⟩
      rw [lvU_new]
      split at hj <;> omega
theorem row_step {M : List Str} {lv : Str → Nat} {u : Str} {k j : Nat} (hu : u ∉ M) : (M ++ [u]).filter (rowB (lvU lv u k) j) = M.filter (rowB lv j) ++ (if k = j then [u] else []) := by
  rw [List.filter_append]
  congr 1
  · refine List.filter_congr fun x hx => ?_
    unfold rowB
    have ne : x ≠ u := fun z => hu (by rw [← z]; exact hx)
    rw [lvU_old ne]
  · have e : rowB (lvU lv u k) j u = decide (k = j) := by unfold rowB; rw [lvU_new]
    by_cases c : k = j
    · rw [if_pos c, List.filter_cons_of_pos (by rw [e]; exact decide_eq_true c)]; rfl
    · rw [if_neg c, List.filter_cons_of_neg (by rw [e, decide_eq_false c]; exact Bool.false_ne_true)]; rfl
theorem row_sorted {os keys : List Str} {p : Str → Bool} (pm : os.Perm keys) (kl : keys.Pairwise (fun a b => co a < co b)) : srt (os.filter p) = keys.filter p := by
  refine (srt_eq (pm.filter p).symm ?_).symm
  unfold Rises
  exact (kl.imp (fun h => co_asymm h)).sublist (List.filter_sublist ..)
theorem nd_inj {l : List Addr} (h : l.Nodup) {i j : Nat} {a : Addr} (hi : l[i]? = some a) (hj : l[j]? = some a) : i = j := by
  obtain ⟨h1, e1⟩ := List.getElem?_eq_some_iff.mp hi
  obtain ⟨h2, e2⟩ := List.getElem?_eq_some_iff.mp hj
  have pw := List.pairwise_iff_getElem.mp h
  rcases Nat.lt_trichotomy i j with c | c | c
  · exact absurd (e1.trans e2.symm) (pw i j h1 h2 c)
  · exact c
  · exact absurd (e2.trans e1.symm) (pw j i h2 h1 c)
end Dm
namespace L2
open PySem PySem.Spec PyProof.Rows
/-- an if whose two ways meet again, the heap changed or not -/
theorem ifS_meet {c : TT} {t u : TS} {D : Ends} {σ : St} {H : Hp} (P : St → Hp → Prop) (b : Bool) (ht : ∀ Q' : Bool → Hp → Prop, Q' b H → c σ H Q') (h1 : b = true → (∀ σ' H', P σ' H' → D.nx σ' H') → t D σ H) (h2 : b = false → (∀ σ' H', P σ' H' → D.nx σ' H') → u D σ H)
    (hn : ∀ σ' H', P σ' H' → D.nx σ' H') : tIfS c t u D σ H := by
  refine ifS_at b ht ?_
  cases b with
  | true => exact iteT (h1 rfl hn)
  | false => exact iteF (h2 rfl hn)
end L2
namespace Dm
open PySem PySem.NumText L2
theorem Lv.row_nil {ln : Ln} {M : List Str} {lv : Str → Nat} {n : Nat} (h : Lv ln M lv n) {j : Nat} (hj : n ≤ j) : M.filter (rowB lv j) = [] := by
  rw [List.filter_eq_nil_iff]
  intro x hx
  have := h.lt x hx
  unfold rowB
  rw [decide_eq_true_iff]
  omega
end Dm

/-! Levels, row after row. -/
namespace Dm
open PySem PySem.NumText L2
theorem maxIs_same {ns ns' : List Int} {d m m' : Int} (h : MaxIs ns d m) (h' : MaxIs ns' d m') (e : ∀ y, y ∈ ns ↔ y ∈ ns') : m = m' := by
  rcases h with ⟨h1, h2⟩ | ⟨h1, h2⟩
  · rcases h' with ⟨_, h4⟩ | ⟨h3, _⟩
    · rw [h2, h4]
    · have := (e m').mpr h3
      rw [h1] at this
      cases this
  · rcases h' with ⟨h3, _⟩ | ⟨h3, h4⟩
    · have := (e m).mp h1
      rw [h3] at this
      cases this
    · have a := h2 m' ((e m').mpr h3)
      have b := h4 m ((e m).mp h1)
      omega
end Dm

/-! Tuples of a number and a text, compared; the greatest and the least of a list of such. -/
namespace L2
open PySem PySem.Spec PyProof.Rows
abbrev IS := Int × Str
section
variable {prog : Program} {w : World} {A : Around} {E : Value → Shared → Prop} {s : Shared}
end
theorem paired_at {α β : Type} {F : α → β → Prop} {as : List α} {bs : List β} (h : Paired F as bs) : ∀ {i : Nat} {a : α} {b : β}, as[i]? = some a → bs[i]? = some b → F a b := by
  induction h with
  | nil => intro i a b e _; simp at e
  | cons h _ ih =>
    intro i a b e1 e2
    cases i with
    | zero => simp at e1 e2; rw [← e1, ← e2]; exact h
    | succ i => exact ih (by simpa using e1) (by simpa using e2)
section
variable {prog : Program} {w : World} {A : Around} {R : Result → Shared → Prop}
end
section
variable {prog : Program} {w : World} {A : Around} {E : Value → Shared → Prop} {s : Shared}
end
section
variable {X : Cx}
end
section
variable {prog : Program} {w : World} {A : Around} {R : Result → Shared → Prop}
end
section
variable {prog : Program} {w : World} {A : Around} {E : Value → Shared → Prop} {s : Shared}
end
section
variable {X : Cx}
end
end L2

/-! dict(list of pairs). -/
namespace L2
open PySem PySem.Spec PyProof.Rows
section
variable {prog : Program} {w : World} {A : Around} {E : Value → Shared → Prop} {s : Shared}
end
section
variable {prog : Program} {w : World} {A : Around} {R : Result → Shared → Prop}
end
section
variable {prog : Program} {w : World} {A : Around} {E : Value → Shared → Prop} {s : Shared}
end
section
variable {X : Cx}
end
end L2

/-! Frames, finds, floors and ceilings. -/
namespace Dm
open PySem PySem.NumText L2
section
variable {K : PySem.W.Frag} {H H' : Hp} {p pm pu pt pf : Addr} {lo hi : Int} {us : List Str} {ads : List Addr} {ts : List Tie} {af : List Addr} {fs : List Fnd}
end
theorem frz_get {H : Hp} {pd : Addr} {ob : Obj} {keys : List Str} {f : Str → V} (h : H pd = some (.frz ob (.dK (dV keys f)))) {k : Str} (hk : k ∈ keys) : DGet H pd (.str k) (some (f k)) := by
  have := dV_val (f := f) hk
  exact .inl ⟨_, Sum.inr k, .inr ⟨ob, h⟩, rfl, this.symm⟩
end Dm

/-! Datings. -/
namespace Dm
open PySem PySem.NumText L2
end Dm

/-! Bounds and spans as the laws reckon them. -/
namespace Dm
open PySem PySem.NumText L2
end Dm
namespace Dm
open PySem PySem.NumText L2
end Dm

/-! A dating, told in two ways. -/
namespace Dm
open PySem PySem.NumText L2
end Dm
namespace L2
open PySem
end L2

/-! The kit's tree of questions of a sort, answered by an order of things that all stand apart: the end is sorted. -/
namespace L2
open PySem PySem.W PyProof.Rows
/-- answers given by lt, for numbers below N -/
def askB (N : Nat) (lt : Nat → Nat → Bool) : Nat → Nat → (Bool → Shared → Prop) → Shared → Prop := fun i j C s => i < N ∧ j < N ∧ i ≠ j ∧ C (lt i j) s
structure Tot (N : Nat) (lt : Nat → Nat → Bool) : Prop where
  irr : ∀ a, a < N → lt a a = false
  tr : ∀ a b c, a < N → b < N → c < N → lt a b = true → lt b c = true → lt a c = true
  tot : ∀ a b, a < N → b < N → a ≠ b → lt a b = false → lt b a = true
structure Good (N : Nat) (p : Array Nat) : Prop where
  sz : p.size = N
  lt : ∀ i, i < N → p.getD i 0 < N
  inj : ∀ i j, i < N → j < N → p.getD i 0 = p.getD j 0 → i = j
def Asc (lt : Nat → Nat → Bool) (p : Array Nat) (k : Nat) : Prop := ∀ i j, i < j → j < k → lt (p.getD i 0) (p.getD j 0) = true
def Dsc (lt : Nat → Nat → Bool) (p : Array Nat) (k : Nat) : Prop := ∀ i j, i < j → j < k → lt (p.getD j 0) (p.getD i 0) = true
section
variable {N : Nat} {lt : Nat → Nat → Bool} {s : Shared}
theorem Asc.snoc (T : Tot N lt) {p : Array Nat} (G : Good N p) {n : Nat} (h : Asc lt p n) (hn : n < N) (h1 : 1 ≤ n) (q : lt (p.getD (n - 1) 0) (p.getD n 0) = true) : Asc lt p (n + 1) := by
  intro i j hij hj
  by_cases c : j < n
  · exact h i j hij c
  · have : j = n := by omega
    subst this
    by_cases c2 : i = j - 1
    · rw [c2]; exact q
    · exact T.tr _ _ _ (G.lt i (by omega)) (G.lt (j - 1) (by omega)) (G.lt j hn) (h i (j - 1) (by omega) (by omega)) q
theorem Dsc.snoc (T : Tot N lt) {p : Array Nat} (G : Good N p) {n : Nat} (h : Dsc lt p n) (hn : n < N) (h1 : 1 ≤ n) (q : lt (p.getD n 0) (p.getD (n - 1) 0) = true) : Dsc lt p (n + 1) := by
  intro i j hij hj
  by_cases c : j < n
  · exact h i j hij c
  · have : j = n := by omega
    subst this
    by_cases c2 : i = j - 1
    · rw [c2]; exact q
    · exact T.tr _ _ _ (G.lt j hn) (G.lt (j - 1) (by omega)) (G.lt i (by omega)) q (h i (j - 1) (by omega) (by omega))
theorem asc_wp (T : Tot N lt) {p : Array Nat} (G : Good N p) {Q : Nat → Shared → Prop} : ∀ (f n : Nat), 1 ≤ n → n + f ≤ N → Asc lt p n → (∀ m, n ≤ m → m ≤ n + f → Asc lt p m → (m < n + f → lt (p.getD m 0) (p.getD (m - 1) 0) = true) → Q m s) → (kas_asc p f n).kasWp (askB N lt) Q s
  | 0, n, _, _, a, k => k n (Nat.le_refl _) (Nat.le_refl _) a (fun z => absurd z (Nat.lt_irrefl _))
  | f + 1, n, h1, hn, a, k => by
    refine ⟨G.lt n (by omega), G.lt (n - 1) (by omega), fun z => by have := G.inj n (n - 1) (by omega) (by omega) z; omega, ?_⟩
    cases c : lt (p.getD n 0) (p.getD (n - 1) 0) with
    | true =>
      dsimp only
      rw [if_pos rfl]
      exact k n (Nat.le_refl _) (by omega) a fun _ => c
    | false =>
      dsimp only
      rw [if_neg (by simp)]
      have ne : p.getD n 0 ≠ p.getD (n - 1) 0 := fun z => by have := G.inj n (n - 1) (by omega) (by omega) z; omega
      have q := T.tot _ _ (G.lt n (by omega)) (G.lt (n - 1) (by omega)) ne c
      refine asc_wp T G f (n + 1) (by omega) (by omega) (a.snoc T G (by omega) h1 q) fun m m1 m2 am hm => k m (by omega) (by omega) am fun z => hm (by omega)
theorem desc_wp (T : Tot N lt) {p : Array Nat} (G : Good N p) {Q : Array Nat × Nat × Nat → Shared → Prop} : ∀ (f n : Nat), 1 ≤ n → n + f ≤ N → Dsc lt p n → (∀ m, n ≤ m → m ≤ n + f → Dsc lt p m → Q (p, m, 0) s) → (kas_desc f p n 0).kasWp (askB N lt) Q s
  | 0, n, _, _, a, k => k n (Nat.le_refl _) (Nat.le_refl _) a
  | f + 1, n, h1, hn, a, k => by
    refine ⟨G.lt n (by omega), G.lt (n - 1) (by omega), fun z => by have := G.inj n (n - 1) (by omega) (by omega) z; omega, ?_⟩
    cases c : lt (p.getD n 0) (p.getD (n - 1) 0) with
    | true =>
      dsimp only
      rw [if_pos rfl, if_neg (by omega)]
      exact desc_wp T G f (n + 1) (by omega) (by omega) (a.snoc T G (by omega) h1 c) fun m m1 m2 am => k m (by omega) (by omega) am
    | false =>
      dsimp only
      rw [if_neg (by simp)]
      have ne : p.getD n 0 ≠ p.getD (n - 1) 0 := fun z => by have := G.inj n (n - 1) (by omega) (by omega) z; omega
      have q := T.tot _ _ (G.lt n (by omega)) (G.lt (n - 1) (by omega)) ne c
      refine ⟨G.lt (n - 1) (by omega), G.lt n (by omega), Ne.symm ne, ?_⟩
      rw [q]
      dsimp only
      rw [if_pos rfl]
      exact k n (Nat.le_refl _) (by omega) a
theorem getD_of {p : Array Nat} {i : Nat} {q : Array Nat} {j : Nat} (h : p[i]? = q[j]?) : p.getD i 0 = q.getD j 0 := by
  rw [Array.getD_eq_getD_getElem?, Array.getD_eq_getD_getElem?, h]
theorem rev_get {p : Array Nat} {j : Nat} (hj : j ≤ p.size) (k : Nat) : (kas_rev p 0 j).getD k 0 = if k < j then p.getD (j - 1 - k) 0 else p.getD k 0 := by
  have e := getElem?_mirror_all (xs := p) (i := 0) hj k
  unfold kas_rev
  by_cases c : k < j
  · rw [if_pos c]
    rw [if_pos ⟨Nat.zero_le _, c⟩] at e
    rw [Nat.zero_add] at e
    exact getD_of e
  · rw [if_neg c]
    rw [if_neg (fun z => c z.2)] at e
    exact getD_of e
theorem Good.rev {p : Array Nat} (G : Good N p) {j : Nat} (hj : j ≤ N) : Good N (kas_rev p 0 j) := by
  have hz : j ≤ p.size := by rw [G.sz]; exact hj
  refine ⟨by rw [kas_rev_size]; exact G.sz, fun i hi => ?_, fun a b ha hb e => ?_⟩
  · rw [rev_get hz]
    split
    · exact G.lt _ (by omega)
    · exact G.lt _ hi
  · rw [rev_get hz, rev_get hz] at e
    by_cases c1 : a < j <;> by_cases c2 : b < j
    · rw [if_pos c1, if_pos c2] at e
      have := G.inj _ _ (by omega) (by omega) e
      omega
    · rw [if_pos c1, if_neg c2] at e
      have := G.inj _ _ (by omega) (by omega) e
      omega
    · rw [if_neg c1, if_pos c2] at e
      have := G.inj _ _ (by omega) (by omega) e
      omega
    · rw [if_neg c1, if_neg c2] at e
      exact G.inj _ _ (by omega) (by omega) e
theorem Dsc.rev {p : Array Nat} (G : Good N p) {j : Nat} (hj : j ≤ N) (h : Dsc lt p j) : Asc lt (kas_rev p 0 j) j := by
  have hz : j ≤ p.size := by rw [G.sz]; exact hj
  intro a b hab hb
  rw [rev_get hz, rev_get hz, if_pos (by omega), if_pos hb]
  exact h _ _ (by omega) (by omega)
theorem count_wp (T : Tot N lt) {p : Array Nat} (G : Good N p) (h2 : 2 ≤ N) {Q : Nat × Array Nat → Shared → Prop} (k : ∀ m p', 1 ≤ m → m ≤ N → Good N p' → Asc lt p' m → Q (m, p') s) : (kas_count N p).kasWp (askB N lt) Q s := by
  unfold kas_count
  rw [KasT.kasWp_bind]
  refine asc_wp T G (N - 1) 1 (Nat.le_refl _) (by omega) (fun i j a b => by omega) fun n n1 n2 an hn => ?_
  by_cases c : n = N
  · rw [if_pos (by rw [c]; simp)]
    exact k n p n1 (by omega) G an
  · rw [if_neg (by simpa using c)]
    by_cases c2 : n > 1
    · rw [if_pos c2]
      refine ⟨G.lt 0 (by omega), G.lt (n - 1) (by omega), fun z => by have := G.inj 0 (n - 1) (by omega) (by omega) z; omega, ?_⟩
      rw [an 0 (n - 1) (by omega) (by omega)]
      dsimp only
      rw [if_pos rfl]
      exact k n p n1 (by omega) G an
    · rw [if_neg c2]
      have e1 : n = 1 := by omega
      subst e1
      have h10 := hn (by omega)
      unfold kas_descPart
      rw [KasT.kasWp_bind]
      have d2 : Dsc lt p (1 + 1) := fun i j hij hj => by
        have : i = 0 := by omega
        have : j = 1 := by omega
        subst i j
        exact h10
      refine desc_wp T G (N - (1 + 1)) (1 + 1) (by omega) (by omega) d2 fun m m1 m2 dm => ?_
      show KasT.kasWp _ (if (0 : Nat) > 0 then _ else kas_tail3 m N p) _ _
      rw [if_neg (by omega)]
      unfold kas_tail3
      rw [KasT.kasWp_bind]
      refine asc_wp T (G.rev (j := m) (by omega)) (N - m) m (by omega) (by omega) (dm.rev G (by omega)) fun r r1 r2 ar _ => ?_
      exact k r _ (by omega) (by omega) (G.rev (by omega)) ar
theorem place_wp (T : Tot N lt) {p : Array Nat} (G : Good N p) {k : Nat} (hk : k < N) {Q : Nat → Shared → Prop} : ∀ (f l r : Nat), l ≤ r → r ≤ k → r - l ≤ f → (∀ i, i < l → lt (p.getD i 0) (p.getD k 0) = true) → (∀ i, r ≤ i → i < k → lt (p.getD k 0) (p.getD i 0) = true) → Asc lt p k →
      (∀ m, m ≤ k → (∀ i, i < m → lt (p.getD i 0) (p.getD k 0) = true) → (∀ i, m ≤ i → i < k → lt (p.getD k 0) (p.getD i 0) = true) → Q m s) → (kas_place p k f l r).kasWp (askB N lt) Q s
  | 0, l, r, h1, h2, h3, a, b, _, q => q l (by omega) a fun i hi hk' => b i (by omega) hk'
  | f + 1, l, r, h1, h2, h3, a, b, as, q => by
    unfold kas_place
    by_cases c : l ≥ r
    · rw [if_pos c]
      exact q l (by omega) a fun i hi hk' => b i (by omega) hk'
    · rw [if_neg c]
      have hm : (l + r) / 2 < r := by omega
      have hl : l ≤ (l + r) / 2 := by omega
      generalize (l + r) / 2 = m at hm hl
      refine ⟨G.lt k hk, G.lt m (by omega), fun z => by have := G.inj k m hk (by omega) z; omega, ?_⟩
      cases e : lt (p.getD k 0) (p.getD m 0) with
      | true =>
        dsimp only
        rw [if_pos rfl]
        refine place_wp T G hk f l m hl (by omega) (by omega) a (fun i hi hik => ?_) as q
        by_cases c3 : i = m
        · rw [c3]; exact e
        · exact T.tr _ _ _ (G.lt k hk) (G.lt m (by omega)) (G.lt i (by omega)) e (as m i (by omega) hik)
      | false =>
        dsimp only
        rw [if_neg (by simp)]
        have ne : p.getD k 0 ≠ p.getD m 0 := fun z => by have := G.inj k m hk (by omega) z; omega
        have e2 := T.tot _ _ (G.lt k hk) (G.lt m (by omega)) ne e
        refine place_wp T G hk f (m + 1) r (by omega) h2 (by omega) (fun i hi => ?_) b as q
        by_cases c3 : i = m
        · rw [c3]; exact e2
        · exact T.tr _ _ _ (G.lt i (by omega)) (G.lt m (by omega)) (G.lt k hk) (as i m (by omega) (by omega)) e2
theorem bub_get {p : Array Nat} {k d : Nat} (hk : k < p.size) (hd : d ≤ k) (j : Nat) : (bubble p k d).getD j 0 = if j = k - d then p.getD k 0 else if k - d < j ∧ j ≤ k then p.getD (j - 1) 0 else p.getD j 0 := by
  have e := getElem?_bubble hk d hd j
  by_cases c1 : j = k - d
  · rw [if_pos c1] at e ⊢
    exact getD_of e
  · rw [if_neg c1] at e ⊢
    by_cases c2 : k - d < j ∧ j ≤ k
    · rw [if_pos c2] at e ⊢
      exact getD_of e
    · rw [if_neg c2] at e ⊢
      exact getD_of e
/-- where the thing at j comes from -/
def bubI (k d j : Nat) : Nat := if j = k - d then k else if k - d < j ∧ j ≤ k then j - 1 else j
theorem bubI_get {p : Array Nat} {k d : Nat} (hk : k < p.size) (hd : d ≤ k) (j : Nat) : (bubble p k d).getD j 0 = p.getD (bubI k d j) 0 := by
  rw [bub_get hk hd]
  unfold bubI
  by_cases c1 : j = k - d
  · rw [if_pos c1, if_pos c1]
  · rw [if_neg c1, if_neg c1]
    by_cases c2 : k - d < j ∧ j ≤ k
    · rw [if_pos c2, if_pos c2]
    · rw [if_neg c2, if_neg c2]
theorem bubI_lt {N k d j : Nat} (hk : k < N) (hj : j < N) : bubI k d j < N := by
  unfold bubI
  split
  · exact hk
  · split <;> omega
theorem bubI_inj {k d a b : Nat} (hd : d ≤ k) (e : bubI k d a = bubI k d b) : a = b := by
  unfold bubI at e
  split at e <;> split at e <;> (try split at e) <;> (try split at e) <;> omega
theorem Good.bub {p : Array Nat} (G : Good N p) {k d : Nat} (hk : k < N) (hd : d ≤ k) : Good N (bubble p k d) := by
  have hz : k < p.size := by rw [G.sz]; exact hk
  refine ⟨by rw [bubble_size]; exact G.sz, fun i hi => ?_, fun a b ha hb e => ?_⟩
  · rw [bubI_get hz hd]
    exact G.lt _ (bubI_lt hk hi)
  · rw [bubI_get hz hd, bubI_get hz hd] at e
    exact bubI_inj hd (G.inj _ _ (bubI_lt hk ha) (bubI_lt hk hb) e)
theorem bin_wp (T : Tot N lt) {Q : Array Nat → Shared → Prop} : ∀ (f : Nat) (p : Array Nat) (k : Nat), Good N p → 1 ≤ k → k + f = N → Asc lt p k → (∀ p', Good N p' → Asc lt p' N → Q p' s) → (kas_bin f p k).kasWp (askB N lt) Q s
  | 0, p, k, G, h1, hk, a, q => q p G (by rw [← hk]; exact a)
  | f + 1, p, k, G, h1, hk, a, q => by
    unfold kas_bin
    rw [KasT.kasWp_bind]
    have hkN : k < N := by omega
    refine place_wp T G hkN k 0 k (Nat.zero_le _) (Nat.le_refl _) (by omega) (fun i hi => by omega) (fun i hi hik => by omega) a fun m hm lo hi => ?_
    have hz : k < p.size := by rw [G.sz]; exact hkN
    have hd : k - m ≤ k := by omega
    refine bin_wp T f _ (k + 1) (G.bub hkN hd) (by omega) (by omega) (fun i j hij hj => ?_) q
    rw [bub_get hz hd, bub_get hz hd]
    have em : k - (k - m) = m := by omega
    rw [em]
    by_cases c1 : i = m
    · rw [if_pos c1, if_neg (by omega), if_pos ⟨by omega, by omega⟩]
      exact hi (j - 1) (by omega) (by omega)
    · rw [if_neg c1]
      by_cases c2 : j = m
      · rw [if_pos c2, if_neg (by omega)]
        exact lo i (by omega)
      · rw [if_neg c2]
        by_cases c3 : m < i ∧ i ≤ k
        · rw [if_pos c3, if_pos ⟨by omega, by omega⟩]
          exact a _ _ (by omega) (by omega)
        · rw [if_neg c3]
          by_cases c4 : m < j ∧ j ≤ k
          · rw [if_pos c4]
            exact a _ _ (by omega) (by omega)
          · rw [if_neg c4]
            exact a _ _ (by omega) (by omega)
theorem good_range : Good N (List.toArray (List.range N)) := by
  have e : ∀ i, i < N → (List.toArray (List.range N)).getD i 0 = i := fun i hi => by
    rw [Array.getD_eq_getD_getElem?]
    simp [hi]
  refine ⟨by simp, fun i hi => by rw [e i hi]; exact hi, fun i j hi hj z => by rw [e i hi, e j hj] at z; exact z⟩
theorem sort_wp (T : Tot N lt) (h2 : 2 ≤ N) {Q : Array Nat → Shared → Prop} (q : ∀ p, Good N p → Asc lt p N → Q p s) : (kas_sort N).kasWp (askB N lt) Q s := by
  unfold kas_sort
  rw [KasT.kasWp_bind]
  refine count_wp T good_range h2 fun m p m1 m2 G a => ?_
  dsimp only
  by_cases c : m < N
  · rw [if_pos c]
    have e : max m 1 = m := by omega
    rw [e]
    exact bin_wp T (N - m) p m G m1 (by omega) a q
  · rw [if_neg c]
    have e : m = N := by omega
    subst e
    exact q p G a
end
/-- the questions answered in the machine -/
theorem ask_mono {α : Type} {cmp cmp' : Nat → Nat → (Bool → Shared → Prop) → Shared → Prop} {s : Shared} {Q : α → Shared → Prop} (h : ∀ i j (C : Bool → Shared → Prop), cmp i j (fun b s' => s' = s ∧ C b s) s → cmp' i j C s) (m : ∀ i j (C C' : Bool → Shared → Prop), (∀ b, C b s → C' b s) → cmp i j C s → cmp i j (fun b s' => s' = s ∧ C' b s) s) : ∀ (t : KasT α), t.kasWp cmp Q s → t.kasWp cmp' Q s
  | .ret a, q => q
  | .ask i j k, q => h i j _ (m i j (fun b s' => (k b).kasWp cmp Q s') _ (fun b z => ask_mono h m (k b) z) q)
end L2

/-! sorted(..) of things that lie on the heap and all stand apart. -/
namespace L2
open PySem PySem.W PyProof.Rows
section
variable {prog : Program} {w : World} {A : Around} {E : Value → Shared → Prop} {s : Shared}
/-- the heap behind the sort's first steps -/
def sortIn (h : Heap) (d : Addr) (us : List Value) : Heap := ((h.update d (Obj.mapSeq fun _ => #[])).push (seqObj "tuple" us.toArray 0)).push (seqObj "list" #[] 0)
theorem sortIn_old {h : Heap} {d b : Addr} {us : List Value} {o : Obj} (n : b ≠ d) (e : h.get? b = some o) : (sortIn h d us).get? b = some o := by
  unfold sortIn
  refine Heap.get?_push_of_some _ (Heap.get?_push_of_some _ ?_)
  rw [Heap.get?_update_other _ _ (Ne.symm n)]
  exact e
/-- things in an order -/
def Put (us : List Value) (lt : Nat → Nat → Bool) (out : List Value) : Prop := ∃ p : Array Nat, Good us.length p ∧ Asc lt p us.length ∧ out = p.toList.map fun i => us.getD i Value.none
theorem sort_heap {d : Addr} {us : List Value} {n : Nat} {κ : SortKind} {lt : Nat → Nat → Bool} {P : PySem.Fin → Shared → Prop} (T : Tot us.length lt) (hd : s.heap.get? d = some (seqObj "list" us.toArray n)) (small : us.length < 64)
    (kind : 2 ≤ us.length → ∀ (Q : SortKind → Shared → Prop) (E' : Value → Shared → Prop), Q κ { s with heap := sortIn s.heap d us } → wpAny (model prog w) A (keyKind' us.toArray) Q E' { s with heap := sortIn s.heap d us })
    (less : ∀ i j, i < us.length → j < us.length → i ≠ j → ∀ (Q : Bool → Shared → Prop), Q (lt i j) { s with heap := sortIn s.heap d us } → wpAny (model prog w) A (keyLt' κ (us.getD i Value.none) (us.getD j Value.none)) Q (fun _ _ => False) { s with heap := sortIn s.heap d us })
    (fin : ∀ out : List Value, out.length = us.length → Put us lt out → P (.done (.ret .none)) { s with heap := sortedHeap s.heap d us out.toArray }) :
    wpAny (model prog w) A (Builtin.«list.sort» ⟨[.ref d], []⟩) P E s := by
  rw [list_sort_plain]
  have dl : d < s.heap.objs.size := Heap.lt_size hd
  refine wpAny_bind (listItems_at hd rfl (wpAny_bind (listUpdate_at hd rfl ?_)))
  obtain ⟨n1, hd1⟩ : ∃ n1, (s.heap.update d (Obj.mapSeq fun _ => #[])).get? d = some (seqObj "list" #[] n1) := ⟨_, get?_update_seq hd (fun _ => #[])⟩
  refine wpAny_bind (seqEpoch_at hd1 rfl (wpAny_bind (wpAny_newTuple (wpAny_bind (wpAny_newList (wpAny_holding ?_))))))
  have hd6 : (sortIn s.heap d us).get? d = some (seqObj "list" #[] n1) := Heap.get?_push_of_some _ (Heap.get?_push_of_some _ hd1)
  show wpAny (model prog w) A _ P E { s with heap := sortIn s.heap d us }
  dsimp only
  have zl : us.toArray.size = us.length := by simp
  by_cases c : us.toArray.size < 2
  · rw [if_pos c, if_pos c]
    refine wpAny_bind (wpAny_pure ?_)
    rw [StateT.run_pure]
    refine wpAny_bind (wpAny_pure ?_)
    dsimp only
    have ez : (us.toArray.zip us.toArray).map (·.2) = us.toArray := by
      apply Array.ext'
      simp [List.map_snd_zip]
    refine wpAny_bind (seqEpoch_at hd6 rfl (wpAny_bind (listUpdate_at hd6 rfl ?_ (hsz2 := by rw [Array.size_map]; show (us.toArray.zip us.toArray).size ≤ _; rw [sizeLine_eq]; simp; omega))))
    simp only [bne_self_eq_false, Bool.false_eq_true, if_false]
    have go := fin us rfl ⟨_, good_range, fun i j a b => by omega, by
      apply List.ext_getElem?
      intro i
      by_cases hi : i < us.length
      · simp [hi]
      · simp [Nat.le_of_not_lt hi]⟩
    refine wpAny_pure ?_
    have e2 : (arrOf (SortSt.mk' general' (us.toArray.zip us.toArray) #[] 7 none)).map (·.2) = us.toArray := ez
    rw [e2]
    exact go
  · rw [if_neg c, if_neg c]
    have two : 2 ≤ us.length := by omega
    refine wpAny_bind (kind two _ _ ?_)
    refine wpAny_bind (wpAny_mono (kat_run (E := E) (ks := us) (vs := us) (G := fun p s' => s' = { s with heap := sortIn s.heap d us } ∧ Good us.length p ∧ Asc lt p us.length) (Q := fun st' s' => s' = { s with heap := sortIn s.heap d us } ∧ failedOf st' = none ∧ ∃ p, Good us.length p ∧ Asc lt p us.length ∧ arrOf st' = p.map (kas_item (us.toArray.zip us.toArray))) rfl two small (fun p st' s' _ e1 e2 g => ⟨g.1, e2, p, g.2.1, g.2.2, e1⟩) ?_) (fun r s' q => ?_) fun _ _ z => z)
    · refine ask_mono (cmp := askB us.length lt) (fun i j C h => ?_) (fun i j C C' h q => ⟨q.1, q.2.1, q.2.2.1, rfl, h _ q.2.2.2⟩) _ (sort_wp T two fun p g a => ⟨rfl, g, a⟩)
      obtain ⟨h1, h2, n12, _, h3⟩ := h
      exact less i j h1 h2 n12 _ h3
    · obtain ⟨⟨⟩, st'⟩ := r
      obtain ⟨rfl, nf, p, g, a, ea⟩ := q
      dsimp only at ea nf ⊢
      have eo : (arrOf st').map (·.2) = (p.toList.map fun i => us.getD i Value.none).toArray := by
        rw [ea]
        apply Array.ext'
        simp only [Array.toList_map, List.map_map]
        refine List.map_congr_left fun i _ => ?_
        show (kas_item (us.toArray.zip us.toArray) i).2 = _
        rw [kat_item rfl]
      have el : (p.toList.map fun i => us.getD i Value.none).length = us.length := by rw [List.length_map, Array.length_toList, g.sz]
      refine wpAny_bind (seqEpoch_at hd6 rfl (wpAny_bind (listUpdate_at hd6 rfl ?_ (hsz2 := by rw [eo]; show (p.toList.map fun i => us.getD i Value.none).toArray.size ≤ _; rw [List.size_toArray, el, sizeLine_eq]; omega))))
      rw [nf]
      simp only [bne_self_eq_false, Bool.false_eq_true, if_false]
      have go := fin _ el ⟨p, g, a, rfl⟩
      unfold sortedHeap at go
      rw [← eo] at go
      exact wpAny_pure go
/-- sorted(..) of what is gathered from l -/
theorem sorted_by {l : Addr} {us : List Value} {κ : SortKind} {lt : Nat → Nat → Bool} {Q : Value → Shared → Prop} (T : Tot us.length lt) (small : us.length < 64)
    (col : ∀ (E' : Value → Shared → Prop) (Q' : List Value → Shared → Prop), (∀ h1 tk, (∀ b o, s.heap.get? b = some o → h1.get? b = some o) → s.heap.objs.size < h1.objs.size → Q' us { s with heap := h1, toks := tk }) → wpAny (model prog w) A.in1 (collect (.ref l)) Q' E' s)
    (kind : 2 ≤ us.length → ∀ (s' : Shared), (∀ b o, s.heap.get? b = some o → s'.heap.get? b = some o) → ∀ {A' : Around} {E' : Value → Shared → Prop} {Q' : SortKind → Shared → Prop}, Q' κ s' → wpAny (model prog w) A' (keyKind' us.toArray) Q' E' s')
    (less : ∀ i j, i < us.length → j < us.length → i ≠ j → ∀ (s' : Shared), (∀ b o, s.heap.get? b = some o → s'.heap.get? b = some o) → ∀ {Q' : Bool → Shared → Prop}, Q' (lt i j) s' → wpAny (model prog w) A.in1.in1 (keyLt' κ (us.getD i Value.none) (us.getD j Value.none)) Q' (fun _ _ => False) s')
    (fin : ∀ (D : Addr) (out : List Value) (h' : Heap) (tk c : Nat), out.length = us.length → Put us lt out → (∀ b o, s.heap.get? b = some o → h'.get? b = some o) → s.heap.objs.size ≤ D → h'.get? D = some (seqObj "list" out.toArray c) → Q (.ref D) { s with heap := h', toks := tk }) :
    wpAny (model prog w) A (call (.builtin "sorted") [.ref l]) Q E s := by
  refine Calls.call_function_entry kind_sorted plain_sorted entry_sorted (args_sorted1 _) ?_
  show wpAny _ _ (Builtin.«sorted» ⟨[.ref l], []⟩) _ _ _
  unfold Builtin.«sorted»
  refine wpAny_bind (m := checkCount "sorted" 1 1 _) (wpAny_pure (wpAny_bind (col _ _ fun h1 tk k1 z1 => wpAny_bind (wpAny_newList ?_ (by rw [sizeLine_eq]; omega)))))
  have hd : (h1.push (seqObj "list" us.toArray 0)).get? h1.objs.size = some (seqObj "list" us.toArray 0) := Heap.get?_push_size _ rfl
  show wpAny _ _ _ _ _ { s with heap := h1.push (seqObj "list" us.toArray 0), toks := tk }
  have k2 : ∀ b o, s.heap.get? b = some o → (h1.push (seqObj "list" us.toArray 0)).get? b = some o := fun b o e => Heap.get?_push_of_some _ (k1 b o e)
  have nb : ∀ b o, s.heap.get? b = some o → b ≠ h1.objs.size := fun b o e => Nat.ne_of_lt (Heap.lt_size (k1 b o e))
  generalize h1.push (seqObj "list" us.toArray 0) = g at hd k2
  have kp : ∀ b o, s.heap.get? b = some o → (sortIn g h1.objs.size us).get? b = some o := fun b o e => sortIn_old (nb b o e) (k2 b o e)
  have kd : 2 ≤ us.length → ∀ (Q' : SortKind → Shared → Prop) (E' : Value → Shared → Prop), Q' κ { s with heap := sortIn g h1.objs.size us, toks := tk } → wpAny (model prog w) A.in1.in1 (keyKind' us.toArray) Q' E' { s with heap := sortIn g h1.objs.size us, toks := tk } := fun two Q' E' q => kind two { s with heap := sortIn g h1.objs.size us, toks := tk } kp q
  have ls : ∀ i j, i < us.length → j < us.length → i ≠ j → ∀ (Q' : Bool → Shared → Prop), Q' (lt i j) { s with heap := sortIn g h1.objs.size us, toks := tk } → wpAny (model prog w) A.in1.in1 (keyLt' κ (us.getD i Value.none) (us.getD j Value.none)) Q' (fun _ _ => False) { s with heap := sortIn g h1.objs.size us, toks := tk } := fun i j a b n Q' q => less i j a b n { s with heap := sortIn g h1.objs.size us, toks := tk } kp q
  refine wpAny_bind (wpAny_holding (wpAny_call_entry slot_list_sort ⟨_, hd, rfl⟩ entry_list_sort (sort_heap (s := { s with heap := g, toks := tk }) T hd small kd ls fun out lo po => ⟨_, rfl, ?_⟩) (args_list_sort _)))
  obtain ⟨c, hc⟩ := sortedHeap_at (out := out.toArray) hd
  refine wpAny_pure ⟨_, rfl, fin h1.objs.size out _ tk c lo po (fun b o e => ?_) (Nat.le_of_lt z1) hc⟩
  have e2 := k2 b o e
  rw [sortedHeap_old (nb b o e) (Heap.lt_size e2)]
  exact e2
end
theorem nat_le : ∀ {rs us : List Nat}, rs.Nodup → (∀ x ∈ rs, x ∈ us) → rs.length ≤ us.length
  | [], us, _, _ => Nat.zero_le _
  | a :: r, us, hn, hs => by
    rw [List.nodup_cons] at hn
    have ha := hs a (by simp)
    have := nat_le (rs := r) (us := us.erase a) hn.2 fun x hx => by
      have : x ≠ a := fun z => hn.1 (z ▸ hx)
      exact (List.mem_erase_of_ne this).mpr (hs x (List.mem_cons_of_mem _ hx))
    rw [List.length_erase_of_mem ha] at this
    have := List.length_pos_of_mem ha
    rw [List.length_cons]
    omega
/-! ### pairs of texts -/
abbrev SS := Str × Str
def ltPP (p q : SS) : Bool := if p.1 = q.1 then decide (p.2.cps.toList < q.2.cps.toList) else decide (p.1.cps.toList < q.1.cps.toList)
theorem cps_inj {a b : Str} (h : a.cps.toList = b.cps.toList) : a = b := by
  obtain ⟨x⟩ := a
  obtain ⟨y⟩ := b
  have : x = y := Array.toList_inj.mp h
  rw [this]
theorem lt_or {a b : Str} (h : a ≠ b) (n : ¬ a.cps.toList < b.cps.toList) : b.cps.toList < a.cps.toList := by
  rcases List.le_iff_lt_or_eq.mp (List.not_lt.mp n) with z | z
  · exact z
  · exact absurd (cps_inj z.symm) h
theorem ltPP_irr (p : SS) : ltPP p p = false := by
  unfold ltPP
  rw [if_pos rfl]
  exact decide_eq_false (List.lt_irrefl _)
theorem ltPP_tr {a b c : SS} (h1 : ltPP a b = true) (h2 : ltPP b c = true) : ltPP a c = true := by
  unfold ltPP at *
  by_cases c1 : a.1 = b.1
  · rw [if_pos c1] at h1
    by_cases c2 : b.1 = c.1
    · rw [if_pos c2] at h2
      rw [if_pos (c1.trans c2)]
      exact decide_eq_true (List.lt_trans (of_decide_eq_true h1) (of_decide_eq_true h2))
    · rw [if_neg c2] at h2
      rw [if_neg (fun z => c2 (c1.symm.trans z)), c1]
      exact h2
  · rw [if_neg c1] at h1
    by_cases c2 : b.1 = c.1
    · rw [if_neg (fun z => c1 (z.trans c2.symm)), ← c2]
      exact h1
    · rw [if_neg c2] at h2
      have h3 := List.lt_trans (of_decide_eq_true h1) (of_decide_eq_true h2)
      rw [if_neg (fun z => by rw [z] at h3; exact List.lt_irrefl _ h3)]
      exact decide_eq_true h3
theorem ltPP_tot {a b : SS} (ne : a ≠ b) (h : ltPP a b = false) : ltPP b a = true := by
  unfold ltPP at *
  by_cases c1 : a.1 = b.1
  · rw [if_pos c1] at h
    rw [if_pos c1.symm]
    exact decide_eq_true (lt_or (fun z => ne (Prod.ext c1 z)) (of_decide_eq_false h))
  · rw [if_neg c1] at h
    rw [if_neg (Ne.symm c1)]
    exact decide_eq_true (lt_or c1 (of_decide_eq_false h))
theorem tot_pp {ps : List SS} (nd : ps.Nodup) : Tot ps.length fun i j => ltPP (ps.getD i ("", "")) (ps.getD j ("", "")) := by
  have e : ∀ i (h : i < ps.length), ps.getD i ("", "") = ps[i] := fun i h => by rw [List.getD_eq_getElem?_getD, List.getElem?_eq_getElem h]; rfl
  refine ⟨fun a _ => ltPP_irr _, fun a b c _ _ _ h1 h2 => ltPP_tr h1 h2, fun a b ha hb n h => ltPP_tot (fun z => n ?_) h⟩
  rw [e a ha, e b hb] at z
  have pw := List.pairwise_iff_getElem.mp nd
  rcases Nat.lt_trichotomy a b with c | c | c
  · exact absurd z (pw a b ha hb c)
  · exact c
  · exact absurd z.symm (pw b a hb ha c)
/-- what lies in order -/
theorem put_perm {us out : List Value} {lt : Nat → Nat → Bool} {α : Type} (xs : List α) (d : α) (h : Put us lt out) (hl : us.length = xs.length) : ∃ ys : List α, ys.Perm xs ∧ ys.length = out.length ∧ (∀ i : Nat, i < ys.length → ∃ j, j < xs.length ∧ out[i]? = us[j]? ∧ ys[i]? = xs[j]?) ∧
    ∀ i j (hi : i < ys.length) (hj : j < ys.length), i < j → ∃ a b, a < xs.length ∧ b < xs.length ∧ ys[i]? = xs[a]? ∧ ys[j]? = xs[b]? ∧ lt a b = true := by
  obtain ⟨p, G, A, rfl⟩ := h
  rw [hl] at G A
  have pl : p.toList.length = xs.length := by rw [Array.length_toList, G.sz]
  have pg : ∀ i (h : i < xs.length), p.toList[i]? = some (p.getD i 0) := fun i h => by
    have hi : i < p.size := by rw [G.sz]; exact h
    rw [Array.getElem?_toList, Array.getElem?_eq_getElem hi, Array.getD_eq_getD_getElem?, Array.getElem?_eq_getElem hi]
    rfl
  have pr : p.toList.Perm (List.range xs.length) := by
    rw [List.perm_ext_iff_of_nodup ?_ List.nodup_range]
    · intro a
      rw [List.mem_range]
      constructor
      · intro h
        obtain ⟨i, hi⟩ := List.mem_iff_getElem?.mp h
        have hl' := (List.getElem?_eq_some_iff.mp hi).1
        rw [pg i (by omega)] at hi
        cases hi
        exact G.lt i (by omega)
      · intro h
        -- a number is met, since they are all apart and below
        have inj : p.toList.Nodup := by
          rw [List.nodup_iff_pairwise_ne, List.pairwise_iff_getElem]
          intro i j hi hj hij z
          have e1 := pg i (by omega)
          have e2 := pg j (by omega)
          rw [List.getElem?_eq_getElem hi] at e1
          rw [List.getElem?_eq_getElem hj] at e2
          have := G.inj i j (by omega) (by omega) ((Option.some.inj e1).symm.trans (z.trans (Option.some.inj e2)))
          omega
        have sub : ∀ x ∈ p.toList, x ∈ List.range xs.length := fun x hx => by
          obtain ⟨i, hi⟩ := List.mem_iff_getElem?.mp hx
          have hl' := (List.getElem?_eq_some_iff.mp hi).1
          rw [pg i (by omega)] at hi
          cases hi
          exact List.mem_range.mpr (G.lt i (by omega))
        refine Decidable.byContradiction fun n => ?_
        have : (p.toList).length ≤ ((List.range xs.length).erase a).length := by
          refine nat_le inj fun x hx => ?_
          rw [List.Nodup.mem_erase_iff List.nodup_range]
          exact ⟨fun z => n (z ▸ hx), sub x hx⟩
        rw [List.length_erase_of_mem (List.mem_range.mpr h), List.length_range, pl] at this
        omega
    · rw [List.nodup_iff_pairwise_ne, List.pairwise_iff_getElem]
      intro i j hi hj hij z
      have e1 := pg i (by omega)
      have e2 := pg j (by omega)
      rw [List.getElem?_eq_getElem hi] at e1
      rw [List.getElem?_eq_getElem hj] at e2
      have := G.inj i j (by omega) (by omega) ((Option.some.inj e1).symm.trans (z.trans (Option.some.inj e2)))
      omega
  have ex : xs = (List.range xs.length).map fun i => xs.getD i d := by
    apply List.ext_getElem?
    intro i
    by_cases hi : i < xs.length
    · simp [hi]
    · simp [Nat.le_of_not_lt hi]
  refine ⟨p.toList.map fun i => xs.getD i d, ?_, by rw [List.length_map, List.length_map], fun i hi => ?_, fun i j hi hj hij => ?_⟩
  · have := pr.map fun i => xs.getD i d
    rw [← ex] at this
    exact this
  · rw [List.length_map] at hi
    have hlt := G.lt i (by omega)
    refine ⟨p.getD i 0, hlt, ?_, ?_⟩
    · rw [List.getElem?_map, pg i (by omega)]
      show some (us.getD _ _) = _
      rw [List.getD_eq_getElem?_getD, List.getElem?_eq_getElem (show p.getD i 0 < us.length by omega)]
      rfl
    · rw [List.getElem?_map, pg i (by omega)]
      show some (xs.getD _ _) = _
      rw [List.getD_eq_getElem?_getD, List.getElem?_eq_getElem hlt]
      rfl
  · rw [List.length_map] at hi hj
    have h1 := G.lt i (by omega)
    have h2 := G.lt j (by omega)
    refine ⟨p.getD i 0, p.getD j 0, h1, h2, ?_, ?_, A i j hij (by omega)⟩
    · rw [List.getElem?_map, pg i (by omega)]
      show some (xs.getD _ _) = _
      rw [List.getD_eq_getElem?_getD, List.getElem?_eq_getElem h1]
      rfl
    · rw [List.getElem?_map, pg j (by omega)]
      show some (xs.getD _ _) = _
      rw [List.getD_eq_getElem?_getD, List.getElem?_eq_getElem h2]
      rfl
end L2

/-! sorted(..) of pairs of texts, of a dict that has such for keys, of lists of texts. -/
namespace L2
open PySem PySem.W PyProof.Rows
section
variable {prog : Program} {w : World} {A : Around} {E : Value → Shared → Prop} {s : Shared}
def TupSS (h : Heap) (v : Value) (p : SS) : Prop := ∃ a t u, v = .ref a ∧ IsTup h a #[.str p.1 t, .str p.2 u]
theorem TupSS.kept {h h' : Heap} {v : Value} {p : SS} (t : TupSS h v p) (k : ∀ b o, h.get? b = some o → h'.get? b = some o) : TupSS h' v p := by
  obtain ⟨a, x, y, rfl, o, ho, hc, n, hd⟩ := t
  exact ⟨a, x, y, rfl, o, k a o ho, hc, n, hd⟩
theorem less_ss {v1 v2 : Value} {p q : SS} {Q : Bool → Shared → Prop} (h1 : TupSS s.heap v1 p) (h2 : TupSS s.heap v2 q) (h : Q (ltPP p q) s) : wpAny (model prog w) A (keyLt' (tuples' true) v1 v2) Q (fun _ _ => False) s := by
  obtain ⟨a, t1, u1, rfl, oa, hoa, _, na, hda⟩ := h1
  obtain ⟨b, t2, u2, rfl, ob, hob, _, nb, hdb⟩ := h2
  refine kat_lt hoa hda hob hdb ?_
  show KatLex prog w A true false Q [(Value.str p.1 t1, Value.str q.1 t2), (Value.str p.2 u1, Value.str q.2 u2)] 0 s
  refine kat_cons (wpAny_eqBool_str ?_)
  unfold ltPP at h
  by_cases c : p.1 = q.1
  · rw [decide_eq_true c]
    rw [if_pos c] at h
    refine kat_yes (kat_cons (wpAny_eqBool_str ?_))
    by_cases c2 : p.2 = q.2
    · rw [decide_eq_true c2]
      refine kat_yes (kat_nil ?_)
      rw [c2, decide_eq_false (List.lt_irrefl _)] at h
      exact h
    · rw [decide_eq_false c2]
      refine kat_no ?_
      show wpAny _ _ (oneLt' false (Value.str p.2 u1) (Value.str q.2 u2)) _ _ _
      exact kat_one _ _ (lt_str h)
  · rw [decide_eq_false c]
    rw [if_neg c] at h
    refine kat_no ?_
    show wpAny _ _ (oneLt' true (Value.str p.1 t1) (Value.str q.1 t2)) _ _ _
    exact oneLt_str h
theorem kind_ss {vs : List Value} {ps : List SS} {Q : SortKind → Shared → Prop} (h : Paired (TupSS s.heap) vs ps) (hne : 0 < ps.length) (q : Q (tuples' true) s) : wpAny (model prog w) A (keyKind' vs.toArray) Q E s := by
  obtain ⟨fs, kt, hl, hf⟩ : ∃ fs, KatTups s.heap vs fs ∧ fs.length = ps.length ∧ ∀ v ∈ fs, ∃ x t, v = Value.str x t := by
    clear hne
    induction h with
    | nil => exact ⟨[], .nil, rfl, by simp⟩
    | cons h _ ih =>
      obtain ⟨fs, k, l, f⟩ := ih
      obtain ⟨a, t, u, rfl, o, ho, hc, n, hd⟩ := h
      refine ⟨_ :: fs, .cons ho hc hd rfl k, by simp [l], fun v hv => ?_⟩
      rcases List.mem_cons.mp hv with rfl | hv
      · exact ⟨_, _, rfl⟩
      · exact f v hv
  refine kat_kind (T := .type "str") kt (by omega) (fun v hv => ?_) rfl q
  obtain ⟨x, t, rfl⟩ := hf v hv
  exact Looks.now
end
theorem paired_of {α β : Type} {F : α → β → Prop} : ∀ {as : List α} {bs : List β}, as.length = bs.length → (∀ (i : Nat) a b, as[i]? = some a → bs[i]? = some b → F a b) → Paired F as bs
  | [], [], _, _ => .nil
  | [], _ :: _, h, _ => by simp at h
  | _ :: _, [], h, _ => by simp at h
  | a :: as, b :: bs, h, k => .cons (k 0 a b rfl rfl) (paired_of (by simpa using h) fun i a b e1 e2 => k (i + 1) a b (by simpa using e1) (by simpa using e2))
/-- what lies in order, with what it stands for -/
theorem put_zip {us out : List Value} {lt : Nat → Nat → Bool} {α : Type} (as : List Addr) (xs : List α) (d : α) (hv : Vals (as.map V.ref) us) (h : Put us lt out) (la : as.length = xs.length) :
    ∃ (bs : List Addr) (ys : List α), Vals (bs.map V.ref) out ∧ bs.length = ys.length ∧ ys.Perm xs ∧ (∀ (i : Nat) b y, bs[i]? = some b → ys[i]? = some y → ∃ j : Nat, as[j]? = some b ∧ xs[j]? = some y) ∧ ys.Pairwise (fun y z => ∃ (a b : Nat), xs[a]? = some y ∧ xs[b]? = some z ∧ lt a b = true) := by
  have lu : us.length = (as.zip xs).length := by
    have := hv.length
    rw [List.length_map] at this
    rw [List.length_zip]
    omega
  obtain ⟨zs, pm, lz, at', up⟩ := put_perm (as.zip xs) (0, d) h lu
  have sn : (as.zip xs).map Prod.snd = xs := List.map_snd_zip (by omega)
  refine ⟨zs.map Prod.fst, zs.map Prod.snd, ?_, by rw [List.length_map, List.length_map], by have := pm.map Prod.snd; rwa [sn] at this, fun i b y e1 e2 => ?_, ?_⟩
  · refine paired_of (by rw [List.length_map, List.length_map, lz]) fun i x v e1 e2 => ?_
    rw [List.getElem?_map, List.getElem?_map] at e1
    cases ez : zs[i]? with
    | none => rw [ez] at e1; cases e1
    | some z =>
      rw [ez] at e1
      cases e1
      obtain ⟨j, hj, o1, o2⟩ := at' i (List.getElem?_eq_some_iff.mp ez).1
      rw [ez] at o2
      rw [e2] at o1
      obtain ⟨h1, h2⟩ := List.getElem?_zip_eq_some.mp o2.symm
      obtain ⟨v', e3, r⟩ := hv.get (i := j) (x := V.ref z.1) (by rw [List.getElem?_map, h1]; rfl)
      rw [← o1] at e3
      cases e3
      exact r
  · rw [List.getElem?_map] at e1 e2
    cases ez : zs[i]? with
    | none => rw [ez] at e1; cases e1
    | some z =>
      rw [ez] at e1 e2
      cases e1
      cases e2
      obtain ⟨j, hj, _, o2⟩ := at' i (List.getElem?_eq_some_iff.mp ez).1
      rw [ez] at o2
      exact ⟨j, List.getElem?_zip_eq_some.mp o2.symm⟩
  · rw [List.pairwise_iff_getElem]
    intro i j hi hj hij
    rw [List.length_map] at hi hj
    obtain ⟨a, b, ha, hb, e1, e2, l⟩ := up i j hi hj hij
    refine ⟨a, b, ?_, ?_, l⟩
    · rw [List.getElem?_eq_getElem hi] at e1
      have := (List.getElem?_zip_eq_some.mp e1.symm).2
      rw [List.getElem_map]
      exact this
    · rw [List.getElem?_eq_getElem hj] at e2
      have := (List.getElem?_zip_eq_some.mp e2.symm).2
      rw [List.getElem_map]
      exact this
section
variable {X : Cx}
theorem Inv.tupSS {pins : List (Addr × Obj)} {σ : St} {H : Hp} {s : Shared} {K : PySem.W.Frag} (hK : X.K = K) (I : Inv X pins σ H s) {a : Addr} {p : SS} (t : SqT K H a [.str p.1, .str p.2]) : TupSS s.heap (.ref a) p := by
  subst hK
  obtain ⟨ts, rt, it, _⟩ := I.tuple t
  obtain ⟨u1, u2, rfl, ⟨t1, rfl⟩, ⟨t2, rfl⟩⟩ := vals2 rt
  exact ⟨a, t1, t2, rfl, it⟩
end
end L2

/-! dict.update, any(..), many dicts made known at once, sorted(dict of pairs). -/
namespace L2
open PySem PySem.Spec PyProof.Rows
section
variable {X : Cx}
theorem mt_update : MtM X "dict.update" (fun x vs H Q => ∃ (d o : Addr) (kvs more : List (Key × V)), x = .ref d ∧ vs = [.ref o] ∧ d ≠ o ∧ H d = some (.dK kvs) ∧ Rd H o (.dK more) ∧ kvs.length + more.length ≤ 1000 ∧ Q .non (upd H d (.dK (mergeK kvs more)))) := by
  intro pins s σ H x vs v us Q I rx rv h
  obtain ⟨d, o, kvs, more, rfl, rfl, ne, hd, ho, hz, q⟩ := h
  cases rx
  obtain ⟨u, rfl, ru⟩ := vals1 rv
  cases ru
  obtain ⟨z1, y1, vs1, r1, d1⟩ := dk_of I.hok hd
  obtain ⟨z2, y2, vs2, r2, d2⟩ := dk_rd I.hok ho
  have hs : sizeLine = 16777216 := sizeLine_eq
  refine call_meetsIn PySem.F.slot_dict_update d1.typeIs PySem.F.entry_dict_update (PySem.F.args_dict_update_2 _ _) (meets_dict_update (mixKind X.prog X.w) d o ne y2) ⟨vs1, vs2, d1, d2, by rw [← r1.length, ← r2.length]; omega, fun h' dd' _ sb => ?_⟩
  have he : ∃ q, h'.get? d = some q := let ⟨q, _, _, hq, _⟩ := dd'; ⟨q, hq⟩
  have ml := length_mergeK more kvs
  exact ⟨.non, _, d_write (t' := s.toks) I (by rw [hd]; exact True.intro) sb he (dk_new (by omega) y1 (KV.merge r2 r1) dd'), rfl, q⟩
/-- any of a list of bools -/
theorem call_anyB (K : PySem.W.Frag) (hK : X.K = K) (hc : X.calm = true) : CallR X (.builtin "any") (fun xs H Q => ∃ (a : Addr) (bs : List Bool), xs = [V.ref a] ∧ SqL K H a (bs.map V.bl) ∧ Q (.bl (bs.any id)) H) := by
  subst hK
  intro pins s σ H xs us Q I r h
  obtain ⟨a, bs, rfl, ha, q⟩ := h
  obtain ⟨u, rfl, ru⟩ := vals1 r
  cases ru
  obtain ⟨its, rv, pl, hz⟩ := I.list ha
  have e : its = bs.map Value.bool := boolsAre_of rv
  subst e
  have hl := pl.isList
  have hlt : a < s.heap.objs.size := by obtain ⟨_, e, _⟩ := hl; exact Heap.lt_size e
  refine call_any_walk (wpAny_pyIter_list hl ?_)
  refine ⟨s.heap.objs.size, [s.heap.objs.size, a], [s.heap.objs.size], (bs.map Value.bool).toArray.size, _, _, fun i => (bs[i]?).getD false, rfl, Walks.list (A := X.A.in1) (I.ok.hd hc) _ a (Nat.ne_of_lt hlt) (bs.map Value.bool).toArray,
    ⟨⟨_, Heap.get?_push_size _ rfl, rfl, rfl⟩, hl.push _⟩, fun i v s' Q' E' hP hQ => ?_, fun h' tk hk => ?_⟩
  · have hP' : (bs.map Value.bool)[i]? = some v := by simpa using hP
    rw [List.getElem?_map] at hP'
    cases e : bs[i]? with
    | none => rw [e] at hP'; cases hP'
    | some b =>
      rw [e] at hP'
      cases hP'
      simp only [e, Option.getD_some] at hQ
      exact wpAny_truthy_bool hQ
  · have e : ((List.range (bs.map Value.bool).toArray.size).any fun i => (bs[i]?).getD false) = bs.any id := by
      rw [Bool.eq_iff_iff, List.any_eq_true, List.any_eq_true]
      have z : (bs.map Value.bool).toArray.size = bs.length := by simp
      rw [z]
      constructor
      · rintro ⟨i, hi, h⟩
        have hi := List.mem_range.mp hi
        rw [List.getElem?_eq_getElem hi] at h
        exact ⟨bs[i], List.getElem_mem hi, h⟩
      · rintro ⟨b, hb, h⟩
        obtain ⟨i, hi, rfl⟩ := List.mem_iff_getElem.mp hb
        refine ⟨i, List.mem_range.mpr hi, ?_⟩
        rw [List.getElem?_eq_getElem hi]
        exact h
    rw [e]
    refine ⟨.bl (bs.any id), H, I.kept fun b o q' => ?_, rfl, q⟩
    have hb := Heap.lt_size q'
    exact hk b o (fun z => absurd (List.mem_singleton.mp z) (Nat.ne_of_lt hb)) (Heap.get?_push_of_some _ q')
/-- some dicts are made known -/
inductive Frzs (ts : TS) (D : Ends) (σ : St) : Hp → Prop
  | go {H : Hp} (h : ts D σ H) : Frzs ts D σ H
  | frz {H : Hp} (a : Addr) (kvs : List (Key × V)) (ha : H a = some (.dK kvs)) (k : ∀ ob, Frzs ts D σ (upd H a (.frz ob (.dK kvs)))) : Frzs ts D σ H
def tFrzs (ts : TS) : TS := fun D σ H => Frzs ts D σ H
theorem ps_frzs {st : Stmt} {ts : TS} (h : PS X st ts) : PS X st (tFrzs ts) := by
  intro pins s σ H D I q
  have go : ∀ {H : Hp}, Frzs ts D σ H → Inv X pins σ H s → wpAny (model X.prog X.w) X.A (exec st X.env) (SP X pins D) X.xe s := fun q => by
    induction q with
    | go q => intro I; exact h pins s σ _ D I q
    | frz a kvs ha k ih =>
      intro I
      obtain ⟨ob, I'⟩ := I.frozen ha
      exact ih ob I'
  exact go q I
/-- sorted(d), its keys pairs of texts -/
theorem call_sortedDT {K : PySem.W.Frag} (hK : X.K = K) (hc : X.calm = true) : CallR X (.builtin "sorted") (fun xs H Q => ∃ (p : Addr) (kvs : List (List Key × V)) (ps : List SS), xs = [V.ref p] ∧ Rd H p (.dT kvs) ∧ (kvs.map fun kv => kv.1) = ps.map (fun q => [Sum.inr q.1, Sum.inr q.2]) ∧ ps.Nodup ∧ ps.length < 64 ∧
    ∀ (D : Addr) (bs : List Addr) (qs : List SS), H D = none → Paired (fun a (p : SS) => H a = some (.tup [.str p.1, .str p.2])) bs qs → qs.Perm ps → qs.Pairwise (fun a b => ltPP a b = true) → Q (.ref D) (upd H D (.lst (bs.map V.ref)))) := by
  subst hK
  intro pins s σ H xs us Q I r h
  obtain ⟨p, kvs, ps, rfl, hp, hk, nd, h64, q⟩ := h
  obtain ⟨u, rfl, ru⟩ := vals1 r
  cases ru
  obtain ⟨z, hd, xs, rel, o, es, ep, h1, h2, h3, h4, h5⟩ := (show ObjOk X.prog X.w H s.heap p (.dT kvs) from rd_of I.hok hp)
  have lkx : kvs.length = xs.length := Paired.length rel
  have lkp : kvs.length = ps.length := by have := congrArg List.length hk; simpa using this
  have les : es.size = xs.length := by
    have := congrArg List.length h4
    rw [Array.length_toList, List.length_map] at this
    exact this
  have ekeys : es.toList.map (·.key) = xs.map fun x => Value.ref x.2.1 := by
    rw [h4, List.map_map]
    rfl
  have atx : ∀ i, i < ps.length → ∃ x, xs[i]? = some x ∧ ∃ q, ps[i]? = some q ∧ H x.2.1 = some (.tup [.str q.1, .str q.2]) := fun i hi => by
    have hx : i < xs.length := by omega
    have hkv : i < kvs.length := by omega
    refine ⟨xs[i], List.getElem?_eq_getElem hx, ps[i], List.getElem?_eq_getElem hi, ?_⟩
    have f := paired_at rel (List.getElem?_eq_getElem hkv) (List.getElem?_eq_getElem hx)
    have e : (kvs.map fun kv => kv.1)[i]? = some [Sum.inr ps[i].1, Sum.inr ps[i].2] := by rw [hk, List.getElem?_map, List.getElem?_eq_getElem hi]; rfl
    rw [List.getElem?_map, List.getElem?_eq_getElem hkv] at e
    have e : kvs[i].1 = [Sum.inr ps[i].1, Sum.inr ps[i].2] := Option.some.inj e
    have := f.2.1
    rw [e] at this
    exact this
  have rv : Vals ((xs.map fun x => x.2.1).map V.ref) (xs.map fun x => Value.ref x.2.1) := paired_of (by simp) fun i a b e1 e2 => by
    rw [List.getElem?_map, List.getElem?_map] at e1
    rw [List.getElem?_map] at e2
    cases ex : xs[i]? with
    | none => rw [ex] at e1; cases e1
    | some x =>
      rw [ex] at e1 e2
      cases e1
      cases e2
      rfl
  have hT : Paired (TupSS s.heap) (xs.map fun x => Value.ref x.2.1) ps := paired_of (by rw [List.length_map]; omega) fun i v p e1 e2 => by
    obtain ⟨x, ex, q', eq, hx⟩ := atx i (by have := (List.getElem?_eq_some_iff.mp e2).1; exact this)
    rw [List.getElem?_map, ex] at e1
    cases e1
    rw [e2] at eq
    cases eq
    exact I.tupSS rfl (SqT.of hx)
  have li : (xs.map fun x => Value.ref x.2.1).length = ps.length := by rw [List.length_map]; omega
  have T := tot_pp nd
  rw [← li] at T
  have gd : ∀ i (h : i < ps.length), ps[i]? = some (ps.getD i ("", "")) := fun i h => by rw [List.getD_eq_getElem?_getD, List.getElem?_eq_getElem h]; rfl
  have gi : ∀ i (h : i < (xs.map fun x => Value.ref x.2.1).length), (xs.map fun x => Value.ref x.2.1)[i]? = some ((xs.map fun x => Value.ref x.2.1).getD i Value.none) := fun i h => by rw [List.getD_eq_getElem?_getD, List.getElem?_eq_getElem h]; rfl
  have col : ∀ (E' : Value → Shared → Prop) (Q' : List Value → Shared → Prop), (∀ h1 tk, (∀ b o, s.heap.get? b = some o → h1.get? b = some o) → s.heap.objs.size < h1.objs.size → Q' (xs.map fun x => Value.ref x.2.1) { s with heap := h1, toks := tk }) → wpAny (model X.prog X.w) X.A.in1 (collect (.ref p)) Q' E' s := fun E' Q' q' => by
    refine collect_dict (A := X.A.in1) (I.ok.hd hc) hd ⟨o, h1, h2, h3⟩ (by rw [sizeLine_eq]; omega) fun h1 tk k sz => ?_
    rw [ekeys]
    exact q' h1 tk k sz
  refine sorted_by (κ := tuples' true) T (by omega) col (fun two s' kp _ _ Q' q' => kind_ss (Paired.mapP hT fun v p t => t.kept kp) (by omega) q') (fun i j hi hj n s' kp Q' q' => less_ss ((paired_at hT (gi i hi) (gd i (by omega))).kept kp) ((paired_at hT (gi j hj) (gd j (by omega))).kept kp) q') fun D out h' tk c lo po kp hD hg => ?_
  obtain ⟨bs, ys, vb, lb, pm, ab, up⟩ := put_zip (xs.map fun x => x.2.1) ps ("", "") rv po (by rw [List.length_map]; omega)
  have hn : H D = none := I.hok.fresh hD
  refine ⟨.ref D, _, I.laid (t' := tk) (h' := h') (a := D) (o := .lst (bs.map V.ref)) kp hD ⟨?_, out, c, vb, by rw [hg]⟩, rfl, q D bs ys hn ?_ pm (up.imp fun ⟨a, b, e1, e2, l⟩ => ?_)⟩
  · rw [List.length_map, lb, pm.length_eq, sizeLine_eq]; omega
  · refine paired_of lb fun i b y e1 e2 => ?_
    obtain ⟨j, g1, g2⟩ := ab i b y e1 e2
    obtain ⟨x, ex, q', eq, hx⟩ := atx j (by exact (List.getElem?_eq_some_iff.mp g2).1)
    rw [List.getElem?_map, ex] at g1
    cases g1
    rw [g2] at eq
    cases eq
    exact hx
  · rw [List.getD_eq_getElem?_getD, List.getD_eq_getElem?_getD, e1, e2] at l
    exact l
end
end L2

/-! What lies beneath in any number of steps; pairs that no others tell. -/
namespace Dm
open PySem PySem.NumText L2
theorem Rc.refl {ln : Ln} {s : Str} : Rc ln s 0 s := ⟨[], .nil, rfl⟩
theorem rc_head {ln : Ln} {s : Str} : ∀ {n : Nat} {v : Str}, Rc ln s (n + 1) v → ∃ l r, (l, r) ∈ ln s ∧ Rc ln l n v
  | 0, v, h => by
    obtain ⟨u, r, h1, h2⟩ := h.succ
    have := h1.zero
    subst this
    exact ⟨v, r, h2, Rc.refl⟩
  | n + 1, v, h => by
    obtain ⟨u, r, h1, h2⟩ := h.succ
    obtain ⟨l, r', h3, h4⟩ := rc_head h1
    exact ⟨l, r', h3, h4.step h2⟩
theorem rc_cons {ln : Ln} {s l : Str} {r : Addr} (h : (l, r) ∈ ln s) : ∀ {n : Nat} {v : Str}, Rc ln l n v → Rc ln s (n + 1) v
  | 0, v, q => by
    have := q.zero
    subst this
    exact Rc.refl.step h
  | n + 1, v, q => by
    obtain ⟨u, r', h1, h2⟩ := q.succ
    exact (rc_cons h h1).step h2
def Bel (ln : Ln) (x y : Str) : Prop := ∃ j, 1 ≤ j ∧ Rc ln x j y
theorem bel_iff {ln : Ln} {x y : Str} : Bel ln x y ↔ ∃ l r, (l, r) ∈ ln x ∧ (l = y ∨ Bel ln l y) := by
  constructor
  · rintro ⟨j, h1, h⟩
    obtain ⟨n, rfl⟩ : ∃ n, j = n + 1 := ⟨j - 1, by omega⟩
    obtain ⟨l, r, h2, h3⟩ := rc_head h
    refine ⟨l, r, h2, ?_⟩
    cases n with
    | zero => exact .inl h3.zero.symm
    | succ n => exact .inr ⟨n + 1, by omega, h3⟩
  · rintro ⟨l, r, h, rfl | ⟨j, h1, h2⟩⟩
    · exact ⟨1, by omega, Rc.refl.step h⟩
    · exact ⟨j + 1, by omega, rc_cons h h2⟩
theorem Rc.inKeys {ln : Ln} {keys : List Str} (cl : ∀ k ∈ keys, ∀ l r, (l, r) ∈ ln k → l ∈ keys) {x : Str} (hx : x ∈ keys) : ∀ {j : Nat} {y : Str}, Rc ln x j y → y ∈ keys
  | 0, y, h => by have := h.zero; subst this; exact hx
  | j + 1, y, h => by
    obtain ⟨u, r, h1, h2⟩ := h.succ
    exact cl u (Rc.inKeys cl hx h1) y r h2
/-! ### sets as lists -/
def putS {α : Type} [DecidableEq α] (M : List α) (x : α) : List α := if x ∈ M then M else M ++ [x]
theorem putS_mem {α : Type} [DecidableEq α] {M : List α} {x y : α} : y ∈ putS M x ↔ y ∈ M ∨ y = x := by
  unfold putS
  split
  · next h =>
    constructor
    · exact .inl
    · rintro (z | rfl)
      · exact z
      · exact h
  · rw [List.mem_append, List.mem_singleton]
theorem putS_nodup {α : Type} [DecidableEq α] {M : List α} {x : α} (h : M.Nodup) : (putS M x).Nodup := by
  unfold putS
  split
  · exact h
  · next n =>
    rw [List.nodup_append]
    refine ⟨h, by simp, fun a ha b hb e => ?_⟩
    have : b = x := by simpa using hb
    subst this
    subst e
    exact n ha
def mrg (M M2 : List Str) : List Str := M2.foldl putS M
theorem mrg_mem {y : Str} : ∀ {M2 M : List Str}, y ∈ mrg M M2 ↔ y ∈ M ∨ y ∈ M2
  | [], M => by simp [mrg]
  | x :: r, M => by
    show y ∈ mrg (putS M x) r ↔ _
    rw [mrg_mem, putS_mem, List.mem_cons, or_assoc]
theorem mrg_nodup : ∀ {M2 M : List Str}, M.Nodup → (mrg M M2).Nodup
  | [], _, h => h
  | x :: r, M, h => mrg_nodup (M2 := r) (M := putS M x) (putS_nodup h)
theorem dV_putS {M : List Str} {x : Str} : putK (dV M tru) (Sum.inr x) (.bl true) = dV (putS M x) tru := by
  unfold putS
  split
  · next h =>
    rw [dV_put h]
    refine dV_congr fun z _ => ?_
    split <;> rfl
  · next h => exact dV_tru h
theorem dV_mrg : ∀ {M2 M : List Str}, mergeK (dV M tru) (dV M2 tru) = dV (mrg M M2) tru
  | [], M => rfl
  | x :: r, M => by
    show mergeK (putK (dV M tru) (Sum.inr x) (.bl true)) (dV r tru) = _
    rw [dV_putS, dV_mrg]
    rfl
theorem nodup_leG {α : Type} [DecidableEq α] : ∀ {rs us : List α}, rs.Nodup → (∀ x ∈ rs, x ∈ us) → rs.length ≤ us.length
  | [], us, _, _ => Nat.zero_le _
  | a :: r, us, hn, hs => by
    rw [List.nodup_cons] at hn
    have ha := hs a (by simp)
    have := nodup_leG (rs := r) (us := us.erase a) hn.2 fun x hx => by
      have : x ≠ a := fun z => hn.1 (z ▸ hx)
      exact (List.mem_erase_of_ne this).mpr (hs x (List.mem_cons_of_mem _ hx))
    rw [List.length_erase_of_mem ha] at this
    have := List.length_pos_of_mem ha
    rw [List.length_cons]
    omega
/-! ### dicts of dicts -/
structure Dp (H : Hp) (pd : Addr) (ob : Obj) (os : List Str) (bel : Str → List Str) (ad : Str → Addr) (obs : Str → Obj) : Prop where
  d : H pd = some (.frz ob (.dK (dV os fun k => .ref (ad k))))
  e : ∀ k ∈ os, H (ad k) = some (.frz (obs k) (.dK (dV (bel k) tru)))
theorem Dp.same {H H' : Hp} {pd : Addr} {ob : Obj} {os : List Str} {bel : Str → List Str} {ad : Str → Addr} {obs : Str → Obj} (h : Dp H pd ob os bel ad obs) (s : Same H H') : Dp H' pd ob os bel ad obs := ⟨s _ _ h.d, fun k hk => s _ _ (h.e k hk)⟩
/-- in the dict of k -/
theorem frz_in {H : Hp} {a : Addr} {ob : Obj} {M : List Str} (h : H a = some (.frz ob (.dK (dV M tru)))) (y : Str) : DGet H a (.str y) (if y ∈ M then some (.bl true) else none) := by
  refine .inl ⟨_, Sum.inr y, .inr ⟨ob, h⟩, rfl, ?_⟩
  by_cases c : y ∈ M
  · rw [if_pos c, dV_val c]; rfl
  · rw [if_neg c, dV_none c]
theorem frz_all {ts : TS} {D : Ends} {σ : St} {ad : Str → Addr} {f : Str → List (Key × V)} : ∀ (L : List Str) (H : Hp), (∀ k ∈ L, H (ad k) = some (.dK (f k))) → (∀ k ∈ L, ∀ k' ∈ L, ad k = ad k' → k = k') → L.Nodup →
    (∀ (H' : Hp) (obs : Str → Obj), (∀ k ∈ L, H' (ad k) = some (.frz (obs k) (.dK (f k)))) → (∀ b, (∀ k ∈ L, b ≠ ad k) → H' b = H b) → Frzs ts D σ H') → Frzs ts D σ H
  | [], H, _, _, _, k => k H (fun _ => default) (by simp) fun b _ => rfl
  | x :: r, H, h, inj, nd, k => by
    rw [List.nodup_cons] at nd
    have ne : ∀ z ∈ r, ad z ≠ ad x := fun z hz e => nd.1 ((inj z (List.mem_cons_of_mem _ hz) x (by simp) e) ▸ hz)
    refine .frz (ad x) (f x) (h x (by simp)) fun ob => ?_
    refine frz_all r _ (fun z hz => by rw [upd_ne (ne z hz)]; exact h z (List.mem_cons_of_mem _ hz)) (fun a ha b hb => inj a (List.mem_cons_of_mem _ ha) b (List.mem_cons_of_mem _ hb)) nd.2 fun H' obs h1 h2 => ?_
    refine k H' (fun z => if z = x then ob else obs z) (fun z hz => ?_) fun b hb => ?_
    · by_cases c : z = x
      · subst c
        rw [if_pos rfl, h2 (ad z) fun w hw => Ne.symm (ne w hw), upd_same]
      · rw [if_neg c]
        exact h1 z ((List.mem_cons.mp hz).resolve_left c)
    · rw [h2 b fun w hw => hb w (List.mem_cons_of_mem _ hw), upd_ne (hb x (by simp))]
/-- a pair that no others tell -/
def Drn (ln : Ln) (keys : List Str) (p : SS) : Prop := p.1 ∈ keys ∧ (∃ r, (p.2, r) ∈ ln p.1) ∧ ¬ ∃ t, Bel ln p.1 t ∧ Bel ln t p.2
def dP (ps : List SS) : List (List Key × V) := ps.map fun p => ([Sum.inr p.1, Sum.inr p.2], V.bl true)
theorem dP_fst (ps : List SS) : ((dP ps).map fun kv => kv.1) = ps.map fun q => [Sum.inr q.1, Sum.inr q.2] := by unfold dP; rw [List.map_map]; rfl
theorem dP_put {ps : List SS} {p : SS} : putK (dP ps) [Sum.inr p.1, Sum.inr p.2] (.bl true) = dP (putS ps p) := by
  have inj : ∀ a b : SS, ([Sum.inr a.1, Sum.inr a.2] : List Key) = [Sum.inr b.1, Sum.inr b.2] ↔ a = b := fun a b => by
    constructor
    · intro h
      simp only [List.cons.injEq, Sum.inr.injEq, and_true] at h
      exact Prod.ext h.1 h.2
    · rintro rfl; rfl
  have any : ((dP ps).any fun kv => decide (kv.1 = [Sum.inr p.1, Sum.inr p.2])) = decide (p ∈ ps) := by
    rw [Bool.eq_iff_iff, List.any_eq_true, decide_eq_true_iff]
    unfold dP
    constructor
    · rintro ⟨x, hx, e⟩
      obtain ⟨q, hq, rfl⟩ := List.mem_map.mp hx
      exact ((inj q p).mp (of_decide_eq_true e)) ▸ hq
    · intro h
      exact ⟨_, List.mem_map.mpr ⟨p, h, rfl⟩, decide_eq_true rfl⟩
  unfold putK putS
  rw [any]
  by_cases c : p ∈ ps
  · rw [if_pos (decide_eq_true c), if_pos c]
    unfold dP
    rw [List.map_map]
    refine List.map_congr_left fun q _ => ?_
    show (if ([Sum.inr q.1, Sum.inr q.2] : List Key) = [Sum.inr p.1, Sum.inr p.2] then _ else _) = _
    split <;> rfl
  · rw [if_neg (by rw [decide_eq_false c]; exact Bool.false_ne_true), if_neg c]
    unfold dP
    rw [List.map_append]
    rfl
/-- two rows of pairs, both rising, of the same pairs, are one -/
theorem pp_unique : ∀ {a b : List SS}, a.Pairwise (fun x y => ltPP x y = true) → b.Pairwise (fun x y => ltPP x y = true) → (∀ x, x ∈ a ↔ x ∈ b) → a = b
  | [], [], _, _, _ => rfl
  | [], y :: b, _, _, h => by have := (h y).mpr (by simp); cases this
  | x :: a, [], _, _, h => by have := (h x).mp (by simp); cases this
  | x :: a, y :: b, ha, hb, h => by
    rw [List.pairwise_cons] at ha hb
    have asym : ∀ {p q : SS}, ltPP p q = true → ltPP q p = true → False := fun h1 h2 => by
      have := ltPP_tr h1 h2
      rw [ltPP_irr] at this
      cases this
    have e : x = y := by
      rcases List.mem_cons.mp ((h x).mp (by simp)) with z | z
      · exact z
      · rcases List.mem_cons.mp ((h y).mpr (by simp)) with w | w
        · exact w.symm
        · exact (asym (ha.1 y w) (hb.1 x z)).elim
    subst e
    have : a = b := pp_unique ha.2 hb.2 fun z => by
      have := h z
      rw [List.mem_cons, List.mem_cons] at this
      constructor
      · intro hz
        rcases this.mp (.inr hz) with rfl | w
        · have := ha.1 z hz
          rw [ltPP_irr] at this
          cases this
        · exact w
      · intro hz
        rcases this.mpr (.inr hz) with rfl | w
        · have := hb.1 z hz
          rw [ltPP_irr] at this
          cases this
        · exact w
    rw [this]
end Dm

/-! Pairs of texts, compared. -/
namespace Dm
open PySem PySem.NumText L2
end Dm

/-! Walks along drawn pairs. -/
namespace Dm
open PySem PySem.NumText L2
end Dm

/-! A telling with the ties of the drawn pairs alone. -/
namespace Dm
open PySem PySem.NumText L2
section
variable {ln ln' : Ln} {keys : List Str}
end
end Dm

/-! Texts split; words of a line; what the reading of lines makes of a telling. -/
namespace Dm
open PySem PySem.NumText L2
/-- the words of a line -/
def wordsOf (x : Str) : List Str := (Txt.split x " ").filter fun y => !decide (y = "")
def passedB : List Str → Bool
  | [] => true
  | y :: _ => Txt.startswith y ";"
/-! ### signs of words -/
/-! ### what a row may be -/
/-! ### the state of a reading -/
end Dm

/-! Keys of dicts; the reading object on the heap; a telling's lines in groups. -/
namespace Dm
open PySem PySem.NumText L2
theorem inV_strs (x : Str) (ks : List Str) : inV (.str x) (ks.map V.str) = decide (x ∈ ks) := by
  unfold inV
  induction ks with
  | nil => rfl
  | cons k r ih =>
    rw [List.map_cons, List.any_cons, ih]
    show ((k == x) || decide (x ∈ r)) = _
    by_cases h : k = x
    · subst h; simp
    · rw [beq_eq_false_iff_ne.mpr h, Bool.false_or]
      exact decide_eq_decide.mpr ⟨fun z => List.mem_cons_of_mem _ z, fun z => (List.mem_cons.mp z).resolve_left fun e => h e.symm⟩
/-! ### the reading object -/
end Dm

/-! A telling's lines in groups are read. -/
namespace Dm
open PySem PySem.NumText L2
end Dm

/-! Lines with blanks put in freely; rows read in the order in which they are told. -/
namespace Dm
open PySem PySem.NumText L2
/-- a line that is passed over -/
structure PassLn (y : Str) : Prop where
  pass : passedB (wordsOf y) = true
  feed : 10 ∉ co y
  len : y.length ≤ 900
instance (y : Str) : Decidable (PassLn y) := decidable_of_iff (passedB (wordsOf y) = true ∧ 10 ∉ co y ∧ y.length ≤ 900) ⟨fun h => ⟨h.1, h.2.1, h.2.2⟩, fun h => ⟨h.pass, h.feed, h.len⟩⟩
theorem lines_len {ls : List Str} (hl : ls.length ≤ 400) (h : ∀ l ∈ ls, l.length ≤ 900) : (Txt.join "\n" ls).length ≤ 1000000 ∧ (ls.map (·.length)).sum + ls.length * (Str.ofString "\n" : Str).length ≤ 16777216 := by
  have e : Txt.join "\n" ls = strOf (jc [10] (ls.map co)) := by
    show Txt.join (Str.ofString "\n") ls = _
    rw [join_strOf, feed_is, co_strOf]
  have h1 := jc_len [10] (ls.map co)
  have h2 := sum_le (l := ls.map co) (k := 900) fun x hx => by
    obtain ⟨v, hv, rfl⟩ := List.mem_map.mp hx
    rw [co_len]
    exact h v hv
  have h3 : (ls.map co).map List.length = ls.map (·.length) := by
    rw [List.map_map]
    exact List.map_congr_left fun v _ => co_len v
  have e1 : (Str.ofString "\n" : Str).length = 1 := by decide +kernel
  rw [h3] at h1 h2
  rw [List.length_map] at h1 h2
  have : [10].length = 1 := rfl
  rw [this] at h1
  rw [e, len_strOf, e1]
  omega
end Dm

/-! Names, any number of them up to 37. -/
namespace Dm
open PySem PySem.NumText L2
theorem nmC_injN {one at' : Int} {k k' size : Nat} (h0 : 0 ≤ at') (h1 : at' < size) (hk : k < 37) (hk' : k' < 37) (h : nmC one at' k size = nmC one at' k' size) : k = k' := by
  have hj : at'.toNat < size := by omega
  have e1 := nmC_get (one := one) (at' := at') (k := k) hj
  have e2 := nmC_get (one := one) (at' := at') (k := k') hj
  rw [h, e2] at e1
  have e : nmN one at' k' at'.toNat = nmN one at' k at'.toNat := Option.some.inj e1
  unfold nmN at e
  have q := names_inj (ix37 _).2 (ix37 _).2 e
  have a1 := (ix37 (nmI one at' k' at'.toNat)).1
  have a2 := (ix37 (nmI one at' k at'.toNat)).1
  have q2 : nmI one at' k' at'.toNat % 37 = nmI one at' k at'.toNat % 37 := by omega
  unfold nmI at q2
  rw [if_pos (Int.toNat_of_nonneg h0), if_pos (Int.toNat_of_nonneg h0)] at q2
  omega
def names1N (n : Nat) (one at' : Int) (size : Nat) : List Str := (List.range n).map fun k => strOf (nmC one at' k size)
def names2N (n : Nat) (one at' : Int) (size : Nat) : List Str := (List.range n).map fun k => strOf ((nmC one at' 0 size).take (size - k))
theorem names1N_ok {n : Nat} {one at' : Int} {size : Nat} (hn : n ≤ 37) (h0 : 0 ≤ at') (h1 : at' < size) (h2 : 1 ≤ size) (h3 : size ≤ 12) : (names1N n one at' size).Nodup ∧ (∀ x ∈ names1N n one at' size, nameB x = true) ∧ (names1N n one at' size).length = n := by
  refine ⟨nodup_map_range fun i j hi hj e => nmC_injN h0 h1 (by omega) (by omega) (strOf_inj e), fun x hx => ?_, by unfold names1N; simp⟩
  obtain ⟨k, _, rfl⟩ := List.mem_map.mp hx
  exact nameB_of (by rw [co_strOf, nmC_len]; exact h2) (by rw [co_strOf, nmC_len]; exact h3) fun c hc => by rw [co_strOf] at hc; exact nmC_mem hc
theorem names2N_ok {n : Nat} {one at' : Int} {size : Nat} (h2 : n ≤ size) (h3 : size ≤ 12) : (names2N n one at' size).Nodup ∧ (∀ x ∈ names2N n one at' size, nameB x = true) ∧ (names2N n one at' size).length = n := by
  refine ⟨nodup_map_range fun i j hi hj e => ?_, fun x hx => ?_, by unfold names2N; simp⟩
  · have e := congrArg List.length (strOf_inj e)
    rw [List.length_take, List.length_take, nmC_len] at e
    omega
  · obtain ⟨k, hk, rfl⟩ := List.mem_map.mp hx
    have hk := List.mem_range.mp hk
    refine nameB_of ?_ ?_ fun c hc => ?_
    · rw [co_strOf, List.length_take, nmC_len]; omega
    · rw [co_strOf, List.length_take, nmC_len]; omega
    · rw [co_strOf] at hc
      exact nmC_mem (List.mem_of_mem_take hc)

/-! ### levels are told one way -/
theorem Lv.uniq {ln : Ln} {M : List Str} {lv lv' : Str → Nat} {n n' : Nat} (h : Lv ln M lv n) (h' : Lv ln M lv' n') : ∀ (k : Nat) (x : Str), x ∈ M → lv x = k → lv' x = k := by
  intro k
  induction k using Nat.strongRecOn with
  | _ k ih =>
    intro x hx e
    have key : ∀ l r, (l, r) ∈ ln x → lv l = lv' l := fun l r hl => by
      have hm := h.mx x hx
      have mem : ((lv l : Int) + 1) ∈ lvN lv (ln x) := List.mem_map.mpr ⟨(l, r), hl, rfl⟩
      have hlt : lv l < k := by
        rcases hm with ⟨h1, _⟩ | ⟨_, h2⟩
        · rw [h1] at mem; cases mem
        · have := h2 _ mem
          omega
      exact (ih (lv l) hlt l (h.cl x hx l r hl) rfl).symm
    have e2 := lvN_congr key
    have a := h.mx x hx
    have b := h'.mx x hx
    rw [e2] at a
    have := maxIs_same a b fun y => Iff.rfl
    omega
theorem Lv.uniqN {ln : Ln} {M : List Str} {lv lv' : Str → Nat} {n n' : Nat} (h : Lv ln M lv n) (h' : Lv ln M lv' n') : n = n' := by
  have go : ∀ {lv lv' : Str → Nat} {n n' : Nat}, Lv ln M lv n → Lv ln M lv' n' → n ≤ n' := fun {lv lv' n n'} h h' => by
    cases n with
    | zero => exact Nat.zero_le _
    | succ n =>
      obtain ⟨x, hx, e⟩ := h.all n (by omega)
      have := h.uniq h' n x hx e
      have := h'.lt x hx
      omega
  exact Nat.le_antisymm (go h h') (go h' h)
/-! ### the matrix as text -/
def rowT (i : Int) (names : List Str) : Str := Str.empty ++ (toString i : String) ++ ": " ++ Txt.join " " names
def lineF (l0 : Str) (xs : List Str) : Str := xs.foldl (fun l x => l ++ " " ++ x) l0
def pairT (p : SS) : Str := Str.empty ++ p.1 ++ " > " ++ p.2
theorem emp_app (x : Str) : Str.empty ++ x = x := ext_co (by rw [co_app]; rfl)
theorem lineF_co (xs : List Str) : ∀ l0, co (lineF l0 xs) = co l0 ++ (xs.map fun x => 32 :: co x).flatten := by
  induction xs with
  | nil => intro l0; simp [lineF]
  | cons x r ih =>
    intro l0
    show co (lineF (l0 ++ Str.ofString " " ++ x) r) = _
    rw [ih, co_app, co_app, blank_is, co_strOf]
    simp
theorem jc_flat (x : List Nat) : ∀ r : List (List Nat), jc [32] (x :: r) = x ++ (r.map fun y => 32 :: y).flatten
  | [] => by simp [jc]
  | y :: r => by
    show x ++ [32] ++ jc [32] (y :: r) = _
    rw [jc_flat y r]
    simp
theorem colon_is : (Str.ofString ": " : Str) = strOf [58, 32] := by decide +kernel
theorem colon1_is : (Str.ofString ":" : Str) = strOf [58] := by decide +kernel
theorem rowT_is (i : Int) {names : List Str} (h : names ≠ []) : rowT i names = lineF ((toString i : String) ++ Str.ofString ":") names := by
  cases names with
  | nil => exact absurd rfl h
  | cons x r =>
    apply ext_co
    unfold rowT
    show co (Str.empty ++ Str.ofString (toString i) ++ Str.ofString ": " ++ Txt.join (Str.ofString " ") (x :: r)) = _
    rw [lineF_co, emp_app, co_app, co_app, co_glued, blank_is, co_strOf, colon_is, co_strOf]
    show _ = co (Str.ofString (toString i) ++ Str.ofString ":") ++ _
    rw [co_app, colon1_is, co_strOf, List.map_cons, jc_flat, List.map_map]
    simp
    rfl
theorem lineF_len {xs : List Str} (h : ∀ x ∈ xs, x.length ≤ 12) : ∀ l0, (lineF l0 xs).length ≤ l0.length + 13 * xs.length := by
  induction xs with
  | nil => intro l0; simp [lineF]
  | cons x r ih =>
    intro l0
    have := ih (fun y hy => h y (List.mem_cons_of_mem _ hy)) (l0 ++ Str.ofString " " ++ x)
    have hx := h x (List.mem_cons_self ..)
    show (lineF (l0 ++ Str.ofString " " ++ x) r).length ≤ _
    have e : (l0 ++ Str.ofString " " ++ x).length = l0.length + 1 + x.length := by
      rw [← co_len, co_app, co_app, List.length_append, List.length_append, co_len, co_len, co_len]
      rw [show (Str.ofString " " : Str).length = 1 by decide +kernel]
    rw [e] at this
    rw [List.length_cons]
    omega
theorem num_len : ∀ i : Nat, i < 64 → (Str.ofString (toString (i : Int)) : Str).length ≤ 2 := by decide +kernel
def mLines (keys : List Str) (lv : Str → Nat) (n : Nat) (qs : List SS) : List Str :=
  ((List.range n).map fun i => rowT ((n : Int) - 1 - (i : Nat)) (keys.filter (rowB lv (n - 1 - i)))) ++ qs.map pairT
theorem mLines_eq {ln : Ln} {M : List Str} {lv lv' : Str → Nat} {n n' : Nat} {qs qs' : List SS} (h : Lv ln M lv n) (h' : Lv ln M lv' n') (e : qs = qs') : mLines M lv n qs = mLines M lv' n' qs' := by
  have en := h.uniqN h'
  subst en e
  unfold mLines
  congr 1
  refine List.map_congr_left fun i _ => ?_
  congr 1
  refine List.filter_congr fun x hx => ?_
  unfold rowB
  rw [h.uniq h' _ x hx rfl]
theorem Lv.zero {ln : Ln} {lv : Str → Nat} {n : Nat} (h : Lv ln [] lv n) : n = 0 := by
  cases n with
  | zero => rfl
  | succ n =>
    obtain ⟨x, hx, _⟩ := h.all n (by omega)
    cases hx
theorem Lv.row_ne {ln : Ln} {M : List Str} {lv : Str → Nat} {n : Nat} (h : Lv ln M lv n) {j : Nat} (hj : j < n) : M.filter (rowB lv j) ≠ [] := by
  obtain ⟨x, hx, e⟩ := h.all j hj
  intro z
  have : x ∈ M.filter (rowB lv j) := List.mem_filter.mpr ⟨hx, decide_eq_true e⟩
  rw [z] at this
  cases this
theorem pairT_len {p : SS} (h1 : p.1.length ≤ 12) (h2 : p.2.length ≤ 12) : (pairT p).length ≤ 30 := by
  unfold pairT
  show (Str.empty ++ p.1 ++ Str.ofString " > " ++ p.2).length ≤ 30
  rw [emp_app, ← co_len, co_app, co_app, List.length_append, List.length_append, co_len, co_len, co_len]
  have : (Str.ofString " > " : Str).length = 3 := by decide +kernel
  omega
end Dm

/-! Chains of ties: up from a floor, down from a ceiling. -/
namespace Dm
open PySem PySem.NumText L2
abbrev Tr := Tie × Addr
abbrev Rw := Str → List (Str × Tr)
abbrev Chn := Int × Str × List Tr
variable {R : Rw} {F G : Str → IS → Prop} {k : Str} {keys : List Str}
/-! lengths -/
/-! one tie longer, again and again -/
/-! the law's own rounds over all links -/
end Dm

/-! Chains in the heap; one tie longer, row by row. -/
namespace Dm
open PySem PySem.NumText L2
section
variable {H0 H H' : Hp} {a pd : Addr} {c : Chn}
end
section
variable {R : Rw} {M : List Str} {v : Str → Chn} {k : Str} {z : List (Str × Tr)} {has has' : Prop} {c c' : Chn} {l : Str} {b : Tr}
end
section
variable {R : Rw} {F : Str → IS → Prop} {keys done : List Str} {v : Str → Chn}
end
/-! floors and ceilings, as the law has them -/
section
variable {R : Rw} {F : Str → IS → Prop} {keys done : List Str} {v : Str → Chn} {u : Str} {c : Chn}
end
end Dm

/-! Spans: floors and ceilings are there; the first years and the last years keep the telling. -/
namespace Dm
open PySem PySem.NumText L2
section
variable {lo hi : Int} {us : List Str} {ads : List Addr} {ts : List Tie} {af : List Addr} {fs : List Fnd} {f g : Str → Int}
end
end Dm

/-! Chains as rows of ties; where they begin and end. -/
namespace Dm
open PySem PySem.NumText L2
section
variable {ts : List Tie} {z : List Tr} {s e k l : Str} {rs : List Tr} {b : Tr} {F : Str → IS → Prop}
end
section
variable {ts : List Tie} {fs : List Fnd} {af : List Addr} {lo hi : Int} {s : Str} {m : IS}
end
end Dm

/-! Links, one after another. -/
namespace Dm
open PySem PySem.NumText L2
end Dm

/-! The ties of a row, as the law asks for them. -/
namespace Dm
open PySem PySem.NumText L2
end Dm
namespace L2
open PySem PySem.Spec PyProof.Rows
/-- an if whose two ways meet again, whose test may make new things -/
theorem ifS_meetS {c : TT} {t u : TS} {D : Ends} {σ : St} {H : Hp} (P : St → Hp → Prop) (b : Bool) (ht : ∀ Q' : Bool → Hp → Prop, (∀ H', Same H H' → Q' b H') → c σ H Q') (h1 : b = true → ∀ H', Same H H' → (∀ σ' H', P σ' H' → D.nx σ' H') → t D σ H') (h2 : b = false → ∀ H', Same H H' → (∀ σ' H', P σ' H' → D.nx σ' H') → u D σ H')
    (hn : ∀ σ' H', P σ' H' → D.nx σ' H') : tIfS c t u D σ H := by
  refine ifS_same b ht fun H' s => ?_
  cases b with
  | true => exact iteT (h1 rfl H' s hn)
  | false => exact iteF (h2 rfl H' s hn)
end L2

/-! Own exceptions whose class has an __init__ of its own (or takes one over): made. -/
namespace L2
open PySem PySem.Spec PyProof.Rows
/-- what lies behind an own exception's class: ValueError and what it rests on -/
structure UnderV (bm : List Value) : Prop where
  v : bm.contains (.type "ValueError") = true
  b : bm.contains (.type "BaseException") = true
  a : bm.contains (.type "AttributeError") = false
  n : bm.contains (.type "NameError") = false
/-- the class's object -/
def XObj (h : Heap) (C : Addr) (bm : List Value) : Prop := ∃ nm q N bs hdct sn sub ab col dd k0 k1 k2 k3 k5, h.get? C = some (excClassObj nm q C N bs bm hdct sn sub ab col dd k0 k1 k2 k3 k5 "ValueError.__new__")
theorem has_own {C : Addr} {bm : List Value} {T : String} {b : Bool} (h : bm.contains (.type T) = b) : (Value.ref C :: bm).contains (.type T) = b := by
  rw [List.contains_cons, h]; rfl
section
variable {prog : Program} {w : World} {A : Around} {h : Heap} {g : Array GenState} {d : Drawn} {t : Nat} {os : OsState} {C : Addr} {bm : List Value}
theorem new_exc {R : Result → Shared → Prop} (U : UnderV bm) (x : XObj h C bm) {us : List Value} (hz : us.length ≤ sizeLine)
    (k : R (.ok (.ret (.ref (h.objs.size + 1)))) { heap := (h.push { cls := .type "tuple", data := .seq us.toArray }).push { cls := .ref C, data := .fields #[.ref h.objs.size, .none, .none, .none, .bool false, .none] }, gens := g, drawn := d, toks := t, os := os }) :
    codeAny (model prog w) A (.builtin "ValueError.__new__" ⟨.ref C :: us, []⟩) R { heap := h, gens := g, drawn := d, toks := t, os := os } := by
  obtain ⟨a1, a2, a3, a4, a5, a6, a7, a8, a9, b1, b2, b3, b4, b5, b6, e⟩ := x
  have F := PySem.F.excBase_ValueError
  have f1 := F.ends
  have c1 := has_own (C := C) U.v
  have c2 := has_own (C := C) U.a
  have c3 := has_own (C := C) U.n
  refine codeAny_builtinAt F.entry ?_
  unfold Builtin.«BaseException.__new__»
  refine PySem.wpAt_bind (show PySem.wpAt (model prog w) _ _ (stack >>= _) _ _ _ from PySem.wpAt_bind (PySem.wpAt_stack fun p below => PySem.wpAt_of_wpAny ?_))
  wp_walk
  refine PySem.wpAt_of_wpAny ?_
  rw [F.owner]
  repeat (first
    | with_reducible refine wpAny_madeHere_exc F.canon e ?_
    | with_reducible refine wpAny_loadPart_at e ?_
    | (with_reducible refine wpAny_isSubtype_exc e ?_
       first | rw [c1] | rw [c2] | rw [c3])
    | wp_step)
  show R _ _
  rw [Heap.size_push]
  exact k
theorem check_new {M : Model} {E : Value → Shared → Prop} (U : UnderV bm) (x : XObj h C bm) {us : List Value} {Q : Unit → Shared → Prop} (k : Q () { heap := h, gens := g, drawn := d, toks := t, os := os }) :
    wpAny M A (checkBuiltinCall "ValueError.__new__" ⟨.ref C :: us, []⟩) Q E { heap := h, gens := g, drawn := d, toks := t, os := os } := by
  obtain ⟨a1, a2, a3, a4, a5, a6, a7, a8, a9, b1, b2, b3, b4, b5, b6, e⟩ := x
  exact wpAny_check_new_subU PySem.F.excBase_ValueError U.v .base e k
theorem tcall_exc {E : Value → Shared → Prop} {vI : Value} {us : List Value} {Q : Fin → Shared → Prop} (U : UnderV bm) (x : XObj h C bm) (hz : us.length ≤ sizeLine)
    (lk : PySem.W.Looks (model prog w) h (typeLookup (.ref C) "__init__") (some (vI))) (bd : ∀ self, PySem.W.Looks (model prog w) h (bindSpecial (vI) self) (vI, [self]))
    (k : ∀ h' e, h.objs.size ≤ e → Heap.MadeExcOf h h' e (.ref C) us → wpAny (model prog w) A (call (vI) (.ref e :: us)) (fun r s' => r = .none ∧ Q (.done (.ret (.ref e))) s') E { heap := h', gens := g, drawn := d, toks := t, os := os }) :
    wpAny (model prog w) A (Builtin.«type.__call__» ⟨.ref C :: us, []⟩) Q E { heap := h, gens := g, drawn := d, toks := t, os := os } := by
  have x' := x
  obtain ⟨a1, a2, a3, a4, a5, a6, a7, a8, a9, b1, b2, b3, b4, b5, b6, e⟩ := x'
  have F := PySem.F.excBase_ValueError
  repeat (first | with_reducible refine wpAny_loadPart_at e ?_ | with_reducible refine wpAny_madeBy_exc e ?_ | wp_step)
  refine codeAny_call_builtin_code (Code.quiet_builtin _ F.quiet) (check_new U x ?_)
  refine new_exc U x hz ?_
  show wpAny (model prog w) _ _ _ _ _
  have kp : ∀ b o, h.get? b = some o → ((h.push { cls := .type "tuple", data := .seq us.toArray }).push { cls := .ref C, data := .fields #[.ref h.objs.size, .none, .none, .none, .bool false, .none] }).get? b = some o :=
    fun b o q => Heap.get?_push_of_some _ (Heap.get?_push_of_some _ q)
  have hget : ((h.push { cls := .type "tuple", data := .seq us.toArray }).push { cls := .ref C, data := .fields #[.ref h.objs.size, .none, .none, .none, .bool false, .none] }).get? (h.objs.size + 1) =
      some { cls := .ref C, data := .fields #[.ref h.objs.size, .none, .none, .none, .bool false, .none] } := by heap_get
  have ht : ((h.push { cls := .type "tuple", data := .seq us.toArray }).push { cls := .ref C, data := .fields #[.ref h.objs.size, .none, .none, .none, .bool false, .none] }).get? h.objs.size =
      some { cls := .type "tuple", data := .seq us.toArray } := Heap.get?_push_of_some _ (Heap.get?_push_at rfl rfl)
  have made : Heap.MadeExcOf h ((h.push { cls := .type "tuple", data := .seq us.toArray }).push { cls := .ref C, data := .fields #[.ref h.objs.size, .none, .none, .none, .bool false, .none] }) (h.objs.size + 1) (.ref C) us :=
    ⟨kp, Heap.get?_none_of_le (Nat.le_succ _), h.objs.size, hget, Heap.get?_none_of_le (Nat.le_refl _), ht⟩
  have go := k _ _ (Nat.le_succ _) made
  have e1 := kp _ _ e
  have lk1 := lk.keeps kp
  have bd1 := fun self => (bd self).keeps kp
  generalize (h.push { cls := .type "tuple", data := .seq us.toArray }).push { cls := .ref C, data := .fields #[.ref h.objs.size, .none, .none, .none, .bool false, .none] } = h1 at hget go e1 lk1 bd1
  have cC : (Value.ref C :: bm).contains (.ref C) = true := by simp
  unfold isInstance
  repeat (first | with_reducible refine wpAny_loadPart_at hget ?_ | (with_reducible refine wpAny_isSubtype_exc e1 ?_; rw [cC]) | wp_step)
  show wpAny (model prog w) _ (typeLookup (.ref C) _) _ _ _
  refine lk1.at (wpAny_holding (wpAny_bind ((bd1 _).at ?_)))
  refine wpAny_bind (wpAny_mono go (fun r s' hr => ?_) fun _ _ z => z)
  obtain ⟨rfl, q⟩ := hr
  wp_walk
  exact q
theorem call_exc {E : Value → Shared → Prop} {vI : Value} {us : List Value} {Q : Value → Shared → Prop} (U : UnderV bm) (x : XObj h C bm) (hz : us.length ≤ sizeLine)
    (lk : PySem.W.Looks (model prog w) h (typeLookup (.ref C) "__init__") (some (vI))) (bd : ∀ self, PySem.W.Looks (model prog w) h (bindSpecial (vI) self) (vI, [self]))
    (k : ∀ h' e, h.objs.size ≤ e → Heap.MadeExcOf h h' e (.ref C) us → wpAny (model prog w) (A.under (.builtin "type.__call__" ⟨.ref C :: us, []⟩)) (call (vI) (.ref e :: us)) (fun r s' => r = .none ∧ Q (.ref e) s') E { heap := h', gens := g, drawn := d, toks := t, os := os }) :
    wpAny (model prog w) A (call (.ref C) us) Q E { heap := h, gens := g, drawn := d, toks := t, os := os } := by
  have x' := x
  obtain ⟨a1, a2, a3, a4, a5, a6, a7, a8, a9, b1, b2, b3, b4, b5, b6, e⟩ := x'
  have f1 := tc_lookup
  have f2 := tc_bind (.ref C)
  have hT : ({ heap := h, gens := g, drawn := d, toks := t, os := os } : Shared).TypeIs (.ref C) "type" := ⟨_, e, rfl⟩
  refine wpAny_call (codeAny_of_tree (show wpAny (model prog w) _ (callAny (.ref C) _) _ _ _ from ?_))
  repeat (any_goals (first | assumption | with_reducible refine wpAny_loadPart_at e ?_ | wp_step))
  refine ⟨rfl, codeAny_call_builtin_at (Code.quiet_builtin _ (by decide +kernel)) entry_typeCall (wpAny_check_type_call_sub e (tcall_exc U x hz lk bd fun h' e' hs hm => ?_))⟩
  exact k h' e' hs hm
end
end L2

/-! An own exception raised: the statement. -/
namespace L2
open PySem PySem.Spec PyProof.Rows
section
variable {prog : Program} {w : World} {A : Around} {E : Value → Shared → Prop} {s : Shared} {env : Env} {bm : List Value}
/-- what the raise looks at -/
theorem raise_made {y : Sem Value} {Q : Flow → Shared → Prop} (U : UnderV bm) (hh : A.handled = none)
    (k : wpAny (model prog w) A y (fun v s1 => ∃ e C oe vs, v = .ref e ∧ XObj s1.heap C bm ∧ s1.heap.get? e = some oe ∧ oe.cls = .ref C ∧ oe.data = .fields vs ∧ vs[1]? = some .none ∧ E (.ref e) s1) E s) :
    wpAny (model prog w) A (raiseStmt env (some y) none) Q E s := by
  unfold raiseStmt
  refine wpAny_bind (wpAny_mono k (fun v s1 k1 => ?_) fun _ _ z => z)
  obtain ⟨e, C, oe, vs, rfl, ⟨a1, a2, a3, a4, a5, a6, a7, a8, a9, b1, b2, b3, b4, b5, b6, o⟩, he, hc, hd, h1, hE⟩ := k1
  have cB := has_own (C := C) U.b
  obtain ⟨hp, g, d, tk, os⟩ := s1
  repeat (first
    | (with_reducible refine wpAny_loadPart_at he ?_; rw [hc])
    | with_reducible refine wpAny_loadPart_at o ?_
    | (with_reducible refine wpAny_isSubtype_exc o ?_; rw [cB])
    | wp_step)
  rw [hd]
  refine wpAny_pure ?_
  rw [h1]
  refine wpAny_pure ?_
  rw [if_neg (by decide)]
  exact wpAny_pure (wpAny_raiseNew_none hh hE)
/-- raise C(..): the class by its name, its arguments, what it makes -/
theorem raise_call {x : Str} {C : Addr} {vI : Value} {np cpos pos : Pos} {a : PySem.Expr} {as : List PySem.Expr} {Q : Flow → Shared → Prop} (U : UnderV bm) (hh : A.handled = none)
    (hst : starEach (a :: as) env = (false, eval a env) :: starEach as env) (hpl : (backTo cpos (starEach as env)).any (·.1) = false)
    (k : wpAny (model prog w) A (eval (.Name x np) env) (fun f s1 => f = .ref C ∧ wpAny (model prog w) A (spliced (backTo cpos (starEach (a :: as) env)))
      (fun us s2 => us.length ≤ sizeLine ∧ XObj s2.heap C bm ∧ PySem.W.Looks (model prog w) s2.heap (typeLookup (.ref C) "__init__") (some (vI)) ∧ (∀ self, PySem.W.Looks (model prog w) s2.heap (bindSpecial (vI) self) (vI, [self])) ∧
        ∀ h' e, s2.heap.objs.size ≤ e → Heap.MadeExcOf s2.heap h' e (.ref C) us → wpAny (model prog w) (A.under (.builtin "type.__call__" ⟨.ref C :: us, []⟩)) (call (vI) (.ref e :: us))
          (fun r s3 => r = .none ∧ ∃ oe vs, XObj s3.heap C bm ∧ s3.heap.get? e = some oe ∧ oe.cls = .ref C ∧ oe.data = .fields vs ∧ vs[1]? = some .none ∧ E (.ref e) s3) E { s2 with heap := h' }) E s1) E s) :
    wpAny (model prog w) A (exec (.Raise (some (.Call (.Name x np) (a :: as) [] cpos)) none pos) env) Q E s := by
  rw [arm_exec_Raise]
  simp only [evalOpt, Option.map]
  refine wpAny_bind (wpAny_standAt (raise_made U hh (wpAny_bind (wpAny_mono (wpAny_Call_ofName (wpAny_mono k (fun f s1 k1 => ?_) fun _ _ z => z)) (fun v s3 k3 => wpAny_bind (wpAny_standAt (wpAny_pure k3))) fun _ _ z => z))))
  obtain ⟨rfl, k1⟩ := k1
  unfold callWith
  have any : (backTo cpos (starEach (a :: as) env)).any (·.1) = false := by
    rw [hst]
    show (false || (backTo cpos (starEach as env)).any (·.1)) = false
    rw [hpl]; rfl
  rw [hst] at k1 ⊢
  refine wpAny_bind (wpAny_holding (Calls.evalArgs_plain (wpAny_mono k1 (fun us s2 k2 => wpAny_bind (wpAny_standAt ?_)) fun _ _ z => z)))
  obtain ⟨hz, xo, lk, bd, go⟩ := k2
  obtain ⟨hp, g, d, tk, os⟩ := s2
  rw [hst] at any
  simp only [any]
  have xo' := xo
  obtain ⟨a1, a2, a3, a4, a5, a6, a7, a8, a9, b1, b2, b3, b4, b5, b6, o⟩ := xo'
  refine wpAny_bind (wpAny_keeperOf_exc o ?_)
  refine wpAny_bind (call_exc U xo hz lk bd fun h' e hs hm => wpAny_mono (go h' e hs hm) (fun r s3 q => ?_) fun _ _ z => z)
  obtain ⟨r0, oe, vs, q⟩ := q
  exact ⟨r0, wpAny_bind (wpAny_holding (wpAny_point (wpAny_pure ⟨e, C, oe, vs, rfl, q⟩)))⟩
end
end L2

/-! A text with one int in it: f'.. {i}' -/
namespace L2
open PySem PySem.Spec PyProof.Rows
section
variable {X : Cx}
end
end L2

/-! An exception leaves a frame: what stays, and its own dict. -/
namespace L2
open PySem PySem.Spec PyProof.Rows
theorem map_fields {o : Obj} {vs : Array Value} (h : o.data = .fields vs) (f : Array Value → Array Value) : Obj.mapFields f o = { o with data := .fields (f vs) } := by
  obtain ⟨c, d, dt, sl⟩ := o
  cases h
  rfl
/-- what leaving a frame (fs: the frames that run) does to the heap: T is the new entry -/
structure Gone (fs : List Addr) (e T : Addr) (xs : List Addr) (oe : Obj) (vs : Array Value) (h h' : Heap) : Prop where
  keep : ∀ b o, b ≠ e → b ∉ fs → b ∉ xs → h.get? b = some o → h'.get? b = some o
  slot : ∀ b o, b ∈ fs → h.get? b = some o → ∃ sl, h'.get? b = some { o with slots := sl }
  new : h.get? T = none
  exc : h'.get? e = some { oe with data := .fields (vs.setIfInBounds 1 (.ref T)) }
  ent : ∃ oT ts, h'.get? T = some oT ∧ oT.data = .fields ts ∧ ts[3]? = some .none
  old : ∀ b ∈ xs, ∃ o, h'.get? b = some o
section
variable {M : Model} {A : Around} {E : Value → Shared → Prop} {s : Shared}
theorem entry_new {base : Heap} {env : Env} {outer : List Env} {L e : Addr} {oe : Obj} {vs : Array Value} {head : Value} {nx : Bool} {Q : Unit → Shared → Prop}
    (hfr : A.frames = some (env :: outer)) (hl : s.heap.FunFrames base (env :: outer)) (hf : env.frame = some L) (he : s.heap.get? e = some oe) (hd : oe.data = .fields vs) (hz : 1 < vs.size)
    (k : ∀ h', Gone (frs (env :: outer)) e s.heap.objs.size [] oe vs s.heap h' → Q () { s with heap := h' }) :
    wpAny M A (do let a ← frameOf env; let pl ← entryPlaceOf L nx; let b ← EntryCells.newEntry head a .none (rawInt L) .none pl; setField (.ref e) 1 b) (fun _ s' => wpAny M A (setFlight (.ref e) none) Q E s') E s := by
  have nf : ∀ b ∈ frs (env :: outer), ∃ o, s.heap.get? b = some o ∧ ∀ us, o.data ≠ .fields us := fun b hb => (hl.mem hb).2
  have ne : e ∉ frs (env :: outer) := fun hm => by
    obtain ⟨o, ho, hn⟩ := nf e hm
    rw [he] at ho
    cases ho
    exact hn vs hd
  refine wpAny_bind (wpAny_frameOf_fun hfr hl hf fun h1 s1 => ?_)
  obtain ⟨z1, k1, u1⟩ := s1
  refine wpAny_bind (wpAny_entryPlaceOf fun pl hpl => ?_)
  unfold EntryCells.newEntry newFields
  refine wpAny_bind (wpAny_newObj_type ?_ (hpl.sizeOk5 _ _ _ _ _))
  have e1 : h1.get? e = some oe := (k1 e ne).trans he
  generalize hN : ({ cls := .type "traceback", dict := none, data := .fields ([head, .ref L, .none, rawInt L, .none] ++ (if pl.isEmpty then List.replicate 6 Value.none else pl)).toArray } : Obj) = N
  have dN : N.data = .fields ([head, .ref L, .none, rawInt L, .none] ++ (if pl.isEmpty then List.replicate 6 Value.none else pl)).toArray := by rw [← hN]
  generalize hts : ([head, .ref L, .none, rawInt L, .none] ++ (if pl.isEmpty then List.replicate 6 Value.none else pl)).toArray = ts at dN
  have zt : 3 < ts.size := by rw [← hts]; simp
  have fN : N.isFreed = false := Obj.isFreed_of_fields dN
  have e2 := Heap.get?_push_of_some (h := h1) N e1
  refine wpAny_setField e2 hd hz ?_
  have Te : h1.objs.size ≠ e := Nat.ne_of_gt (Heap.lt_size e1)
  have e3 := Heap.get?_update_self (Obj.mapFields (·.setIfInBounds 1 (Value.ref h1.objs.size))) e2 (Obj.isFreed_of_fields (Obj.data_mapFields hd _))
  rw [map_fields hd] at e3
  have t3 := (Heap.get?_update_other (h1.push N) (Obj.mapFields (·.setIfInBounds 1 (Value.ref h1.objs.size))) (Ne.symm Te)).trans (Heap.get?_push_size h1 fN)
  unfold setFlight
  refine wpAny_bind (wpAny_field e3 rfl (x := .ref h1.objs.size) (by simp [hz]) ?_)
  rw [if_pos (show (Value.ref h1.objs.size != Value.none) = true from by simp)]
  refine wpAny_setField t3 dN zt (k _ ?_)
  have t4 := Heap.get?_update_self (Obj.mapFields (·.setIfInBounds 3 ((none : Option Addr).elim Value.none fun f => rawInt f))) t3 (Obj.isFreed_of_fields (Obj.data_mapFields dN _))
  have oth : ∀ b o, b ≠ e → h1.get? b = some o → (((h1.push N).update e (Obj.mapFields (·.setIfInBounds 1 (Value.ref h1.objs.size)))).update h1.objs.size (Obj.mapFields (·.setIfInBounds 3 ((none : Option Addr).elim Value.none fun f => rawInt f)))).get? b = some o := fun b o hb q => by
    rw [Heap.get?_update_other _ _ (Nat.ne_of_gt (Heap.lt_size q)), Heap.get?_update_other _ _ (Ne.symm hb)]
    exact Heap.get?_push_of_some _ q
  refine ⟨fun b o hb hn _ q => oth b o hb ((k1 b hn).trans q), fun b o hb q => ?_, Heap.get?_none_of_le (Nat.le_refl _), ?_, ?_, fun b hb => absurd hb (by simp)⟩
  · obtain ⟨sl, q1⟩ := u1 b o q
    exact ⟨sl, oth b _ (fun z => ne (z ▸ hb)) q1⟩
  · rw [Heap.get?_update_other _ _ Te, e3, z1]
  · rw [← z1]
    exact ⟨_, _, t4, Obj.data_mapFields dN _, by simp [zt]⟩
theorem leave_first {base : Heap} {env : Env} {outer : List Env} {L e : Addr} {oe : Obj} {vs : Array Value} {Q : Unit → Shared → Prop}
    (hfr : A.frames = some (env :: outer)) (hl : s.heap.FunFrames base (env :: outer)) (hf : env.frame = some L) (he : s.heap.get? e = some oe) (hd : oe.data = .fields vs) (h1 : vs[1]? = some .none)
    (k : ∀ h', Gone (frs (env :: outer)) e s.heap.objs.size [] oe vs s.heap h' → Q () { s with heap := h' }) : wpAny M A (leaving env (.ref e)) Q E s := by
  unfold leaving noteFrame
  simp only [hf]
  refine wpAny_bind (wpAny_bind (wpAny_field he hd h1 ?_))
  rw [if_neg (by decide)]
  exact entry_new hfr hl hf he hd (Array.getElem?_eq_some_iff.mp h1).1 k
theorem leave_next {base : Heap} {env : Env} {outer : List Env} {L e T : Addr} {oe oT : Obj} {vs ts : Array Value} {Q : Unit → Shared → Prop}
    (hfr : A.frames = some (env :: outer)) (hl : s.heap.FunFrames base (env :: outer)) (hf : env.frame = some L) (he : s.heap.get? e = some oe) (hd : oe.data = .fields vs) (h1 : vs[1]? = some (.ref T))
    (hT : s.heap.get? T = some oT) (dT : oT.data = .fields ts) (h3 : ts[3]? = some .none) (ne : T ≠ e)
    (k : ∀ h', Gone (frs (env :: outer)) e s.heap.objs.size [T] oe vs s.heap h' → Q () { s with heap := h' }) : wpAny M A (leaving env (.ref e)) Q E s := by
  unfold leaving noteFrame
  simp only [hf]
  refine wpAny_bind (wpAny_bind (wpAny_field he hd h1 ?_))
  rw [if_pos (show (Value.ref T != Value.none) = true from by simp)]
  refine wpAny_bind (wpAny_field hT dT h3 ?_)
  rw [if_neg (show ¬ ((Value.none == rawInt L) = true) from by simp [rawInt])]
  have z3 := (Array.getElem?_eq_some_iff.mp h3).1
  refine wpAny_bind (wpAny_setField hT dT z3 ?_)
  have oth : ∀ b, b ≠ T → (s.heap.update T (Obj.mapFields (·.setIfInBounds 3 Value.none))).get? b = s.heap.get? b := fun b hb => Heap.get?_update_other _ _ (Ne.symm hb)
  have self := Heap.get?_update_self (Obj.mapFields (·.setIfInBounds 3 Value.none)) hT (Obj.isFreed_of_fields (Obj.data_mapFields dT _))
  have nf : T ∉ frs (env :: outer) := fun hm => by
    obtain ⟨_, o, ho, hn⟩ := hl.mem hm
    rw [hT] at ho
    cases ho
    exact hn ts dT
  have sz : (s.heap.update T (Obj.mapFields (·.setIfInBounds 3 Value.none))).objs.size = s.heap.objs.size := Heap.size_after_update ..
  refine entry_new (s := { s with heap := s.heap.update T (Obj.mapFields (·.setIfInBounds 3 Value.none)) }) hfr (hl.of_keeps fun b o hb hn => ⟨o, (oth b fun z => ?_).trans hb, rfl⟩) hf ((oth e ne.symm).trans he) hd (Array.getElem?_eq_some_iff.mp h1).1 fun h' G => ?_
  · subst z
    rw [hT] at hb
    cases hb
    exact hn ts dT
  · have e1 : (s.heap.update T (Obj.mapFields (·.setIfInBounds 3 Value.none))).objs.size = s.heap.objs.size := sz
    have G := G
    dsimp only at G
    rw [e1] at G
    refine k h' ⟨fun b o hb hn hx q => G.keep b o hb hn (by simp) ((oth b fun z => hx (by simp [z])).trans q), fun b o hb q => G.slot b o hb ((oth b fun z => nf (z ▸ hb)).trans q), Heap.get?_none_of_le (Nat.le_refl _), G.exc, G.ent, fun b hb => ?_⟩
    rw [List.mem_singleton] at hb
    subst hb
    exact ⟨_, G.keep b _ ne nf (by simp) self⟩
end
end L2

/-! How an exception lies behind a call, and how it goes on. -/
namespace L2
open PySem PySem.Spec PyProof.Rows
/-- an exception on its way, at e: of the class cls, its own dict dc; made behind h0 -/
def Fly (H : Hp) (h0 h : Heap) (e : Addr) (cls : Value) (dc : Option Addr) : Prop :=
  ∃ (oe : Obj) (vs : Array Value) (T : Addr) (oT : Obj) (ts : Array Value), h.get? e = some oe ∧ oe.cls = cls ∧ oe.dict = dc ∧ oe.data = .fields vs ∧ vs[1]? = some (.ref T) ∧ T ≠ e ∧ h.get? T = some oT ∧ oT.data = .fields ts ∧ ts[3]? = some .none ∧
    H e = none ∧ H T = none ∧ h0.objs.size ≤ e ∧ h0.objs.size ≤ T
/-- .. just raised: no entry yet -/
def Risen (H : Hp) (h0 h : Heap) (e : Addr) (cls : Value) (dc : Option Addr) : Prop :=
  ∃ (oe : Obj) (vs : Array Value), h.get? e = some oe ∧ oe.cls = cls ∧ oe.dict = dc ∧ oe.data = .fields vs ∧ vs[1]? = some .none ∧ H e = none ∧ h0.objs.size ≤ e
/-- behind a call that raises -/
def CX1 (P : Program) (w : World) : CXT := fun outer H s E u s' => ∃ (e : Addr) (cls : Value) (dc : Option Addr) (H' : Hp), u = .ref e ∧ s'.os = s.os ∧ AllBare s'.gens ∧ Un (frs outer) [] H H' s.heap s'.heap ∧ HOk P w H' s'.heap ∧
  Fly H' s.heap s'.heap e cls dc ∧ E cls dc H'
/-- what a def's body wishes of an exception -/
def XeIs (X : Cx) (E : XK) : Prop := X.xe = (fun u s' => wpAny (model X.prog X.w) X.A (leaving X.env u) (fun _ s'' => CX1 X.prog X.w X.outer X.H₀ X.s₀ E u s'') (fun u' s'' => CX1 X.prog X.w X.outer X.H₀ X.s₀ E u' s'') s') ∧
  X.stack = X.env :: X.outer ∧ X.env.frame = some X.env.locals ∧ X.ex = []
theorem xeIs_of {P : Program} {w : World} {K : PySem.W.Frag} {mg : Str → Option Value} {base : Heap} {N : List Str} {qual : Str} {scope : Scope} {f : Addr} {cd : Value} {A : Around} {outer : List Env} {s : Shared} {H : Hp} {E : XK} :
    XeIs (cxOf (CX1 P w) P w K mg base N qual scope f cd A outer s H E) E := ⟨rfl, rfl, rfl, rfl⟩
section
variable {X : Cx} {pins : List (Addr × Obj)} {σ : St} {H : Hp} {s : Shared} {E : XK} {e : Addr} {cls : Value} {dc : Option Addr}
/-- the frame is left -/
theorem gone_cx {h' : Heap} {T : Addr} {xs : List Addr} {oe : Obj} {vs : Array Value} (I : Inv X pins σ H s) (x : XeIs X E) (G : Gone (frs (X.env :: X.outer)) e T xs oe vs s.heap h') (hc : oe.cls = cls) (hdc : oe.dict = dc) (hz : 1 < vs.size)
    (He : H e = none) (nz : X.s₀.heap.objs.size ≤ e) (hxz : ∀ b ∈ xs, H b = none ∧ X.s₀.heap.objs.size ≤ b) (hTe : T ≠ e) (hsz : s.heap.objs.size ≤ T) (hE : E cls dc H) :
    CX1 X.prog X.w X.outer X.H₀ X.s₀ E (.ref e) { s with heap := h' } := by
  obtain ⟨x1, x2, x3, x4⟩ := x
  have ne : X.s₀.heap.get? e = none := Heap.get?_none_of_le nz
  have hx : ∀ b ∈ xs, H b = none ∧ X.s₀.heap.get? b = none := fun b hb => ⟨(hxz b hb).1, Heap.get?_none_of_le (hxz b hb).2⟩
  have nL : ∀ b o, X.s₀.heap.get? b = some o → b ≠ X.env.locals := fun b o q z => absurd (Heap.lt_size q) (Nat.not_lt.mpr (z ▸ I.ok.above))
  have fr : ∀ b, b ∈ frs (X.env :: X.outer) → b = X.env.locals ∨ b ∈ frs X.outer := fun b hb => by
    unfold frs at hb
    rw [List.filterMap_cons, x3] at hb
    exact List.mem_cons.mp hb
  have fr2 : ∀ b, b ∈ frs X.outer → b ∈ frs (X.env :: X.outer) := fun b hb => by
    unfold frs
    rw [List.filterMap_cons, x3]
    exact List.mem_cons_of_mem _ hb
  have notx : ∀ b o, X.s₀.heap.get? b = some o → b ≠ e ∧ b ∉ xs := fun b o q => ⟨fun z => (by rw [z, ne] at q; cases q), fun z => (by rw [(hx b z).2] at q; cases q)⟩
  have HT : H T = none := I.hok.fresh hsz
  have sf : ∀ b ∈ frs (X.env :: X.outer), H b = none := by
    have := I.stkFree
    rw [x2] at this
    exact this
  refine ⟨e, cls, dc, H, rfl, I.os, I.bare, ?_, ?_, ?_, hE⟩
  · refine ⟨fun b o q n nf _ => ?_, fun b o q n nf _ => ?_, fun b o q n _ => I.base.free b o q n (by rw [x4]; simp), fun b o q _ => ?_, I.base.tups, I.base.frzs, I.base.tbls⟩
    · exact G.keep b o (notx b o q).1 (fun z => (fr b z).elim (nL b o q) nf) (notx b o q).2 (I.base.keep b o q n nf (by rw [x4]; simp))
    · obtain ⟨sl, z⟩ := I.base.slot b o q n nf (by rw [x4]; simp)
      obtain ⟨sl', z'⟩ := G.slot b _ (fr2 b nf) z
      exact ⟨sl', z'⟩
    · obtain ⟨o', z⟩ := I.base.there b o q (by rw [x4]; simp)
      by_cases hb : b ∈ frs (X.env :: X.outer)
      · obtain ⟨sl, z'⟩ := G.slot b _ hb z
        exact ⟨_, z'⟩
      · exact ⟨_, G.keep b _ (notx b o q).1 hb (notx b o q).2 z⟩
  · intro a o q
    refine (I.hok a o q).stay (fun b u hb z => ?_) (fun _ z => z) fun _ _ z => z
    have Hb : H b ≠ none := by
      rcases hb with z | z
      · rw [z, q]; simp
      · rw [z]; simp
    exact G.keep b u (fun z => Hb (z ▸ He)) (fun z => Hb (sf b z)) (fun z => Hb (hx b z).1) z
  · obtain ⟨oT, ts, t1, t2, t3⟩ := G.ent
    refine ⟨_, _, T, oT, ts, G.exc, hc, hdc, rfl, by simp [hz], hTe, t1, t2, t3, He, HT, nz, Nat.le_trans I.sz hsz⟩
/-- raised in this body -/
theorem risen_xe (I : Inv X pins σ H s) (x : XeIs X E) (r : Risen H X.s₀.heap s.heap e cls dc) (hE : E cls dc H) : X.xe (.ref e) s := by
  obtain ⟨oe, vs, he, hc, hdc, hd, h1, He, ne⟩ := r
  have x' := x
  obtain ⟨x1, x2, x3, x4⟩ := x'
  rw [x1]
  have fr := I.ok.frames
  have st := I.stack
  rw [x2] at fr st
  exact leave_first fr st x3 he hd h1 fun h' G => gone_cx I x G hc hdc (Array.getElem?_eq_some_iff.mp h1).1 He ne (fun b hb => absurd hb (by simp)) (Nat.ne_of_gt (Heap.lt_size he)) (Nat.le_refl _) hE
/-- come from a callee -/
theorem fly_xe (I : Inv X pins σ H s) (x : XeIs X E) (r : Fly H X.s₀.heap s.heap e cls dc) (hE : E cls dc H) : X.xe (.ref e) s := by
  obtain ⟨oe, vs, T, oT, ts, he, hc, hdc, hd, h1, hTe, hT, dT, h3, He, HT, ne, nT⟩ := r
  have x' := x
  obtain ⟨x1, x2, x3, x4⟩ := x'
  rw [x1]
  have fr := I.ok.frames
  have st := I.stack
  rw [x2] at fr st
  refine leave_next fr st x3 he hd h1 hT dT h3 hTe fun h' G => gone_cx I x G hc hdc (Array.getElem?_eq_some_iff.mp h1).1 He ne (fun b hb => ?_) (Nat.ne_of_gt (Heap.lt_size he)) (Nat.le_refl _) hE
  rw [List.mem_singleton] at hb
  subst hb
  exact ⟨HT, nT⟩
/-- an exception of a callee goes on to the caller -/
theorem pass1 (x : XeIs X E) : Passes (CX1 X.prog X.w) X E := by
  intro pins σ H s u s' I h
  obtain ⟨e, cls, dc, H', rfl, os, bare, un, hok, fl, hE⟩ := h
  have I' := I.call' os un hok bare (ch := []) (fun b z => absurd z (by simp))
  obtain ⟨oe, vs, T, oT, ts, he, hc, hdc, hd, h1, hTe, hT, dT, h3, He, HT, ne, nT⟩ := fl
  exact fly_xe I' x ⟨oe, vs, T, oT, ts, he, hc, hdc, hd, h1, hTe, hT, dT, h3, He, HT, Nat.le_trans I.sz ne, Nat.le_trans I.sz nT⟩ hE
/-- .. and a loop lets it by -/
theorem XeIs.own (x : XeIs X E) : PassesOwn (model X.prog X.w) X.A X.env X.xe := by
  rw [x.1]
  exact PassesOwn.leaving
end
end L2

/-! Defs that may raise: their promises, their calls. -/
namespace L2
open PySem PySem.Spec PyProof.Rows
/-- what a def that may raise promises -/
def HasX (P : Program) (w : World) (K : PySem.W.Frag) (mg : Str → Option Value) (base : Heap) (x : Str) (ps : List Str) (k : Nat) (sp : Sp) : Prop :=
  ∃ (f : Addr) (fd : FuncData), mg x = some (.ref f) ∧ PySem.W.keepIn K (.ref f) = true ∧ (∃ oc od osl, K.lookup f = some ⟨oc, od, .func fd, osl⟩) ∧ (∀ us : List Value, us.length = ps.length → bindArgs fd ⟨us, []⟩ = pure (ps.zip us)) ∧ FnOk P w K mg base (CX1 P w) k f fd ps sp
section
variable {P : Program} {w : World} {K : PySem.W.Frag} {mg : Str → Option Value} {base : Heap}
theorem Df.hasX {x : Str} {st : Stmt} {N ps : List Str} {k : Nat} {sp : Sp} (D : Df K mg x st ps) (S : FnScope N ps (defScope st)) (len : ∀ vs H Q E, sp vs H Q E → vs.length = ps.length)
    (body : ∀ (f : Addr) (cdv : Value) (A : Around) (outer : List Env) (s : Shared) (H : Hp) (vs : List V) (Q : VK) (E : XK), Room k (A.deeper (envOfC x (defScope st) s.heap.objs.size f cdv)) → sp vs H Q E →
      ∃ t, PSs (cxOf (CX1 P w) P w K mg base N x (defScope st) f cdv A outer s H E) (defBody st) t ∧ t { nx := fun _ H' => Q .non H', rt := Q } (start N vs) H) : HasX P w K mg base x ps (k + 1) sp := by
  obtain ⟨f, fd, F, a, b⟩ := D
  obtain ⟨oc, od, kV, doc, pm, an, cdv, ct, osl, e, lk, hcd⟩ := id F.ex
  subst e
  exact ⟨f, _, a, F.kp, ⟨oc, od, osl, lk⟩, b, fn_of lk hcd S len (body f cdv)⟩
end
section
variable {X : Cx} {k : Nat} {ps : List Str} {sp : Sp} {E : XK} {C : Addr} {m x : Str} {p pos apos : Pos} {o e : Expr} {es : List Expr} {t : TA} {ta : TE}
theorem pe_fnX (F : HasX X.prog X.w X.K X.mg X.base x ps k sp) (xe : XeIs X E) (hr : Room k X.A) (hg : Gl X x) (ha : PA X (e :: es) t) (hdb : (x == ("__debug__" : Str)) = false := by decide)
    (he : starEach (e :: es) X.env = (false, eval e X.env) :: starEach es X.env := by rfl) (hpl : (backTo pos (starEach es X.env)).any (·.1) = false := by rfl) : PE X (.Call (.Name x p) (e :: es) [] pos) (tCall sp [] E t) := by
  obtain ⟨f, fd, a, kp, _, b, G⟩ := F
  exact pe_call G hr hg a kp (.all b) .nil (pass1 xe) ha hdb he hpl
end
end L2

/-! ValueError's own __init__, called on an exception of ours. -/
namespace L2
open PySem PySem.Spec PyProof.Rows
section
variable {prog : Program} {w : World} {A : Around} {E : Value → Shared → Prop} {h : Heap} {g : Array GenState} {d : Drawn} {t : Nat} {os : OsState} {C : Addr} {bm : List Value}
theorem check_init {M : Model} {Q : Unit → Shared → Prop} {e : Addr} {oe : Obj} {us : List Value} (U : UnderV bm) (x : XObj h C bm) (he : h.get? e = some oe) (hc : oe.cls = .ref C) (k : Q () { heap := h, gens := g, drawn := d, toks := t, os := os }) :
    wpAny M A (checkBuiltinCall "ValueError.__init__" ⟨.ref e :: us, []⟩) Q E { heap := h, gens := g, drawn := d, toks := t, os := os } := by
  obtain ⟨a1, a2, a3, a4, a5, a6, a7, a8, a9, b1, b2, b3, b4, b5, b6, o⟩ := x
  have F := PySem.F.excBase_ValueError
  have c1 := has_own (C := C) U.v
  have hs := F.noStar
  simp only [checkBuiltinCall, F.initKind, F.initSplit, F.initRow]
  repeat (first
    | (with_reducible refine wpAny_loadPart_at he ?_; rw [hc])
    | with_reducible refine wpAny_loadPart_at o ?_
    | (with_reducible refine wpAny_isSubtype_exc o ?_; rw [c1])
    | wp_step)
  refine wpAny_onRaise ?_
  have st : ∀ (a b : String) (n : Nat), Bind.check ⟨.positional, "*", "ValueError", .self, [⟨"args", .varPos, false⟩]⟩ a b n (List.map (fun x => x.fst) ({ pos := Value.ref e :: us } : Args).kw) = pure () := fun a b n => check_star_args _ _ _ _ _ _
  rw [st]
  exact wpAny_pure k
theorem vinit {Q : Value → Shared → Prop} {e t0 : Addr} {oe : Obj} {vs : Array Value} {us : List Value} (U : UnderV bm) (x : XObj h C bm) (hz : us.length ≤ sizeLine) (he : h.get? e = some oe) (hc : oe.cls = .ref C) (hd : oe.data = .fields vs) (h0 : vs[0]? = some (.ref t0))
    (k : ∀ h', (∀ b o, b ≠ e → h.get? b = some o → h'.get? b = some o) → h'.get? e = some { oe with data := .fields (vs.setIfInBounds 0 (.ref h.objs.size)) } → Q .none { heap := h', gens := g, drawn := d, toks := t, os := os }) :
    wpAny (model prog w) A (call (.builtin "ValueError.__init__") (.ref e :: us)) Q E { heap := h, gens := g, drawn := d, toks := t, os := os } := by
  have F := PySem.F.excBase_ValueError
  refine wpAny_call (codeAny_call_builtin F.init.plain F.initEntry (check_init U x he hc ?_))
  unfold Builtin.«BaseException.__init__»
  wp_walk
  rw [hd]
  refine wpAny_pure ?_
  rw [h0]
  refine wpAny_pure (wpAny_bind ?_)
  have he2 := Heap.get?_push_of_some (h := h) { cls := .type "tuple", data := .seq us.toArray } he
  have z0 := (Array.getElem?_eq_some_iff.mp h0).1
  refine wpAny_setField he2 hd z0 ?_
  have e3 := Heap.get?_update_self (Obj.mapFields (·.setIfInBounds 0 (Value.ref h.objs.size))) he2 (Obj.isFreed_of_fields (Obj.data_mapFields hd _))
  rw [map_fields hd] at e3
  have go := k _ (fun b o hb q => (Heap.get?_update_other _ _ (Ne.symm hb)).trans (Heap.get?_push_of_some _ q)) e3
  wp_walk
  exact go
end
end L2

/-! An attribute laid on an exception that has no dict yet. -/
namespace L2
open PySem PySem.Spec PyProof.Rows
def onlyV : List Value → Bool
  | [.type a, .type b, .type c, .type d] => a == "ValueError" && (b == "Exception" && (c == "BaseException" && d == "object"))
  | .ref _ :: r => onlyV r
  | _ => false
theorem onlyV_cases : ∀ {l : List Value}, onlyV l = true → l = [.type "ValueError", .type "Exception", .type "BaseException", .type "object"] ∨ ∃ c r, l = .ref c :: r ∧ onlyV r = true
  | [.type a, .type b, .type c, .type d], e => by
    simp only [onlyV, Bool.and_eq_true, beq_iff_eq] at e
    obtain ⟨rfl, rfl, rfl, rfl⟩ := e
    exact .inl rfl
  | .ref c :: r, e => .inr ⟨c, r, rfl, by unfold onlyV at e; exact e⟩
theorem refuse_v (self : Value) : ∀ {l : List Value}, onlyV l = true → refuseLoop self "__setattr__" l = pure ()
  | [], e => by cases e
  | v :: r, e => by
    rcases onlyV_cases e with h | ⟨c, r', h, e'⟩
    · rw [h]; exact PySem.F.store_ValueError.passes self
    · cases h
      rw [refuseLoop_ref]
      exact refuse_v self e'
theorem onlyV_has : ∀ {l : List Value}, onlyV l = true → l.contains (.type "object") = true
  | [], e => by cases e
  | v :: r, e => by
    rcases onlyV_cases e with h | ⟨c, r', h, e'⟩
    · rw [h]; decide +kernel
    · cases h
      rw [List.contains_cons, onlyV_has e', Bool.or_true]
def onlyVIn (K : PySem.W.Frag) (C : Addr) : Bool := (PySem.W.clsIn K C).any fun cd => onlyV cd.mro
/-- what of the text an exception's class must have -/
structure XCls (K : PySem.W.Frag) (C : Addr) : Prop where
  hd : PySem.W.hasDictIn K C = true
  po : onlyVIn K C = true
  sa : PySem.W.findIn K (.ref C) "__setattr__" = some (some (.builtin "object.__setattr__"))
section
variable {prog : Program} {w : World} {A : Around} {E : Value → Shared → Prop} {R : Result → Shared → Prop} {s : Shared} {K : PySem.W.Frag} {x C : Addr} {name : Str} {v : Value}
theorem osa_openV {ox : Obj} {od : Option Obj} {tk : Tok} {r : Option Value} (X : K.In s.heap) (I : PySem.W.InstAt s.heap x ox C od) (hp : (PySem.W.clsIn K C).any (fun cd => onlyV cd.mro) = true) (ht : PySem.W.takerIn K C name = some r)
    (h : ∀ b, wpAny (model prog w) A.in1 (match r with | some a => Builtin.ObjectAttr.setByDescriptor a (.ref x) v | none => Builtin.ObjectAttr.storeInOwnDict (.ref x) (.ref C) (.str name tk) name v b)
      (fun fin s' => match fin with | .done f => R (.ok f) s' | .again c' => c'.quiet = true ∧ codeAny (model prog w) A c' R s') (fun e s' => R (.error e) s') s) :
    codeAny (model prog w) A (.call (.builtin "object.__setattr__") ⟨[.ref x, .str name tk, v], []⟩) R s := by
  have SF := PySem.F.store_object
  obtain ⟨cd, hc, ho⟩ := PySem.W.any_some hp
  have ne : cd.mro.isEmpty = false := by cases q : cd.mro with | nil => rw [q] at ho; cases ho | cons _ _ => rfl
  have sub : PySem.W.Looks (model prog w) s.heap (isInstance (.ref x) (.type "object")) true := I.type.andThen (PySem.W.looks_mroIn X (by unfold PySem.W.mroIn; rw [hc, Option.bind_some, if_neg (by rw [ne]; decide), onlyV_has ho]))
  refine codeAny_call_builtin SF.slot.plain SF.entry (@PySem.W.check_slot (model prog w) _ _ s "object.__setattr__" "object" "__setattr__" (.ref x) [.str name tk, v] [] _ SF.kind SF.split sub (SF.args (.ref x) (.str name tk) v) ?_)
  obtain ⟨attr, ha, hr⟩ := Option.bind_eq_some_iff.mp ht
  have hm : PySem.W.Looks (model prog w) s.heap (mroOf (.ref C)) cd.mro := (PySem.W.looks_clsIn X hc).andThen .now
  have L3 : PySem.W.Looks (model prog w) s.heap (Builtin.ObjectAttr.storeTaker? attr) r := by
    cases attr with
    | none => cases hr; exact .now
    | some a =>
      obtain ⟨b, hb, rfl⟩ := Option.map_eq_some_iff.mp hr
      refine (PySem.W.looks_takesIn X hb).andThen ?_
      cases b <;> exact .now
  rw [PySem.W.osa_eq, refuse_eq]
  refine wpAny_bind (wpAny_bind (I.type.here (wpAny_bind (hm.here ?_))))
  rw [refuse_v _ ho]
  refine wpAny_pure (wpAny_bind (I.type.here (wpAny_bind ((PySem.W.looks_findIn X ha).here (wpAny_bind (L3.here ?_))))))
  exact h _
/-- the first attribute of an exception: its dict is made -/
theorem xset {oe : Obj} {vs : Array Value} {Q : Unit → Shared → Prop} (X : K.In s.heap) (he : s.heap.get? x = some oe) (hcl : oe.cls = .ref C) (hdn : oe.dict = none) (hdt : oe.data = .fields vs) (c : XCls K C) (ht : PySem.W.takerIn K C name = some none)
    (h : ∀ h' tk, (∀ b o, b ≠ x → s.heap.get? b = some o → h'.get? b = some o) → h'.get? x = some { oe with dict := some s.heap.objs.size } → h'.Ns1 s.heap.objs.size (fun y => if y = name then some v else none) → Q () { s with heap := h', toks := tk }) :
    wpAny (model prog w) A (setAttr (.ref x) name v) Q E s := by
  have J : PySem.W.InstAt s.heap x oe C none := ⟨he, hcl, by unfold PySem.W.notCls; rw [hdt], by rw [hdn]; trivial⟩
  refine PySem.W.set_plain X J c.sa (osa_openV (s := { s with toks := s.toks + 1 }) (r := none) X J c.po ht fun b => ?_)
  obtain ⟨cd, hc, hd'⟩ := PySem.W.any_some c.hd
  obtain ⟨oc, od, odt, osl⟩ := oe
  dsimp only at hcl hdn hdt
  subst hcl hdn hdt
  refine wpAny_bind (wpAny_pure (wpAny_bind (wpAny_bind (wpAny_loadPart he (wpAny_bind (PySem.W.Looks.here (s := { s with toks := s.toks + 1 }) (PySem.W.looks_clsIn X hc) ?_))))))
  rw [hd']
  have hx₁ : (s.heap.push { cls := .type "dict", data := .dict #[] }).get? x = some { cls := Value.ref C, data := Data.fields vs, slots := osl } := Heap.get?_push_of_some _ he
  have hxs : x ≠ s.heap.objs.size := Nat.ne_of_lt (Heap.lt_size he)
  rw [if_neg (by decide)]
  show wpAny (model prog w) _ (if (!true || !typeHasDict (Value.ref C)) = true then pure none else _) _ _ _
  rw [if_neg (by simp [typeHasDict])]
  refine wpAny_bind (wpAny_alloc' ?_)
  refine wpAny_bind (wpAny_update' hx₁ ?_)
  refine wpAny_pure ?_
  have hgd : ((s.heap.push { cls := .type "dict", data := .dict #[] }).update x fun o => { cls := o.cls, dict := some s.heap.objs.size, data := o.data, slots := o.slots }).get? s.heap.objs.size
      = some { cls := .type "dict", data := .dict #[] } :=
    (Heap.get?_update_ne _ _ _ _ hxs.symm).trans (Heap.get?_push_at rfl rfl)
  have hnd : ((s.heap.push { cls := .type "dict", data := .dict #[] }).update x fun o => { cls := o.cls, dict := some s.heap.objs.size, data := o.data, slots := o.slots }).Ns s.heap.objs.size (fun _ => none) :=
    ⟨_, #[], _, hgd, rfl, fun e he => absurd he (by simp), fun _ => rfl⟩
  show wpAny _ _ (Builtin.ObjectAttr.storeInDict s.heap.objs.size (.str name s.toks) name v) _ _ _
  unfold Builtin.ObjectAttr.storeInDict Builtin.ObjectAttr.newKeyGuard
  refine wpAny_bind (wpAny_pure (wpAny_bind (wpAny_nsSet1 (Heap.Ns1.of_empty hnd) fun h' hn' hs => ?_)))
  obtain ⟨oD, esD, epD, hoD, hdD, hcD⟩ := hn'.count (Within.cons name v Within.nil)
  refine wpAny_bind (wpAny_lookBehind hoD (by rw [hdD]; exact pastItsLine_dict (Nat.le_trans hcD (by rw [List.length_cons, List.length_nil, sizeLine_eq]; omega))) ?_)
  refine wpAny_pure (h h' _ (fun b o hb q => ?_) ?_ hn')
  · exact (hs.2 b (Nat.ne_of_lt (Heap.lt_size q))).trans ((Heap.get?_update_ne _ _ _ _ hb).trans (Heap.get?_push_of_some _ q))
  · exact (hs.2 x hxs).trans (Heap.get?_update_self _ hx₁ rfl)
end
end L2

/-! An exception that is being made: tracked; its first attribute. -/
namespace L2
open PySem PySem.Spec PyProof.Rows
/-- an exception not yet raised: of the class at C, its dict dc -/
def excO (e C : Addr) (dc : Option Addr) : HO := .ext fun h => ∃ oe vs t0, h.get? e = some oe ∧ oe.cls = .ref C ∧ oe.dict = dc ∧ oe.data = .fields vs ∧ vs[0]? = some (.ref t0) ∧ vs[1]? = some .none
section
variable {X : Cx} {pins : List (Addr × Obj)} {σ : St} {H : Hp} {s : Shared} {a C : Addr} {dc : Option Addr} {f : Str} {A : Around} {E : Value → Shared → Prop}
theorem exc_ok {P : Program} {w : World} {h : Heap} {oe : Obj} {vs : Array Value} {t0 : Addr} (h1 : h.get? a = some oe) (h2 : oe.cls = .ref C) (h3 : oe.dict = dc) (h4 : oe.data = .fields vs) (h5 : vs[0]? = some (.ref t0)) (h6 : vs[1]? = some .none) : ObjOk P w H h a (excO a C dc) :=
  ⟨⟨oe, vs, t0, h1, h2, h3, h4, h5, h6⟩, ⟨oe, h1⟩, fun g1 g2 ⟨oe', vs', t0', q1, q2⟩ k => ⟨oe', vs', t0', k _ q1, q2⟩⟩
theorem xsetattr_ok {y : V} {u : Value} {Q : Unit → Shared → Prop} (I : Inv X pins σ H s) (e : H a = some (excO a C none)) (c : XCls X.K C) (n : NoAttr X.K C f) (ry : RelV y u)
    (h : ∀ d s', H d = none → Inv X pins σ (upd (upd H d (.xd [(f, y)])) a (excO a C (some d))) s' → Q () s') : wpAny (model X.prog X.w) A (setAttr (.ref a) f u) Q E s := by
  obtain ⟨⟨oe, vs, t0, h1, h2, h3, h4, h5, h6⟩, _, _⟩ := (show ObjOk X.prog X.w H s.heap a (excO a C none) from I.hok a _ e)
  refine xset I.kIn h1 h2 h3 h4 c n.taker fun h' tk k hx hns => ?_
  have hd := I.hok.fresh (Nat.le_refl s.heap.objs.size)
  have hne : s.heap.objs.size ≠ a := Nat.ne_of_gt (Heap.lt_size h1)
  have fr : oe.isFreed = false := Obj.isFreed_of_fields h4
  have u1 : (h'.update a fun _ => oe).get? a = some oe := Heap.get?_update_self _ hx fr
  have u2 : ∀ b, b ≠ a → (h'.update a fun _ => oe).get? b = h'.get? b := fun b hb => Heap.get?_update_other _ _ (Ne.symm hb)
  have I1 := I.laid (a := s.heap.objs.size) (o := .xd [(f, y)]) (h' := h'.update a fun _ => oe) (t' := tk) (fun b o q => by
    by_cases hb : b = a
    · subst hb
      rw [h1] at q
      cases q
      exact u1
    · rw [u2 b hb]
      exact k b o hb q) (Nat.le_refl _) ⟨_, hns.at fun o q => by rw [u2 _ hne]; exact q, fun g => by
        by_cases hg : g = f
        · rw [if_pos hg]
          subst hg
          rw [List.lookup_cons, beq_self_eq_true]
          exact ry
        · rw [if_neg hg, List.lookup_cons, beq_eq_false_iff_ne.mpr hg]
          exact True.intro⟩
  have I2 := I1.write (x := a) (e := a) (o := excO a C (some s.heap.objs.size)) (h' := h') (t' := tk) (by rw [upd_ne hne.symm, e]; exact True.intro) (.inl rfl) (fun b o hb q => by rw [u2 b hb] at q; exact q) ⟨_, hx⟩ (exc_ok hx h2 rfl h4 h5 h6)
  exact h _ _ hd I2
end
end L2

/-! Rules: the base's __init__ called by the class's name on an exception; its first attribute laid. -/
namespace L2
open PySem PySem.Spec PyProof.Rows
/-- what of the text the base class must have: D.__init__ is ValueError's -/
structure XBase (K : PySem.W.Frag) (D : Addr) : Prop where
  rd : PySem.W.readsIn K D (.type "type") = true
  ga : PySem.W.specialIn K (.ref D) "__getattribute__" = some (some (.builtin "type.__getattribute__"))
  fc : PySem.W.findCls K (.ref D) (.type "type") "__init__" = some (.val (.builtin "ValueError.__init__"))
/-- the class's object, in the text -/
def XObjK (K : PySem.W.Frag) (C : Addr) (bm : List Value) : Prop := ∃ nm q N bs hdct sn sub ab col dd k0 k1 k2 k3 k5, K.lookup C = some (excClassObj nm q C N bs bm hdct sn sub ab col dd k0 k1 k2 k3 k5 "ValueError.__new__")
theorem XObjK.in {K : PySem.W.Frag} {C : Addr} {bm : List Value} {h : Heap} (x : XObjK K C bm) (X : K.In h) : XObj h C bm := by
  obtain ⟨a1, a2, a3, a4, a5, a6, a7, a8, a9, b1, b2, b3, b4, b5, b6, e⟩ := x
  exact ⟨a1, a2, a3, a4, a5, a6, a7, a8, a9, b1, b2, b3, b4, b5, b6, X _ _ e⟩
def tVinit (K : PySem.W.Frag) (t : TA) : TE := fun σ H Q => t σ H fun xs H1 => ∃ a C dc bm rest, xs = .ref a :: rest ∧ H1 a = some (excO a C dc) ∧ XObjK K C bm ∧ UnderV bm ∧ rest.length ≤ sizeLine ∧ Q .non H1
def sXFld (K : PySem.W.Frag) (ta tv : TE) (f : Str) : TS := fun D σ H => tv σ H fun y H1 => ta σ H1 fun x H2 => ∃ a C, x = .ref a ∧ H2 a = some (excO a C none) ∧ XCls K C ∧ NoAttr K C f ∧
  ∀ d, H2 d = none → D.nx σ (upd (upd H2 d (.xd [(f, y)])) a (excO a C (some d)))
theorem upd_id {H : Hp} {a : Addr} {o : HO} (h : H a = some o) : upd H a o = H := by
  funext b
  unfold upd
  by_cases e : b = a
  · rw [if_pos e, e, h]
  · rw [if_neg e]
section
variable {X : Cx} {o e value : Expr} {es : List Expr} {x f : Str} {p pos pos' apos : Pos} {ta tv : TE} {t : TA} {D : Addr}
theorem ps_xfld (ha : PE X o ta) (hv : PE X value tv) (hs : swapsWith value (some (.Attribute o f pos')) pos.line X.env = pure false) : PS X (.Assign [.Attribute o f pos'] value pos) (sXFld X.K ta tv f) := by
  intro pins s σ H D I h
  refine plainObj_wpAny_Assign_Attribute (thn (hv pins s σ H _ I h) fun u s1 ⟨y, H1, I1, ry, q⟩ => thn (ha pins s1 σ H1 _ I1 q) fun ov s2 hq0 => ?_) hs
  obtain ⟨x, H2, I2, rx, a, C, ex, ea, c, n, q2⟩ := hq0
  subst ex
  obtain rfl : ov = Value.ref a := rx
  exact xsetattr_ok I2 ea c n ry fun d s3 hd I3 => ⟨σ, _, I3, q2 d hd⟩
theorem vinit_ok {pins : List (Addr × Obj)} {s : Shared} {σ : St} {H : Hp} {a C : Addr} {dc : Option Addr} {bm : List Value} {us : List Value} {Q : VK} (I : Inv X pins σ H s) (e : H a = some (excO a C dc)) (xo : XObjK X.K C bm) (U : UnderV bm) (hz : us.length ≤ sizeLine) (q : Q .non H) :
    wpAny (model X.prog X.w) X.A (call (.builtin "ValueError.__init__") (.ref a :: us)) (EP X pins σ Q) X.xe s := by
  obtain ⟨⟨oe, vs, t0, h1, h2, h3, h4, h5, h6⟩, _, _⟩ := (show ObjOk X.prog X.w H s.heap a (excO a C dc) from I.hok a _ e)
  obtain ⟨hp, g, d, tk, os⟩ := s
  refine vinit U (xo.in I.kIn) hz h1 h2 h4 h5 fun h' k hx => ?_
  have z0 := (Array.getElem?_eq_some_iff.mp h5).1
  have I2 := I.write (x := a) (e := a) (o := excO a C dc) (h' := h') (t' := tk) (by rw [e]; exact True.intro) (.inl rfl) (fun b o hb z => k b o hb z) ⟨_, hx⟩ (exc_ok (t0 := hp.objs.size) hx h2 h3 rfl (by simp [z0]) (by rw [Array.getElem?_setIfInBounds_ne (by decide)]; exact h6))
  rw [upd_id e] at I2
  exact ⟨.non, H, I2, rfl, q⟩
theorem pe_vinit {pl : Sem Bool} (hg : Gl X x) (hm : X.mg x = some (.ref D)) (b : XBase X.K D) (ha : PA X (e :: es) t) (hdb : (x == ("__debug__" : Str)) = false := by decide)
    (hst : starEach (e :: es) X.env = (false, eval e X.env) :: starEach es X.env := by rfl) (hpl : (backTo pos (starEach es X.env)).any (·.1) = false := by rfl)
    (ht : eval (.Call (.Attribute (.Name x p) "__init__" apos) (e :: es) [] pos) X.env = (do
      let ov ← eval (.Name x p) X.env
      standAt apos.atName
      let (f, first) ← holding [ov] (getMethod ov "__init__" pl)
      callWith pos f first (backTo pos (starEach (e :: es) X.env)) (backToKw pos (keywordEach [] X.env))) := by rfl) :
    PE X (.Call (.Attribute (.Name x p) "__init__" apos) (e :: es) [] pos) (tVinit X.K t) := by
  intro pins s σ H Q I h
  refine PySem.W.methodCall_KW (pl := pl) (ld_glob I hg hm ?_ hdb) ht
  refine PySem.W.method_cls I.kIn b.ga (PySem.W.cls_value I.kIn b.rd b.fc (by decide +kernel) ?_)
  have hA := ha pos pins _ σ H _ (I.tok (s.toks + 1)) h
  rw [hst] at hA ⊢
  refine Calls.callWith_builtin (by show (false || (backTo pos (starEach es X.env)).any (·.1)) = false; rw [hpl] <;> rfl) (Calls.evalArgs_plain ?_)
  refine thn hA fun us s2 hq0 => ?_
  obtain ⟨vs, H2, I2, r2, a, C, dc, bm, rest, ev, ea, xo, U, hz, q⟩ := hq0
  subst ev
  cases r2 with
  | cons r1 r2 =>
    cases r1
    exact vinit_ok I2 ea xo U (by rw [← r2.length]; exact hz) q
end
end L2

/-! The statement raise C(a, ..), C an own class under ValueError whose __init__ is a def of the text. -/
namespace L2
open PySem PySem.Spec PyProof.Rows
def del (H : Hp) (e : Addr) : Hp := fun b => if b = e then none else H b
theorem del_same {H : Hp} {e : Addr} : del H e e = none := by unfold del; rw [if_pos rfl]
theorem del_ne {H : Hp} {e b : Addr} (h : b ≠ e) : del H e b = H b := by unfold del; rw [if_neg h]
/-- what a class of exceptions must have: its __init__ is the def at f -/
structure XMk (K : PySem.W.Frag) (C f : Addr) (bm : List Value) : Prop where
  obj : XObjK K C bm
  un : UnderV bm
  init : PySem.W.findIn K (.ref C) "__init__" = some (some (.ref f))
  fn : PySem.W.isFn K (.ref f) = true
section
variable {X : Cx} {pins : List (Addr × Obj)} {σ : St} {H : Hp} {s : Shared}
theorem Inv.drop {e : Addr} {φ : Heap → Prop} (I : Inv X pins σ H s) (he : H e = some (.ext φ)) : Inv X pins σ (del H e) s := by
  refine I.un (h' := s.heap) (t' := s.toks) ⟨fun _ _ q _ _ _ => q, fun b o q _ _ _ => ⟨o.slots, q⟩, fun b o _ n _ => ?_, fun b o q _ => ⟨o, q⟩, fun b xs q => ?_, fun b o u q => ?_, fun b ps q => ⟨#[], ?_⟩⟩ fun a o q => ?_
  · by_cases z : b = e
    · rw [z]; exact del_same
    · rw [del_ne z]; exact n
  · rw [del_ne (fun z => by rw [z, he] at q; cases q)]; exact q
  · rw [del_ne (fun z => by rw [z, he] at q; cases q)]; exact q
  · rw [del_ne (fun z => by rw [z, he] at q; cases q), Array.append_empty]; exact q
  · have na : a ≠ e := fun z => by rw [z, del_same] at q; cases q
    rw [del_ne na] at q
    refine (I.hok a o q).stay (fun _ _ _ z => z) (fun b z => ?_) fun b xs z => ?_
    · rw [del_ne (fun w => by rw [w, he] at z; cases z)]; exact z
    · rw [del_ne (fun w => by rw [w, he] at z; cases z)]; exact z
end
def sRaise (C : Addr) (sp : Sp) (dvs : List V) (E E1 : XK) (t : TA) : TS := fun _ σ H => t σ H fun vs H1 => ∀ e, H1 e = none → sp (.ref e :: (vs ++ dvs)) (upd H1 e (excO e C none)) (fun v H2 => v = .non ∧ ∃ dc, H2 e = some (excO e C dc) ∧ E (.ref C) dc (del H2 e)) E1
section
variable {X : Cx} {CX : CXT} {k : Nat} {f C : Addr} {fd : FuncData} {ps : List Str} {sp : Sp} {dvs : List V} {ds : List Value} {E E1 : XK} {x : Str} {p pos cpos : Pos} {e : Expr} {es : List Expr} {t : TA} {bm : List Value}
theorem ps_raise (M : XMk X.K C f bm) (F : FnOk X.prog X.w X.K X.mg X.base CX k f fd ps sp) (hr : Room (k + 1) X.A) (xe : XeIs X E) (hx : Passes CX X E1) (hg : Gl X x) (hm : X.mg x = some (.ref C)) (hb : Binds X.K fd ps ds) (hd : Vals dvs ds) (hps : ps.length ≤ 1000) (ha : PA X (e :: es) t)
    (hdb : (x == ("__debug__" : Str)) = false := by decide) (he : starEach (e :: es) X.env = (false, eval e X.env) :: starEach es X.env := by rfl) (hpl : (backTo cpos (starEach es X.env)).any (·.1) = false := by rfl) :
    PS X (.Raise (some (.Call (.Name x p) (e :: es) [] cpos)) none pos) (sRaise C sp dvs E E1 t) := by
  intro pins s σ H D I h
  refine raise_call (vI := .ref f) M.un hr.hd he hpl (ld_glob I hg hm ⟨rfl, thn (ha cpos pins s σ H _ I h) fun us s2 hq0 => ?_⟩ hdb)
  obtain ⟨vs, H1, I1, r, q⟩ := hq0
  have fr : ∀ a, s2.heap.objs.size ≤ a → H1 a = none := fun a h => I1.hok.fresh h
  have q0 := q _ (fr _ (Nat.le_refl _))
  have l0 := F.len _ _ _ _ q0
  rw [List.length_cons, List.length_append] at l0
  have rl := r.length
  refine ⟨by rw [sizeLine_eq]; omega, M.obj.in I1.kIn, PySem.W.looks_findIn I1.kIn M.init, fun self => PySem.W.bind_fn I1.kIn self (beq_iff_eq.mp M.fn), fun h' ex hs hmd => ?_⟩
  have hq := q ex (fr ex hs)
  obtain ⟨t0, h1, _, _⟩ := hmd.there
  have I2 := I1.laid (a := ex) (o := excO ex C none) (h' := h') (t' := s2.toks) hmd.keeps hs (exc_ok h1 rfl rfl rfl rfl rfl)
  have r2 : Vals (V.ref ex :: (vs ++ dvs)) (Value.ref ex :: (us ++ ds)) := .cons rfl (r.append hd)
  have hl : (Value.ref ex :: us ++ ds).length = ps.length := by
    have e := r2.length
    rw [F.len _ _ _ _ hq] at e
    exact e.symm
  refine wpAny_call (codeAny_mono (F.run _ X.stack _ _ ⟨Value.ref ex :: us, []⟩ (Value.ref ex :: (us ++ ds)) _ _ E1 (hr.make C us []) (I2.env0.make C us []) (hb _ (Value.ref ex :: us) I2.kIn hl) r2 hq) fun r s' hq' => ?_)
  cases r with
  | error e => exact hx pins σ _ _ e s' I2 hq'
  | ok fl =>
    cases fl with
    | ret u =>
      obtain ⟨v, H', I3, rv, ev, dc, he', hE⟩ := I2.after hq'
      subst ev
      obtain ⟨⟨oe, ws, t1, g1, g2, g3, g4, g5, g6⟩, _, _⟩ := (show ObjOk X.prog X.w H' s'.heap ex (excO ex C dc) from I3.hok ex _ he')
      have I4 := I3.drop he'
      exact ⟨rv, oe, ws, M.obj.in I3.kIn, g1, g2, g4, g6, risen_xe I4 xe ⟨oe, ws, g1, g2, g3, g4, g6, del_same, Nat.le_trans I1.sz hs⟩ hE⟩
    | next => exact False.elim hq'
    | brk => exact False.elim hq'
    | cont => exact False.elim hq'
end
end L2

/-! An exception of a callee, met by a try: its entry is laid, the locals stand. -/
namespace L2
open PySem PySem.Spec PyProof.Rows
section
variable {M : Model} {A : Around} {E : Value → Shared → Prop} {s : Shared}
/-- as leave_next, without the going -/
theorem meet_next {base : Heap} {env : Env} {outer : List Env} {L e T : Addr} {oe oT : Obj} {vs ts : Array Value} {Q : Unit → Shared → Prop}
    (hfr : A.frames = some (env :: outer)) (hl : s.heap.FunFrames base (env :: outer)) (hf : env.frame = some L) (he : s.heap.get? e = some oe) (hd : oe.data = .fields vs) (h1 : vs[1]? = some (.ref T))
    (hT : s.heap.get? T = some oT) (dT : oT.data = .fields ts) (h3 : ts[3]? = some .none) (ne : T ≠ e)
    (k : ∀ h', Gone (frs (env :: outer)) e s.heap.objs.size [T] oe vs s.heap h' → Q () { s with heap := h' }) :
    wpAny M A (noteFrame (.ref e) env) (fun _ s' => wpAny M A (setFlight (.ref e) none) Q E s') E s := by
  unfold noteFrame
  simp only [hf]
  refine wpAny_bind (wpAny_field he hd h1 ?_)
  rw [if_pos (show (Value.ref T != Value.none) = true from by simp)]
  refine wpAny_bind (wpAny_field hT dT h3 ?_)
  rw [if_neg (show ¬ ((Value.none == rawInt L) = true) from by simp [rawInt])]
  have z3 := (Array.getElem?_eq_some_iff.mp h3).1
  refine wpAny_bind (wpAny_setField hT dT z3 ?_)
  have oth : ∀ b, b ≠ T → (s.heap.update T (Obj.mapFields (·.setIfInBounds 3 Value.none))).get? b = s.heap.get? b := fun b hb => Heap.get?_update_other _ _ (Ne.symm hb)
  have self := Heap.get?_update_self (Obj.mapFields (·.setIfInBounds 3 Value.none)) hT (Obj.isFreed_of_fields (Obj.data_mapFields dT _))
  have nf : T ∉ frs (env :: outer) := fun hm => by
    obtain ⟨_, o, ho, hn⟩ := hl.mem hm
    rw [hT] at ho
    cases ho
    exact hn ts dT
  have sz : (s.heap.update T (Obj.mapFields (·.setIfInBounds 3 Value.none))).objs.size = s.heap.objs.size := Heap.size_after_update ..
  refine entry_new (s := { s with heap := s.heap.update T (Obj.mapFields (·.setIfInBounds 3 Value.none)) }) hfr (hl.of_keeps fun b o hb hn => ⟨o, (oth b fun z => ?_).trans hb, rfl⟩) hf ((oth e ne.symm).trans he) hd (Array.getElem?_eq_some_iff.mp h1).1 fun h' G => ?_
  · subst z
    rw [hT] at hb
    cases hb
    exact hn ts dT
  · have e1 : (s.heap.update T (Obj.mapFields (·.setIfInBounds 3 Value.none))).objs.size = s.heap.objs.size := sz
    have G := G
    dsimp only at G
    rw [e1] at G
    refine k h' ⟨fun b o hb hn hx q => G.keep b o hb hn (by simp) ((oth b fun z => hx (by simp [z])).trans q), fun b o hb q => G.slot b o hb ((oth b fun z => nf (z ▸ hb)).trans q), Heap.get?_none_of_le (Nat.le_refl _), G.exc, G.ent, fun b hb => ?_⟩
    rw [List.mem_singleton] at hb
    subst hb
    exact ⟨_, G.keep b _ ne nf (by simp) self⟩
end
/-- an exception that a try has met: of the class cls, its dict dc; its entry T -/
def Met (X : Cx) (pins : List (Addr × Obj)) (H : Hp) (h : Heap) (e : Addr) (cls : Value) (dc : Option Addr) : Prop :=
  ∃ (oe : Obj) (vs : Array Value) (T : Addr) (oT : Obj) (ts : Array Value), h.get? e = some oe ∧ oe.cls = cls ∧ oe.dict = dc ∧ oe.data = .fields vs ∧ vs[1]? = some (.ref T) ∧ T ≠ e ∧ h.get? T = some oT ∧ oT.data = .fields ts ∧ ts[3]? = some .none ∧ FpOk X pins H e ∧ FpOk X pins H T
section
variable {X : Cx} {pins : List (Addr × Obj)} {σ : St} {H : Hp} {s : Shared} {E : XK}
/-- a callee raised; the try's handlers are come to -/
theorem meet_ok {Q : Unit → Shared → Prop} {E' : Value → Shared → Prop} {u : Value} {s' : Shared} (I : Inv X pins σ H s) (x2 : X.stack = X.env :: X.outer) (x3 : X.env.frame = some X.env.locals) (h : CX1 X.prog X.w X.stack H s E u s')
    (k : ∀ e cls dc H' h', u = .ref e → Inv X pins σ H' { s' with heap := h' } → Met X pins H' h' e cls dc → E cls dc H' → Q () { s' with heap := h' }) :
    wpAny (model X.prog X.w) X.A (noteFrame u X.env) (fun _ s1 => wpAny (model X.prog X.w) X.A (setFlight u none) Q E' s1) E' s' := by
  obtain ⟨e, cls, dc, H', rfl, os, bare, un, hok, fl, hE⟩ := h
  have I' := I.call' os un hok bare (ch := []) (fun b z => absurd z (by simp))
  obtain ⟨oe, vs, T, oT, ts, he, hc, hdc, hd, h1, hTe, hT, dT, h3, He, HT, ne, nT⟩ := fl
  have fr := I'.ok.frames
  have st := I'.stack
  rw [x2] at fr st
  refine meet_next fr st x3 he hd h1 hT dT h3 hTe fun h' G => ?_
  have F1 : FpOk X pins H' e := I.fpOk ne He
  have F2 : FpOk X pins H' T := I.fpOk nT HT
  have sf : ∀ b ∈ frs (X.env :: X.outer), H' b = none := by
    have := I'.stkFree
    rw [x2] at this
    exact this
  have U : Un (frs X.stack) [e, T] H' H' s'.heap h' := by
    rw [x2]
    refine ⟨fun b o q n nf nx => G.keep b o (fun z => nx (by simp [z])) nf (fun z => nx (by rw [List.mem_singleton.mp z]; simp)) q, fun b o q n hb nx => G.slot b o hb q, fun b o q n _ => n, fun b o q nx => ?_, fun _ _ z => z, fun _ _ _ z => z, fun _ ps z => ⟨#[], by rw [Array.append_empty]; exact z⟩⟩
    by_cases hb : b ∈ frs (X.env :: X.outer)
    · obtain ⟨sl, z⟩ := G.slot b o hb q
      exact ⟨_, z⟩
    · exact ⟨o, G.keep b o (fun z => nx (by simp [z])) hb (fun z => nx (by rw [List.mem_singleton.mp z]; simp)) q⟩
  have hok' : HOk X.prog X.w H' h' := fun a o q => by
    refine (hok a o q).stay (fun b u hb z => ?_) (fun _ z => z) fun _ _ z => z
    have Hb : H' b ≠ none := by
      rcases hb with z | z
      · rw [z, q]; simp
      · rw [z]; simp
    exact G.keep b u (fun z => Hb (z ▸ He)) (fun z => Hb (sf b z)) (fun z => Hb (by rw [List.mem_singleton.mp z]; exact HT)) z
  have I2 : Inv X pins σ H' { s' with heap := h' } := I'.call' (s' := { s' with heap := h' }) (ch := [e, T]) rfl U hok' I'.bare fun b hb => by
    have F : FpOk X pins H' b := by
      rcases List.mem_cons.mp hb with z | z
      · rw [z]; exact F1
      · rw [List.mem_singleton.mp z]; exact F2
    exact ⟨F.2.2.2.1, F.2.1, F.2.2.2.2.1, F.2.2.2.2.2⟩
  obtain ⟨oT', ts', t1, t2, t3⟩ := G.ent
  have hTn : s'.heap.objs.size ≠ e := Nat.ne_of_gt (Heap.lt_size he)
  exact k e cls dc H' h' rfl I2 ⟨_, _, s'.heap.objs.size, oT', ts', G.exc, hc, hdc, rfl, by simp [(Array.getElem?_eq_some_iff.mp h1).1], hTn, t1, t2, t3, F1, I'.fpOk (Nat.le_refl _) (hok.fresh (Nat.le_refl _))⟩ hE
end
end L2

/-! Pieces of a handler: is the exception of the class, the name that goes, the exception taken into sight. -/
namespace L2
open PySem PySem.Spec PyProof.Rows
/-- what a class must have to be named by an except -/
structure XCatch (K : PySem.W.Frag) (D : Addr) : Prop where
  nt : PySem.W.instIn K (.ref D) (.type "tuple") = some false
  ty : PySem.W.isClsIn K D = true
  ex : PySem.W.mroIn K D (.type "BaseException") = some true
section
variable {M : Model} {A : Around} {E : Value → Shared → Prop} {s : Shared} {K : PySem.W.Frag} {e C D : Addr} {oe : Obj} {b : Bool}
theorem match_ok {Q : Bool → Shared → Prop} (X : K.In s.heap) (he : s.heap.get? e = some oe) (hc : oe.cls = .ref C) (cd : XCatch K D) (hs : PySem.W.mroIn K C (.ref D) = some b) (h : Q b s) : wpAny M A (excMatches (.ref e) (.ref D)) Q E s := by
  have L1 := PySem.W.looks_instIn (M := M) X cd.nt
  have L3 := PySem.W.looks_mroIn (M := M) X cd.ex
  have L4 := PySem.W.looks_mroIn (M := M) X hs
  have L5 : PySem.W.Looks M s.heap (typeOf (.ref e)) (.ref C) := hc ▸ (PySem.W.Looks.ld he).andThen .now
  unfold excMatches
  refine wpAny_bind (L1.here ?_)
  dsimp only
  rw [if_neg (by decide)]
  refine wpAny_bind (wpAny_pure ?_)
  simp only [List.forIn_cons, List.forIn_nil]
  have L6 : PySem.W.Looks M s.heap (isExcClass (.ref D)) true := by
    unfold isExcClass
    refine PySem.W.Looks.andThen (a := true) ?_ ?_
    · obtain ⟨c, hc⟩ := Option.isSome_iff_exists.mp cd.ty
      unfold PySem.W.clsIn at hc
      split at hc
      · rename_i hk
        exact (PySem.W.Looks.ld (part := _) (X _ _ hk)).andThen .now
      · cases hc
    · exact L3
  refine wpAny_bind (wpAny_bind (wpAny_bind (L6.here ?_)))
  rw [if_neg (by decide)]
  refine wpAny_pure (wpAny_pure (wpAny_bind (L5.here (wpAny_bind (wpAny_bind (wpAny_bind (L4.here ?_)))))))
  cases b with
  | true => rw [if_pos rfl]; exact wpAny_pure (wpAny_pure (wpAny_pure h))
  | false => rw [if_neg (by decide)]; exact wpAny_pure (wpAny_pure (wpAny_pure h))
end
section
variable {X : Cx} {pins : List (Addr × Obj)} {σ : St} {H : Hp} {s : Shared}
end
end L2

/-! The statement try .. except. -/
namespace L2
open PySem PySem.Spec PyProof.Rows
/-- inside a try's body; inside a handler's suite -/
def Cx.inTry (X : Cx) (pn : List (Addr × Obj)) (xe : Value → Shared → Prop) : Cx := { X with pn := pn, xe := xe }
def Cx.inSuite (X : Cx) (v : Value) (xe : Value → Shared → Prop) : Cx := { X with A := X.A.mark (some v), calm := false, xe := xe }
/-- this is a def's own body -/
structure XFn (X : Cx) : Prop where
  st : X.stack = X.env :: X.outer
  fr : X.env.frame = some X.env.locals
  ex : X.ex = []
/-- what a callee's exception must bring about where it comes to this body -/
def PassT (X : Cx) (Es : St → XK) : Prop := ∀ (pins : List (Addr × Obj)) (σ : St) (H : Hp) (s : Shared) (u : Value) (s' : Shared), Inv X pins σ H s → CX1 X.prog X.w X.stack H s (Es σ) u s' → X.xe u s'
abbrev TH := Ends → St → Addr → Option Addr → Hp → Prop
def PH (X : Cx) (hs : List ExceptHandler) (th : TH) : Prop :=
  ∀ (pins : List (Addr × Obj)) (s : Shared) (σ : St) (H : Hp) (D : Ends) (e C : Addr) (dc : Option Addr), Inv X pins σ H s → Met X pins H s.heap e (.ref C) dc → th D σ C dc H → wpAny (model X.prog X.w) X.A (handleBy (.ref e) X.env hs) (SP X pins D) X.xe s
def thNil : TH := fun _ _ _ _ _ => False
def thNo (K : PySem.W.Frag) (Dc : Addr) (ts : TS) (thr : TH) : TH := fun D σ C dc H => ∃ b, PySem.W.mroIn K C (.ref Dc) = some b ∧
  if b = true then ts D σ H else thr D σ C dc H
def sTry (tb : (St → XK) → TS) (th : TH) : TS := fun D σ H => tb (fun σ' cls dc H' => ∃ C, cls = .ref C ∧ th D σ' C dc H') D σ H
def tCallT (sp : Sp) (dvs : List V) (Es : St → XK) (t : TA) : TE := fun σ H Q => t σ H fun vs H1 => sp (vs ++ dvs) H1 Q (Es σ)
section
variable {X : Cx} {pins : List (Addr × Obj)} {σ : St} {H : Hp} {s : Shared}
theorem inv_suite {v : Value} {xe : Value → Shared → Prop} (I : Inv X pins σ H s) : Inv (X.inSuite v xe) pins σ H s :=
  ⟨⟨I.ok.mod, I.ok.kind, I.ok.glob, I.ok.blt, I.ok.above, I.ok.inj, I.ok.has, I.ok.cab, (fun z => absurd z Bool.false_ne_true), I.ok.frames, I.ok.stk, I.ok.exf, I.ok.bs, I.ok.bsz, I.ok.noex, I.ok.exfs, I.ok.funs, I.ok.frf⟩,
    I.os, I.bare, I.base, I.loc, I.cell, I.free, I.freeC, I.pin, I.hok, I.len⟩
theorem inv_unsuite {v : Value} {xe : Value → Shared → Prop} (ok : X.Ok) (I : Inv (X.inSuite v xe) pins σ H s) : Inv X pins σ H s := ⟨ok, I.os, I.bare, I.base, I.loc, I.cell, I.free, I.freeC, I.pin, I.hok, I.len⟩
theorem inv_try {xe : Value → Shared → Prop} (I : Inv X pins σ H s) : Inv (X.inTry (X.pn ++ pins) xe) [] σ H s :=
  ⟨⟨I.ok.mod, I.ok.kind, I.ok.glob, I.ok.blt, I.ok.above, I.ok.inj, I.ok.has, I.ok.cab, I.ok.hd, I.ok.frames, I.ok.stk, I.ok.exf, I.ok.bs, I.ok.bsz, I.ok.noex, I.ok.exfs, I.ok.funs, I.ok.frf⟩,
    I.os, I.bare, I.base, I.loc, I.cell, I.free, I.freeC, fun p hp => I.pin p ((List.mem_append.mp hp).elim id fun z => absurd z (by simp)), I.hok, I.len⟩
theorem inv_tried {pins' : List (Addr × Obj)} {xe : Value → Shared → Prop} (ok : X.Ok) (I : Inv (X.inTry (X.pn ++ pins) xe) pins' σ H s) : Inv X pins σ H s :=
  ⟨ok, I.os, I.bare, I.base, I.loc, I.cell, I.free, I.freeC, fun p hp => I.pin p (List.mem_append_left _ hp), I.hok, I.len⟩
end
section
variable {X : Cx} {CX : CXT} {k i : Nat} {f Dc : Addr} {ps : List Str} {sp : Sp} {x n : Str} {p pos hpos : Pos} {e : Expr} {es : List Expr} {t : TA} {Es : St → XK} {b₀ : Stmt} {suite body : List Stmt} {h₀ : ExceptHandler} {rest hs : List ExceptHandler} {ts : TS} {thr th : TH} {tb : (St → XK) → TS}
theorem pe_fnT (F : HasX X.prog X.w X.K X.mg X.base x ps k sp) (xe : PassT X Es) (hr : Room k X.A) (hg : Gl X x) (ha : PA X (e :: es) t) (hdb : (x == ("__debug__" : Str)) = false := by decide)
    (he : starEach (e :: es) X.env = (false, eval e X.env) :: starEach es X.env := by rfl) (hpl : (backTo pos (starEach es X.env)).any (·.1) = false := by rfl) : PE X (.Call (.Name x p) (e :: es) [] pos) (tCallT sp [] Es t) := by
  obtain ⟨f, fd, a, kp, _, b, G⟩ := F
  intro pins s σ H Q I h
  refine wpAny_Call_Name_kw (ld_glob I hg a ?_ hdb)
  refine PySem.W.callWith_K (h₀ := X.base) I.ok.mod.kin kp (thn (ha pos pins s σ H _ I h) fun us s1 ⟨vs, H1, I1, r, q⟩ => ⟨I1.kIn, ?_⟩) he hpl
  have r2 : Vals (vs ++ []) (us ++ []) := r.append .nil
  have hl : (us ++ []).length = ps.length := by rw [← r2.length]; exact G.len _ _ _ _ q
  refine wpAny_call (codeAny_mono (G.run X.A X.stack s1 H1 ⟨us, []⟩ (us ++ []) (vs ++ []) Q (Es σ) hr I1.env0 ((Binds.all b) s1 us I1.kIn hl) r2 q) fun r s' hq => ?_)
  cases r with
  | error e => exact xe pins σ H1 s1 e s' I1 hq
  | ok fl =>
    cases fl with
    | ret u => exact I1.after hq
    | next => exact False.elim hq
    | brk => exact False.elim hq
    | cont => exact False.elim hq
theorem ps_try (x : XFn X) (hb : ∀ pn xe (Es : St → XK), PassT (X.inTry pn xe) Es → PSs (X.inTry pn xe) body (tb Es)) (hh : PH X (h₀ :: hs) th) : PS X (.Try body (h₀ :: hs) [] [] pos) (sTry tb th) := by
  intro pins s σ H D I h
  refine wpAny_Try_except ?_
  refine wpAny_mono (hb (X.pn ++ pins) (fun e s₁ => wpAny (model X.prog X.w) X.A (noteFrame e X.env) (fun _ s₂ => wpAny (model X.prog X.w) X.A (setFlight e none) (fun _ s₃ => wpAny (model X.prog X.w) X.A (handleBy e X.env (h₀ :: hs)) (SP X pins D) X.xe s₃) X.xe s₂) X.xe s₁)
    (fun σ' cls dc H' => ∃ C, cls = .ref C ∧ th D σ' C dc H') (fun pins' σ' H' s' u s'' I' hcx => ?_) [] s σ H D (inv_try I) h) (fun fl s1 q => ?_) fun _ _ z => z
  · refine meet_ok (inv_tried I.ok I') x.st x.fr hcx fun e cls dc H2 h' hu I2 met hE => ?_
    subst hu
    obtain ⟨C, rfl, hth⟩ := hE
    exact hh pins _ σ' H2 D e C dc I2 met hth
  · cases fl with
    | next =>
      obtain ⟨σ', H', J, q⟩ := q
      exact wpAny_execs_nil ⟨σ', H', inv_tried I.ok J, q⟩
    | brk =>
      obtain ⟨σ', H', J, q⟩ := q
      exact ⟨σ', H', inv_tried I.ok J, q⟩
    | cont =>
      obtain ⟨σ', H', J, q⟩ := q
      exact ⟨σ', H', inv_tried I.ok J, q⟩
    | ret u =>
      obtain ⟨v, σ', H', J, r, q⟩ := q
      exact ⟨v, σ', H', inv_tried I.ok J, r, q⟩
theorem ph_nil : PH X [] thNil := fun _ _ _ _ _ _ _ _ _ _ h => h.elim
theorem ph_no (xf : XFn X) (hg : Gl X x) (hm : X.mg x = some (.ref Dc)) (cd : XCatch X.K Dc)
    (hsu : ∀ v xe, PSs (X.inSuite v xe) (b₀ :: suite) ts) (hr : PH X rest thr) (hdb : (x == ("__debug__" : Str)) = false := by decide) :
    PH X (.ExceptHandler (some (.Name x p)) none (b₀ :: suite) hpos :: rest) (thNo X.K Dc ts thr) := by
  intro pins s σ H D e C dc I met h
  obtain ⟨oe, vs, T, oT, tvs, he, hc, hdc, hd, h1, hTe, hT, dT, h3, F1, F2⟩ := met
  obtain ⟨b, hb, h⟩ := h
  refine wpAny_handleBy_cons (codeAny_handlers_test (ld_glob (X := X.inSuite (.ref e) X.xe) (inv_suite I) hg hm ?_ hdb)) (by intro q; cases q)
  refine match_ok (K := X.K) I.kIn he hc cd hb ?_
  cases b with
  | false =>
    rw [if_neg (by decide)] at h
    exact hr pins s σ H D e C dc I ⟨oe, vs, T, oT, tvs, he, hc, hdc, hd, h1, hTe, hT, dT, h3, F1, F2⟩ h
  | true =>
    rw [if_pos rfl] at h
    refine codeAny_handlers_suite ?_
    refine wpAny_setFlight_none he hd h1 hT dT (Array.getElem?_eq_some_iff.mp h3).1 ?_
    have oth : ∀ b, b ≠ T → (s.heap.update T (Obj.mapFields (·.setIfInBounds 3 .none))).get? b = s.heap.get? b := fun b hb => Heap.get?_update_other _ _ (Ne.symm hb)
    have I1 : Inv X pins σ H { s with heap := s.heap.update T (Obj.mapFields (·.setIfInBounds 3 .none)) } := I.turnedL (t' := s.toks) (ch := [T]) (fun b o hb q => by rw [oth b (fun z => hb (by simp [z]))]; exact q) fun b hb => by rw [List.mem_singleton.mp hb]; exact F2
    refine thn (hsu (.ref e) _ pins _ _ _ D (inv_suite I1) h) fun fl s3 q => ?_
    cases fl with
    | next =>
      obtain ⟨σ', H', J, q⟩ := q
      exact ⟨_, H', inv_unsuite I.ok J, q⟩
    | brk =>
      obtain ⟨σ', H', J, q⟩ := q
      exact ⟨_, H', inv_unsuite I.ok J, q⟩
    | cont =>
      obtain ⟨σ', H', J, q⟩ := q
      exact ⟨_, H', inv_unsuite I.ok J, q⟩
    | ret u =>
      obtain ⟨v, σ', H', J, r, q⟩ := q
      exact ⟨v, _, H', inv_unsuite I.ok J, r, q⟩
end
end L2
namespace L2
/-- the class's object in the text, with what lies behind it -/
def XOk (K : PySem.W.Frag) (C : PySem.Addr) : Prop := ∃ bm, XObjK K C bm ∧ UnderV bm
end L2
namespace L2
open PySem
def xobjIn (K : PySem.W.Frag) (C : Addr) : Bool := match K.lookup C with
  | some ⟨.type t, _, .cls cd, sl⟩ => t == "type" && ((match cd.mro with | .ref c :: bm => c == C && (bm.contains (.type "ValueError") && (bm.contains (.type "BaseException") && (!bm.contains (.type "AttributeError") && !bm.contains (.type "NameError")))) | _ => false) && (!cd.hasDel &&
      (match sl.toList with | [_, _, _, _, some (.builtin i), _] => i == "ValueError.__new__" | _ => false)))
  | _ => false
theorem xok_of {K : PySem.W.Frag} {C : Addr} (h : xobjIn K C = true) : XOk K C := by
  unfold xobjIn at h
  split at h
  · rename_i t dd cd sl hk
    rw [Bool.and_eq_true, Bool.and_eq_true, Bool.and_eq_true] at h
    obtain ⟨h1, h2, h3, h4⟩ := h
    split at h2
    · rename_i c bm hm
      split at h4
      · rename_i k0 k1 k2 k3 i k5 hs
        simp only [Bool.and_eq_true, beq_iff_eq, Bool.not_eq_true'] at h1 h2 h3 h4
        obtain ⟨rfl, a1, a2, a3, a4⟩ := h2
        subst h1 h4
        refine ⟨bm, ⟨cd.name, cd.qualname, cd.ns, cd.bases, cd.hasDict, cd.slotNames, cd.subclasses, cd.abstract, cd.collection, dd, k0, k1, k2, k3, k5, ?_⟩, ⟨a1, a2, a3, a4⟩⟩
        rw [hk]
        obtain ⟨x1, x2, x3, x4, x5, x6, x7, x8, x9, y1, y2⟩ := cd
        dsimp only at hm h3
        subst hm h3
        obtain ⟨l⟩ := sl
        dsimp only at hs
        subst hs
        rfl
      · cases h4
    · cases h2
  · cases h
end L2

/-! An attribute of an exception that a handler holds. -/
namespace L2
open PySem PySem.Spec PyProof.Rows
section
variable {prog : Program} {w : World} {A : Around} {E : Value → Shared → Prop} {s : Shared} {K : PySem.W.Frag} {x C : Addr} {ox : Obj} {od : Option Obj} {name : Str} {v : Value} {expr : Bool} {Q : Value → Shared → Prop}
end
section
variable {X : Cx} {pins : List (Addr × Obj)} {σ : St} {H : Hp} {s : Shared} {a C d : Addr} {fs : List (Str × V)} {f : Str} {v : V} {A : Around} {E : Value → Shared → Prop}
end
section
variable {X : Cx} {e : Expr} {f : Str} {pos : Pos} {ta : TE}
end
end L2
namespace L2
open PySem
def xchk (C : Addr) (o : Obj) : Bool := (match o with
  | ⟨.type t, _, .cls cd, sl⟩ => t == "type" && ((match cd.mro with | .ref c :: bm => c == C && (bm.contains (.type "ValueError") && (bm.contains (.type "BaseException") && (!bm.contains (.type "AttributeError") && !bm.contains (.type "NameError")))) | _ => false) && (!cd.hasDel &&
      (match sl.toList with | [_, _, _, _, some (.builtin i), _] => i == "ValueError.__new__" | _ => false)))
  | _ => false) && (match o.data with | .cls cd => onlyV cd.mro | _ => false)
theorem xobj_of {K : PySem.W.Frag} {C : Addr} {c0 : Value} {dd : Option Addr} {cd : ClassData} {sl : Array (Option Value)} (l : K.lookup C = some ⟨c0, dd, .cls cd, sl⟩) (h : xchk C ⟨c0, dd, .cls cd, sl⟩ = true) : xobjIn K C = true ∧ onlyVIn K C = true := by
  unfold xchk at h
  rw [Bool.and_eq_true] at h
  refine ⟨?_, ?_⟩
  · unfold xobjIn
    rw [l]
    cases c0 <;> first | exact h.1 | (have := h.1; cases this)
  · unfold onlyVIn PySem.W.clsIn
    rw [l]
    exact h.2
theorem xcls_of {K : PySem.W.Frag} {C : Addr} {c0 : Value} {dd : Option Addr} {cd : ClassData} {sl : Array (Option Value)} (l : K.lookup C = some ⟨c0, dd, .cls cd, sl⟩) (h : xchk C ⟨c0, dd, .cls cd, sl⟩ = true) (h1 : PySem.W.hasDictIn K C = true)
    (h2 : PySem.W.findIn K (.ref C) "__setattr__" = some (some (.builtin "object.__setattr__"))) : XCls K C := ⟨h1, (xobj_of l h).2, h2⟩
theorem xok_at {K : PySem.W.Frag} {C : Addr} {c0 : Value} {dd : Option Addr} {cd : ClassData} {sl : Array (Option Value)} (l : K.lookup C = some ⟨c0, dd, .cls cd, sl⟩) (h : xchk C ⟨c0, dd, .cls cd, sl⟩ = true) : XOk K C := xok_of (xobj_of l h).1
end L2

/-! raise C(a, ..) by the class's promise. -/
namespace L2
open PySem PySem.Spec PyProof.Rows
section
variable {X : Cx} {k : Nat} {C : Addr} {ps : List Str} {sp : Sp} {E : XK} {x : Str} {p pos cpos : Pos} {e : Expr} {es : List Expr} {t : TA}
theorem ps_raiseM (M : HasM X.prog X.w X.K X.mg X.base C "__init__" ps k sp) (xo : XOk X.K C) (hr : Room (k + 1) X.A) (xe : XeIs X E) (hg : Gl X x) (hm : X.mg x = some (.ref C)) (hps : ps.length ≤ 1000) (ha : PA X (e :: es) t)
    (hdb : (x == ("__debug__" : Str)) = false := by decide) (he : starEach (e :: es) X.env = (false, eval e X.env) :: starEach es X.env := by rfl) (hpl : (backTo cpos (starEach es X.env)).any (·.1) = false := by rfl) :
    PS X (.Raise (some (.Call (.Name x p) (e :: es) [] cpos)) none pos) (sRaise C sp [] E (fun _ _ _ => False) t) := by
  obtain ⟨f, fd, m, b, F⟩ := M
  obtain ⟨bm, xo, U⟩ := xo
  exact ps_raise ⟨xo, U, m.at_, m.fn⟩ F hr xe (fun _ _ _ _ _ _ _ z => z.elim) hg hm (.all b) .nil hps ha hdb he hpl
end
end L2

/-! raise C() where C has ValueError's own __init__. -/
namespace L2
open PySem PySem.Spec PyProof.Rows
section
variable {prog : Program} {w : World} {A : Around} {E : Value → Shared → Prop} {s : Shared} {env : Env} {bm : List Value}
end
section
variable {X : Cx} {k : Nat} {C : Addr} {E : XK} {x : Str} {p pos cpos : Pos}
end
end L2

/-! isinstance(e, C) of an exception that a handler holds. -/
namespace L2
open PySem PySem.Spec PyProof.Rows
section
variable {prog : Program} {w : World} {A : Around} {E : Value → Shared → Prop} {s : Shared} {K : PySem.W.Frag} {x C : Addr} {ox : Obj} {od : Option Obj} {name : Str} {v : Value} {fill expr : Bool} {tk : Tok}
end
section
variable {X : Cx}
end
end L2

/-! reversed of a list, walked; a dict against the empty one. -/
namespace L2
open PySem PySem.Spec PyProof.Rows
open Sem (wp)
namespace Rv
end Rv
section
variable {prog : Program} {w : World} {A : Around} {E : Value → Shared → Prop} {s : Shared}
end
section
variable {prog : Program} {w : World} {A : Around} {E : Value → Shared → Prop} {s : Shared}
end
section
variable {X : Cx} {tg : Expr}
end
/-! ### a dict against the empty one -/
section
variable {X : Cx}
end
end L2

/-! sum of a list of ints. -/
namespace L2
open PySem PySem.Spec PyProof.Rows
section
variable {X : Cx}
end
end L2

/-! isinstance(e, C) of an exception without attributes. -/
namespace L2
open PySem PySem.Spec PyProof.Rows
section
variable {prog : Program} {w : World} {A : Around} {E : Value → Shared → Prop} {s : Shared} {K : PySem.W.Frag} {x C : Addr} {ox : Obj} {name : Str} {v : Value}
end
section
variable {X : Cx}
end
end L2
namespace L2
open PySem PySem.Spec PyProof.Rows
section
variable {X : Cx}
end
end L2

/-! two promises of one def; isinstance of any caught exception. -/
namespace L2
open PySem PySem.Spec PyProof.Rows
section
variable {P : Program} {w : World} {K : PySem.W.Frag} {mg : Str → Option Value} {base : Heap}
theorem Has.x {x : Str} {ps : List Str} {k : Nat} {sp : Sp} (F : Has P w K mg base x ps k sp) : HasX P w K mg base x ps k sp := by
  obtain ⟨f, fd, a, kp, lk, b, F⟩ := F
  refine ⟨f, fd, a, kp, lk, b, F.len, fun A outer s H args us vs Q E hr he hb hv hs => ?_⟩
  refine codeAny_mono (F.run A outer s H args us vs Q E hr he hb hv hs) fun r s' hq => ?_
  cases r with
  | ok fl =>
    cases fl with
    | ret u => exact hq
    | next => exact False.elim hq
    | brk => exact False.elim hq
    | cont => exact False.elim hq
  | error e => exact False.elim hq
/-- what holds by the one or by the other -/
theorem HasX.or {x : Str} {ps : List Str} {k : Nat} {sp1 sp2 : Sp} (F : HasX P w K mg base x ps k sp1) (G : HasX P w K mg base x ps k sp2) : HasX P w K mg base x ps k (fun vs H Q E => sp1 vs H Q E ∨ sp2 vs H Q E) := by
  obtain ⟨f, fd, a, kp, ⟨oc, od, osl, lk⟩, b, F⟩ := F
  obtain ⟨f', fd', a', kp', ⟨oc', od', osl', lk'⟩, b', G⟩ := G
  have e : f = f' := Value.ref.inj (Option.some.inj (a.symm.trans a'))
  subst e
  have e2 := Option.some.inj (lk.symm.trans lk')
  injection e2 with _ _ h _
  injection h with h
  subst h
  refine ⟨f, fd, a, kp, ⟨oc, od, osl, lk⟩, b, fun vs H Q E h => h.elim (F.len vs H Q E) (G.len vs H Q E), fun A outer s H args us vs Q E hr he hb hv hs => ?_⟩
  rcases hs with hs | hs
  · exact F.run A outer s H args us vs Q E hr he hb hv hs
  · exact G.run A outer s H args us vs Q E hr he hb hv hs
end
section
variable {X : Cx}
end
end L2

/-! A def that is called in a handler's suite. -/
namespace L2
open PySem PySem.Spec PyProof.Rows
section
variable {P : Program} {w : World} {K : PySem.W.Frag} {mg : Str → Option Value} {base : Heap}
end
section
variable {X : Cx} {k : Nat} {ps : List Str} {sp : Sp} {x : Str} {p pos : Pos} {e : Expr} {es : List Expr} {t : TA}
end
end L2

/-! list.index of a text. -/
namespace L2
open PySem PySem.Spec PyProof.Rows
section
variable {X : Cx}
theorem nodup_at {ys : List Str} (nd : ys.Nodup) {i j : Nat} {z : Str} (h1 : ys[i]? = some z) (h2 : ys[j]? = some z) : i = j := by
  obtain ⟨a, ea⟩ := List.getElem?_eq_some_iff.mp h1
  obtain ⟨b, eb⟩ := List.getElem?_eq_some_iff.mp h2
  have pw := List.pairwise_iff_getElem.mp nd
  rcases Nat.lt_trichotomy i j with c | c | c
  · exact absurd (ea.trans eb.symm) (pw i j a b c)
  · exact c
  · exact absurd (eb.trans ea.symm) (pw j i b a c)
theorem mt_lindex : MtR X "list.index" (fun x xs H Q => ∃ (p : Addr) (ys : List Str) (z : Str) (j : Nat), x = V.ref p ∧ xs = [V.str z] ∧ H p = some (.lst (ys.map V.str)) ∧ ys[j]? = some z ∧ ys.Nodup ∧ Q (.int (j : Int)) H) := by
  intro pins s σ H x xs v us Q I rx rv h
  obtain ⟨p, ys, z, j, rfl, rfl, hH, hj, nd, q⟩ := h
  cases rx
  obtain ⟨u, rfl, ru⟩ := vals1 rv
  obtain ⟨hz, its, n, r, hl, e⟩ := I.lstM hH
  have hs : sizeLine = 16777216 := sizeLine_eq
  have fl : (ys.map V.str).all flatV = true := by rw [List.all_map]; exact List.all_eq_true.mpr fun _ _ => rfl
  rw [List.length_map] at hl hz
  obtain ⟨jl, ej⟩ := List.getElem?_eq_some_iff.mp hj
  have val : ∀ m (hm : m < its.length), ∃ y, ys[m]? = some y ∧ eqU (.str z) its[m] = eqV (.str y) (.str z) := fun m hm => by
    have h1 : (ys.map V.str)[m]? = some (.str (ys[m]'(by omega))) := by rw [List.getElem?_map, List.getElem?_eq_getElem (by omega)]; rfl
    obtain ⟨w, hw, rw'⟩ := r.get h1
    obtain ⟨_, ew⟩ := List.getElem?_eq_some_iff.mp hw
    refine ⟨_, List.getElem?_eq_getElem (by omega), ?_⟩
    rw [ew]
    exact eqU_of rw' rfl
  refine call_meets PySem.F.slot_list_index ⟨_, e, rfl⟩ PySem.F.entry_list_index (PySem.F.args_list_index_2 _ _)
    (SeqAt.list_indexAt p its.toArray n none #[] u (eqU (.str z)) j (by rw [List.size_toArray]; omega) (by omega) ?_ fun m hm hlt => ?_) ⟨e, fun y hy => mem_eqAt ru rfl r fl y (by simpa using hy), ⟨.int j, H, I.tok _, ⟨_, rfl⟩, q⟩⟩
  · obtain ⟨y, h1, h2⟩ := val j (by omega)
    rw [hj] at h1
    cases h1
    rw [List.getElem_toArray, h2]
    simp [eqV]
  · rw [List.size_toArray] at hm
    obtain ⟨y, h1, h2⟩ := val m hm
    rw [List.getElem_toArray, h2]
    have : y ≠ z := fun c => by
      rw [c] at h1
      have := nodup_at nd h1 hj
      omega
    simp [eqV, this]
end
end L2

/-! A range that goes down; texts with fields. -/
namespace L2
open PySem PySem.Spec PyProof.Rows
theorem size_dn (a b : Int) : Builtin.Range.rangeSize a b (-1) = ((a - b).toNat : Int) := by
  have h : ¬ ((-1 : Int) > 0) := by decide
  unfold Builtin.Range.rangeSize
  rw [if_neg h]
  have e : (-(-1) : Int) = 1 := rfl
  rw [e, Int.ediv_one]
  split <;> omega
theorem small_dn {a b : Int} (h1 : -(2 ^ 62) ≤ a) (h2 : a < 2 ^ 62) (h3 : -(2 ^ 62) ≤ b) (h4 : b < 2 ^ 62) : Builtin.Range.small a b (-1) = true := by
  have h : ¬ ((-1 : Int) > 0) := by decide
  unfold Builtin.Range.small Builtin.Range.rangeFitsLong
  rw [size_dn]
  simp only [if_neg h, Bool.and_eq_true, Bool.or_eq_true, decide_eq_true_eq, beq_iff_eq]
  omega
def Itdn (hi : Int) (n : Nat) : It := ⟨fun i _ => i < n, fun i H x H' => H' = H ∧ x = .int (hi - i), fun i _ => n ≤ i⟩
theorem turn_down {P : Program} {w : World} {K : PySem.W.Frag} {tg : Expr} (it : Addr) (hi : Int) (n : Nat) : Turn P w K tg (Itdn hi n) [it] it (fun i h => IsRangeIter h it (hi + (i : Nat) * (-1)) ((n : Int) - (i : Nat)) (-1)) where
  mem := by simp
  obj := fun i h st b hb => by
    have e : b = it := by simpa using hb
    subst e
    exact ⟨_, st, fun v z => by
      have z' : Data.fields _ = Data.cell v := z
      cases z'⟩
  keep := fun i h h' st k => k it (by simp) _ st
  item := by
    intro X hP hw hK hc i pins s σ H E I hf st hg
    subst hP hw hK
    obtain ⟨f0, f1, f2, f3, f4, f5⟩ := hf it (by simp)
    have W := Walks.range (prog := X.prog) (w := X.w) (I.ok.hd hc) it hi (-1) n
    refine W.item i s _ _ hg st fun v h' tk hv st' kk => ?_
    obtain ⟨t, rfl⟩ := hv
    have I1 : Inv X pins σ H { s with heap := h', toks := tk } := I.turned (fun b o hb e => kk b o (by simpa using hb) e) f0 f1 f3 f4 f5
    refine ⟨_, rfl, go_of (s := { s with heap := h', toks := tk }) (n := "range_iterator") st' rfl rfl (by decide) ⟨.int (hi - i), H, I1, ⟨t, ?_⟩, ⟨rfl, rfl⟩, st', fun b hb => (hf b hb).1⟩⟩
    congr 1
    omega
  done := by
    intro X hP hw hK hc i pins s σ H E I hf st hg
    subst hP hw hK
    obtain ⟨f0, f1, f2, f3, f4, f5⟩ := hf it (by simp)
    exact wpAny_pyNext_range_end (I.ok.hd hc) st (by have : n ≤ i := hg; omega) fun h' eb => ⟨rfl, I.turned (t' := s.toks) (fun b o hb e => eb b o hb e) f0 f1 f3 f4 f5⟩
  self := fun _ _ _ _ _ st h => wpAny_pyIter_rangeiter st h
section
variable {X : Cx} {tg : Expr}
theorem down_it {pins : List (Addr × Obj)} {σ : St} {H : Hp} {s : Shared} {R : It → Hp → Prop} {E : Value → Shared → Prop} {hi lo : Int} {t u v : Tok} {tk : Nat} (I : Inv X pins σ H s) (h1 : -(2 ^ 62) ≤ hi) (h2 : hi < 2 ^ 62) (h3 : -(2 ^ 62) ≤ lo) (h4 : lo < 2 ^ 62)
    (q : R (Itdn hi (hi - lo).toNat) H) : wpAny (model X.prog X.w) X.A (pyIter (.ref s.heap.objs.size)) (PIE X pins σ tg R) E { s with heap := s.heap.push { cls := .type "range", data := .fields #[.int hi t, .int lo u, .int (-1) v] }, toks := tk } := by
  refine wpAny_pyIter_range (IsRange.new ..) (small_dn h1 h2 h3 h4) ?_
  have I1 : Inv X pins σ H { s with heap := s.heap.push { cls := .type "range", data := .fields #[.int hi t, .int lo u, .int (-1) v] }, toks := tk } := I.kept fun b o e => Heap.get?_push_of_some _ e
  refine ⟨(s.heap.push { cls := .type "range", data := .fields #[.int hi t, .int lo u, .int (-1) v] }).objs.size, [(s.heap.push { cls := .type "range", data := .fields #[.int hi t, .int lo u, .int (-1) v] }).objs.size], _, _, H, rfl,
    I1.kept (t' := tk) fun b o e => Heap.get?_push_of_some _ e, turn_down _ hi (hi - lo).toNat, ?_, fun b hb => ?_, q⟩
  · have e1 : hi + ((0 : Nat) : Int) * (-1) = hi := by simp
    have e2 : (((hi - lo).toNat : Nat) : Int) - ((0 : Nat) : Int) = Builtin.Range.rangeSize hi lo (-1) := by rw [size_dn]; simp
    show IsRangeIter _ _ (hi + ((0 : Nat) : Int) * (-1)) ((((hi - lo).toNat : Nat) : Int) - ((0 : Nat) : Int)) (-1)
    rw [e1, e2]
    exact Heap.get?_push_size _ rfl
  · have e : b = (s.heap.push { cls := .type "range", data := .fields #[.int hi t, .int lo u, .int (-1) v] }).objs.size := by simpa using hb
    subst e
    exact I1.fpOk (Nat.le_refl _) (I1.hok.fresh (Nat.le_refl _))
def iRng3 (ta : TA) : TI := fun σ H R => ta σ H fun vs H1 => ∃ i j : Int, vs = [.int i, .int j, .int (-1)] ∧ (-(2 ^ 61) ≤ i ∧ i < 2 ^ 61 ∧ -(2 ^ 61) ≤ j ∧ j < 2 ^ 61) ∧ R (Itdn i (i - j).toNat) H1
theorem pi_range3 {a b c : Expr} {ta : TA} {p pos : Pos} (hg : Gl X "range") (hm : X.mg "range" = none) (ha : PA X [a, b, c] ta) (hs : starEach [a, b, c] X.env = [(false, eval a X.env), (false, eval b X.env), (false, eval c X.env)] := by rfl) (hs2 : starEach [b, c] X.env = [(false, eval b X.env), (false, eval c X.env)] := by rfl) :
    PI X tg (.Call (.Name "range" p) [a, b, c] [] pos) (iRng3 ta) := by
  intro pins s σ H R I h
  refine Call_ (ld_blt I hg hm boot_range (PyProof.Rows.callWith_type1 (thn (ha pos pins s σ H _ I h) fun us s1 hq0 => ?_) (by rw [hs, hs2]) (by rw [hs2]; rfl)))
  obtain ⟨vs, H1, I1, r1, q1⟩ := hq0
  obtain ⟨i, j, e, ⟨q1, q2, q3, q4⟩, q⟩ := q1
  subst e
  cases r1 with
  | cons r rr =>
    cases rr with
    | cons r' rr =>
      cases rr with
      | cons r'' rr =>
        cases rr
        obtain ⟨t, rfl⟩ := r
        obtain ⟨t', rfl⟩ := r'
        obtain ⟨t'', rfl⟩ := r''
        exact PySem.call_range_3 (by decide) (down_it I1 (by omega) (by omega) (by omega) (by omega) q) (Or.inl (PyProof.noPylong_small (by omega)))
theorem fix_down {hi : Int} {n : Nat} : Fix (Itdn hi n) ((List.range n).map fun i => V.int (hi - (i : Nat))) (fun _ => True) :=
  ⟨fun i H h hi => by show i < n; simpa using hi, fun i H x H' h y => ⟨y.1, fun hi => by
    have hi' : i < n := by simpa using hi
    rw [List.getElem?_map, List.getElem?_range hi', y.2]; rfl⟩, fun i H h hi => by show n ≤ i; simpa using hi⟩

/-! ### texts with fields -/
abbrev TJ := Str → St → Hp → VK → Prop
def PJ (X : Cx) (ms : List (Sem Value)) (t : TJ) : Prop :=
  ∀ (pins : List (Addr × Obj)) (s : Shared) (σ : St) (H : Hp) (out : Str) (Q : VK), Inv X pins σ H s → t out σ H Q → wpAny (model X.prog X.w) X.A (joinParts out ms) (EP X pins σ Q) X.xe s
def jNil : TJ := fun out _ H Q => out.length ≤ sizeLine ∧ Q (.str out) H
theorem pj_nil : PJ X [] jNil := fun _ _ _ H _ _ I h => joinParts_nil ⟨.str _, H, I.tok _, ⟨_, rfl⟩, h.2⟩ h.1
def jTxt (te : TE) (tj : TJ) : TJ := fun out σ H Q => te σ H fun x H1 => ∃ y, x = .str y ∧ (out ++ y).length ≤ sizeLine ∧ tj (out ++ y) σ H1 Q
theorem pj_txt {e : Expr} {te : TE} {tj : TJ} {ms : List (Sem Value)} (he : PE X e te) (hj : PJ X ms tj) : PJ X (eval e X.env :: ms) (jTxt te tj) := by
  intro pins s σ H out Q I h
  refine joinParts_cons (thn (he pins s σ H _ I h) fun v s1 hq0 => ?_)
  obtain ⟨x, H1, I1, r1, q1⟩ := hq0
  obtain ⟨y, rfl, hl, q⟩ := q1
  obtain ⟨t, rfl⟩ := r1
  exact ⟨hl, hj pins s1 σ H1 _ Q I1 q⟩
def jFld (te : TE) (tj : TJ) : TJ := fun out σ H Q => te σ H fun x H1 => ∃ y, (x = .str y ∨ ∃ i : Int, x = .int i ∧ i.natAbs.log2 < 1920 ∧ y = toString i) ∧ y.length ≤ sizeLine ∧ (out ++ y).length ≤ sizeLine ∧ tj (out ++ y) σ H1 Q
theorem pj_fld {e : Expr} {pos : Pos} {te : TE} {tj : TJ} {ms : List (Sem Value)} (he : PE X e te) (hj : PJ X ms tj) : PJ X (eval (.FormattedValue e (-1) none pos) X.env :: ms) (jFld te tj) := by
  intro pins s σ H out Q I h
  refine joinParts_cons (FormattedValue_plain (thn (he pins s σ H _ I h) fun v s1 hq0 => ?_))
  obtain ⟨x, H1, I1, r1, q1⟩ := hq0
  obtain ⟨y, hx, hy, hl, q⟩ := q1
  rcases hx with rfl | ⟨i, rfl, hi, rfl⟩
  · obtain ⟨t, rfl⟩ := r1
    exact PyProof.Rows.formatField_str (fun t' tk => ⟨hl, hj pins _ σ H1 _ Q (I1.tok _) q⟩) hy
  · obtain ⟨t, rfl⟩ := r1
    exact PyProof.Rows.formatField_int_small hi ⟨hl, hj pins _ σ H1 _ Q (I1.tok _) q⟩
theorem pe_joined {e1 e2 : Expr} {es : List Expr} {pos : Pos} {tj : TJ} (h : PJ X (eval e1 X.env :: eval e2 X.env :: evalEach es X.env) tj) : PE X (.JoinedStr (e1 :: e2 :: es) pos) (tj Str.empty) :=
  fun pins s σ H Q I q => JoinedStr_many (h pins s σ H _ Q I q)
end
end L2

namespace LK71
open PySem L2 Dm PySem.NumText
def top (i : Nat) : Stmt := PySem.Challenge.pw_digmatrix_k71_a_matrix_shown.main.body.getD i (.Pass ⟨0, 0, 0, 0⟩)
/-- what the top has left -/
structure Tx (K : PySem.W.Frag) (mg : Str → Option Value) (w : World) (C_DigError : Addr) (C_Round : Addr) : Prop where
  mg_DigError : mg "DigError" = some (.ref C_DigError)
  xb_DigError : XBase K C_DigError
  mg_Round : mg "Round" = some (.ref C_Round)
  xk_Round : XCatch K C_Round
  xc_Round : XCls K C_Round
  xo_Round : XOk K C_Round
  d_Round___init__ : DfM K C_Round "Round.__init__" "__init__" (inClass (top 7) 0) ["self", "ties"]
  na_Round_ties : NoAttr K C_Round "ties"
  sub_Round_Round : PySem.W.mroIn K C_Round (.ref C_Round) = some true
  d_one_names : Df K mg "one_names" (top 1) ["units", "ties"]
  d_join_ones : Df K mg "join_ones" (top 2) ["names", "first", "second"]
  d_ones : Df K mg "ones" (top 3) ["units", "ties"]
  d_ties_beneath : Df K mg "ties_beneath" (top 4) ["telling"]
  d_shortest_round : Df K mg "shortest_round" (top 9) ["telling"]
  d_round_through : Df K mg "round_through" (top 10) ["start", "beneath"]
  d_refuse_round : Df K mg "refuse_round" (top 11) ["telling"]
  d_order : Df K mg "order" (top 12) ["telling"]
  d_least_free : Df K mg "least_free" (top 13) ["beneath", "placed"]
  d_rests_on : Df K mg "rests_on" (top 14) ["lowers", "placed"]
  d_all_beneath : Df K mg "all_beneath" (top 16) ["telling"]
  d_drawn : Df K mg "drawn" (top 17) ["telling"]
  d_lies_between : Df K mg "lies_between" (top 18) ["depths", "upper", "lower"]
  d_levels : Df K mg "levels" (top 20) ["telling"]
  d_show_matrix : Df K mg "show_matrix" (top 22) ["telling"]
  d_show_level : Df K mg "show_level" (top 23) ["number", "names"]
  d__law_cell_at : Df K mg "_law_cell_at" (top 25) ["_law_script", "_law_k"]
  d__law_part : Df K mg "_law_part" (top 26) ["_law_cell", "_law_k", "_law_many"]
  d__law_names : Df K mg "_law_names" (top 27) ["_law_one", "_law_other", "_law_many"]
  d__law_tie : Df K mg "_law_tie" (top 28) ["_law_names_here", "_law_cell"]
  d__law_frame : Df K mg "_law_frame" (top 30) ["_law_cell"]
  d__law_telling : Df K mg "_law_telling" (top 31) ["_law_script"]
  d__law_goes_round : Df K mg "_law_goes_round" (top 32) ["_law_telling_here"]
  d__law_refused : Df K mg "_law_refused" (top 33) ["_law_telling_here"]
  d__law_due : Df K mg "_law_due" (top 34) ["_law_telling_here"]
  d_law : Df K mg "law" (top 35) ["_law_script"]
  min : mg "min" = none
  list : mg "list" = none
  sorted : mg "sorted" = none
  all : mg "all" = none
  any : mg "any" = none
  range : mg "range" = none
  len : mg "len" = none
  max : mg "max" = none
  str : mg "str" = none
  isinstance : mg "isinstance" = none
theorem Tx.ex {K : PySem.W.Frag} {mg : Str → Option Value} {w : World} {C_DigError : Addr} {C_Round : Addr} (T : Tx K mg w C_DigError C_Round) : ∃ C_DigError, ∃ C_Round, Tx K mg w C_DigError C_Round := ⟨_, _, T⟩
theorem sc_one_names : FnScope ["units", "ties", "names", "unit", "tie"] ["units", "ties"] (defScope (top 1)) := ⟨rfl, rfl, rfl, by decide +kernel, rfl, by decide +kernel, by decide +kernel⟩
theorem sc_join_ones : FnScope ["names", "first", "second", "least", "unit"] ["names", "first", "second"] (defScope (top 2)) := ⟨rfl, rfl, rfl, by decide +kernel, rfl, by decide +kernel, by decide +kernel⟩
theorem sc_ones : FnScope ["units", "ties", "names", "members", "unit"] ["units", "ties"] (defScope (top 3)) := ⟨rfl, rfl, rfl, by decide +kernel, rfl, by decide +kernel, by decide +kernel⟩
theorem sc_ties_beneath : FnScope ["telling", "names", "beneath", "members", "tie"] ["telling"] (defScope (top 4)) := ⟨rfl, rfl, rfl, by decide +kernel, rfl, by decide +kernel, by decide +kernel⟩
theorem sc_shortest_round : FnScope ["telling", "beneath", "shortest", "name", "ties"] ["telling"] (defScope (top 9)) := ⟨rfl, rfl, rfl, by decide +kernel, rfl, by decide +kernel, by decide +kernel⟩
theorem sc_round_through : FnScope ["start", "beneath", "met", "ways", "longer", "name", "ties", "lower", "tie"] ["start", "beneath"] (defScope (top 10)) := ⟨rfl, rfl, rfl, by decide +kernel, rfl, by decide +kernel, by decide +kernel⟩
theorem sc_refuse_round : FnScope ["telling", "ties"] ["telling"] (defScope (top 11)) := ⟨rfl, rfl, rfl, by decide +kernel, rfl, by decide +kernel, by decide +kernel⟩
theorem sc_order : FnScope ["telling", "beneath", "placed"] ["telling"] (defScope (top 12)) := ⟨rfl, rfl, rfl, by decide +kernel, rfl, by decide +kernel, by decide +kernel⟩
theorem sc_least_free : FnScope ["beneath", "placed", "free"] ["beneath", "placed"] (defScope (top 13)) := ⟨rfl, rfl, rfl, by decide +kernel, rfl, by decide +kernel, by decide +kernel⟩
theorem sc_rests_on : FnScope ["lowers", "placed"] ["lowers", "placed"] (defScope (top 14)) := ⟨rfl, rfl, rfl, by decide +kernel, rfl, by decide +kernel, by decide +kernel⟩
theorem sc_all_beneath : FnScope ["telling", "straight", "depths", "name", "lower", "tie"] ["telling"] (defScope (top 16)) := ⟨rfl, rfl, rfl, by decide +kernel, rfl, by decide +kernel, by decide +kernel⟩
theorem sc_drawn : FnScope ["telling", "straight", "depths", "pairs", "name", "lower", "tie"] ["telling"] (defScope (top 17)) := ⟨rfl, rfl, rfl, by decide +kernel, rfl, by decide +kernel, by decide +kernel⟩
theorem sc_lies_between : FnScope ["depths", "upper", "lower"] ["depths", "upper", "lower"] (defScope (top 18)) := ⟨rfl, rfl, rfl, by decide +kernel, rfl, by decide +kernel, by decide +kernel⟩
theorem sc_levels : FnScope ["telling", "beneath", "numbers", "rows", "name", "number"] ["telling"] (defScope (top 20)) := ⟨rfl, rfl, rfl, by decide +kernel, rfl, by decide +kernel, by decide +kernel⟩
theorem sc_show_matrix : FnScope ["telling", "rows", "lines"] ["telling"] (defScope (top 22)) := ⟨rfl, rfl, rfl, by decide +kernel, rfl, by decide +kernel, by decide +kernel⟩
theorem sc_show_level : FnScope ["number", "names", "listed"] ["number", "names"] (defScope (top 23)) := ⟨rfl, rfl, rfl, by decide +kernel, rfl, by decide +kernel, by decide +kernel⟩
theorem sc__law_cell_at : FnScope ["_law_script", "_law_k"] ["_law_script", "_law_k"] (defScope (top 25)) := ⟨rfl, rfl, rfl, by decide +kernel, rfl, by decide +kernel, by decide +kernel⟩
theorem sc__law_part : FnScope ["_law_cell", "_law_k", "_law_many"] ["_law_cell", "_law_k", "_law_many"] (defScope (top 26)) := ⟨rfl, rfl, rfl, by decide +kernel, rfl, by decide +kernel, by decide +kernel⟩
theorem sc__law_names : FnScope ["_law_one", "_law_other", "_law_many", "_law_signs", "_law_size", "_law_at", "_law_names_here", "_law_k", "_law_name", "_law_j", "_law_number"] ["_law_one", "_law_other", "_law_many"] (defScope (top 27)) := ⟨rfl, rfl, rfl, by decide +kernel, rfl, by decide +kernel, by decide +kernel⟩
theorem sc__law_tie : FnScope ["_law_names_here", "_law_cell", "_law_one", "_law_other", "_law_kind", "_law_gap"] ["_law_names_here", "_law_cell"] (defScope (top 28)) := ⟨rfl, rfl, rfl, by decide +kernel, rfl, by decide +kernel, by decide +kernel⟩
theorem sc__law_frame : FnScope ["_law_cell", "_law_some"] ["_law_cell"] (defScope (top 30)) := ⟨rfl, rfl, rfl, by decide +kernel, rfl, by decide +kernel, by decide +kernel⟩
theorem sc__law_telling : FnScope ["_law_script", "_law_names_here", "_law_units", "_law_ties", "_law_cell", "_law_tie_here", "_law_upward"] ["_law_script"] (defScope (top 31)) := ⟨rfl, rfl, rfl, by decide +kernel, rfl, by decide +kernel, by decide +kernel⟩
theorem sc__law_goes_round : FnScope ["_law_telling_here", "_law_told"] ["_law_telling_here"] (defScope (top 32)) := ⟨rfl, rfl, rfl, by decide +kernel, rfl, by decide +kernel, by decide +kernel⟩
theorem sc__law_refused : FnScope ["_law_telling_here", "_law_told"] ["_law_telling_here"] (defScope (top 33)) := ⟨rfl, rfl, rfl, by decide +kernel, rfl, by decide +kernel, by decide +kernel⟩
theorem sc__law_due : FnScope ["_law_telling_here", "_law_lines", "_law_groups", "_law_k", "_law_line", "_law_name", "_law_one", "_law_other"] ["_law_telling_here"] (defScope (top 34)) := ⟨rfl, rfl, rfl, by decide +kernel, rfl, by decide +kernel, by decide +kernel⟩
theorem sc_law : FnScope ["_law_script", "_law_telling_here", "_law_kept", "_law_text"] ["_law_script"] (defScope (top 35)) := ⟨rfl, rfl, rfl, by decide +kernel, rfl, by decide +kernel, by decide +kernel⟩
theorem sc_Round___init__ : FnScope ["self", "ties"] ["self", "ties"] (defScope (inClass (top 7) 0)) := ⟨rfl, rfl, rfl, by decide +kernel, rfl, by decide +kernel, by decide +kernel⟩
section
variable {P : Program} {w : World} {K : PySem.W.Frag} {mg : Str → Option Value} {base : Heap} {C_DigError : Addr} {C_Round : Addr}
local macro_rules | `(tactic| walk_at "rd") => `(tactic| repeat (first | refine ⟨_, rfl, ?_⟩ | refine ⟨_, _, rfl, rfl, ?_⟩ | refine ⟨_, _, _, rfl, ?_⟩))
local macro_rules | `(tactic| walk_at "rd") => `(tactic| repeat (first | refine ⟨_, rfl, ?_⟩ | refine ⟨_, _, rfl, rfl, ?_⟩ | refine ⟨_, _, _, rfl, ?_⟩))
/-! ### cells and parts -/
def sp_cell : Sp := fun vs H Q _ => ∃ (a : Addr) (ns : List Int) (i : Int), vs = [.ref a, .int i] ∧ SqL K H a (ns.map V.int) ∧ 0 ≤ i ∧ Q (.int (cellI ns i)) H
theorem h__law_cell_at (T : Tx K mg w C_DigError C_Round) : Has P w K mg base "_law_cell_at" ["_law_script", "_law_k"] 1 (sp_cell (K := K)) := by
  refine T.d__law_cell_at.has sc__law_cell_at (fun vs H Q E h => ?_) (fun f cdv A outer s H vs Q E hr h => ?_)
  · obtain ⟨a, ns, i, rfl, _⟩ := h; rfl
  · obtain ⟨a, ns, i, rfl, ha, h0, k⟩ := h
    refine ⟨_, (pss_cons (ps_if (pt_cmpR op_lt (pv 1) (pe_callB (call_len_seqK K rfl) (by rfl) T.len boot_len (pa_cons (pv 0) pa_nil)) (nomark _)) (pss_one (ps_ret (pe_ix (ix_listK K rfl) (pv 0) (pv 1) (fun _ _ => rfl)))) pss_nil)
      (pss_one (ps_ret pe_int))), ?_⟩
    refine ⟨_, rfl, _, rfl, a, _, rfl, .inl ha, _, _, rfl, rfl, _, rfl, ?_⟩
    refine ite2 (fun c => ?_) (fun c => ?_)
    · have c := of_decide_eq_true c
      rw [List.length_map] at c
      have hi : i.toNat < ns.length := by omega
      refine ⟨_, rfl, _, rfl, a, _, i, .int (cellI ns i), rfl, rfl, ha, ?_, k⟩
      have e : cellI ns i = ns[i.toNat] := by unfold cellI; rw [List.getD_eq_getElem?_getD, List.getElem?_eq_getElem hi]; rfl
      have := atI_nat (xs := ns.map V.int) (j := i.toNat) (v := .int (cellI ns i)) (by rw [e]; simp [hi])
      rw [Int.toNat_of_nonneg h0] at this
      exact this
    · have c : ¬ i < ((ns.map V.int).length : Int) := fun z => c (decide_eq_true z)
      rw [List.length_map] at c
      have e : cellI ns i = 0 := by unfold cellI; rw [List.getD_eq_getElem?_getD, List.getElem?_eq_none (by omega)]; rfl
      rw [e] at k
      exact k
def sp_part : Sp := fun vs H Q _ => ∃ c k m : Int, vs = [.int c, .int k, .int m] ∧ 0 < m ∧ Q (.int (pt c k m)) H
theorem h__law_part (T : Tx K mg w C_DigError C_Round) : Has P w K mg base "_law_part" ["_law_cell", "_law_k", "_law_many"] 1 sp_part := by
  refine T.d__law_part.has sc__law_part (fun vs H Q E h => ?_) (fun f cdv A outer s H vs Q E hr h => ?_)
  · obtain ⟨c, i, m, rfl, _⟩ := h; rfl
  · obtain ⟨c, i, m, rfl, hm, k⟩ := h
    refine ⟨_, (pss_one (ps_ret (pe_op op_mod (pe_op op_mod (pe_op op_mul (pe_op op_mod (pe_op op_mul (pe_op op_add (pe_op op_mod (pv 0) pe_int) pe_int) (pe_op op_add pe_int (pe_op op_mul pe_int (pv 1)))) pe_int) (pe_op op_add (pv 1) pe_int)) pe_int) (pv 2)))), ?_⟩
    have b1 := Int.emod_nonneg c (show (99991 : Int) ≠ 0 by decide)
    have b2 := Int.emod_lt_of_pos c (show (0 : Int) < 99991 by decide)
    have b3 := Int.emod_nonneg ((c % 99991 + 17) * (48271 + 7919 * i)) (show (65537 : Int) ≠ 0 by decide)
    have b4 := Int.emod_lt_of_pos ((c % 99991 + 17) * (48271 + 7919 * i)) (show (0 : Int) < 65537 by decide)
    walk_at "rd"
    refine ⟨(by decide : (0 : Int) < 99991), ?_⟩
    walk_at "rd"
    refine ⟨.inl ⟨by decide, by decide⟩, ?_⟩
    walk_at "rd"
    refine ⟨.inl ⟨by omega, by omega⟩, ?_⟩
    walk_at "rd"
    refine ⟨(by decide : (0 : Int) < 65537), ?_⟩
    walk_at "rd"
    refine ⟨.inl ⟨by omega, by omega⟩, ?_⟩
    walk_at "rd"
    refine ⟨(by decide : (0 : Int) < 8191), ?_⟩
    walk_at "rd"
    exact ⟨hm, k⟩
/-! ### names -/
theorem at37 (z : Int) (one at' : Int) (k j : Nat) (h : z = nmI one at' k j) : atI NAMES.cps.toList (z % 37) = some (nmN one at' k j) := by
  obtain ⟨h0, h1⟩ := ix37 z
  subst h
  have := atI_nat (xs := co NAMES) (j := (nmI one at' k j % 37).toNat) (v := nmN one at' k j) (by unfold nmN; rw [List.getD_eq_getElem?_getD, List.getElem?_eq_getElem h1]; rfl)
  rw [Int.toNat_of_nonneg h0] at this
  exact this
def cutF (l : List Nat) (size : Int) : V → V
  | .int z => .str (Txt.slice (strOf l) none (some (size - z)))
  | _ => .non
def sp_names : Sp := fun vs H Q _ => ∃ (one other : Int) (n : Nat), vs = [.int one, .int other, .int n] ∧ n ≤ 37 ∧ ∀ (p : Addr) (xs : List Str) (H' : Hp), xs.length = n → xs.Nodup → (∀ x ∈ xs, nameB x = true) → H p = none → H' p = some (.lst (xs.map V.str)) → Same H H' → Q (.ref p) H'
set_option maxHeartbeats 4000000 in
theorem h__law_names (T : Tx K mg w C_DigError C_Round) : Has P w K mg base "_law_names" ["_law_one", "_law_other", "_law_many"] 2 sp_names := by
  refine T.d__law_names.has sc__law_names (fun vs H Q E h => ?_) (fun f cdv A outer s H vs Q E hr h => ?_)
  · obtain ⟨one, other, n, rfl, _⟩ := h; rfl
  · obtain ⟨one, other, n, rfl, hn37, k⟩ := h
    refine ⟨_, (pss_cons (ps_set (i := 3) sc__law_names.nd rfl (Or.inl rfl) pe_str)
      (pss_cons (ps_set (i := 4) sc__law_names.nd rfl (Or.inr rfl) (pe_op op_add pe_int (pe_fn (h__law_part T) (hr.mono (by decide)) (by rfl) (pa_cons (pv 0) (pa_cons pe_int (pa_cons pe_int pa_nil))))))
      (pss_cons (ps_set (i := 5) sc__law_names.nd rfl (Or.inl rfl) (pe_fn (h__law_part T) (hr.mono (by decide)) (by rfl) (pa_cons (pv 1) (pa_cons pe_int (pa_cons (pv 4) pa_nil)))))
      (pss_cons (ps_set (i := 6) sc__law_names.nd rfl (Or.inr rfl) (pe_lst pa_nil))
      (pss_cons (ps_for PassesOwn.never rfl (pi_range1 (by rfl) T.range (pa_cons (pv 2) pa_nil)) (pg_name (i := 7) sc__law_names.nd rfl (Or.inl rfl)) (pss_cons (ps_set (i := 8) sc__law_names.nd rfl (Or.inl rfl) pe_str)
        (pss_cons (ps_for PassesOwn.never rfl (pi_range1 (by rfl) T.range (pa_cons (pv 4) pa_nil)) (pg_name (i := 9) sc__law_names.nd rfl (Or.inl rfl)) (pss_cons (ps_set (i := 10) sc__law_names.nd rfl (Or.inl rfl) (pe_fn (h__law_part T) (hr.mono (by decide)) (by rfl) (pa_cons (pv 0) (pa_cons (pe_op op_add (pv 9) pe_int) (pa_cons pe_int pa_nil)))))
          (pss_cons (ps_if (pt_cmpR op_eq (pv 9) (pv 5) (nomark _)) (pss_one (ps_set (i := 10) sc__law_names.nd rfl (Or.inl rfl) (pe_op op_add (pv 10) (pv 7)))) pss_nil)
          (pss_one (ps_set (i := 8) sc__law_names.nd rfl (Or.inl rfl) (pe_op op_add_str (pv 8) (pe_ix ix_str (pv 3) (pe_op op_mod (pv 10) pe_int) (fun _ _ => rfl))))))))
        (pss_one (ps_expr (pe_bmK K rfl PySem.F.plainAttrs_list PySem.F.slot_list_append PySem.F.type_list_append mt_append (pv 6) (pa_cons (pv 8) pa_nil)))))))
      (pss_cons (ps_if (PW.pt (pw_and (pt_cmpR op_ge (pv 4) (pv 2) (nomark _)) (pw_and1 (pt_cmpR op_eq (pe_op op_mod (pv 1) pe_int) pe_int (nomark _))))) (pss_one (ps_ret (pe_comp (own := ["_law_k"]) (cap := ["_law_names_here", "_law_size"]) (ix := [6, 4]) (osc := defScope (top 27)) rfl ⟨rfl, by decide +kernel, by decide +kernel, by decide +kernel, by decide +kernel⟩ rfl (pi_range1 (by rfl) T.range (pa_cons (pv 2) pa_nil)) (fun _ _ _ _ => pg_name (i := 0) (show List.Nodup (["_law_k", "_law_names_here", "_law_size"] : List Str) by decide +kernel) rfl (Or.inl rfl)) (fun _ _ _ _ => pif_nil) (fun _ _ _ _ => (pe_slice sl_str (pe_ix (ix_listK K rfl) (pv 1) pe_int (fun _ _ => rfl)) po_none (po_some (pe_op op_sub (pv 2) (pv 0)))))))) pss_nil)
      (pss_one (ps_ret (pv 6))))))))), ?_⟩
    walk_at "rd"
    refine ⟨by decide, ?_⟩
    walk_at "rd"
    obtain ⟨s1, s2⟩ := pt_bd one 0 12 (by decide)
    have hs : ∃ size : Nat, 1 + pt one 0 12 = (size : Int) ∧ 1 ≤ size ∧ size ≤ 12 := ⟨(1 + pt one 0 12).toNat, by omega, by omega, by omega⟩
    obtain ⟨size, es, z1, z2⟩ := hs
    rw [es]
    refine ⟨by omega, ?_⟩
    obtain ⟨a1, a2⟩ := pt_bd other 1 (size : Int) (by omega)
    generalize pt other 1 (size : Int) = at' at a1 a2
    refine ⟨by decide, fun p hp => ?_⟩
    refine ⟨_, rfl, (n : Int), rfl, by omega, by omega, for_range (lo := 0) (n := n) (fun i σ H' => ∃ v7 v8 v9 v10, σ = [some (.int one), some (.int other), some (.int n), some (.str NAMES), some (.int size), some (.int at'), some (.ref p), v7, v8, v9, v10] ∧ Same H H' ∧
      H' p = some (.lst (((List.range i).map fun k => strOf (nmC one at' k size)).map V.str))) ⟨none, none, none, none, (by rw [← es]; rfl), Same.new hp, upd_same⟩ ?_ ?_⟩
    · rintro i σ H1 hi ⟨v7, v8, v9, v10, rfl, q1, q2⟩
      simp only [Int.zero_add]
      refine ⟨_, rfl, (size : Int), rfl, by omega, by omega, for_range (lo := 0) (n := size) (fun j σ H2 => ∃ v9 v10, σ = [some (.int one), some (.int other), some (.int n), some (.str NAMES), some (.int size), some (.int at'), some (.ref p), some (.int i), some (.str (strOf ((List.range j).map (nmN one at' i)))), v9, v10] ∧ H2 = H1)
        ⟨v9, v10, by rw [emp_is]; rfl, rfl⟩ ?_ ?_⟩
      · rintro j σ H2 hj ⟨v9, v10, rfl, rfl⟩
        simp only [Int.zero_add]
        walk_at "rd"
        refine ⟨by decide, ?_⟩
        refine ⟨_, rfl, _, rfl, rfl, _, rfl, ?_⟩
        refine ite2 (fun c => ?_) (fun c => ?_)
        all_goals
          walk_at "rd"
          refine ⟨(by decide : (0 : Int) < 37), NAMES, _, nmN one at' i j, rfl, rfl, by decide, ?_, ?_⟩
        · refine at37 _ one at' i j ?_
          have c := of_decide_eq_true c
          have c : (j : Int) = at' := V.int.inj c
          unfold nmI
          rw [if_pos c]
        · refine ⟨_, _, rfl, rfl, ?_, some (.int j), some (.int (pt one ((j : Int) + 2) 37 + i)), ?_, rfl⟩
          · rw [len_strOf, List.length_map, List.length_range]
            exact Nat.le_trans (show j + 1 ≤ 100 by omega) (by decide)
          · rw [show (⟨#[nmN one at' i j]⟩ : Str) = strOf [nmN one at' i j] from rfl, app_strOf, List.range_succ, List.map_append]
            rfl
        · refine at37 _ one at' i j ?_
          have c : ¬ (j : Int) = at' := fun z => c (decide_eq_true (congrArg V.int z))
          unfold nmI
          rw [if_neg c]
        · refine ⟨_, _, rfl, rfl, ?_, some (.int j), some (.int (pt one ((j : Int) + 2) 37)), ?_, rfl⟩
          · rw [len_strOf, List.length_map, List.length_range]
            exact Nat.le_trans (show j + 1 ≤ 100 by omega) (by decide)
          · rw [show (⟨#[nmN one at' i j]⟩ : Str) = strOf [nmN one at' i j] from rfl, app_strOf, List.range_succ, List.map_append]
            rfl
      · rintro σ H2 ⟨v9, v10, rfl, rfl⟩
        refine ⟨_, rfl, .inl ⟨rfl, _, SqL.of q2⟩, _, rfl, p, _, _, rfl, rfl, q2, ?_, ?_⟩
        · rw [List.length_map, List.length_map, List.length_range]
          exact small1000 (by omega)
        · refine ⟨_, _, _, _, rfl, q1.upd hp, ?_⟩
          rw [upd_same, List.range_succ, List.map_append, List.map_append]
          rfl
    · rintro σ H1 ⟨v7, v8, v9, v10, rfl, q1, q2⟩
      obtain ⟨n1, n2, n3⟩ := names1N_ok (n := n) hn37 (one := one) a1 a2 z1 z2
      have fin : Q (.ref p) H1 := k p _ H1 n3 n1 n2 hp q2 q1
      refine ⟨_, rfl, _, rfl, _, _, rfl, rfl, _, rfl, ?_⟩
      refine ite2 (fun c => ?_) (fun c => ?_)
      · have c := of_decide_eq_true c
        walk_at "rd"
        refine ⟨(by decide : (0 : Int) < 2), ?_⟩
        refine ⟨rfl, _, rfl, ?_⟩
        refine ite2 (fun c2 => ?_) (fun c2 => ?_)
        · obtain ⟨m1, m2, m3⟩ := names2N_ok (n := n) (one := one) (at' := at') (size := size) (by omega) z2
          refine ⟨_, rfl, (n : Int), rfl, by omega, by omega, fun D hD => ?_⟩
          have npD : p ≠ D := ne_of_none q2 hD
          refine comp_pure (fix_rng (lo := 0) (n := n)) (fun _ => true) (cutF (nmC one at' 0 size) size) (fun _ => trivial) (by rw [List.length_map, List.length_range]; exact le_line (by omega)) (fun v hv ys Q' q => q) (fun v hv _ ys Q' q => ?_) ?_
          · obtain ⟨z, hz, rfl⟩ := List.mem_map.mp hv
            refine ⟨_, rfl, p, _, 0, .str (strOf (nmC one at' 0 size)), rfl, rfl, SqL.of (by rw [upd_ne npD]; exact q2), (by have hz := List.mem_range.mp hz; exact atI_nat (j := 0) (by rw [List.getElem?_map, List.getElem?_map, List.getElem?_range (by omega)]; rfl)), ?_⟩
            refine ⟨_, rfl, _, rfl, _, _, rfl, rfl, _, rfl, _, rfl, ?_, q⟩
            rw [len_strOf, nmC_len]
            exact Nat.le_trans z2 (by decide)
          · refine k D _ _ m3 m1 m2 (q1.free hD) ?_ (q1.trans (Same.new hD))
            rw [upd_same]
            congr 2
            unfold names2N
            rw [List.filter_eq_self.mpr (fun _ _ => rfl), List.map_map, List.map_map]
            apply List.map_congr_left
            intro i hi
            have hi := List.mem_range.mp hi
            show V.str (Txt.slice (strOf (nmC one at' 0 size)) none (some ((size : Int) - (0 + (i : Int))))) = V.str (strOf ((nmC one at' 0 size).take (size - i)))
            rw [slice_take _ _ (by omega) (by rw [nmC_len]; omega)]
            congr 3
            omega
        · exact ⟨_, rfl, fin⟩
      · exact iteF ⟨_, rfl, fin⟩
/-! ### a tie, a frame -/
theorem c58 : CPow 10 58 := ⟨by decide, by decide, by decide⟩
theorem c59' : CPow 10 59 := ⟨by decide, by decide, by decide⟩
theorem m59' : (0 : Int) < 10 ^ (59 : Int).toNat := by decide
def kinds6 : List V := [.str "over", .str "cuts", .str "fills", .str "after", .str "after", .str "same"]
theorem kind6_at {i : Int} (h0 : 0 ≤ i) (h1 : i < 6) : ∃ kd : Str, atI kinds6 i = some (.str kd) ∧ (kd = "after" ∨ kd ∈ KINDS) := by
  have h : i = 0 ∨ i = 1 ∨ i = 2 ∨ i = 3 ∨ i = 4 ∨ i = 5 := by omega
  rcases h with rfl | rfl | rfl | rfl | rfl | rfl
  · exact ⟨_, rfl, .inr (by decide +kernel)⟩
  · exact ⟨_, rfl, .inr (by decide +kernel)⟩
  · exact ⟨_, rfl, .inr (by decide +kernel)⟩
  · exact ⟨_, rfl, .inl rfl⟩
  · exact ⟨_, rfl, .inl rfl⟩
  · exact ⟨_, rfl, .inr (by decide +kernel)⟩
theorem same_kind6 : (Str.ofString "same" : Str) ∈ KINDS := by decide +kernel
theorem at_str6 {xs : List Str} {i : Nat} (h : i < xs.length) : atI (xs.map V.str) (i : Int) = some (.str xs[i]) := atI_nat (by simp [h])
def sp_tie71 : Sp := fun vs H Q _ => ∃ (pn : Addr) (us : List Str) (c : Int), vs = [.ref pn, .int c] ∧ SqL K H pn (us.map V.str) ∧ 1 ≤ us.length ∧ ∀ (p : Addr) (t : Tie) (H' : Hp), TOk us t → H p = none → H' p = some (.tup (tieV t)) → Same H H' → Q (.ref p) H'
set_option maxHeartbeats 8000000 in
theorem h__law_tie (T : Tx K mg w C_DigError C_Round) : Has P w K mg base "_law_tie" ["_law_names_here", "_law_cell"] 3 (sp_tie71 (K := K)) := by
  refine T.d__law_tie.has sc__law_tie (fun vs H Q E h => ?_) (fun f cdv A outer s H vs Q E hr h => ?_)
  · obtain ⟨pn, us, c, rfl, _⟩ := h; rfl
  · obtain ⟨pn, us, c, rfl, hn, m1, k⟩ := h
    refine ⟨_, (pss_cons (ps_set (i := 2) sc__law_tie.nd rfl (Or.inl rfl) (pe_fn (h__law_part T) (hr.mono (by decide)) (by rfl) (pa_cons (pv 1) (pa_cons pe_int (pa_cons (pe_callB (call_len_seqK K rfl) (by rfl) T.len boot_len (pa_cons (pv 0) pa_nil)) pa_nil)))))
      (pss_cons (ps_set (i := 3) sc__law_tie.nd rfl (Or.inl rfl) (pe_fn (h__law_part T) (hr.mono (by decide)) (by rfl) (pa_cons (pv 1) (pa_cons pe_int (pa_cons (pe_callB (call_len_seqK K rfl) (by rfl) T.len boot_len (pa_cons (pv 0) pa_nil)) pa_nil)))))
      (pss_cons (ps_if (pt_cmpR op_gt (pe_fn (h__law_part T) (hr.mono (by decide)) (by rfl) (pa_cons (pv 1) (pa_cons pe_int (pa_cons pe_int pa_nil)))) pe_int (nomark _)) (pss_one (ps_par (i := 2) (j := 3) rfl sc__law_tie.nd rfl rfl (by decide) rfl rfl (pa_cons (pe_callB (call_max2 rfl) (by rfl) T.max PyProof.Rows.boot_max (pa_cons (pv 2) (pa_cons (pv 3) pa_nil))) (pa_cons (pe_callB (call_min2 rfl) (by rfl) T.min PyProof.Rows.boot_min (pa_cons (pv 2) (pa_cons (pv 3) pa_nil))) pa_nil)) rfl)) pss_nil)
      (pss_cons (ps_set (i := 4) sc__law_tie.nd rfl (Or.inl rfl) (pe_ix (ix_listK K rfl) (pe_lst (pa_cons pe_str (pa_cons pe_str (pa_cons pe_str (pa_cons pe_str (pa_cons pe_str (pa_cons pe_str pa_nil))))))) (pe_fn (h__law_part T) (hr.mono (by decide)) (by rfl) (pa_cons (pv 1) (pa_cons pe_int (pa_cons pe_int pa_nil)))) (fun _ _ => rfl)))
      (pss_cons (ps_if (PW.pt (pw_and (pt_cmpR op_eq (pv 2) (pv 3) (nomark _)) (pw_and1 (pt_cmpR op_gt (pe_fn (h__law_part T) (hr.mono (by decide)) (by rfl) (pa_cons (pv 1) (pa_cons pe_int (pa_cons pe_int pa_nil)))) pe_int (nomark _))))) (pss_one (ps_set (i := 4) sc__law_tie.nd rfl (Or.inl rfl) pe_str)) pss_nil)
      (pss_cons (ps_if (pt_cmpR op_eq (pv 4) pe_str (nomark _)) (pss_cons (ps_set (i := 5) sc__law_tie.nd rfl (Or.inl rfl) (pe_ix (ix_listK K rfl) (pe_lst (pa_cons (pe_fn (h__law_part T) (hr.mono (by decide)) (by rfl) (pa_cons (pv 1) (pa_cons pe_int (pa_cons pe_int pa_nil)))) (pa_cons (pe_op op_mod (pe_op op_mul (pv 1) pe_int) (pe_op op_pow pe_int pe_int)) pa_nil))) (pe_op op_fdiv (pe_fn (h__law_part T) (hr.mono (by decide)) (by rfl) (pa_cons (pv 1) (pa_cons pe_int (pa_cons pe_int pa_nil)))) pe_int) (fun _ _ => rfl)))
        (pss_one (ps_ret (pe_tup (pa_cons (pv 4) (pa_cons (pe_ix (ix_listK K rfl) (pv 0) (pv 2) (fun _ _ => rfl)) (pa_cons (pe_ix (ix_listK K rfl) (pv 0) (pv 3) (fun _ _ => rfl)) (pa_cons (pv 5) pa_nil)))))))) pss_nil)
      (pss_one (ps_ret (pe_tup (pa_cons (pv 4) (pa_cons (pe_ix (ix_listK K rfl) (pv 0) (pv 2) (fun _ _ => rfl)) (pa_cons (pe_ix (ix_listK K rfl) (pv 0) (pv 3) (fun _ _ => rfl)) pa_nil)))))))))))), ?_⟩
    have hm : (0 : Int) < (us.length : Int) := by omega
    refine ⟨_, rfl, _, rfl, pn, _, rfl, .inl hn, ?_⟩
    rw [List.length_map]
    refine ⟨_, _, _, rfl, hm, ?_⟩
    obtain ⟨a0, ea, la⟩ : ∃ a : Nat, pt c 2 us.length = (a : Int) ∧ a < us.length := ⟨(pt c 2 us.length).toNat, by have := pt_bd c 2 us.length hm; omega, by have := pt_bd c 2 us.length hm; omega⟩
    rw [ea]
    try dsimp only [gName]
    refine ⟨_, rfl, _, rfl, pn, _, rfl, .inl hn, ?_⟩
    rw [List.length_map]
    refine ⟨_, _, _, rfl, hm, ?_⟩
    obtain ⟨b0, eb, lb⟩ : ∃ a : Nat, pt c 3 us.length = (a : Int) ∧ a < us.length := ⟨(pt c 3 us.length).toNat, by have := pt_bd c 3 us.length hm; omega, by have := pt_bd c 3 us.length hm; omega⟩
    rw [eb]
    try dsimp only [gName]
    -- the ends
    refine ifS_ex (fun σ' => ∃ a b : Nat, σ' = [some (.ref pn), some (.int c), some (.int a), some (.int b), none, none] ∧ a < us.length ∧ b < us.length)
      (decide ((0 : Int) < pt c 7 4)) (fun Q' hQ => ⟨_, rfl, _, _, _, rfl, by decide, _, _, rfl, rfl, _, rfl, hQ⟩)
      (fun e => ⟨_, ⟨if (b0 : Int) > a0 then b0 else a0, if (b0 : Int) < a0 then b0 else a0, rfl, by split <;> omega, by split <;> omega⟩, fun h => ⟨_, rfl, _, rfl, _, _, rfl, _, rfl, _, rfl, _, _, rfl, _, _, rfl, ?_⟩⟩)
      (fun e => ⟨_, ⟨a0, b0, rfl, la, lb⟩, fun h => h⟩) ?_
    · have e1 : (if (b0 : Int) > a0 then (b0 : Int) else a0) = ((if (b0 : Int) > a0 then b0 else a0 : Nat) : Int) := by split <;> rfl
      have e2 : (if (b0 : Int) < a0 then (b0 : Int) else a0) = ((if (b0 : Int) < a0 then b0 else a0 : Nat) : Int) := by split <;> rfl
      rw [e1, e2]
      exact h
    clear la lb ea eb
    rintro σ' ⟨a, b, rfl, ham, hbm⟩
    dsimp only
    refine ⟨(by show 6 ≤ sizeLine; decide), fun p1 hp1 => ?_⟩
    refine ⟨_, rfl, _, _, _, rfl, by decide, ?_⟩
    obtain ⟨kd, ek, hk⟩ := kind6_at (pt_bd c 4 6 (by decide)).1 (pt_bd c 4 6 (by decide)).2
    have s1 : Same H (upd H p1 (.lst kinds6)) := Same.new hp1
    refine ⟨p1, kinds6, _, _, rfl, rfl, SqL.of upd_same, ek, ?_⟩
    try dsimp only [gName]
    show tSeq _ _ _ _ (upd H p1 (.lst kinds6))
    generalize upd H p1 (.lst kinds6) = H1 at s1
    have xa := at_str6 (xs := us) (i := a) ham
    have xb := at_str6 (xs := us) (i := b) hbm
    have ma : us[a] ∈ us := List.getElem_mem _
    have mb : us[b] ∈ us := List.getElem_mem _
    -- the kind
    refine ifS_ex (fun σ' => ∃ kd' : Str, σ' = [some (.ref pn), some (.int c), some (.int a), some (.int b), some (.str kd'), none] ∧ (kd' = "after" ∨ kd' ∈ KINDS))
      (decide (V.int a = V.int b) && decide ((0 : Int) < pt c 8 6)) (fun Q' hQ => ?_) (fun e => ⟨_, ⟨"same", rfl, .inr same_kind6⟩, fun h => h⟩) (fun e => ⟨_, ⟨kd, rfl, hk⟩, fun h => h⟩) ?_
    · refine ⟨_, rfl, _, rfl, rfl, _, rfl, ?_⟩
      generalize decide (V.int (a : Int) = V.int (b : Int)) = bb at hQ
      cases bb with
      | false => exact iteF hQ
      | true =>
        refine iteT ?_
        exact ⟨_, rfl, _, _, _, rfl, by decide, _, _, rfl, rfl, _, rfl, hQ⟩
    clear hk ek
    rintro σ' ⟨kd', rfl, hk'⟩
    dsimp only
    refine ⟨_, rfl, rfl, _, rfl, ?_⟩
    refine ite2 (fun c3 => ?_) (fun c3 => ?_)
    · have c3 : kd' = "after" := V.str.inj (of_decide_eq_true c3)
      refine ⟨_, rfl, _, _, _, rfl, by decide, ?_⟩
      refine ⟨_, rfl, _, _, rfl, rfl, .inr ⟨by decide, by decide⟩, _, _, rfl, rfl, c59', _, _, rfl, rfl, m59', (by show 2 ≤ sizeLine; decide), fun p2 hp2 => ?_⟩
      obtain ⟨z, ez⟩ : ∃ z, z = c * 48271 % 10 ^ (59 : Int).toNat := ⟨_, rfl⟩
      have z0 := Int.emod_nonneg (c * 48271) (show (10 ^ (59 : Int).toNat : Int) ≠ 0 by decide)
      have z1 := Int.emod_lt_of_pos (c * 48271) m59'
      have e59 : (10 : Int) ^ (59 : Int).toNat = 10 ^ 59 := rfl
      rw [← ez] at z0 z1
      rw [e59] at z1
      have s3 := Same.new (o := .lst [.int (pt c 5 9), .int z]) hp2
      refine ⟨_, rfl, _, _, _, rfl, by decide, _, _, rfl, rfl, ⟨by decide, by decide⟩, ?_⟩
      obtain ⟨d1, d2⟩ := pt_bd c 5 9 (by decide)
      obtain ⟨d3, d4⟩ := pt_bd c 6 9 (by decide)
      obtain ⟨v, hv, hv'⟩ := at_two (u := .int (pt c 5 9)) (v := .int z) (i := pt c 6 9 / 8) (by omega) (by omega)
      obtain ⟨g, rfl, g0, g1⟩ : ∃ g : Int, v = .int g ∧ 0 ≤ g ∧ YearOk g := by
        rcases hv' with rfl | rfl
        · exact ⟨_, rfl, d1, by unfold YearOk; omega⟩
        · exact ⟨_, rfl, z0, by unfold YearOk; omega⟩
      refine ⟨p2, _, _, _, rfl, rfl, SqL.of (by rw [ez]; exact upd_same), hv, ?_⟩
      try dsimp only [gName]
      rw [← ez]
      have n3 := s1.trans s3
      refine ⟨_, rfl, _, rfl, _, rfl, pn, _, _, _, rfl, rfl, n3.seq hn, xa, _, rfl, _, rfl, pn, _, _, _, rfl, rfl, n3.seq hn, xb, _, rfl, (by show 4 ≤ sizeLine; decide), fun p3 hp3 => ?_⟩
      have tok : TieOk us (tieV ⟨kd', us[a], us[b], some g⟩) := by rw [c3]; exact .after ma mb g0 g1
      exact k p3 _ _ ⟨tok, ma, mb⟩ (n3.free hp3) upd_same (n3.trans (Same.new hp3))
    · have c3 : ¬ kd' = "after" := fun z => c3 (decide_eq_true (congrArg V.str z))
      refine ⟨_, rfl, _, rfl, _, rfl, pn, _, _, _, rfl, rfl, s1.seq hn, xa, _, rfl, _, rfl, pn, _, _, _, rfl, rfl, s1.seq hn, xb, (by show 3 ≤ sizeLine; decide), fun p3 hp3 => ?_⟩
      have tok : TieOk us (tieV ⟨kd', us[a], us[b], none⟩) := .plain (hk'.resolve_left c3) ma mb
      exact k p3 _ _ ⟨tok, ma, mb⟩ (s1.free hp3) upd_same (s1.trans (Same.new hp3))
theorem at_four {x y z u : V} {i : Int} (h0 : 0 ≤ i) (h1 : i < 4) : ∃ w, atI [x, y, z, u] i = some w ∧ (w = x ∨ w = y ∨ w = z ∨ w = u) := by
  have h : i = 0 ∨ i = 1 ∨ i = 2 ∨ i = 3 := by omega
  rcases h with rfl | rfl | rfl | rfl
  · exact ⟨_, rfl, .inl rfl⟩
  · exact ⟨_, rfl, .inr (.inl rfl)⟩
  · exact ⟨_, rfl, .inr (.inr (.inl rfl))⟩
  · exact ⟨_, rfl, .inr (.inr (.inr rfl))⟩
def sp_frame71 : Sp := fun vs H Q _ => ∃ c : Int, vs = [.int c] ∧ ∀ (p : Addr) (lo hi : Int) (H' : Hp), H p = none → H' p = some (.tup [.int lo, .int hi]) → Same H H' → Q (.ref p) H'
set_option maxHeartbeats 4000000 in
theorem h__law_frame (T : Tx K mg w C_DigError C_Round) : Has P w K mg base "_law_frame" ["_law_cell"] 2 sp_frame71 := by
  refine T.d__law_frame.has sc__law_frame (fun vs H Q E h => ?_) (fun f cdv A outer s H vs Q E hr h => ?_)
  · obtain ⟨c, rfl, _⟩ := h; rfl
  · obtain ⟨c, rfl, k⟩ := h
    refine ⟨_, (pss_cons (ps_set (i := 1) sc__law_frame.nd rfl (Or.inl rfl) (pe_lst (pa_cons (pe_tup (pa_cons (pe_un un_neg pe_int) (pa_cons pe_int pa_nil))) (pa_cons (pe_tup (pa_cons pe_int (pa_cons pe_int pa_nil))) (pa_cons (pe_tup (pa_cons (pe_un un_neg (pe_op op_pow pe_int pe_int)) (pa_cons (pe_op op_add (pe_op op_pow pe_int pe_int) (pe_op op_pow pe_int pe_int)) pa_nil))) (pa_cons (pe_tup (pa_cons pe_int (pa_cons pe_int pa_nil))) pa_nil))))))
      (pss_one (ps_ret (pe_ix (ix_listK K rfl) (pv 1) (pe_fn (h__law_part T) (hr.mono (by decide)) (by rfl) (pa_cons (pv 0) (pa_cons pe_int (pa_cons pe_int pa_nil)))) (fun _ _ => rfl))))), ?_⟩
    refine ⟨_, rfl, (by show 2 ≤ sizeLine; decide), fun p1 hp1 => ?_⟩
    have s1 := Same.new (o := .tup [.int (-5), .int 70]) hp1
    refine ⟨(by show 2 ≤ sizeLine; decide), fun p2 hp2 => ?_⟩
    have s2 := Same.new (o := .tup [.int 0, .int 9999]) hp2
    refine ⟨_, _, rfl, rfl, c59', _, rfl, _, _, rfl, rfl, c59', _, _, rfl, rfl, c58, _, _, rfl, rfl, (by show 2 ≤ sizeLine; decide), fun p3 hp3 => ?_⟩
    have s3 := Same.new (o := .tup [.int (-10 ^ (59 : Int).toNat), .int (10 ^ (59 : Int).toNat + 10 ^ (58 : Int).toNat)]) hp3
    refine ⟨(by show 2 ≤ sizeLine; decide), fun p4 hp4 => ?_⟩
    have s4 := Same.new (o := .tup [.int 0, .int 40]) hp4
    refine ⟨(by show 4 ≤ sizeLine; decide), fun p5 hp5 => ?_⟩
    have s5 := Same.new (o := .lst [.ref p1, .ref p2, .ref p3, .ref p4]) hp5
    obtain ⟨v, hv, hv'⟩ := at_four (x := .ref p1) (y := .ref p2) (z := .ref p3) (u := .ref p4) (pt_bd c 12 4 (by decide)).1 (pt_bd c 12 4 (by decide)).2
    refine ⟨_, rfl, _, rfl, _, _, _, rfl, by decide, p5, _, _, _, rfl, rfl, SqL.of upd_same, hv, ?_⟩
    have q := s1.trans (s2.trans (s3.trans (s4.trans s5)))
    rcases hv' with rfl | rfl | rfl | rfl
    · exact k _ _ _ _ hp1 (s5 _ _ (s4 _ _ (s3 _ _ (s2 _ _ upd_same)))) q
    · exact k _ _ _ _ (s1.free hp2) (s5 _ _ (s4 _ _ (s3 _ _ upd_same))) q
    · exact k _ _ _ _ (s1.free (s2.free hp3)) (s5 _ _ (s4 _ _ upd_same)) q
    · exact k _ _ _ _ (s1.free (s2.free (s3.free hp4))) (s5 _ _ upd_same) q
/-! ### the telling -/
def overF (us : List Str) (i : Nat) : Tie := ⟨"over", us.getD (i + 1) "", us.getD i "", none⟩
theorem expr_bool {t : TE} {σ : St} {H : Hp} {Q : VK} (ht : ∀ Q' : VK, (∀ b, Q' (.bl b) H) → t σ H Q') (hs : ∀ b, Q (.bl b) H) : t σ H Q := ht Q hs
theorem over6 : (Str.ofString "over" : Str) ∈ KINDS := by decide +kernel
structure St71 (K : PySem.W.Frag) (H : Hp) (pu p : Addr) (us : List Str) (ads : List Addr) (ts : List Tie) (n : Nat) : Prop where
  u : H pu = some (.lst (us.map V.str))
  ne : pu ≠ p
  t : H p = some (.lst (ads.map V.ref))
  tt : Tups H ads (ts.map tieV)
  nd : us.Nodup
  ul : us.length ≤ 14
  nm : ∀ x ∈ us, nameB x = true
  ok : ∀ t ∈ ts, TOk us t
  tl : ts.length ≤ n
theorem St71.same {K : PySem.W.Frag} {H H' : Hp} {pu p : Addr} {us : List Str} {ads : List Addr} {ts : List Tie} {n : Nat} (h : St71 K H pu p us ads ts n) (s : Same H H') : St71 K H' pu p us ads ts n := ⟨s _ _ h.u, h.ne, s _ _ h.t, h.tt.same s, h.nd, h.ul, h.nm, h.ok, h.tl⟩
theorem St71.le {K : PySem.W.Frag} {H : Hp} {pu p : Addr} {us : List Str} {ads : List Addr} {ts : List Tie} {n m : Nat} (h : St71 K H pu p us ads ts n) (e : n ≤ m) : St71 K H pu p us ads ts m := ⟨h.u, h.ne, h.t, h.tt, h.nd, h.ul, h.nm, h.ok, Nat.le_trans h.tl e⟩
def sp_tell71 : Sp := fun vs H Q _ => ∃ (a : Addr) (ns : List Int), vs = [.ref a] ∧ SqL K H a (ns.map V.int) ∧ ns.length ≤ 63 ∧
  ∀ (p pm pu pt pf : Addr) (lo hi : Int) (us : List Str) (ads : List Addr) (ts : List Tie) (H' : Hp), Tel K H' p pu pt (.ref pm) (.ref pf) us ads ts → H' pm = some (.tup [.int lo, .int hi]) → H' pf = some (.lst []) → us.length ≤ 14 → (∀ x ∈ us, nameB x = true) → ts.length ≤ 43 → Same H H' → Q (.ref p) H'
theorem cut_us {us : List Str} {z : Int} {m : Int} (h : (us.length : Int) < m) (hz : 0 ≤ z) : ∃ xs : List Str, cutV (us.map V.str) none (some z) = xs.map V.str ∧ xs.Sublist us := by
  refine ⟨us.take z.toNat, ?_, List.take_sublist _ _⟩
  unfold cutV HT.sIx
  dsimp only
  rw [List.map_take, if_neg (by omega), List.length_map, Nat.sub_zero, List.drop_zero, List.take_eq_take_iff, List.length_map]
  omega
set_option maxHeartbeats 16000000 in
theorem h__law_telling (T : Tx K mg w C_DigError C_Round) : Has P w K mg base "_law_telling" ["_law_script"] 4 (sp_tell71 (K := K)) := by
  refine T.d__law_telling.has sc__law_telling (fun vs H Q E h => ?_) (fun f cdv A outer s H vs Q E hr h => ?_)
  · obtain ⟨a, ns, rfl, _⟩ := h; rfl
  · obtain ⟨a, ns, rfl, ha, hl, k⟩ := h
    refine ⟨_, (pss_cons (ps_set (i := 1) sc__law_telling.nd rfl (Or.inl rfl) (pe_fn (h__law_names T) (hr.mono (by decide)) (by rfl) (pa_cons (pe_fn (h__law_cell_at T) (hr.mono (by decide)) (by rfl) (pa_cons (pv 0) (pa_cons pe_int pa_nil))) (pa_cons (pe_fn (h__law_cell_at T) (hr.mono (by decide)) (by rfl) (pa_cons (pv 0) (pa_cons pe_int pa_nil))) (pa_cons pe_int pa_nil)))))
      (pss_cons (ps_set (i := 2) sc__law_telling.nd rfl (Or.inr rfl) (pe_slice (sl_listK K rfl) (pv 1) po_none (po_some (pe_op op_mod (pe_fn (h__law_cell_at T) (hr.mono (by decide)) (by rfl) (pa_cons (pv 0) (pa_cons pe_int pa_nil))) pe_int))))
      (pss_cons (ps_set (i := 3) sc__law_telling.nd rfl (Or.inl rfl) (pe_lst pa_nil))
      (pss_cons (ps_if (pt_cmpR op_eq (pe_op op_mod (pe_op op_fdiv (pe_fn (h__law_cell_at T) (hr.mono (by decide)) (by rfl) (pa_cons (pv 0) (pa_cons pe_int pa_nil))) pe_int) pe_int) pe_int (nomark _)) (pss_cons (ps_set (i := 2) sc__law_telling.nd rfl (Or.inr rfl) (pe_slice (sl_listK K rfl) (pe_fn (h__law_names T) (hr.mono (by decide)) (by rfl) (pa_cons (pe_fn (h__law_cell_at T) (hr.mono (by decide)) (by rfl) (pa_cons (pv 0) (pa_cons pe_int pa_nil))) (pa_cons (pe_fn (h__law_cell_at T) (hr.mono (by decide)) (by rfl) (pa_cons (pv 0) (pa_cons pe_int pa_nil))) (pa_cons pe_int pa_nil)))) po_none (po_some (pe_op op_mod (pe_fn (h__law_cell_at T) (hr.mono (by decide)) (by rfl) (pa_cons (pv 0) (pa_cons pe_int pa_nil))) pe_int))))
        (pss_one (ps_setC (i := 3) (own := ["_law_k"]) (cap := ["_law_units"]) (ix := [2]) (osc := defScope (top 31)) rfl sc__law_telling.nd rfl rfl rfl ⟨rfl, by decide +kernel, by decide +kernel, by decide +kernel, by decide +kernel⟩ rfl (pi_range2 (by rfl) T.range (pa_cons pe_int (pa_cons (pe_callB (call_len_seqK K rfl) (by rfl) T.len boot_len (pa_cons (pv 2) pa_nil)) pa_nil))) (fun _ _ _ _ => pg_name (i := 0) (show List.Nodup (["_law_k", "_law_units"] : List Str) by decide +kernel) rfl (Or.inl rfl)) (fun _ _ _ _ => pif_nil) (fun _ _ _ _ => (pe_tup (pa_cons pe_str (pa_cons (pe_ix (ix_listK K rfl) (pv 1) (pv 0) (fun _ _ => rfl)) (pa_cons (pe_ix (ix_listK K rfl) (pv 1) (pe_op op_sub (pv 0) pe_int) (fun _ _ => rfl)) pa_nil)))))))) pss_nil)
      (pss_cons (ps_for PassesOwn.never rfl (pi_listK K rfl (pe_slice (sl_listK K rfl) (pv 0) (po_some pe_int) (po_some pe_int))) (pg_name (i := 4) sc__law_telling.nd rfl (Or.inl rfl)) (pss_one (ps_if (pt_cmpR (op_neDK K rfl (hu10 hr)) (pv 2) (pe_lst pa_nil) (nomark _)) (pss_cons (ps_set (i := 5) sc__law_telling.nd rfl (Or.inl rfl) (pe_fn (h__law_tie T) (hr.mono (by decide)) (by rfl) (pa_cons (pv 2) (pa_cons (pv 4) pa_nil))))
          (pss_cons (ps_set (i := 6) sc__law_telling.nd rfl (Or.inl rfl) (pe_and (pe_cmpR op_ne (pe_ix (ix_tupK K rfl) (pv 5) pe_int (fun _ _ => rfl)) pe_str (nomark _)) (pe_one (pe_cmpR op_le (pe_bmK K rfl PySem.F.plainAttrs_list PySem.F.slot_list_index PySem.F.type_list_index mt_lindex (pv 2) (pa_cons (pe_ix (ix_tupK K rfl) (pv 5) pe_int (fun _ _ => rfl)) pa_nil)) (pe_bmK K rfl PySem.F.plainAttrs_list PySem.F.slot_list_index PySem.F.type_list_index mt_lindex (pv 2) (pa_cons (pe_ix (ix_tupK K rfl) (pv 5) pe_int (fun _ _ => rfl)) pa_nil)) (nomark _)))))
          (pss_one (ps_if (PW.pt (pw_and (pt_cmpR (op_notInDK K rfl (hu11 hr)) (pv 5) (pv 3) (by with_unfolding_all rfl)) (pw_and1 (pt_not (PW.pt (pw_and (pt_val (pv 6)) (pw_and1 (pt_cmpR op_gt (pe_op op_mod (pe_fn (h__law_cell_at T) (hr.mono (by decide)) (by rfl) (pa_cons (pv 0) (pa_cons pe_int pa_nil))) pe_int) pe_int (nomark _))))))))) (pss_one (ps_expr (pe_bmK K rfl PySem.F.plainAttrs_list PySem.F.slot_list_append PySem.F.type_list_append mt_append (pv 3) (pa_cons (pv 5) pa_nil)))) pss_nil)))) pss_nil)))
      (pss_cons (ps_if (pt_cmpR op_gt (pe_op op_mod (pe_fn (h__law_cell_at T) (hr.mono (by decide)) (by rfl) (pa_cons (pv 0) (pa_cons pe_int pa_nil))) pe_int) pe_int (nomark _)) (pss_one (ps_setC (i := 3) (own := ["_law_tie_here"]) (cap := []) (ix := []) (osc := defScope (top 31)) rfl sc__law_telling.nd rfl rfl rfl ⟨rfl, by decide +kernel, by decide +kernel, by decide +kernel, by decide +kernel⟩ rfl (pi_listK K rfl (pv 3)) (fun _ _ _ _ => pg_name (i := 0) (show List.Nodup (["_law_tie_here"] : List Str) by decide +kernel) rfl (Or.inl rfl)) (fun _ _ _ _ => pif_one (pt_cmpR op_ne (pe_ix (ix_tupK K rfl) (pv 0) pe_int (fun _ _ => rfl)) pe_str (nomark _))) (fun _ _ _ _ => (pv 0)))) pss_nil)
      (pss_one (ps_ret (pe_tup (pa_cons (pe_fn (h__law_frame T) (hr.mono (by decide)) (by rfl) (pa_cons (pe_fn (h__law_cell_at T) (hr.mono (by decide)) (by rfl) (pa_cons (pv 0) (pa_cons pe_int pa_nil))) pa_nil)) (pa_cons (pv 2) (pa_cons (pv 3) (pa_cons (pe_lst pa_nil) pa_nil))))))))))))), ?_⟩
    refine ⟨_, rfl, a, ns, _, rfl, ha, by decide, _, rfl, a, ns, _, rfl, ha, by decide, _, _, 9, rfl, by decide, fun pn xs H1 x1 x2 x3 fpn hn s1 => ?_⟩
    try dsimp only [gName]
    refine ⟨_, rfl, _, rfl, a, ns, _, rfl, s1.seq ha, by decide, _, _, rfl, rfl, (by decide : (0 : Int) < 10), _, rfl, pn, _, rfl, SqL.of hn, fun pu0 hpu0 => ?_⟩
    obtain ⟨us0, e0, sb0⟩ := cut_us (us := xs) (z := cellI ns 2 % 10) (m := 10) (by omega) (Int.emod_nonneg _ (by decide))
    rw [e0]
    have t1 := Same.new (o := .lst (us0.map V.str)) hpu0
    have q1 := s1.trans t1
    try dsimp only [gName]
    refine ⟨by decide, fun p0 hp0 => ?_⟩
    have t2 := Same.new (o := .lst []) hp0
    have q2 := q1.trans t2
    have S0 : St71 K (upd (upd H1 pu0 (.lst (us0.map V.str))) p0 (.lst [])) pu0 p0 us0 [] [] 13 := ⟨t2 _ _ upd_same, ne_of_none upd_same hp0, upd_same, .nil, x2.sublist sb0, by have := sb0.length_le; omega, fun x hx => x3 x (sb0.subset hx), by simp, by simp⟩
    generalize upd (upd H1 pu0 (.lst (us0.map V.str))) p0 (.lst []) = H2 at q2 S0
    try dsimp only [gName]
    -- a chain, maybe
    refine ifS_meetS (fun σ' H' => ∃ (pu p : Addr) (us : List Str) (ads : List Addr) (ts : List Tie), σ' = [some (.ref a), some (.ref pn), some (.ref pu), some (.ref p), none, none, none] ∧ Same H H' ∧ H p = none ∧ St71 K H' pu p us ads ts 13)
      (decide (V.int (cellI ns 3 / 4 % 4) = V.int 1)) (fun Q' hQ => ?_) (fun _ H3 s3 hN => ?_) (fun _ H3 s3 hN => ?_) ?_
    · exact ⟨_, rfl, a, ns, _, rfl, q2.seq ha, by decide, _, _, rfl, rfl, ⟨by decide, by decide⟩, _, _, rfl, rfl, (by decide : (0 : Int) < 4), rfl, _, rfl, hQ _ (Same.refl _)⟩
    · have q3 := q2.trans s3
      refine ⟨_, rfl, a, ns, _, rfl, q3.seq ha, by decide, _, rfl, a, ns, _, rfl, q3.seq ha, by decide, _, _, 14, rfl, by decide, fun pn' xs' H4 y1 y2 y3 fpn' hn' s4 => ?_⟩
      have q4 := q3.trans s4
      refine ⟨_, rfl, a, ns, _, rfl, q4.seq ha, by decide, _, _, rfl, rfl, (by decide : (0 : Int) < 15), _, rfl, pn', _, rfl, SqL.of hn', fun pu hpu => ?_⟩
      obtain ⟨us, e1, sb⟩ := cut_us (us := xs') (z := cellI ns 2 % 15) (m := 15) (by omega) (Int.emod_nonneg _ (by decide))
      rw [e1]
      have t5 := Same.new (o := .lst (us.map V.str)) hpu
      have q5 := q4.trans t5
      have hu5 : upd H4 pu (.lst (us.map V.str)) pu = some (.lst (us.map V.str)) := upd_same
      generalize upd H4 pu (.lst (us.map V.str)) = H5 at t5 q5 hu5
      have lu : us.length ≤ 14 := by have := sb.length_le; omega
      have nm : ∀ x ∈ us, nameB x = true := fun x hx => y3 x (sb.subset hx)
      try dsimp only [gName]
      refine ⟨_, rfl, pu, _, rfl, .inl (SqL.of hu5), 1, _, rfl, ⟨by decide, by decide, by rw [List.length_map]; omega, by rw [List.length_map]; omega⟩, fun D hD => ?_⟩
      rw [List.length_map]
      refine comp_gen (fix_rng (lo := 1) (n := ((us.length : Int) - 1).toNat)) (fun i σ' ys H' => ∃ (w0 : Option V) (ads : List Addr), σ' = [w0, some (.ref pu)] ∧ ys = ads.map V.ref ∧ Tups H' ads (((List.range i).map (overF us)).map tieV) ∧ Same H5 H' ∧ H' D = some (.lst ys))
        ⟨none, [], rfl, rfl, .nil, Same.new hD, upd_same⟩ (fun i σ' ys H' h => ?_) (by rw [List.length_map, List.length_range]; exact le_line (by omega)) ?_ ?_
      · obtain ⟨_, ads, _, rfl, tt, q, hd⟩ := h
        refine ⟨trivial, hd, ?_⟩
        have := tt.len
        rw [List.length_map, List.length_map, List.length_range] at this
        rw [List.length_map]
        omega
      · rintro i v σ' ys H' hx ⟨w0, ads, rfl, rfl, tt, q, hd⟩
        have hi := get_lt hx
        rw [List.length_map, List.length_range] at hi
        rw [List.getElem?_map, List.getElem?_range hi] at hx
        cases hx
        have xa : atI (us.map V.str) (1 + (i : Int)) = some (.str (us.getD (i + 1) "")) := by
          have := atI_nat (xs := us.map V.str) (j := i + 1) (v := .str (us.getD (i + 1) "")) (by rw [List.getElem?_map, List.getElem?_eq_getElem (by omega), List.getD_eq_getElem?_getD, List.getElem?_eq_getElem (by omega)]; rfl)
          rwa [show ((i + 1 : Nat) : Int) = 1 + (i : Int) by omega] at this
        have xb : atI (us.map V.str) (1 + (i : Int) - 1) = some (.str (us.getD i "")) := by
          have := atI_nat (xs := us.map V.str) (j := i) (v := .str (us.getD i "")) (by rw [List.getElem?_map, List.getElem?_eq_getElem (by omega), List.getD_eq_getElem?_getD, List.getElem?_eq_getElem (by omega)]; rfl)
          rwa [show ((i : Nat) : Int) = 1 + (i : Int) - 1 by omega] at this
        try dsimp only [gName]
        refine ⟨_, rfl, _, rfl, pu, _, _, _, rfl, rfl, SqL.of (q _ _ hu5), xa, _, rfl, _, rfl, _, _, rfl, rfl, pu, _, _, _, rfl, rfl, SqL.of (q _ _ hu5), xb, (by show 3 ≤ sizeLine; decide), fun p6 hp6 => ?_⟩
        have t6 := Same.new (o := .tup (tieV (overF us i))) hp6
        have hd6 := t6 _ _ hd
        refine ⟨hd6, cstep (by rw [List.length_map, List.length_range]; exact hi) ⟨_, ads ++ [p6], rfl, by rw [List.map_append]; rfl, ?_, (q.trans t6).upd hD, upd_same⟩⟩
        rw [List.range_succ, List.map_append, List.map_append]
        exact Tups.snoc ((tt.same t6).stay (tup_stay hd6)) (tup_stay hd6 _ _ upd_same)
      · rintro σ' ys H6 ⟨w0, ads, rfl, rfl, tt, q, hd⟩
        rw [List.length_map, List.length_range] at tt
        refine hN _ _ ⟨pu, D, us, ads, (List.range ((us.length : Int) - 1).toNat).map (overF us), rfl, q5.trans q, q5.free hD, ⟨q _ _ hu5, ne_of_none hu5 hD, hd, tt, y2.sublist sb, lu, nm, ?_, by rw [List.length_map, List.length_range]; omega⟩⟩
        intro t ht
        obtain ⟨i, hi, rfl⟩ := List.mem_map.mp ht
        have hi := List.mem_range.mp hi
        have m1 : us.getD (i + 1) "" ∈ us := by rw [List.getD_eq_getElem?_getD, List.getElem?_eq_getElem (by omega)]; exact List.getElem_mem _
        have m2 : us.getD i "" ∈ us := by rw [List.getD_eq_getElem?_getD, List.getElem?_eq_getElem (by omega)]; exact List.getElem_mem _
        exact ⟨.plain over6 m1 m2, m1, m2⟩
    · exact hN _ _ ⟨pu0, p0, us0, [], [], rfl, q2.trans s3, q1.free hp0, S0.same s3⟩
    clear S0 q2 t2 hp0 q1 t1 e0 sb0
    rintro σ' H3 ⟨pu, p, us, ads, ts, rfl, q3, fp, S3⟩
    dsimp only
    obtain ⟨cs, ec, lc⟩ := cutV_ints ns (some 5) (some 35)
    have lc30 : cs.length ≤ 30 := by
      have e2 := congrArg List.length ec
      rw [List.length_map] at e2
      rw [← e2]
      unfold cutV HT.sIx
      rw [List.length_take]
      simp
      omega
    refine ⟨_, rfl, _, rfl, _, rfl, a, _, rfl, q3.seq ha, fun pc hpc => ?_⟩
    rw [ec]
    have npc : p ≠ pc := ne_of_none S3.t hpc
    have t4 := Same.new (o := .lst (cs.map V.int)) hpc
    refine ⟨pc, rfl, ⟨_, SqL.of upd_same⟩, for_list (K := K) (a := pc) (xs := cs.map V.int) (fun i σ H' => ∃ (v4 v5 v6 : Option V) (ads : List Addr) (ts : List Tie), σ = [some (.ref a), some (.ref pn), some (.ref pu), some (.ref p), v4, v5, v6] ∧ Same H H' ∧ H' pc = some (.lst (cs.map V.int)) ∧ St71 K H' pu p us ads ts (13 + i))
      ⟨none, none, none, ads, ts, rfl, q3.trans t4, upd_same, S3.same t4⟩ (fun i σ H' _ h => by obtain ⟨_, _, _, _, _, _, _, hc, _⟩ := h; exact SqL.of hc) ?_ ?_⟩
    · clear S3 q3 t4
      rintro i v σ H4 hx ⟨v4, v5, v6, ads, ts, rfl, q4, hc4, S4⟩
      have hi := get_lt hx
      rw [List.length_map] at hi
      obtain ⟨c, rfl⟩ : ∃ z, v = V.int z := by
        rw [List.getElem?_map, List.getElem?_eq_getElem hi] at hx
        exact ⟨_, (Option.some.inj hx).symm⟩
      try dsimp only [gName]
      refine ifS_same (!decide (us.map V.str = [])) (fun Q' hQ => ⟨_, rfl, by decide, fun e he => ⟨pu, e, _, rfl, rfl, DEq.nilL (SqL.of (Same.new he _ _ S4.u)) (SqL.of upd_same), _, rfl, hQ _ (Same.new he)⟩⟩) (fun H5 s5 => ite2 (fun c1 => ?_) (fun c1 => ?_))
      · have hne : us ≠ [] := fun z => by rw [z] at c1; cases c1
        have l1 := List.length_pos_iff.mpr hne
        have S5 := S4.same s5
        refine ⟨_, rfl, _, rfl, pu, us, c, rfl, SqL.of S5.u, l1, fun p6 t H6 tok fp6 hp6 s6 => ?_⟩
        have S6 := S5.same s6
        have q6 := q4.trans (s5.trans s6)
        have hc6 := s6 _ _ (s5 _ _ hc4)
        obtain ⟨ia, la, ea⟩ := List.getElem_of_mem tok.a
        obtain ⟨ib, lb, eb⟩ := List.getElem_of_mem tok.b
        have xa : us[ia]? = some t.a := by rw [List.getElem?_eq_getElem la, ea]
        have xb : us[ib]? = some t.b := by rw [List.getElem?_eq_getElem lb, eb]
        try dsimp only [gName]
        unfold tSeq tAsg
        refine expr_bool (fun Q' hQ => ?_) (fun up => ?_)
        · refine ⟨_, rfl, p6, _, _, _, rfl, rfl, SqT.of hp6, tieV_0 t, rfl, _, rfl, ?_⟩
          refine ite2 (fun c2 => ?_) (fun c2 => hQ _)
          refine ⟨_, rfl, .inl ⟨rfl, _, SqL.of S6.u⟩, _, rfl, p6, _, _, _, rfl, rfl, SqT.of hp6, tieV_1 t, pu, us, t.a, ia, rfl, rfl, S6.u, xa, S6.nd, ?_⟩
          refine ⟨_, rfl, .inl ⟨rfl, _, SqL.of S6.u⟩, _, rfl, p6, _, _, _, rfl, rfl, SqT.of hp6, tieV_2 t, pu, us, t.b, ib, rfl, rfl, S6.u, xb, S6.nd, ?_⟩
          exact ⟨_, _, rfl, rfl, hQ _⟩
        try dsimp only [gName]
        have hw : ∀ vs ∈ ts.map tieV, ∀ v ∈ vs, Wd v := fun vs hv => by
          obtain ⟨u, hu, rfl⟩ := List.mem_map.mp hv
          exact ((S6.ok u hu).ok.words S6.nm).1
        have hlen : ads.length = ts.length := by have := S6.tt.len; rw [List.length_map] at this; exact this
        have htl := S6.tl
        refine ifS_at (!decide (tieV t ∈ ts.map tieV) && !(up && decide ((0 : Int) < cellI ns 3 % 4))) (fun Q' hQ => ?_) ?_
        · refine ⟨_, rfl, _, rfl, p, _, _, rfl, .inl (SqL.of S6.t), S6.tt.deq (n := 7) hw hp6 (tok.ok.words S6.nm).1, _, rfl, ?_⟩
          rw [if_pos rfl, S6.tt.anyE]
          generalize decide (tieV t ∈ ts.map tieV) = bb at hQ
          cases bb with
          | true => exact iteF hQ
          | false =>
            refine iteT ?_
            refine ⟨_, rfl, up, rfl, ?_⟩
            cases up with
            | false => exact iteF hQ
            | true =>
              refine iteT ?_
              exact ⟨_, rfl, a, ns, _, rfl, q6.seq ha, by decide, _, _, rfl, rfl, (by decide : (0 : Int) < 4), _, _, rfl, rfl, _, rfl, hQ⟩
        refine ite2 (fun c3 => ?_) (fun c3 => ?_)
        · refine ⟨_, rfl, .inl ⟨rfl, _, SqL.of S6.t⟩, _, rfl, p, _, _, rfl, rfl, S6.t, by rw [List.length_map]; exact small1000 (by omega), ?_⟩
          refine ⟨_, _, _, ads ++ [p6], ts ++ [t], rfl, q6.upd fp, by rw [upd_ne npc.symm]; exact hc6, ⟨by rw [upd_ne S6.ne]; exact S6.u, S6.ne, by rw [upd_same, List.map_append]; rfl, ?_, S6.nd, S6.ul, S6.nm, ?_, by rw [List.length_append]; exact Nat.succ_le_succ htl⟩⟩
          · rw [List.map_append]
            exact Tups.snoc (S6.tt.stay (tup_stay S6.t)) (tup_stay S6.t _ _ hp6)
          · intro u hu
            rcases List.mem_append.mp hu with hu | hu
            · exact S6.ok u hu
            · have : u = t := by simpa using hu
              subst this; exact tok
        · exact ⟨_, _, _, ads, ts, rfl, q6, hc6, S6.le (by omega)⟩
      · exact ⟨_, _, _, ads, ts, rfl, q4.trans s5, s5 _ _ hc4, (S4.same s5).le (by omega)⟩
    clear S3 q3 t4
    rintro σ' H4 ⟨v4, v5, v6, ads, ts, rfl, q4, hc4, S4⟩
    rw [List.length_map] at S4
    have S4 := S4.le (m := 43) (by omega)
    -- without the same, maybe
    try dsimp only
    refine ifS_meetS (fun σ' H' => ∃ (p : Addr) (ads : List Addr) (ts : List Tie), σ' = [some (.ref a), some (.ref pn), some (.ref pu), some (.ref p), v4, v5, v6] ∧ Same H H' ∧ St71 K H' pu p us ads ts 43)
      (decide ((1 : Int) < cellI ns 3 % 4)) (fun Q' hQ => ?_) (fun _ H5 s5 hN => ?_) (fun _ H5 s5 hN => ?_) ?_
    · exact ⟨_, rfl, a, ns, _, rfl, q4.seq ha, by decide, _, _, rfl, rfl, (by decide : (0 : Int) < 4), _, _, rfl, rfl, _, rfl, hQ _ (Same.refl _)⟩
    · have S5 := S4.same s5
      have q5 := q4.trans s5
      refine ⟨_, rfl, p, rfl, ⟨_, SqL.of S5.t⟩, fun D hD => ?_⟩
      have hlen : ads.length = ts.length := by have := S5.tt.len; rw [List.length_map] at this; exact this
      have htl := S5.tl
      refine comp_gen (fix_list (K := K) (a := p) (xs := ads.map V.ref)) (fun i σ' ys H' => ∃ (w0 : Option V) (ads' : List Addr) (ts' : List Tie), σ' = [w0] ∧ ys = ads'.map V.ref ∧ Tups H' ads' (ts'.map tieV) ∧ (∀ t ∈ ts', t ∈ ts) ∧ ts'.length ≤ i ∧ Same H5 H' ∧ H' D = some (.lst ys))
        ⟨none, [], [], rfl, rfl, .nil, by simp, by simp, Same.new hD, upd_same⟩ (fun i σ' ys H' h => ?_) (by rw [List.length_map]; exact le_line (by omega)) ?_ ?_
      · obtain ⟨_, ads', ts', _, rfl, tt', _, hl', q, hd⟩ := h
        have := tt'.len
        rw [List.length_map] at this
        refine ⟨SqL.of (q _ _ S5.t), hd, ?_⟩
        rw [List.length_map]
        omega
      · rintro i v σ' ys H' hx ⟨w0, ads', ts', rfl, rfl, tt', hin, hl', q7, hd⟩
        obtain ⟨r7, t, rfl, ht, har, hr7⟩ := rows_at (S5.tt.same q7) hx
        have hix := get_lt hx
        try dsimp only [gName]
        refine ⟨_, rfl, r7, _, _, _, rfl, rfl, SqT.of hr7, tieV_0 t, rfl, _, rfl, ?_⟩
        refine ite2 (fun c => ?_) (fun c => ?_)
        · refine ⟨_, rfl, hd, cstep (by exact hix) ⟨_, ads' ++ [r7], ts' ++ [t], rfl, by rw [List.map_append]; rfl, ?_, ?_, by rw [List.length_append]; exact Nat.succ_le_succ hl', q7.upd hD, upd_same⟩⟩
          · rw [List.map_append]
            exact Tups.snoc (tt'.stay (tup_stay hd)) (tup_stay hd _ _ hr7)
          · intro u hu
            rcases List.mem_append.mp hu with hu | hu
            · exact hin u hu
            · have : u = t := by simpa using hu
              subst this; exact List.mem_of_getElem? ht
        · exact ⟨hd, cstep (by exact hix) ⟨_, ads', ts', rfl, rfl, tt', hin, by omega, q7, hd⟩⟩
      · rintro σ' ys H6 ⟨w0, ads', ts', rfl, rfl, tt', hin, hl', q7, hd⟩
        rw [List.length_map] at hl'
        exact hN _ _ ⟨D, ads', ts', rfl, q5.trans q7, ⟨q7 _ _ S5.u, ne_of_none S5.u hD, hd, tt', S5.nd, S5.ul, S5.nm, fun t ht => S5.ok t (hin t ht), by omega⟩⟩
    · exact hN _ _ ⟨p, ads, ts, rfl, q4.trans s5, S4.same s5⟩
    clear S4 q4 hc4
    rintro σ' H5 ⟨p, ads, ts, rfl, q5, S5⟩
    dsimp only
    refine ⟨_, rfl, a, ns, _, rfl, q5.seq ha, by decide, _, rfl, fun pm lo hi H6 fpm hpm s6 => ?_⟩
    refine ⟨_, rfl, _, rfl, by decide, fun pf hpf => ?_⟩
    have t7 := Same.new (o := .lst []) hpf
    refine ⟨by show 4 ≤ sizeLine; decide, fun ph hph => ?_⟩
    have t8 := Same.new (o := .tup [.ref pm, .ref pu, .ref p, .ref pf]) hph
    have S8 := (S5.same s6).same (t7.trans t8)
    exact k ph pm pu p pf lo hi us ads ts _ ⟨SqT.of upd_same, SqL.of S8.u, SqL.of S8.t, S8.tt, S8.nd, by have := S8.ul; omega, by have := S8.tl; omega, S8.ok⟩ (t8 _ _ (t7 _ _ hpm)) (t8 _ _ upd_same) S8.ul S8.nm S8.tl (q5.trans (s6.trans (t7.trans t8)))
/-! ### ones -/
def sp_join : Sp := fun vs H Q _ => ∃ (pd : Addr) (us : List Str) (lab : Str → Str) (f s : Str), vs = [.ref pd, .str f, .str s] ∧ H pd = some (.dK (dN us lab)) ∧ us.Nodup ∧ us.length ≤ 1000 ∧
  ∀ H' : Hp, H' pd = some (.dK (dN us (jn lab f s))) → (∀ b o, b ≠ pd → H b = some o → H' b = some o) → Q .non H'
set_option maxHeartbeats 4000000 in
theorem h_join_ones (T : Tx K mg w C_DigError C_Round) : Has P w K mg base "join_ones" ["names", "first", "second"] 1 sp_join := by
  refine T.d_join_ones.has sc_join_ones (fun vs H Q E h => ?_) (fun f cdv A outer s H vs Q E hr h => ?_)
  · obtain ⟨pd, us, lab, f, s, rfl, _⟩ := h; rfl
  · obtain ⟨pd, us, lab, f, s', rfl, hd, nd, hl, k⟩ := h
    have hu := hu_of hr
    refine ⟨_, (pss_cons (ps_set (i := 3) sc_join_ones.nd rfl (Or.inl rfl) (pe_callB (call_min2s rfl) (by rfl) T.min PyProof.Rows.boot_min (pa_cons (pv 1) (pa_cons (pv 2) pa_nil))))
      (pss_one (ps_for PassesOwn.never rfl (pi_listK K rfl (pe_callTy (call_list_dK rfl) (by rfl) T.list PyProof.Rows.boot_list (pa_cons (pv 0) pa_nil))) (pg_name (i := 4) sc_join_ones.nd rfl (Or.inl rfl)) (pss_one (ps_if (pt_cmpR (op_in_seqK K rfl) (pe_dget hu (pv 0) (pv 4) (fun _ _ => rfl)) (pe_tup (pa_cons (pv 1) (pa_cons (pv 2) pa_nil))) (by with_unfolding_all rfl)) (pss_one (ps_dput hu (pv 0) (pv 4) (pv 3) rfl)) pss_nil))))), ?_⟩
    refine ⟨_, rfl, _, rfl, _, _, rfl, ?_⟩
    refine ⟨_, rfl, pd, _, rfl, hd, fun l hl' => ?_⟩
    rw [dN_keys]
    have npl : pd ≠ l := ne_of_none hd hl'
    refine ⟨l, rfl, ⟨_, SqL.of upd_same⟩, for_list (xs := us.map V.str) (fun i σ H' => ∃ v4, σ = [some (.ref pd), some (.str f), some (.str s'), some (.str (minS f s')), v4] ∧ (∀ b o, b ≠ pd → H b = some o → H' b = some o) ∧ H' l = some (.lst (us.map V.str)) ∧
      H' pd = some (.dK (dN us fun x => if x ∈ us.take i then jn lab f s' x else lab x)))
      ⟨none, rfl, fun b o _ e => Same.new hl' _ _ e, upd_same, ?_⟩ (fun i σ H' _ h => by obtain ⟨_, _, _, q, _⟩ := h; exact SqL.of q) ?_ ?_⟩
    · rw [upd_ne npl, hd, dN_congr (f := fun x => if x ∈ us.take 0 then jn lab f s' x else lab x) (g := lab) fun x _ => by simp]
    · rintro i x σ H1 hx ⟨v4, rfl, kp, hl1, hd1⟩
      rw [List.getElem?_map] at hx
      cases eu : us[i]? with
      | none => rw [eu] at hx; cases hx
      | some u =>
        rw [eu] at hx
        cases hx
        have hu' : u ∈ us := List.mem_of_getElem? eu
        have hi := get_lt eu
        have hfr : u ∉ us.take i := by
          have := take_fresh nd i hi
          rw [show us[i] = u from (List.getElem?_eq_some_iff.mp eu).2] at this
          exact this
        have hg := DGet.k (k := Sum.inr u) hd1
        rw [dN_val hu', if_neg hfr] at hg
        dsimp only [gName]
        refine ifS_same (decide (lab u = f ∨ lab u = s')) (fun Q' hQ => ?_) (fun H2 t2 => ?_)
        · refine ⟨_, rfl, _, rfl, pd, _, rfl, hg, _, rfl, _, rfl, (by show 2 ≤ sizeLine; decide), fun p hp => ?_⟩
          refine ⟨p, _, rfl, .inr (SqT.of upd_same), rfl, rfl, _, rfl, ?_⟩
          have e : inV (.str (lab u)) [.str f, .str s'] = decide (lab u = f ∨ lab u = s') := by
            rw [show ([.str f, .str s'] : List V) = [f, s'].map V.str from rfl, inV_strs]
            apply decide_eq_decide.mpr
            simp
          show Q' (inV (.str (lab u)) [.str f, .str s']) _
          rw [e]
          exact hQ _ (Same.new hp)
        · have hd2 := t2 _ _ hd1
          have kp2 : ∀ b o, b ≠ pd → H b = some o → H2 b = some o := fun b o n e => t2 _ _ (kp b o n e)
          refine ite2 (fun c => ?_) (fun c => ?_)
          · have c := of_decide_eq_true c
            refine ⟨_, rfl, _, rfl, _, rfl, pd, _, rfl, DPut.k (k := Sum.inr u) hd2 (by rw [dN_len]; exact small1000 hl), ?_⟩
            refine ⟨_, rfl, fun b o n e => by rw [upd_ne n]; exact kp2 b o n e, ?_, ?_⟩
            · rw [upd_ne npl.symm]; exact t2 _ _ hl1
            · rw [upd_same, dN_put hu']
              congr 2
              refine dN_congr fun z hz => ?_
              have ht : z ∈ us.take (i + 1) ↔ z ∈ us.take i ∨ z = u := by
                rw [List.take_add_one, eu]; simp
              by_cases e : z = u
              · subst e
                rw [if_pos rfl, if_pos (ht.mpr (.inr rfl))]
                exact (if_pos c).symm
              · rw [if_neg e]
                by_cases e2 : z ∈ us.take i
                · rw [if_pos e2, if_pos (ht.mpr (.inl e2))]
                · rw [if_neg e2, if_neg (fun q => (ht.mp q).elim e2 e)]
          · have c : ¬ (lab u = f ∨ lab u = s') := fun z => c (decide_eq_true z)
            refine ⟨_, rfl, kp2, t2 _ _ hl1, ?_⟩
            rw [hd2]
            congr 2
            refine dN_congr fun z hz => ?_
            have ht : z ∈ us.take (i + 1) ↔ z ∈ us.take i ∨ z = u := by
              rw [List.take_add_one, eu]; simp
            by_cases e : z = u
            · subst e
              rw [if_neg hfr, if_pos (ht.mpr (.inr rfl))]
              exact (if_neg c).symm
            · by_cases e2 : z ∈ us.take i
              · rw [if_pos e2, if_pos (ht.mpr (.inl e2))]
              · rw [if_neg e2, if_neg (fun q => (ht.mp q).elim e2 e)]
    · rintro σ H1 ⟨v4, rfl, kp, hl1, hd1⟩
      refine k _ ?_ kp
      rw [hd1, List.length_map, List.take_length]
      congr 2
      exact dN_congr fun z hz => if_pos hz
def sp_lab : Sp := fun vs H Q _ => ∃ (pu pt : Addr) (us : List Str) (ads : List Addr) (ts : List Tie), vs = [.ref pu, .ref pt] ∧ SqL K H pu (us.map V.str) ∧ SqL K H pt (ads.map V.ref) ∧ Tups H ads (ts.map tieV) ∧
  us.Nodup ∧ us.length ≤ 1000 ∧ (∀ t ∈ ts, t.a ∈ us ∧ t.b ∈ us) ∧
  ∀ (pd : Addr) (H' : Hp), H pd = none → H' pd = some (.dK (dN us (labs ts))) → Same H H' → Q (.ref pd) H'
set_option maxHeartbeats 4000000 in
theorem h_one_names (T : Tx K mg w C_DigError C_Round) : Has P w K mg base "one_names" ["units", "ties"] 2 (sp_lab (K := K)) := by
  refine T.d_one_names.has sc_one_names (fun vs H Q E h => ?_) (fun f cdv A outer s H vs Q E hr h => ?_)
  · obtain ⟨pu, pt, us, ads, ts, rfl, _⟩ := h; rfl
  · obtain ⟨pu, pt, us, ads, ts, rfl, hu1, ht1, tp, nd, hl, hts, k⟩ := h
    have hu := hu_of hr
    refine ⟨_, (pss_cons (ps_set (i := 2) sc_one_names.nd rfl (Or.inl rfl) pe_dnewK)
      (pss_cons (ps_for PassesOwn.never rfl (pi_listK K rfl (pv 0)) (pg_name (i := 3) sc_one_names.nd rfl (Or.inl rfl)) (pss_one (ps_dput hu (pv 2) (pv 3) (pv 3) rfl)))
      (pss_cons (ps_for PassesOwn.never rfl (pi_listK K rfl (pv 1)) (pg_name (i := 4) sc_one_names.nd rfl (Or.inl rfl)) (pss_one (ps_if (pt_cmpR op_eq (pe_ix (ix_tupK K rfl) (pv 4) pe_int (fun _ _ => rfl)) pe_str (nomark _)) (pss_one (ps_expr (pe_fn (h_join_ones T) (hr.mono (by decide)) (by rfl) (pa_cons (pv 2) (pa_cons (pe_dget hu (pv 2) (pe_ix (ix_tupK K rfl) (pv 4) pe_int (fun _ _ => rfl)) (fun _ _ => rfl)) (pa_cons (pe_dget hu (pv 2) (pe_ix (ix_tupK K rfl) (pv 4) pe_int (fun _ _ => rfl)) (fun _ _ => rfl)) pa_nil)))))) pss_nil)))
      (pss_one (ps_ret (pv 2)))))), ?_⟩
    have hlen : ads.length = ts.length := by have := tp.len; rw [List.length_map] at this; exact this
    refine fun pd hpd => ?_
    have s0 := Same.new (o := .dK []) hpd
    refine ⟨_, rfl, pu, rfl, ⟨_, s0.seq hu1⟩, for_list (xs := us.map V.str) (fun i σ H' => ∃ v3, σ = [some (.ref pu), some (.ref pt), some (.ref pd), v3, none] ∧ Same H H' ∧ H' pd = some (.dK (dN (us.take i) id)))
      ⟨none, rfl, s0, upd_same⟩ (fun i σ H' _ h => by obtain ⟨_, _, q, _⟩ := h; exact q.seq hu1) ?_ ?_⟩
    · rintro i x σ H1 hx ⟨v3, rfl, q, hd⟩
      rw [List.getElem?_map] at hx
      cases eu : us[i]? with
      | none => rw [eu] at hx; cases hx
      | some u =>
        rw [eu] at hx
        cases hx
        have hi := get_lt eu
        have hfr : u ∉ us.take i := by
          have := take_fresh nd i hi
          rw [show us[i] = u from (List.getElem?_eq_some_iff.mp eu).2] at this
          exact this
        dsimp only [gName]
        refine ⟨_, rfl, _, rfl, _, rfl, pd, _, rfl, DPut.k (k := Sum.inr u) hd (by rw [dN_len, List.length_take]; exact small1000 (by omega)), ?_⟩
        refine ⟨_, rfl, q.upd hpd, ?_⟩
        rw [upd_same, List.take_add_one, eu]
        congr 2
        exact dN_new hfr
    · rintro σ H1 ⟨v3, rfl, q, hd⟩
      rw [List.length_map, List.take_length] at hd
      refine ⟨_, rfl, pt, rfl, ⟨_, q.seq ht1⟩, for_list (xs := ads.map V.ref) (fun i σ H' => ∃ v4, σ = [some (.ref pu), some (.ref pt), some (.ref pd), v3, v4] ∧ Same H H' ∧ H' pd = some (.dK (dN us (labs (ts.take i)))))
        ⟨none, rfl, q, hd⟩ (fun i σ H' _ h => by obtain ⟨_, _, q, _⟩ := h; exact q.seq ht1) ?_ ?_⟩
      · rintro i x σ H2 hx ⟨v4, rfl, q2, hd2⟩
        obtain ⟨r, t, rfl, ht, _, hr⟩ := rows_at tp hx
        have hr2 := q2 _ _ hr
        have hab := hts t (List.mem_of_getElem? ht)
        dsimp only [gName]
        refine ⟨_, rfl, r, _, _, _, rfl, rfl, SqT.of hr2, tieV_0 t, rfl, _, rfl, ?_⟩
        refine ite2 (fun c => ?_) (fun c => ?_)
        · have c : t.k = SAME := V.str.inj (of_decide_eq_true c)
          have g1 := DGet.k (k := Sum.inr t.a) hd2
          have g2 := DGet.k (k := Sum.inr t.b) hd2
          rw [dN_val hab.1] at g1
          rw [dN_val hab.2] at g2
          refine ⟨_, rfl, _, rfl, _, rfl, r, _, _, _, rfl, rfl, SqT.of hr2, tieV_1 t, pd, _, rfl, g1, _, rfl, _, rfl, r, _, _, _, rfl, rfl, SqT.of hr2, tieV_2 t, pd, _, rfl, g2, ?_⟩
          refine ⟨pd, us, _, _, _, rfl, hd2, nd, hl, fun H3 hd3 kp => ?_⟩
          refine ⟨_, rfl, fun b o e => kp b o (ne_of_none e hpd) (q2 b o e), ?_⟩
          rw [hd3, labs_step ht]
          unfold stp
          rw [if_pos c]
        · have c : ¬ t.k = SAME := fun z => c (decide_eq_true (congrArg V.str z))
          refine ⟨_, rfl, q2, ?_⟩
          rw [hd2, labs_step ht]
          unfold stp
          rw [if_neg c]
      · rintro σ H2 ⟨v4, rfl, q2, hd2⟩
        rw [List.length_map, hlen, List.take_length] at hd2
        exact ⟨_, rfl, k pd _ hpd hd2 q2⟩
/-! ### the groups -/
abbrev Lsts (H : Hp) : List Addr → List (List Str) → Prop := Paired fun a g => H a = some (.lst (g.map V.str))
theorem lsts_mk {H : Hp} {ad : Str → Addr} {g : Str → List Str} : ∀ {ks : List Str}, (∀ k ∈ ks, H (ad k) = some (.lst ((g k).map V.str))) → Lsts H (ks.map ad) (ks.map g)
  | [], _ => .nil
  | k :: r, h => .cons (h k (by simp)) (lsts_mk fun z hz => h z (List.mem_cons_of_mem _ hz))
def sp_ones : Sp := fun vs H Q _ => ∃ (pu pt : Addr) (us : List Str) (ads : List Addr) (ts : List Tie), vs = [.ref pu, .ref pt] ∧ SqL K H pu (us.map V.str) ∧ SqL K H pt (ads.map V.ref) ∧ Tups H ads (ts.map tieV) ∧
  us.Nodup ∧ us.length < 64 ∧ (∀ t ∈ ts, t.a ∈ us ∧ t.b ∈ us) ∧
  ∀ (p : Addr) (as : List Addr) (H' : Hp), H p = none → (∀ a ∈ as, H a = none) → p ∉ as → as.Nodup → H' p = some (.lst (as.map V.ref)) → Lsts H' as (onesOf us ts) → Same H H' → Q (.ref p) H'
set_option maxHeartbeats 8000000 in
theorem h_ones (T : Tx K mg w C_DigError C_Round) : Has P w K mg base "ones" ["units", "ties"] 3 (sp_ones (K := K)) := by
  refine T.d_ones.has sc_ones (fun vs H Q E h => ?_) (fun f cdv A outer s H vs Q E hr h => ?_)
  · obtain ⟨pu, pt, us, ads, ts, rfl, _⟩ := h; rfl
  · obtain ⟨pu, pt, us, ads, ts, rfl, hu1, ht1, tp, nd, hl, hts, k⟩ := h
    have hu := hu_of hr
    refine ⟨_, (pss_cons (ps_set (i := 2) sc_ones.nd rfl (Or.inl rfl) (pe_fn (h_one_names T) (hr.mono (by decide)) (by rfl) (pa_cons (pv 0) (pa_cons (pv 1) pa_nil))))
      (pss_cons (ps_set (i := 3) sc_ones.nd rfl (Or.inl rfl) pe_dnewK)
      (pss_cons (ps_for PassesOwn.never rfl (pi_listK K rfl (pe_callB (call_sortedS (K := K) rfl) (by rfl) T.sorted PyProof.Rows.boot_sorted (pa_cons (pv 0) pa_nil))) (pg_name (i := 4) sc_ones.nd rfl (Or.inl rfl)) (pss_one (ps_expr (pe_bmK K rfl PySem.F.plainAttrs_list PySem.F.slot_list_append PySem.F.type_list_append mt_append (pe_dsetdef (pv 3) (pe_dget hu (pv 2) (pv 4) (fun _ _ => rfl)) (pe_lst pa_nil) ⟨rfl, rfl, rfl, rfl⟩) (pa_cons (pv 4) pa_nil)))))
      (pss_one (ps_ret (pe_callTy (call_list_vw rfl) (by rfl) T.list PyProof.Rows.boot_list (pa_cons (pe_bm0K K rfl PySem.F.plainAttrs_dict PySem.F.slot_dict_values PySem.F.type_dict_values mt_values (pv 3)) pa_nil))))))), ?_⟩
    refine ⟨_, rfl, _, rfl, pu, pt, us, ads, ts, rfl, hu1, ht1, tp, nd, by omega, hts, fun pn H1 fpn hn s1 => ?_⟩
    try dsimp only [gName]
    refine fun pd hpd => ?_
    have s2 := Same.new (o := .dK []) hpd
    refine ⟨_, rfl, pu, us, rfl, (s1.trans s2).seq hu1, hl, fun l ms hl' pm rs => ?_⟩
    have em := srt_eq pm rs
    subst em
    have s3 := Same.new (o := .lst ((srt us).map V.str)) hl'
    have fpd : H pd = none := s1.free hpd
    have fl : H l = none := (s1.trans s2).free hl'
    have n1 : pd ≠ l := ne_of_none upd_same hl'
    have n2 : pn ≠ pd := ne_of_none hn hpd
    have n3 : pn ≠ l := ne_of_none (s2 _ _ hn) hl'
    refine ⟨l, rfl, ⟨_, SqL.of upd_same⟩, for_list (xs := (srt us).map V.str) (fun i σ H' => ∃ v4 ad, σ = [some (.ref pu), some (.ref pt), some (.ref pn), some (.ref pd), v4] ∧ Same H H' ∧ H' l = some (.lst ((srt us).map V.str)) ∧ H' pn = some (.dK (dN us (labs ts))) ∧
      H' pd = some (.dK (dV (keysOf ts ((srt us).take i)) fun k => .ref (ad k))) ∧ (∀ k ∈ keysOf ts ((srt us).take i), H' (ad k) = some (.lst ((grpOf ts ((srt us).take i) k).map V.str)) ∧ H (ad k) = none ∧ ad k ≠ pd ∧ ad k ≠ l ∧ ad k ≠ pn) ∧
      (∀ k ∈ keysOf ts ((srt us).take i), ∀ k' ∈ keysOf ts ((srt us).take i), ad k = ad k' → k = k'))
      ⟨none, fun _ => 0, rfl, s1.trans (s2.trans s3), upd_same, s3 _ _ (s2 _ _ hn), s3 _ _ upd_same, (fun k hk => by simp [keysOf] at hk), fun k hk => by simp [keysOf] at hk⟩ (fun i σ H' _ h => by obtain ⟨_, _, _, _, q, _⟩ := h; exact SqL.of q) ?_ ?_⟩
    · rintro i v σ H2 hx ⟨v4, ad, rfl, q, hl2, hn2, hd2, hk2, hin⟩
      rw [List.getElem?_map] at hx
      cases eu : (srt us)[i]? with
      | none => rw [eu] at hx; cases hx
      | some u =>
        rw [eu] at hx
        cases hx
        have hu' : u ∈ us := srt_mem.mp (List.mem_of_getElem? eu)
        have hi := get_lt eu
        have hkl : (keysOf ts ((srt us).take i)).length ≤ 63 := by
          have h1 : (keysOf ts ((srt us).take i)).length ≤ ((srt us).take i).length := List.length_filter_le _ _
          have h2 : ((srt us).take i).length ≤ (srt us).length := by rw [List.length_take]; omega
          rw [srt_len] at h2
          omega
        have hgl : ∀ k, (grpOf ts ((srt us).take i) k).length ≤ 63 := fun k => by
          have h1 : (grpOf ts ((srt us).take i) k).length ≤ ((srt us).take i).length := List.length_filter_le _ _
          have h2 : ((srt us).take i).length ≤ (srt us).length := by rw [List.length_take]; omega
          rw [srt_len] at h2
          omega
        have g := DGet.k (k := Sum.inr u) hn2
        rw [dN_val hu'] at g
        obtain ⟨knew, gnew⟩ := key_new (ts := ts) nd eu
        try dsimp only [gName]
        refine ⟨_, rfl, pd, rfl, .inl ⟨_, .inl hd2⟩, _, rfl, _, rfl, pn, _, rfl, g, by decide, fun q0 hq0 => ?_⟩
        have t0 := Same.new (o := .lst []) hq0
        have hd3 := t0 _ _ hd2
        have nq : pd ≠ q0 := ne_of_none hd2 hq0
        refine ⟨_, Sum.inr (labs ts u), hd3, rfl, by rw [dV_len]; exact small1000 (by omega), fun v hv => ?_, fun hv => ?_⟩
        · have hmem : labs ts u ∈ keysOf ts ((srt us).take i) := Decidable.byContradiction fun z => by rw [dV_none z] at hv; cases hv
          rw [dV_val hmem] at hv
          cases hv
          obtain ⟨h1, h2, h3, h4, h5⟩ := hk2 _ hmem
          have hne : ¬ labs ts u = u := fun e => by rw [e] at hmem; exact knew hmem
          have h1' := t0 _ _ h1
          refine ⟨.inl ⟨rfl, _, SqL.of h1'⟩, _, rfl, ad (labs ts u), _, _, rfl, rfl, h1', by rw [List.length_map]; exact small1000 (by have := hgl (labs ts u); omega), ?_⟩
          have ks : keysOf ts ((srt us).take (i + 1)) = keysOf ts ((srt us).take i) := by rw [keys_step eu, if_neg hne, List.append_nil]
          refine ⟨_, ad, rfl, (q.trans t0).upd h2, ?_, ?_, ?_, ?_, ?_⟩
          · rw [upd_ne (Ne.symm h4)]; exact t0 _ _ hl2
          · rw [upd_ne (Ne.symm h5)]; exact t0 _ _ hn2
          · rw [upd_ne (Ne.symm h3), ks]; exact hd3
          · rw [ks]
            intro k hk
            obtain ⟨b1, b2, b3, b4, b5⟩ := hk2 k hk
            refine ⟨?_, b2, b3, b4, b5⟩
            rw [grp_step eu]
            by_cases e : labs ts u = k
            · subst e
              rw [if_pos rfl, upd_same, List.map_append]; rfl
            · rw [if_neg e, List.append_nil, upd_ne (fun z => e (hin _ hmem _ hk z.symm))]
              exact t0 _ _ b1
          · rw [ks]; exact hin
        · have hmem : labs ts u ∉ keysOf ts ((srt us).take i) := fun z => by rw [dV_val z] at hv; cases hv
          have he : labs ts u = u := Decidable.byContradiction fun z => hmem (key_met nd hts eu z)
          rw [he]
          rw [he] at hmem
          have e3 : upd (upd H2 q0 (.lst [])) pd (.dK (putK (dV (keysOf ts ((srt us).take i)) fun k => .ref (ad k)) (Sum.inr u) (.ref q0))) q0 = some (.lst []) := by rw [upd_ne (Ne.symm nq), upd_same]
          refine ⟨.inl ⟨rfl, _, SqL.of e3⟩, _, rfl, q0, _, _, rfl, rfl, e3, by decide, ?_⟩
          have ks : keysOf ts ((srt us).take (i + 1)) = keysOf ts ((srt us).take i) ++ [u] := by rw [keys_step eu, if_pos he]
          have nl : l ≠ q0 := ne_of_none hl2 hq0
          have nn : pn ≠ q0 := ne_of_none hn2 hq0
          have fq0 : H q0 = none := q.free hq0
          refine ⟨_, fun z => if z = u then q0 else ad z, rfl, ((q.trans t0).upd fpd).upd fq0, ?_, ?_, ?_, ?_, ?_⟩
          · rw [upd_ne nl, upd_ne (Ne.symm n1)]; exact t0 _ _ hl2
          · rw [upd_ne nn, upd_ne n2]; exact t0 _ _ hn2
          · rw [upd_ne nq, upd_same, dV_new hmem, ks]
            congr 2
            refine dV_congr fun z hz => ?_
            dsimp only
            by_cases e : z = u
            · rw [if_pos e, if_pos e]
            · rw [if_neg e, if_neg e]
          · rw [ks]
            intro k hk
            dsimp only
            by_cases e : k = u
            · subst e
              rw [if_pos rfl]
              refine ⟨?_, fq0, Ne.symm nq, Ne.symm nl, Ne.symm nn⟩
              rw [upd_same, grp_step eu, if_pos he, gnew he]
              rfl
            · rw [if_neg e]
              have hk' : k ∈ keysOf ts ((srt us).take i) := by
                rcases List.mem_append.mp hk with h | h
                · exact h
                · exact absurd (by simpa using h) e
              obtain ⟨b1, b2, b3, b4, b5⟩ := hk2 k hk'
              refine ⟨?_, b2, b3, b4, b5⟩
              have nk : ad k ≠ q0 := ne_of_none b1 hq0
              rw [upd_ne nk, upd_ne b3, grp_step eu, if_neg (fun z => e (z.symm.trans he)), List.append_nil]
              exact t0 _ _ b1
          · rw [ks]
            intro k hk k' hk' z
            dsimp only at z
            have inold : ∀ z, z ∈ keysOf ts ((srt us).take i) ++ [u] → z ≠ u → z ∈ keysOf ts ((srt us).take i) := fun z hz e => by
              rcases List.mem_append.mp hz with h | h
              · exact h
              · exact absurd (by simpa using h) e
            by_cases e : k = u
            · by_cases e' : k' = u
              · rw [e, e']
              · rw [if_pos e, if_neg e'] at z
                have := (hk2 k' (inold _ hk' e')).1
                exact absurd z.symm (ne_of_none this hq0)
            · by_cases e' : k' = u
              · rw [if_neg e, if_pos e'] at z
                have := (hk2 k (inold _ hk e)).1
                exact absurd z (ne_of_none this hq0)
              · rw [if_neg e, if_neg e'] at z
                exact hin k (inold _ hk e) k' (inold _ hk' e') z
    · rintro σ H2 ⟨v4, ad, rfl, q, hl2, hn2, hd2, hk2, hin⟩
      rw [List.length_map, List.take_length] at hd2 hk2 hin
      refine ⟨_, rfl, .inr (.inr (.inl ⟨rfl, .inl ⟨_, hd2⟩⟩)), pd, _, rfl, rfl, hd2, fun pv hpv => ?_⟩
      have s3 := Same.new (o := vwO pv pd) hpv
      refine ⟨pv, pd, _, rfl, upd_same, s3 _ _ hd2, fun pf hpf => ?_⟩
      rw [dV_vals]
      have em : (keysOf ts (srt us)).map (fun k => V.ref (ad k)) = ((keysOf ts (srt us)).map ad).map V.ref := by rw [List.map_map]; rfl
      rw [em]
      have s4 := Same.new (o := .lst (((keysOf ts (srt us)).map ad).map V.ref)) hpf
      have q4 := s3.trans s4
      have knd : (keysOf ts (srt us)).Nodup := (srt_nodup nd).sublist (List.filter_sublist ..)
      refine k pf ((keysOf ts (srt us)).map ad) _ (q.free (s3.free hpf)) (fun a ha => ?_) (fun z => ?_) ?_ upd_same (lsts_mk fun x hx => q4 _ _ (hk2 x hx).1) (q.trans q4)
      · obtain ⟨x, hx, rfl⟩ := List.mem_map.mp ha
        exact (hk2 x hx).2.1
      · obtain ⟨x, hx, e⟩ := List.mem_map.mp z
        have := s3 _ _ (hk2 x hx).1
        rw [e, hpf] at this
        cases this
      · clear hk2 hd2 s4 q4 em
        generalize keysOf ts (srt us) = ks at hin knd
        induction ks with
        | nil => exact List.nodup_nil
        | cons x r ih =>
          rw [List.nodup_cons] at knd
          rw [List.map_cons, List.nodup_cons]
          refine ⟨fun z => ?_, ih (fun a ha b hb => hin a (List.mem_cons_of_mem _ ha) b (List.mem_cons_of_mem _ hb)) knd.2⟩
          obtain ⟨y, hy, e⟩ := List.mem_map.mp z
          have := hin y (List.mem_cons_of_mem _ hy) x (by simp) e
          subst this
          exact knd.1 hy
/-! ### what lies beneath -/
def sp_below : Sp := fun vs H Q _ => ∃ (p pu pt : Addr) (x y : V) (us : List Str) (ads : List Addr) (ts : List Tie), vs = [.ref p] ∧ Tel K H p pu pt x y us ads ts ∧
  ∀ (pd : Addr) (ob : Obj) (ad : Str → Addr) (bs : Str → List Addr) (H' : Hp), Same H H' → H pd = none → Bn H' pd ob (keysOf ts (srt us)) (lnkOf ts (ts.zip ads)) ad bs → Q (.ref pd) H'
set_option maxHeartbeats 8000000 in
theorem h_ties_beneath (T : Tx K mg w C_DigError C_Round) : Has P w K mg base "ties_beneath" ["telling"] 4 (sp_below (K := K)) := by
  refine T.d_ties_beneath.has sc_ties_beneath (fun vs H Q E h => ?_) (fun f cdv A outer s H vs Q E hr h => ?_)
  · obtain ⟨p, pu, pt, x, y, us, ads, ts, rfl, _⟩ := h; rfl
  · obtain ⟨p, pu, pt, x, y, us, ads, ts, rfl, hT, k⟩ := h
    have hu := hu_of hr
    refine ⟨_, (pss_cons (ps_set (i := 1) sc_ties_beneath.nd rfl (Or.inl rfl) (pe_fn (h_one_names T) (hr.mono (by decide)) (by rfl) (pa_cons (pe_ix (ix_tupK K rfl) (pv 0) pe_int (fun _ _ => rfl)) (pa_cons (pe_ix (ix_tupK K rfl) (pv 0) pe_int (fun _ _ => rfl)) pa_nil))))
      (pss_cons (ps_set (i := 2) sc_ties_beneath.nd rfl (Or.inl rfl) pe_dnewK)
      (pss_cons (ps_for PassesOwn.never rfl (pi_listK K rfl (pe_fn (h_ones T) (hr.mono (by decide)) (by rfl) (pa_cons (pe_ix (ix_tupK K rfl) (pv 0) pe_int (fun _ _ => rfl)) (pa_cons (pe_ix (ix_tupK K rfl) (pv 0) pe_int (fun _ _ => rfl)) pa_nil)))) (pg_name (i := 3) sc_ties_beneath.nd rfl (Or.inl rfl)) (pss_one (ps_dput hu (pv 2) (pe_ix (ix_listK K rfl) (pv 3) pe_int (fun _ _ => rfl)) (pe_lst pa_nil) rfl)))
      (pss_cons (ps_for PassesOwn.never rfl (pi_listK K rfl (pe_ix (ix_tupK K rfl) (pv 0) pe_int (fun _ _ => rfl))) (pg_name (i := 4) sc_ties_beneath.nd rfl (Or.inl rfl)) (pss_one (ps_if (pt_cmpR op_ne (pe_ix (ix_tupK K rfl) (pv 4) pe_int (fun _ _ => rfl)) pe_str (nomark _)) (pss_one (ps_expr (pe_bmK K rfl PySem.F.plainAttrs_list PySem.F.slot_list_append PySem.F.type_list_append mt_append (pe_dget hu (pv 2) (pe_dget hu (pv 1) (pe_ix (ix_tupK K rfl) (pv 4) pe_int (fun _ _ => rfl)) (fun _ _ => rfl)) (fun _ _ => rfl)) (pa_cons (pe_tup (pa_cons (pe_dget hu (pv 1) (pe_ix (ix_tupK K rfl) (pv 4) pe_int (fun _ _ => rfl)) (fun _ _ => rfl)) (pa_cons (pv 4) pa_nil))) pa_nil)))) pss_nil)))
      (pss_one (ps_frz (ps_ret (pv 2)))))))), ?_⟩
    have hts := hT.ends
    obtain ⟨hp, hu1, ht1, tp, nd, hl, tl, _⟩ := hT
    have hlen : ads.length = ts.length := by have := tp.len; rw [List.length_map] at this; exact this
    refine ⟨_, rfl, p, _, _, _, rfl, rfl, hp, rfl, _, rfl, p, _, _, _, rfl, rfl, hp, rfl, pu, pt, us, ads, ts, rfl, hu1, ht1, tp, nd, by omega, hts, fun pn H1 fpn hn s1 => ?_⟩
    try dsimp only [gName]
    refine fun pd hpd => ?_
    have s2 := Same.new (o := .dK []) hpd
    have q2 := s1.trans s2
    refine ⟨_, rfl, p, _, _, _, rfl, rfl, q2.tup hp, rfl, _, rfl, p, _, _, _, rfl, rfl, q2.tup hp, rfl, pu, pt, us, ads, ts, rfl, q2.seq hu1, q2.seq ht1, tp.same q2, nd, hl, hts, fun po as H3 fpo fas npo asnd hpo hls s3 => ?_⟩
    have hn3 := s3 _ _ (s2 _ _ hn)
    have hd3 := s3 _ _ (upd_same (H := H1) (a := pd) (o := .dK []))
    have q3 := q2.trans s3
    have fpd : H pd = none := s1.free hpd
    have npd : pn ≠ pd := ne_of_none hn hpd
    have lk : as.length = (keysOf ts (srt us)).length := by have := Paired.length hls; unfold onesOf at this; rw [List.length_map] at this; exact this
    have lk63 : (keysOf ts (srt us)).length ≤ 63 := by
      have := ones_len (us := us) (ts := ts) nd
      unfold onesOf at this
      rw [List.length_map] at this
      omega
    have hz : ∀ {i : Nat} {t : Tie} {r : Addr}, ts[i]? = some t → ads[i]? = some r → (ts.zip ads)[i]? = some (t, r) := fun h1 h2 => List.getElem?_zip_eq_some.mpr ⟨h1, h2⟩
    generalize ek : keysOf ts (srt us) = keys at lk lk63 k
    have knd : keys.Nodup := ek ▸ keys_nodup nd
    have hgs : onesOf us ts = keys.map (grpOf ts (srt us)) := by unfold onesOf; rw [ek]
    refine ⟨po, rfl, ⟨_, SqL.of hpo⟩, for_list (xs := as.map V.ref) (fun i σ H' => ∃ (v3 : Option V) (ad : Str → Addr), σ = [some (.ref p), some (.ref pn), some (.ref pd), v3, none] ∧ (∀ b o, b ≠ pd → H3 b = some o → H' b = some o) ∧
      H' pd = some (.dK (dV (keys.take i) fun k => .ref (ad k))) ∧ (∀ k ∈ keys.take i, H' (ad k) = some (.lst []) ∧ H3 (ad k) = none) ∧ (∀ k ∈ keys.take i, ∀ k' ∈ keys.take i, ad k = ad k' → k = k'))
      ⟨none, fun _ => 0, rfl, fun b o _ e => e, hd3, (fun k hk => by simp at hk), fun k hk => by simp at hk⟩ (fun i σ H' _ h => by obtain ⟨_, _, _, q, _⟩ := h; exact SqL.of (q _ _ (ne_of hpo hd3 (by simp)) hpo)) ?_ ?_⟩
    · rintro i v σ H4 hx ⟨v3, ad, rfl, kp, hd4, hk4, inj⟩
      obtain ⟨r, g, rfl, hg, har, hr⟩ := pairs_at hls hx
      rw [hgs, List.getElem?_map] at hg
      cases eu : keys[i]? with
      | none => rw [eu] at hg; cases hg
      | some u =>
        rw [eu] at hg
        cases hg
        have hu' : u ∈ keys := List.mem_of_getElem? eu
        have hi := get_lt eu
        have hfr : u ∉ keys.take i := by
          have := take_fresh knd i hi
          rw [show keys[i] = u from (List.getElem?_eq_some_iff.mp eu).2] at this
          exact this
        obtain ⟨gr, egr⟩ := grp_head (us := us) (ts := ts) nd (k := u) (ek ▸ hu')
        rw [egr] at hr
        have hr4 := kp _ _ (ne_of hr hd3 (by simp)) hr
        try dsimp only [gName]
        refine ⟨by decide, fun q0 hq0 => ?_⟩
        have t0 := Same.new (o := .lst []) hq0
        have hd5 := t0 _ _ hd4
        have nq : pd ≠ q0 := ne_of_none hd4 hq0
        refine ⟨_, rfl, _, rfl, r, _, _, _, rfl, rfl, SqL.of (t0 _ _ hr4), atI_0, pd, _, rfl, DPut.k (k := Sum.inr u) hd5 (by rw [dV_len, List.length_take]; exact small1000 (by omega)), ?_⟩
        have fq : H3 q0 = none := by
          cases e : H3 q0 with
          | none => rfl
          | some o => rw [kp _ _ (Ne.symm nq) e] at hq0; cases hq0
        refine ⟨_, fun z => if z = u then q0 else ad z, rfl, fun b o n e => by rw [upd_ne n]; exact t0 _ _ (kp b o n e), ?_, ?_, ?_⟩
        · rw [upd_same, dV_new hfr, List.take_add_one, eu]
          congr 2
          refine dV_congr fun z hz => ?_
          dsimp only
          by_cases e : z = u
          · rw [if_pos e, if_pos e]
          · rw [if_neg e, if_neg e]
        · intro k hk
          rw [List.take_add_one, eu, List.mem_append] at hk
          dsimp only
          by_cases e : k = u
          · rw [if_pos e]
            exact ⟨by rw [upd_ne (Ne.symm nq), upd_same], fq⟩
          · rw [if_neg e]
            have hk' : k ∈ keys.take i := hk.elim id fun z => absurd (by simpa using z) e
            obtain ⟨h1, h2⟩ := hk4 k hk'
            refine ⟨?_, h2⟩
            rw [upd_ne (fun z => by rw [z, hd4] at h1; cases h1)]
            exact t0 _ _ h1
        · intro k hk k' hk' e
          rw [List.take_add_one, eu, List.mem_append] at hk hk'
          dsimp only at e
          by_cases c1 : k = u <;> by_cases c2 : k' = u
          · rw [c1, c2]
          · rw [if_pos c1, if_neg c2] at e
            have h2 := (hk4 k' (hk'.elim id fun z => absurd (by simpa using z) c2)).1
            rw [← e, hq0] at h2
            cases h2
          · rw [if_neg c1, if_pos c2] at e
            have h2 := (hk4 k (hk.elim id fun z => absurd (by simpa using z) c1)).1
            rw [e, hq0] at h2
            cases h2
          · rw [if_neg c1, if_neg c2] at e
            exact inj k (hk.elim id fun z => absurd (by simpa using z) c1) k' (hk'.elim id fun z => absurd (by simpa using z) c2) e
    · rintro σ H4 ⟨v3, ad, rfl, kp, hd4, hk4, inj⟩
      rw [List.length_map, lk, List.take_length] at hd4 hk4 inj
      have sq4 : ∀ {H' : Hp}, (∀ b o, b ≠ pd → H3 b = some o → H' b = some o) → Same H H' := fun kp' b o e => kp' b o (ne_of_none e fpd) (q3 _ _ e)
      have q4 := sq4 kp
      refine ⟨_, rfl, p, _, _, _, rfl, rfl, q4.tup hp, rfl, pt, rfl, ⟨_, q4.seq ht1⟩, for_list (xs := ads.map V.ref) (fun i σ H' => ∃ (v4 : Option V) (bs : Str → List Addr), σ = [some (.ref p), some (.ref pn), some (.ref pd), v3, v4] ∧ (∀ b o, b ≠ pd → H3 b = some o → H' b = some o) ∧
        H' pd = some (.dK (dV keys fun k => .ref (ad k))) ∧ ∀ k ∈ keys, H' (ad k) = some (.lst ((bs k).map V.ref)) ∧ Paired (fun b (p : Str × Addr) => H' b = some (.tup [.str p.1, .ref p.2])) (bs k) (lnkOf ts ((ts.zip ads).take i) k))
        ⟨none, fun _ => [], rfl, kp, hd4, fun k hk => ⟨(hk4 k hk).1, .nil⟩⟩ (fun i σ H' _ h => by obtain ⟨_, _, _, q, _⟩ := h; exact (sq4 q).seq ht1) ?_ ?_⟩
      · rintro i x σ H5 hx ⟨v4, bs, rfl, kp5, hd5, hb5⟩
        obtain ⟨r, t, rfl, ht, har, hr⟩ := rows_at tp hx
        have q5 := sq4 kp5
        have hr5 := q5 _ _ hr
        have hab := hts t (List.mem_of_getElem? ht)
        have hit := get_lt ht
        have hzi := hz ht har
        try dsimp only [gName]
        refine ⟨_, rfl, r, _, _, _, rfl, rfl, SqT.of hr5, tieV_0 t, rfl, _, rfl, ?_⟩
        refine ite2 (fun c => ?_) (fun c => ?_)
        · have c : t.k ≠ SAME := by
            intro z
            simp [z, SAME] at c
          have g1 := DGet.k (k := Sum.inr t.a) (kp5 _ _ npd hn3)
          have g2 := DGet.k (k := Sum.inr t.b) (kp5 _ _ npd hn3)
          rw [dN_val hab.1] at g1
          rw [dN_val hab.2] at g2
          have hka : labs ts t.a ∈ keys := ek ▸ labs_key hts hab.1
          have g3 := DGet.k (k := Sum.inr (labs ts t.a)) hd5
          rw [dV_val hka] at g3
          obtain ⟨hb1, hb2⟩ := hb5 _ hka
          refine ⟨_, rfl, _, rfl, _, rfl, r, _, _, _, rfl, rfl, SqT.of hr5, tieV_1 t, pn, _, rfl, g1, pd, _, rfl, g3, ?_⟩
          refine ⟨.inl ⟨rfl, _, SqL.of hb1⟩, _, rfl, _, rfl, r, _, _, _, rfl, rfl, SqT.of hr5, tieV_2 t, pn, _, rfl, g2, _, rfl, (by show 2 ≤ sizeLine; decide), fun b0 hb0 => ?_⟩
          have t0 := Same.new (o := .tup [.str (labs ts t.b), .ref r]) hb0
          have hb1' := t0 _ _ hb1
          have lb : (bs (labs ts t.a)).length ≤ 900 := by
            have h1 := Paired.length hb2
            have h2 := lnk_len (ts := ts) (z := (ts.zip ads).take i) (k := labs ts t.a)
            rw [List.length_take, List.length_zip] at h2
            omega
          refine ⟨ad (labs ts t.a), _, _, rfl, rfl, hb1', by rw [List.length_map]; exact small1000 (by omega), ?_⟩
          have st : ∀ b vs, H5 b = some (.tup vs) → upd (upd H5 b0 (.tup [.str (labs ts t.b), .ref r])) (ad (labs ts t.a)) (.lst ((bs (labs ts t.a)).map V.ref ++ [.ref b0])) b = some (.tup vs) := fun b vs e => tup_stay hb1' _ _ (t0 _ _ e)
          refine ⟨_, fun z => if z = labs ts t.a then bs z ++ [b0] else bs z, rfl, fun b o n e => ?_, ?_, fun k hk => ?_⟩
          · rw [upd_ne (fun z => by rw [z, (hk4 _ hka).2] at e; cases e)]
            exact t0 _ _ (kp5 b o n e)
          · rw [upd_ne (fun z => by rw [← z, hd5] at hb1; cases hb1)]
            exact t0 _ _ hd5
          · obtain ⟨b1, b2⟩ := hb5 k hk
            have b2' := Paired.mapP b2 fun b p e => st b _ e
            rw [lnk_step hzi]
            dsimp only
            by_cases e : k = labs ts t.a
            · subst e
              rw [if_pos rfl, if_pos ⟨c, rfl⟩]
              refine ⟨by rw [upd_same, List.map_append]; rfl, Paired.snoc b2' ?_⟩
              exact tup_stay hb1' _ _ upd_same
            · rw [if_neg e, if_neg (fun z => e z.2.symm), List.append_nil]
              refine ⟨?_, b2'⟩
              rw [upd_ne (fun z => e (inj _ hk _ hka z))]
              exact t0 _ _ b1
        · have c : t.k = SAME := by
            simpa [SAME] using c
          refine ⟨_, bs, rfl, kp5, hd5, fun k hk => ?_⟩
          rw [lnk_step hzi, if_neg (fun z => z.1 c), List.append_nil]
          exact hb5 k hk
      · rintro σ H5 ⟨v4, bs, rfl, kp5, hd5, hb5⟩
        rw [List.length_map] at hb5
        have ez : (ts.zip ads).take ads.length = ts.zip ads := List.take_of_length_le (by rw [List.length_zip]; omega)
        rw [ez] at hb5
        refine .inr ⟨pd, _, hd5, fun ob => ⟨_, rfl, k pd ob ad bs _ ?_ fpd ⟨upd_same, fun k hk => ?_, fun k hk => ?_⟩⟩⟩
        · exact (sq4 kp5).upd fpd
        · obtain ⟨b1, b2⟩ := hb5 k hk
          rw [upd_ne (fun z => by rw [z, hd5] at b1; cases b1)]
          exact b1
        · obtain ⟨b1, b2⟩ := hb5 k hk
          refine Paired.mapP b2 fun b p e => ?_
          rw [upd_ne (fun z => by rw [z, hd5] at e; cases e)]
          exact e
/-! ### a way round, as short as can be -/
def sp_through : Sp := fun vs H Q _ => ∃ (s : Str) (pd : Addr) (ob : Obj) (keys : List Str) (ln : Ln) (ad : Str → Addr) (bs : Str → List Addr), vs = [.str s, .ref pd] ∧ Bn H pd ob keys ln ad bs ∧ s ∈ keys ∧
  (∀ k ∈ keys, ∀ l r, (l, r) ∈ ln k → l ∈ keys) ∧ keys.length ≤ 63 ∧ ∀ (p : Addr) (rs : List Addr) (H' : Hp), Same H H' → H p = none → H' p = some (.lst (rs.map V.ref)) → rs.length ≤ 64 → Shr ln s rs → Q (.ref p) H'
set_option maxHeartbeats 8000000 in
theorem h_round_through (T : Tx K mg w C_DigError C_Round) : Has P w K mg base "round_through" ["start", "beneath"] 1 sp_through := by
  refine T.d_round_through.has sc_round_through (fun vs H Q E h => ?_) (fun f cdv A outer s H vs Q E hr h => ?_)
  · obtain ⟨s', pd, ob, keys, ln, ad, bs, rfl, _⟩ := h; rfl
  · obtain ⟨s', pd, ob, keys, ln, ad, bs, rfl, hB, hs, hc, hk, k⟩ := h
    have hu := hu_of hr
    refine ⟨_, (pss_cons (ps_set (i := 2) sc_round_through.nd rfl (Or.inl rfl) pe_dnewK)
      (pss_cons (ps_set (i := 3) sc_round_through.nd rfl (Or.inl rfl) (pe_lst (pa_cons (pe_tup (pa_cons (pv 0) (pa_cons (pe_lst pa_nil) pa_nil))) pa_nil)))
      (pss_cons (ps_while PassesOwn.never (pt_cmpR (op_neDK K rfl (hu10 hr)) (pv 3) (pe_lst pa_nil) (nomark _)) (pss_cons (ps_set (i := 4) sc_round_through.nd rfl (Or.inl rfl) (pe_lst pa_nil))
        (pss_cons (ps_for PassesOwn.never rfl (pi_listK K rfl (pv 3)) (pg_tupK K rfl rfl (pgs_cons (pg_name (i := 5) sc_round_through.nd rfl (Or.inl rfl)) (pgs_cons (pg_name (i := 6) sc_round_through.nd rfl (Or.inl rfl)) pgs_nil))) (pss_one (ps_for PassesOwn.never rfl (pi_listK K rfl (pe_dget hu (pv 1) (pv 5) (fun _ _ => rfl))) (pg_tupK K rfl rfl (pgs_cons (pg_name (i := 7) sc_round_through.nd rfl (Or.inl rfl)) (pgs_cons (pg_name (i := 8) sc_round_through.nd rfl (Or.inl rfl)) pgs_nil))) (pss_cons (ps_if (pt_cmpR op_eq (pv 7) (pv 0) (nomark _)) (pss_one (ps_ret (pe_op op_cat (pv 6) (pe_lst (pa_cons (pv 8) pa_nil))))) pss_nil)
            (pss_one (ps_if (pt_cmp (pc_dnotin hu (pv 7) (pv 2))) (pss_cons (ps_dput hu (pv 2) (pv 7) pe_bl rfl)
              (pss_one (ps_expr (pe_bmK K rfl PySem.F.plainAttrs_list PySem.F.slot_list_append PySem.F.type_list_append mt_append (pv 4) (pa_cons (pe_tup (pa_cons (pv 7) (pa_cons (pe_op op_cat (pv 6) (pe_lst (pa_cons (pv 8) pa_nil))) pa_nil))) pa_nil))))) pss_nil))))))
        (pss_one (ps_set (i := 3) sc_round_through.nd rfl (Or.inl rfl) (pv 4))))))
      (pss_one (ps_ret (pe_lst pa_nil)))))), ?_⟩
    refine fun pm hpm => ?_
    have s0 := Same.new (o := .dK []) hpm
    try dsimp only [gName]
    refine ⟨_, rfl, by decide, fun l0 hl0 => ?_⟩
    have s1 := Same.new (o := .lst []) hl0
    refine ⟨(by show 2 ≤ sizeLine; decide), fun b0 hb0 => ?_⟩
    have s2 := Same.new (o := .tup [.str s', .ref l0]) hb0
    refine ⟨(by show 1 ≤ sizeLine; decide), fun pw hpw => ?_⟩
    have s3 := Same.new (o := .lst [.ref b0]) hpw
    have q3 := s0.trans (s1.trans (s2.trans s3))
    have hm3 := s3 _ _ (s2 _ _ (s1 _ _ (upd_same (H := H) (a := pm) (o := .dK []))))
    have hl3 := s3 _ _ (s2 _ _ (upd_same (H := upd H pm (.dK [])) (a := l0) (o := .lst [])))
    have hb3 := s3 _ _ (upd_same (H := upd (upd H pm (.dK [])) l0 (.lst [])) (a := b0) (o := .tup [.str s', .ref l0]))
    have hw3 := upd_same (H := upd (upd (upd H pm (.dK [])) l0 (.lst [])) b0 (.tup [.str s', .ref l0])) (a := pw) (o := .lst [.ref b0])
    generalize upd (upd (upd (upd H pm (.dK [])) l0 (.lst [])) b0 (.tup [.str s', .ref l0])) pw (.lst [.ref b0]) = H3 at q3 hm3 hl3 hb3 hw3
    refine ⟨fun m σ H' => ∃ (v4 v5 v6 v7 v8 : Option V) (pw : Addr) (wl : List Addr) (es : List (Str × List Addr)) (d : Nat) (M : List Str), σ = [some (.str s'), some (.ref pd), some (.ref pm), some (.ref pw), v4, v5, v6, v7, v8] ∧ Same H H' ∧ H' pm = some (.dK (dV M tru)) ∧
      H' pw = some (.lst (wl.map V.ref)) ∧ Paired (WayAt H') wl es ∧ (∀ e ∈ es, Wk ln s' e.2 e.1 ∧ e.2.length = d ∧ e.1 ∈ keys) ∧ M.Nodup ∧ (∀ v ∈ M, v ∈ keys) ∧ Bf ln s' d M (es.map Prod.fst) ∧ (es ≠ [] → d ≤ M.length) ∧
      m = 2 * (keys.length - M.length) + (if es = [] then 0 else 1), ⟨_, none, none, none, none, none, pw, [b0], [(s', [])], 0, [], rfl, q3, hm3, hw3, .cons ⟨l0, hb3, hl3⟩ .nil, ?_, by simp, by simp, Bf.zero, fun _ => Nat.le_refl _, rfl⟩, ?_⟩
    · intro e he
      have : e = (s', []) := by simpa using he
      subst this
      exact ⟨.nil, rfl, hs⟩
    rintro m σ H4 ⟨v4, v5, v6, v7, v8, pw, wl, es, d, M, rfl, q4, hm4, hw4, pr4, ok4, nd4, sub4, bf, dle, rfl⟩
    have lM : M.length ≤ 63 := by have := nodup_le nd4 sub4; omega
    refine ⟨_, rfl, by decide, fun le hle => ?_⟩
    have t5 := Same.new (o := .lst []) hle
    refine ⟨pw, le, _, rfl, rfl, DEq.nilL (SqL.of (t5 _ _ hw4)) (SqL.of upd_same), _, rfl, ?_⟩
    have lw : wl.length = es.length := Paired.length pr4
    have q5 := q4.trans t5
    have hm5 := t5 _ _ hm4
    have hw5 := t5 _ _ hw4
    have pr5 : Paired (WayAt (upd H4 le (.lst []))) wl es := Paired.mapP pr4 fun _ _ ⟨q, h1, h2⟩ => ⟨q, t5 _ _ h1, t5 _ _ h2⟩
    have t5' := t5
    generalize upd H4 le (.lst []) = H5 at q5 hm5 hw5 pr5 t5'
    refine ite2 (fun c => ?_) (fun c => ?_)
    · have hes : es ≠ [] := fun z => by
        subst z
        have : wl = [] := List.length_eq_zero_iff.mp (by simpa using lw)
        subst this
        simp at c
      have dM := dle hes
      refine ⟨fun σ' H' => ∃ m', m' < 2 * (keys.length - M.length) + (if es = [] then 0 else 1) ∧ _, fun σ' H' h => h, ?_⟩
      try dsimp only [gName]
      refine ⟨by decide, fun pl hpl => ?_⟩
      have t6 := Same.new (o := .lst []) hpl
      have npl : pl ≠ pm := Ne.symm (ne_of_none hm5 hpl)
      have npw : pw ≠ pm := ne_of hw5 hm5 (by simp)
      have Bk : ∀ {H' : Hp}, (∀ b o, b ≠ pm → H5 b = some o → H' b = some o) → Same H H' := fun kp b o e => kp b o (ne_of_none e hpm) (q5 _ _ e)
      refine ⟨_, rfl, pw, rfl, ⟨_, SqL.of (t6 _ _ hw5)⟩, for_list (xs := wl.map V.ref) (fun i σ H' => ∃ (v5 v6 v7 v8 : Option V) (ml : List Addr) (fs : List (Str × List Addr)), σ = [some (.str s'), some (.ref pd), some (.ref pm), some (.ref pw), some (.ref pl), v5, v6, v7, v8] ∧
        Grow H5 H' pm pl ln s' keys M d ml fs ∧ ∀ u ∈ (es.take i).map Prod.fst, ∀ v r, (v, r) ∈ ln u → v ≠ s' ∧ v ∈ M ++ fs.map Prod.fst)
        ⟨v5, v6, v7, v8, [], [], rfl, ⟨fun b o _ e => t6 _ _ e, ?_, upd_same, .nil, (fun e he => (List.not_mem_nil he).elim), by simpa using nd4⟩, fun u hu => by simp at hu⟩ (fun i σ H' _ h => by obtain ⟨_, _, _, _, _, _, _, g, _⟩ := h; exact SqL.of (g.kp _ _ npw hw5)) ?_ ?_⟩
      · rw [List.map_nil, List.append_nil]; exact t6 _ _ hm5
      · rintro i x σ H6 hx ⟨u5, u6, u7, u8, ml, fs, rfl, g, cond⟩
        obtain ⟨b, e, rfl, he, hbw, q, hb, hq⟩ := pairs_at pr5 hx
        have hie := get_lt he
        have hem : e ∈ es := List.mem_of_getElem? he
        obtain ⟨wk, elen, ek⟩ := ok4 e hem
        have nb : b ≠ pm := ne_of hb hm5 (by simp)
        have nq : q ≠ pm := ne_of hq hm5 (by simp)
        refine ⟨b, _, rfl, SqT.of (g.kp _ _ nb hb), rfl, _, _, rfl, _, _, rfl, rfl, ?_⟩
        have B6 := hB.same (Bk g.kp)
        refine ⟨_, rfl, _, rfl, pd, _, rfl, B6.get ek, ad e.1, rfl, ⟨_, SqL.of (B6.l _ ek)⟩, for_list (xs := (bs e.1).map V.ref) (fun j σ H' => ∃ (v7 v8 : Option V) (ml : List Addr) (fs : List (Str × List Addr)), σ = [some (.str s'), some (.ref pd), some (.ref pm), some (.ref pw), some (.ref pl), some (.str e.1), some (.ref q), v7, v8] ∧
          Grow H5 H' pm pl ln s' keys M d ml fs ∧ (∀ u ∈ (es.take i).map Prod.fst, ∀ v r, (v, r) ∈ ln u → v ≠ s' ∧ v ∈ M ++ fs.map Prod.fst) ∧ ∀ p ∈ (ln e.1).take j, p.1 ≠ s' ∧ p.1 ∈ M ++ fs.map Prod.fst)
          ⟨u7, u8, ml, fs, rfl, g, cond, by simp⟩ (fun j σ H' _ h => by obtain ⟨_, _, _, _, _, g, _⟩ := h; exact SqL.of ((hB.same (Bk g.kp)).l _ ek)) ?_ ?_⟩
        · rintro j x σ H7 hx ⟨u7, u8, ml, fs, rfl, g, cond, cond2⟩
          have B7 := hB.same (Bk g.kp)
          obtain ⟨b', ⟨l, r⟩, rfl, hlr, hb', hbt⟩ := pairs_at (B7.e _ ek) hx
          have hlm : (l, r) ∈ ln e.1 := List.mem_of_getElem? hlr
          have hlk : l ∈ keys := hc _ ek l r hlm
          refine ⟨b', _, rfl, SqT.of hbt, rfl, _, _, rfl, _, _, rfl, rfl, ?_⟩
          have hq7 := g.kp _ _ nq hq
          have lfs : (M ++ fs.map Prod.fst).length ≤ 63 := by
            have := nodup_le g.nd (us := keys) fun v hv => (List.mem_append.mp hv).elim (sub4 v) fun z => by
              obtain ⟨e', h1, rfl⟩ := List.mem_map.mp z
              exact (g.ok e' h1).2.2
            omega
          try dsimp only [gName]
          refine ⟨_, rfl, _, rfl, rfl, _, rfl, ?_⟩
          refine ite2 (fun c1 => ?_) (fun c1 => ?_)
          · have c1 : l = s' := V.str.inj (of_decide_eq_true c1)
            refine ⟨_, rfl, _, rfl, (by show 1 ≤ sizeLine; decide), fun p1 hp1 => ?_⟩
            have w1 := Same.new (o := .lst [.ref r]) hp1
            refine ⟨q, p1, _, _, rfl, rfl, w1 _ _ hq7, upd_same, by rw [List.length_map]; exact le_line (by show e.2.length + 1 ≤ 1000; omega), fun p2 hp2 => ?_⟩
            have w2 := Same.new (o := .lst (e.2.map V.ref ++ [.ref r])) hp2
            have q7 : Same H _ := (Bk g.kp).trans (w1.trans w2)
            refine k p2 (e.2 ++ [r]) _ q7 (((Bk g.kp).trans w1).free hp2) (by rw [upd_same, List.map_append]; rfl) (by rw [List.length_append]; show e.2.length + 1 ≤ 64; omega) (.inr ⟨by simp, c1 ▸ wk.snoc hlm, fun j h1 h2 => bf.no j h1 ?_⟩)
            rw [List.length_append] at h2
            have h2 : j < e.2.length + 1 := h2
            omega
          · have c1 : ¬ l = s' := fun z => c1 (decide_eq_true (congrArg V.str z))
            have g1 := DGet.k (k := Sum.inr l) g.m
            refine ⟨_, rfl, _, rfl, pm, _, rfl, g1, _, rfl, ?_⟩
            refine ite2 (fun c2 => ?_) (fun c2 => ?_)
            · have hv : l ∉ M ++ fs.map Prod.fst := fun z => by
                rw [dV_val z] at c2
                cases c2
              refine ⟨_, rfl, _, rfl, pm, _, rfl, DPut.k (k := Sum.inr l) g.m (by rw [dV_len]; exact small1000 (by omega)), ?_⟩
              rw [dV_tru hv]
              have hl8 : upd H7 pm (.dK (dV (M ++ fs.map Prod.fst ++ [l]) tru)) pl = some (.lst (ml.map V.ref)) := by rw [upd_ne npl]; exact g.l
              have hq8 : upd H7 pm (.dK (dV (M ++ fs.map Prod.fst ++ [l]) tru)) q = some (.lst (e.2.map V.ref)) := by rw [upd_ne nq]; exact hq7
              try dsimp only [gName]
              refine ⟨_, rfl, .inl ⟨rfl, _, SqL.of hl8⟩, _, rfl, _, rfl, _, rfl, (by show 1 ≤ sizeLine; decide), fun p1 hp1 => ?_⟩
              have w1 := Same.new (o := .lst [.ref r]) hp1
              refine ⟨q, p1, _, _, rfl, rfl, w1 _ _ hq8, upd_same, by rw [List.length_map]; exact le_line (by show e.2.length + 1 ≤ 1000; omega), fun p2 hp2 => ?_⟩
              have w2 := Same.new (o := .lst (e.2.map V.ref ++ [.ref r])) hp2
              refine ⟨(by show 2 ≤ sizeLine; decide), fun b9 hb9 => ?_⟩
              have w3 := Same.new (o := .tup [.str l, .ref p2]) hb9
              have w := w1.trans (w2.trans w3)
              have ml63 : ml.length ≤ 63 := by
                have h1 : ml.length = fs.length := Paired.length g.w
                rw [List.length_append, List.length_map] at lfs
                omega
              refine ⟨pl, _, _, rfl, rfl, w _ _ hl8, by rw [List.length_map]; exact small1000 (by omega), ?_⟩
              have g' := g.add hpl npl hv w (rs := e.2 ++ [r]) (q := p2) (b := b9) (by rw [List.map_append]; exact w3 _ _ upd_same) (Ne.symm (ne_of_none (w1 _ _ hl8) hp2)) upd_same ⟨wk.snoc hlm, by rw [List.length_append, elen]; rfl, hlk⟩
              have mm : ∀ v, v ∈ M ++ fs.map Prod.fst → v ∈ M ++ (fs ++ [(l, e.2 ++ [r])]).map Prod.fst := fun v h => by
                rw [List.map_append, ← List.append_assoc]; exact List.mem_append_left _ h
              refine ⟨_, _, _, _, rfl, g', fun u hu v r' h => ⟨(cond u hu v r' h).1, mm _ (cond u hu v r' h).2⟩, take_all hlr (fun p hp => ⟨(cond2 p hp).1, mm _ (cond2 p hp).2⟩) ⟨c1, ?_⟩⟩
              rw [List.map_append, ← List.append_assoc]
              simp
            · have hv : l ∈ M ++ fs.map Prod.fst := Decidable.byContradiction fun z => by
                rw [dV_none z] at c2
                exact c2 rfl
              exact ⟨_, _, ml, fs, rfl, g, cond, take_all hlr cond2 ⟨c1, hv⟩⟩
        · rintro σ H7 ⟨u7, u8, ml, fs, rfl, g, cond, cond2⟩
          have B7 := hB.same (Bk g.kp)
          have lb : (bs e.1).length = (ln e.1).length := Paired.length (B7.e _ ek)
          rw [List.length_map, lb, List.take_length] at cond2
          refine ⟨_, _, _, _, ml, fs, rfl, g, fun u hu v r h => ?_⟩
          rw [List.map_take, List.take_add_one, List.getElem?_map, he, List.mem_append] at hu
          rcases hu with hu | hu
          · exact cond u (by rw [List.map_take]; exact hu) v r h
          · have : u = e.1 := by simpa using hu
            subst this
            exact cond2 (v, r) h
      · rintro σ H6 ⟨u5, u6, u7, u8, ml, fs, rfl, g, cond⟩
        rw [List.length_map, lw, List.take_length] at cond
        refine ⟨_, rfl, ?_⟩
        try dsimp only [gName]
        have subN : ∀ v ∈ M ++ fs.map Prod.fst, v ∈ keys := fun v hv => (List.mem_append.mp hv).elim (sub4 v) fun z => by
          obtain ⟨e', h1, rfl⟩ := List.mem_map.mp z
          exact (g.ok e' h1).2.2
        have lN := nodup_le g.nd subN
        refine ⟨_, ?_, _, _, _, _, _, pl, ml, fs, d + 1, M ++ fs.map Prod.fst, rfl, Bk g.kp, g.m, g.l, Paired.mapP g.w fun _ _ ⟨q, _, h1, h2⟩ => ⟨q, h1, h2⟩, g.ok, g.nd, subN, bf.succ (fun v hv => ?_) cond, fun hf => ?_, rfl⟩
        · rw [if_neg hes, List.length_append, List.length_map] at *
          cases fs with
          | nil => simp
          | cons a r =>
            rw [if_neg (by simp)]
            simp only [List.length_cons] at *
            omega
        · obtain ⟨e', h1, rfl⟩ := List.mem_map.mp hv
          exact ⟨e'.2, (g.ok e' h1).1, (g.ok e' h1).2.1⟩
        · rw [List.length_append, List.length_map]
          have := List.length_pos_iff.mpr hf
          omega
    · have hes : es = [] := by
        have : wl = [] := by simpa using c
        subst this
        exact List.length_eq_zero_iff.mp lw.symm
      subst hes
      refine ⟨by decide, fun p hp => ?_⟩
      exact k p [] _ (q5.trans (Same.new hp)) (q5.free hp) upd_same (by simp) (.inl ⟨rfl, bf.done⟩)
/-! ### the shortest round -/
def sp_short : Sp := fun vs H Q _ => ∃ (p pu pt : Addr) (x y : V) (us : List Str) (ads : List Addr) (ts : List Tie), vs = [.ref p] ∧ Tel K H p pu pt x y us ads ts ∧
  ∀ (q : Addr) (rs : List Addr) (H' : Hp), Same H H' → H q = none → H' q = some (.lst (rs.map V.ref)) → rs.length ≤ 64 → Rnd (lnkOf ts (ts.zip ads)) (keysOf ts (srt us)) rs → Q (.ref q) H'
set_option maxHeartbeats 8000000 in
theorem h_shortest_round (T : Tx K mg w C_DigError C_Round) : Has P w K mg base "shortest_round" ["telling"] 5 (sp_short (K := K)) := by
  refine T.d_shortest_round.has sc_shortest_round (fun vs H Q E h => ?_) (fun f cdv A outer s H vs Q E hr h => ?_)
  · obtain ⟨p, pu, pt, x, y, us, ads, ts, rfl, _⟩ := h; rfl
  · obtain ⟨p, pu, pt, x, y, us, ads, ts, rfl, hT, k⟩ := h
    refine ⟨_, (pss_cons (ps_set (i := 1) sc_shortest_round.nd rfl (Or.inl rfl) (pe_fn (h_ties_beneath T) (hr.mono (by decide)) (by rfl) (pa_cons (pv 0) pa_nil)))
      (pss_cons (ps_set (i := 2) sc_shortest_round.nd rfl (Or.inl rfl) (pe_lst pa_nil))
      (pss_cons (ps_for PassesOwn.never rfl (pi_dict (pv 1)) (pg_name (i := 3) sc_shortest_round.nd rfl (Or.inl rfl)) (pss_cons (ps_set (i := 4) sc_shortest_round.nd rfl (Or.inl rfl) (pe_fn (h_round_through T) (hr.mono (by decide)) (by rfl) (pa_cons (pv 3) (pa_cons (pv 1) pa_nil))))
        (pss_one (ps_if (PW.pt (pw_and (pt_cmpR (op_neDK K rfl (hu10 hr)) (pv 4) (pe_lst pa_nil) (nomark _)) (pw_and1 (PW.pt (pw_or (pt_cmpR (op_eqDK K rfl (hu10 hr)) (pv 2) (pe_lst pa_nil) (nomark _)) (pw_or1 (pt_cmpR op_lt (pe_callB (call_len_seqK K rfl) (by rfl) T.len boot_len (pa_cons (pv 4) pa_nil)) (pe_callB (call_len_seqK K rfl) (by rfl) T.len boot_len (pa_cons (pv 2) pa_nil)) (nomark _)))))))) (pss_one (ps_set (i := 2) sc_shortest_round.nd rfl (Or.inl rfl) (pv 4))) pss_nil))))
      (pss_one (ps_ret (pv 2)))))), ?_⟩
    have hts := hT.ends
    refine ⟨_, rfl, p, pu, pt, x, y, us, ads, ts, rfl, hT, fun pd ob ad bs H1 s1 fpd hB => ?_⟩
    have cl := lnk_closed (us := us) (ts := ts) (ads := ads) hts
    have lk := hT.klen
    generalize keysOf ts (srt us) = keys at hB cl lk k
    generalize lnkOf ts (ts.zip ads) = ln at hB cl k
    try dsimp only [gName]
    refine ⟨by decide, fun ps hps => ?_⟩
    have s2 := Same.new (o := .lst []) hps
    refine ⟨_, rfl, pd, ob, _, rfl, s2 _ _ hB.d, for_dict (fun i σ H' => ∃ (v3 v4 : Option V) (ps : Addr) (rs : List Addr), σ = [some (.ref p), some (.ref pd), some (.ref ps), v3, v4] ∧ Same H1 H' ∧ H ps = none ∧ H' ps = some (.lst (rs.map V.ref)) ∧ rs.length ≤ 64 ∧ Rnd ln (keys.take i) rs)
      ⟨none, none, ps, [], rfl, s2, s1.free hps, upd_same, by simp, by simpa using Rnd.nil⟩ (fun i σ H' _ h => by obtain ⟨_, _, _, _, _, q, _⟩ := h; exact q _ _ hB.d) ?_ ?_⟩
    · rintro i kk vv σ H3 hx ⟨v3, v4, ps, rs, rfl, q3, fps, hps3, lr, hR⟩
      obtain ⟨u, hu, rfl, _⟩ := dV_at hx
      have huk : u ∈ keys := List.mem_of_getElem? hu
      try dsimp only [gName]
      refine ⟨_, rfl, _, rfl, u, pd, ob, keys, ln, ad, bs, rfl, hB.same q3, huk, cl, lk, fun pr xs H4 s4 fpr hpr lx hS => ?_⟩
      have q4 := q3.trans s4
      have hps4 := s4 _ _ hps3
      try dsimp only [gName]
      refine ifS_same (decide (xs ≠ [] ∧ (rs = [] ∨ xs.length < rs.length))) (fun Q' hQ => ?_) (fun H5 t5 => ?_)
      · refine ⟨_, rfl, by decide, fun e1 he1 => ?_⟩
        have w1 := Same.new (o := .lst []) he1
        refine ⟨pr, e1, _, rfl, rfl, DEq.nilL (SqL.of (w1 _ _ hpr)) (SqL.of upd_same), _, rfl, ?_⟩
        refine ite2 (fun c => ?_) (fun c => ?_)
        · have c : xs ≠ [] := by simpa using c
          refine ⟨_, rfl, by decide, fun e2 he2 => ?_⟩
          have w2 := Same.new (o := .lst []) he2
          have w12 := w1.trans w2
          refine ⟨ps, e2, _, rfl, rfl, DEq.nilL (SqL.of (w12 _ _ hps4)) (SqL.of upd_same), _, rfl, ?_⟩
          refine ite2 (fun c2 => ?_) (fun c2 => ?_)
          · have c2 : rs = [] := by simpa using c2
            rw [show true = decide (xs ≠ [] ∧ (rs = [] ∨ xs.length < rs.length)) from (decide_eq_true ⟨c, .inl c2⟩).symm]
            exact hQ _ w12
          · have c2 : ¬ rs = [] := by simpa using c2
            refine ⟨_, rfl, pr, _, rfl, .inl (SqL.of (w12 _ _ hpr)), _, rfl, ps, _, rfl, .inl (SqL.of (w12 _ _ hps4)), _, _, rfl, rfl, _, rfl, ?_⟩
            have : decide (((xs.map V.ref).length : Int) < ((rs.map V.ref).length : Int)) = decide (xs ≠ [] ∧ (rs = [] ∨ xs.length < rs.length)) := by
              rw [List.length_map, List.length_map]
              apply decide_eq_decide.mpr
              constructor
              · intro z; exact ⟨c, .inr (by omega)⟩
              · rintro ⟨_, z | z⟩
                · exact absurd z c2
                · omega
            rw [← this] at hQ
            exact hQ _ w12
        · have c : xs = [] := by simpa using c
          rw [show false = decide (xs ≠ [] ∧ (rs = [] ∨ xs.length < rs.length)) from (decide_eq_false fun z => z.1 c).symm]
          exact hQ _ w1
      · have := hR.step hS
        rw [show keys.take i ++ [u] = keys.take (i + 1) by rw [List.take_add_one, hu]; rfl] at this
        refine ite2 (fun c => ?_) (fun c => ?_)
        · have c := of_decide_eq_true c
          rw [if_pos c] at this
          exact ⟨_, rfl, _, _, pr, xs, rfl, q4.trans t5, (s1.trans q3).free fpr, t5 _ _ hpr, lx, this⟩
        · have c : ¬ (xs ≠ [] ∧ (rs = [] ∨ xs.length < rs.length)) := fun z => c (decide_eq_true z)
          rw [if_neg c] at this
          exact ⟨_, _, ps, rs, rfl, q4.trans t5, fps, t5 _ _ hps4, lr, this⟩
    · rintro σ H3 ⟨v3, v4, ps, rs, rfl, q3, fps, hps3, lr, hR⟩
      rw [dV_len, List.take_length] at hR
      exact ⟨_, rfl, k ps rs _ (s1.trans q3) fps hps3 lr hR⟩
/-! ### one order -/
theorem all_map_id {α : Type} (f : α → Bool) (l : List α) : (l.map f).all id = l.all f := by rw [List.all_map]; rfl
def sp_rests : Sp := fun vs H Q _ => ∃ (pl pp : Addr) (bs : List Addr) (L : List (Str × Addr)) (M : List Str), vs = [.ref pl, .ref pp] ∧ SqL K H pl (bs.map V.ref) ∧ Paired (fun b (p : Str × Addr) => H b = some (.tup [.str p.1, .ref p.2])) bs L ∧ H pp = some (.dK (dV M tru)) ∧ L.length ≤ 900 ∧
  ∀ H', Same H H' → Q (.bl (restB M L)) H'
set_option maxHeartbeats 4000000 in
theorem h_rests_on (T : Tx K mg w C_DigError C_Round) : Has P w K mg base "rests_on" ["lowers", "placed"] 1 (sp_rests (K := K)) := by
  refine T.d_rests_on.has sc_rests_on (fun vs H Q E h => ?_) (fun f cdv A outer s H vs Q E hr h => ?_)
  · obtain ⟨pl, pp, bs, L, M, rfl, _⟩ := h; rfl
  · obtain ⟨pl, pp, bs, L, M, rfl, hl, pr, hm, lL, k⟩ := h
    have hu := hu_of hr
    refine ⟨_, (pss_one (ps_ret (pe_callB (call_allBK K rfl rfl) (by rfl) T.all PyProof.Rows.boot_all (pa_cons (pe_comp (own := ["lower", "tie"]) (cap := ["placed"]) (ix := [1]) (osc := defScope (top 14)) rfl ⟨rfl, by decide +kernel, by decide +kernel, by decide +kernel, by decide +kernel⟩ rfl (pi_listK K rfl (pv 0)) (fun _ _ _ _ => pg_tupK (n := 2) K rfl rfl (pgs_cons (pg_name (i := 0) (show List.Nodup (["lower", "tie", "placed"] : List Str) by decide +kernel) rfl (Or.inl rfl)) (pgs_cons (pg_name (i := 1) (show List.Nodup (["lower", "tie", "placed"] : List Str) by decide +kernel) rfl (Or.inl rfl)) pgs_nil))) (fun _ _ _ _ => pif_nil) (fun _ _ _ _ => (pe_cmp (pc_din hu (pv 0) (pv 2))))) pa_nil)))), ?_⟩
    have lb : bs.length = L.length := Paired.length pr
    refine ⟨_, rfl, pl, rfl, ⟨_, hl⟩, fun D hD => ?_⟩
    refine comp_gen (fix_list (K := K) (a := pl) (xs := bs.map V.ref)) (fun i σ' ys H' => ∃ w0 w1, σ' = [w0, w1, some (.ref pp)] ∧ ys = ((L.take i).map fun p => decide (p.1 ∈ M)).map V.bl ∧ Same H H' ∧ H' D = some (.lst ys))
      ⟨none, none, rfl, by simp, Same.new hD, upd_same⟩ (fun i σ' ys H' h => ?_) (by rw [List.length_map]; exact le_line (by omega)) ?_ ?_
    · obtain ⟨_, _, _, rfl, q, hd⟩ := h
      refine ⟨q.seq hl, hd, ?_⟩
      rw [List.length_map, List.length_map, List.length_take]
      omega
    · rintro i v σ' ys H' hx ⟨w0, w1, rfl, rfl, q, hd⟩
      obtain ⟨b, ⟨l, r⟩, rfl, hlr, _, hb⟩ := pairs_at pr hx
      have hix := get_lt hx
      refine ⟨b, _, rfl, SqT.of (q _ _ hb), rfl, _, _, rfl, _, _, rfl, rfl, ?_⟩
      try dsimp only [gName]
      unfold tYes
      dsimp only
      rw [if_pos rfl]
      have g := DGet.k (k := Sum.inr l) (q _ _ hm)
      refine ⟨_, rfl, _, rfl, pp, _, rfl, g, hd, cstep hix ⟨_, _, rfl, ?_, q.upd hD, upd_same⟩⟩
      rw [List.take_add_one, hlr, List.map_append, List.map_append]
      congr 1
      show [V.bl (valV (dV M tru) (Sum.inr l)).isSome] = [V.bl (decide (l ∈ M))]
      by_cases c : l ∈ M
      · rw [dV_val c, decide_eq_true c]; rfl
      · rw [dV_none c, decide_eq_false c]; rfl
    rintro σ' ys H1 ⟨w0, w1, rfl, rfl, q, hd⟩
    rw [List.length_map, lb, List.take_length] at hd
    refine ⟨D, _, rfl, SqL.of hd, ?_⟩
    rw [all_map_id]
    exact k _ q
def sp_least : Sp := fun vs H Q _ => ∃ (pd pp : Addr) (ob : Obj) (keys : List Str) (ln : Ln) (ad : Str → Addr) (bs : Str → List Addr) (M : List Str) (u : Str) (r : List Str), vs = [.ref pd, .ref pp] ∧ Bn H pd ob keys ln ad bs ∧ H pp = some (.dK (dV M tru)) ∧ keys.length ≤ 63 ∧ (∀ k ∈ keys, (ln k).length ≤ 900) ∧
  frees ln keys M = u :: r ∧ ∀ H', Same H H' → Q (.str u) H'
set_option maxHeartbeats 4000000 in
theorem h_least_free (T : Tx K mg w C_DigError C_Round) : Has P w K mg base "least_free" ["beneath", "placed"] 2 sp_least := by
  refine T.d_least_free.has sc_least_free (fun vs H Q E h => ?_) (fun f cdv A outer s H vs Q E hr h => ?_)
  · obtain ⟨pd, pp, ob, keys, ln, ad, bs, M, u, r, rfl, _⟩ := h; rfl
  · obtain ⟨pd, pp, ob, keys, ln, ad, bs, M, u, r, rfl, hB, hm, lk, ll, hf, k⟩ := h
    have hu := hu_of hr
    refine ⟨_, (pss_cons (ps_setC (i := 2) (own := ["name"]) (cap := ["placed", "beneath"]) (ix := [1, 0]) (osc := defScope (top 13)) rfl sc_least_free.nd rfl rfl rfl ⟨rfl, by decide +kernel, by decide +kernel, by decide +kernel, by decide +kernel⟩ rfl (pi_dict (pv 0)) (fun _ _ _ _ => pg_name (i := 0) (show List.Nodup (["name", "placed", "beneath"] : List Str) by decide +kernel) rfl (Or.inl rfl)) (fun _ _ _ _ => pif_one (PW.pt (pw_and (pt_cmp (pc_dnotin hu (pv 0) (pv 1))) (pw_and1 (pt_val (pe_fn (h_rests_on T) (hr.mono (by decide)) (by rfl) (pa_cons (pe_dget hu (pv 2) (pv 0) (fun _ _ => rfl)) (pa_cons (pv 1) pa_nil)))))))) (fun _ _ _ _ => (pv 0)))
      (pss_one (ps_ret (pe_ix (ix_listK K rfl) (pv 2) pe_int (fun _ _ => rfl))))), ?_⟩
    refine ⟨_, rfl, pd, ob, _, rfl, hB.d, fun D hD => ?_⟩
    refine comp_gen (fix_dict (a := pd) (ob := ob) (kvs := dV keys fun k => .ref (ad k))) (fun i σ' ys H' => ∃ w0, σ' = [w0, some (.ref pp), some (.ref pd)] ∧ ys = ((keys.take i).filter fun x => decide (x ∉ M) && restB M (ln x)).map V.str ∧ Same H H' ∧ H' D = some (.lst ys))
      ⟨none, rfl, by simp, Same.new hD, upd_same⟩ (fun i σ' ys H' h => ?_) (by rw [List.length_map, dV_len]; exact le_line (by omega)) ?_ ?_
    · obtain ⟨_, _, rfl, q, hd⟩ := h
      refine ⟨q _ _ hB.d, hd, ?_⟩
      rw [List.length_map]
      exact Nat.le_trans (List.length_filter_le _ _) (by rw [List.length_take]; omega)
    · rintro i v σ' ys H1 hx ⟨w0, rfl, rfl, q, hd⟩
      have hix := get_lt hx
      rw [dV_keys, List.getElem?_map] at hx
      cases eu : keys[i]? with
      | none => rw [eu] at hx; cases hx
      | some z =>
        rw [eu] at hx
        cases hx
        have hz : z ∈ keys := List.mem_of_getElem? eu
        have B1 := hB.same q
        have g := DGet.k (k := Sum.inr z) (q _ _ hm)
        have no : ∀ (H2 : Hp), Same H1 H2 → (decide (z ∉ M) && restB M (ln z)) = false → ∃ w0', [some (V.str z), some (V.ref pp), some (V.ref pd)] = [w0', some (.ref pp), some (.ref pd)] ∧ ((keys.take i).filter fun x => decide (x ∉ M) && restB M (ln x)).map V.str = ((keys.take (i + 1)).filter fun x => decide (x ∉ M) && restB M (ln x)).map V.str ∧ Same H H2 ∧ H2 D = some (.lst (((keys.take i).filter fun x => decide (x ∉ M) && restB M (ln x)).map V.str)) := fun H2 t e => by
          refine ⟨_, rfl, ?_, q.trans t, t _ _ hd⟩
          rw [List.take_add_one, eu, List.filter_append, List.map_append]
          have : (some z).toList.filter (fun x => decide (x ∉ M) && restB M (ln x)) = [] := by
            show [z].filter _ = []
            rw [List.filter_cons_of_neg (by rw [e]; exact Bool.false_ne_true)]
            rfl
          rw [this, List.map_nil, List.append_nil]
        try dsimp only [gName]
        refine ⟨_, rfl, _, rfl, pp, _, rfl, g, _, rfl, ?_⟩
        refine ite2 (fun c => ?_) (fun c => ?_)
        · have c1 : z ∉ M := fun y => by rw [dV_val y] at c; cases c
          refine ⟨_, rfl, _, rfl, pd, _, rfl, B1.get hz, _, rfl, ad z, pp, bs z, ln z, M, rfl, SqL.of (B1.l z hz), B1.e z hz, q _ _ hm, ll z hz, fun H2 t2 => ⟨_, rfl, ?_⟩⟩
          refine ite2 (fun c2 => ?_) (fun c2 => ?_)
          · refine ⟨_, rfl, t2 _ _ hd, cstep hix ⟨_, rfl, ?_, (q.trans t2).upd hD, upd_same⟩⟩
            rw [List.take_add_one, eu, List.filter_append, List.map_append]
            congr 1
            have : (some z).toList.filter (fun x => decide (x ∉ M) && restB M (ln x)) = [z] := by
              show [z].filter _ = [z]
              rw [List.filter_cons_of_pos (by rw [decide_eq_true c1, c2]; rfl)]
              rfl
            rw [this]
            rfl
          · have c2 : restB M (ln z) = false := by simpa using c2
            exact ⟨t2 _ _ hd, cstep hix (no H2 t2 (by rw [c2, Bool.and_false]))⟩
        · have c1 : z ∈ M := Decidable.byContradiction fun y => by
            rw [dV_none y] at c
            exact c rfl
          refine ⟨hd, cstep hix (no H1 (Same.refl _) ?_)⟩
          rw [show decide (z ∉ M) = false from decide_eq_false (fun y => y c1), Bool.false_and]
    rintro σ' ys H1 ⟨w0, rfl, rfl, q, hd⟩
    rw [List.length_map, dV_len, List.take_length] at hd
    have hd : H1 D = some (.lst ((frees ln keys M).map V.str)) := hd
    rw [hf] at hd
    try dsimp only [gName]
    exact ⟨_, rfl, D, _, _, _, rfl, rfl, SqL.of hd, atI_0, k _ q⟩
def sp_refuse : Sp := fun vs H Q _ => ∃ (p pu pt : Addr) (x y : V) (us : List Str) (ads : List Addr) (ts : List Tie), vs = [.ref p] ∧ Tel K H p pu pt x y us ads ts ∧ NoR (lnkOf ts (ts.zip ads)) (keysOf ts (srt us)) ∧ ∀ H', Same H H' → Q .non H'
theorem h_refuse_round (T : Tx K mg w C_DigError C_Round) : Has P w K mg base "refuse_round" ["telling"] 6 (sp_refuse (K := K)) := by
  refine T.d_refuse_round.has sc_refuse_round (fun vs H Q E h => ?_) (fun f cdv A outer s H vs Q E hr h => ?_)
  · obtain ⟨p, pu, pt, x, y, us, ads, ts, rfl, _⟩ := h; rfl
  · obtain ⟨p, pu, pt, x, y, us, ads, ts, rfl, hT, nr, k⟩ := h
    refine ⟨_, (pss_cons (ps_set (i := 1) sc_refuse_round.nd rfl (Or.inl rfl) (pe_fn (h_shortest_round T) (hr.mono (by decide)) (by rfl) (pa_cons (pv 0) pa_nil)))
      (pss_one (ps_if (pt_cmpR (op_neDK K rfl (hu10 hr)) (pv 1) (pe_lst pa_nil) (nomark _)) (pss_one ps_never) pss_nil))), ?_⟩
    refine ⟨_, rfl, p, pu, pt, x, y, us, ads, ts, rfl, hT, fun q rs H1 s1 fq hq lr R => ?_⟩
    have e : rs = [] := Decidable.byContradiction fun z => by
      obtain ⟨s', hs, j, hj, r⟩ := R.nil_iff.mp z
      exact nr s' hs j hj r
    subst e
    try dsimp only [gName]
    refine ⟨_, rfl, by decide, fun e he => ?_⟩
    have s2 := Same.new (o := .lst []) he
    refine ⟨q, e, _, rfl, rfl, DEq.nilL (SqL.of (s2 _ _ hq)) (SqL.of upd_same), _, rfl, iteF ?_⟩
    exact k _ (s1.trans s2)
def sp_order : Sp := fun vs H Q _ => ∃ (p pu pt : Addr) (x y : V) (us : List Str) (ads : List Addr) (ts : List Tie), vs = [.ref p] ∧ Tel K H p pu pt x y us ads ts ∧ NoR (lnkOf ts (ts.zip ads)) (keysOf ts (srt us)) ∧
  ∀ (q : Addr) (os : List Str) (H' : Hp), Same H H' → H q = none → H' q = some (.lst (os.map V.str)) → Ord (lnkOf ts (ts.zip ads)) (keysOf ts (srt us)) os → os.Perm (keysOf ts (srt us)) → Q (.ref q) H'
set_option maxHeartbeats 4000000 in
theorem h_order (T : Tx K mg w C_DigError C_Round) : Has P w K mg base "order" ["telling"] 7 (sp_order (K := K)) := by
  refine T.d_order.has sc_order (fun vs H Q E h => ?_) (fun f cdv A outer s H vs Q E hr h => ?_)
  · obtain ⟨p, pu, pt, x, y, us, ads, ts, rfl, _⟩ := h; rfl
  · obtain ⟨p, pu, pt, x, y, us, ads, ts, rfl, hT, nr, k⟩ := h
    have hu := hu_of hr
    refine ⟨_, (pss_cons (ps_expr (pe_fn (h_refuse_round T) (hr.mono (by decide)) (by rfl) (pa_cons (pv 0) pa_nil)))
      (pss_cons (ps_set (i := 1) sc_order.nd rfl (Or.inl rfl) (pe_fn (h_ties_beneath T) (hr.mono (by decide)) (by rfl) (pa_cons (pv 0) pa_nil)))
      (pss_cons (ps_set (i := 2) sc_order.nd rfl (Or.inl rfl) pe_dnewK)
      (pss_cons (ps_while PassesOwn.never (pt_cmpR op_lt (pe_callB call_lenD (by rfl) T.len boot_len (pa_cons (pv 2) pa_nil)) (pe_callB call_lenDR (by rfl) T.len boot_len (pa_cons (pv 1) pa_nil)) (nomark _)) (pss_one (ps_dput hu (pv 2) (pe_fn (h_least_free T) (hr.mono (by decide)) (by rfl) (pa_cons (pv 1) (pa_cons (pv 2) pa_nil))) pe_bl rfl)))
      (pss_one (ps_ret (pe_callTy (call_list_dK rfl) (by rfl) T.list PyProof.Rows.boot_list (pa_cons (pv 2) pa_nil)))))))), ?_⟩
    refine ⟨_, rfl, p, pu, pt, x, y, us, ads, ts, rfl, hT, nr, fun H1 s1 => ?_⟩
    refine ⟨_, rfl, p, pu, pt, x, y, us, ads, ts, rfl, hT.same s1, fun pd ob ad bs H2 s2 fpd hB => ?_⟩
    have cl := lnk_closed (us := us) (ts := ts) (ads := ads) hT.ends
    have lk := hT.klen
    have kn := keys_nodup (ts := ts) hT.nd
    have kl := keys_lt (ts := ts) hT.nd
    have ll : ∀ k ∈ keysOf ts (srt us), (lnkOf ts (ts.zip ads) k).length ≤ 900 := fun k _ => by
      have h1 := lnk_len (ts := ts) (z := ts.zip ads) (k := k)
      have h2 := hT.tl
      rw [List.length_zip] at h1
      omega
    generalize keysOf ts (srt us) = keys at hB cl lk k nr kn kl ll
    generalize lnkOf ts (ts.zip ads) = ln at hB cl k nr ll
    have q2 := s1.trans s2
    try dsimp only [gName]
    refine fun pp hpp => ?_
    have s3 := Same.new (o := .dK []) hpp
    refine ⟨fun m σ H' => ∃ os, σ = [some (.ref p), some (.ref pd), some (.ref pp)] ∧ Same H2 H' ∧ H' pp = some (.dK (dV os tru)) ∧ Ord ln keys os ∧ m = keys.length - os.length, ⟨_, [], rfl, s3, upd_same, Ord.nil, rfl⟩, ?_⟩
    rintro m σ H4 ⟨os, rfl, q4, hp4, O, rfl⟩
    have B4 := hB.same q4
    have lo := nodup_le O.nd O.sub
    refine ⟨_, rfl, pp, _, rfl, hp4, _, rfl, pd, _, rfl, .inr ⟨_, B4.d⟩, _, _, rfl, rfl, _, rfl, ?_⟩
    rw [dV_len, dV_len]
    refine ite2 (fun c => ?_) (fun c => ?_)
    · have c := of_decide_eq_true c
      have hx : ∃ x ∈ keys, x ∉ os := Classical.byContradiction fun hn => by
        have := nodup_le (us := os) kn fun x hx => Decidable.byContradiction fun z => hn ⟨x, hx, z⟩
        omega
      obtain ⟨u, r, hu'⟩ : ∃ u r, frees ln keys os = u :: r := by
        cases e : frees ln keys os with
        | nil => exact absurd e (frees_ne cl nr hx)
        | cons u r => exact ⟨u, r, rfl⟩
      obtain ⟨m1, m2, m3⟩ := frees_mem.mp (show u ∈ frees ln keys os by rw [hu']; simp)
      refine ⟨fun σ' H' => ∃ m', m' < keys.length - os.length ∧ _, fun σ' H' h => h, ?_⟩
      refine ⟨_, rfl, _, rfl, _, rfl, pd, pp, ob, keys, ln, ad, bs, os, u, r, rfl, B4, hp4, lk, ll, hu', fun H5 s5 => ?_⟩
      refine ⟨pp, _, rfl, DPut.k (k := Sum.inr u) (s5 _ _ hp4) (by rw [dV_len]; exact small1000 (by omega)), ?_⟩
      rw [dV_tru m2]
      refine ⟨_, ?_, os ++ [u], rfl, (q4.trans s5).upd hpp, upd_same, O.snoc kl hu', rfl⟩
      rw [List.length_append]
      show keys.length - (os.length + 1) < _
      omega
    · have c : ¬ ((os.length : Int) < (keys.length : Int)) := fun z => c (decide_eq_true z)
      have e : os.length = keys.length := by omega
      refine ⟨_, rfl, pp, _, rfl, hp4, fun q hq => ?_⟩
      rw [dV_keys]
      exact k q os _ (q2.trans (q4.trans (Same.new hq))) ((q2.trans q4).free hq) upd_same O (O.perm kn e)
/-! ### levels -/
def sp_levels : Sp := fun vs H Q _ => ∃ (p pu pt : Addr) (x y : V) (us : List Str) (ads : List Addr) (ts : List Tie), vs = [.ref p] ∧ Tel K H p pu pt x y us ads ts ∧ NoR (lnkOf ts (ts.zip ads)) (keysOf ts (srt us)) ∧
  ∀ (q : Addr) (cs : List Addr) (lv : Str → Nat) (H' : Hp), Same H H' → H q = none → H' q = some (.lst (cs.map V.ref)) → cs.length ≤ 63 → cs.Nodup → (∀ c ∈ cs, H c = none ∧ c ≠ q) →
    (∀ (j : Nat) c, cs[j]? = some c → H' c = some (.lst (((keysOf ts (srt us)).filter (rowB lv j)).map V.str))) → Lv (lnkOf ts (ts.zip ads)) (keysOf ts (srt us)) lv cs.length → Q (.ref q) H'
set_option maxHeartbeats 8000000 in
theorem h_levels (T : Tx K mg w C_DigError C_Round) : Has P w K mg base "levels" ["telling"] 8 (sp_levels (K := K)) := by
  refine T.d_levels.has sc_levels (fun vs H Q E h => ?_) (fun f cdv A outer s H vs Q E hr h => ?_)
  · obtain ⟨p, pu, pt, x, y, us, ads, ts, rfl, _⟩ := h; rfl
  · obtain ⟨p, pu, pt, x, y, us, ads, ts, rfl, hT, nr, k⟩ := h
    have hu := hu_of hr
    refine ⟨_, (pss_cons (ps_set (i := 1) sc_levels.nd rfl (Or.inl rfl) (pe_fn (h_ties_beneath T) (hr.mono (by decide)) (by rfl) (pa_cons (pv 0) pa_nil)))
      (pss_cons (ps_set (i := 2) sc_levels.nd rfl (Or.inr rfl) pe_dnewK)
      (pss_cons (ps_set (i := 3) sc_levels.nd rfl (Or.inl rfl) (pe_lst pa_nil))
      (pss_cons (ps_for PassesOwn.never rfl (pi_listK K rfl (pe_fn (h_order T) (hr.mono (by decide)) (by rfl) (pa_cons (pv 0) pa_nil))) (pg_name (i := 4) sc_levels.nd rfl (Or.inl rfl)) (pss_cons (ps_set (i := 5) sc_levels.nd rfl (Or.inl rfl) (pe_maxD K rfl 0 rfl (by rfl) T.max (pe_comp (own := ["lower", "tie"]) (cap := ["numbers"]) (ix := [2]) (osc := defScope (top 20)) rfl ⟨rfl, by decide +kernel, by decide +kernel, by decide +kernel, by decide +kernel⟩ rfl (pi_listK K rfl (pe_dget hu (pv 1) (pv 4) (fun _ _ => rfl))) (fun _ _ _ _ => pg_tupK (n := 2) K rfl rfl (pgs_cons (pg_name (i := 0) (show List.Nodup (["lower", "tie", "numbers"] : List Str) by decide +kernel) rfl (Or.inl rfl)) (pgs_cons (pg_name (i := 1) (show List.Nodup (["lower", "tie", "numbers"] : List Str) by decide +kernel) rfl (Or.inl rfl)) pgs_nil))) (fun _ _ _ _ => pif_nil) (fun _ _ _ _ => (pe_op op_add (pe_dget hu (pv 2) (pv 0) (fun _ _ => rfl)) pe_int)))))
        (pss_cons (ps_dput hu (pv 2) (pv 4) (pv 5) rfl)
        (pss_cons (ps_if (pt_cmpR op_eq (pv 5) (pe_callB (call_len_seqK K rfl) (by rfl) T.len boot_len (pa_cons (pv 3) pa_nil)) (nomark _)) (pss_one (ps_expr (pe_bmK K rfl PySem.F.plainAttrs_list PySem.F.slot_list_append PySem.F.type_list_append mt_append (pv 3) (pa_cons (pe_lst pa_nil) pa_nil)))) pss_nil)
        (pss_one (ps_expr (pe_bmK K rfl PySem.F.plainAttrs_list PySem.F.slot_list_append PySem.F.type_list_append mt_append (pe_ix (ix_listK K rfl) (pv 3) (pv 5) (fun _ _ => rfl)) (pa_cons (pv 4) pa_nil))))))))
      (pss_one (ps_ret (pe_comp (own := ["row"]) (cap := []) (ix := []) (osc := defScope (top 20)) rfl ⟨rfl, by decide +kernel, by decide +kernel, by decide +kernel, by decide +kernel⟩ rfl (pi_listK K rfl (pv 3)) (fun _ _ _ _ => pg_name (i := 0) (show List.Nodup (["row"] : List Str) by decide +kernel) rfl (Or.inl rfl)) (fun _ _ _ _ => pif_nil) (fun _ _ _ _ => (pe_callB (call_sortedS (K := K) rfl) (by rfl) T.sorted PyProof.Rows.boot_sorted (pa_cons (pv 0) pa_nil)))))))))), ?_⟩
    refine ⟨_, rfl, p, pu, pt, x, y, us, ads, ts, rfl, hT, fun pd ob ad bs H1 s1 fpd hB => ?_⟩
    have lk := hT.klen
    have kn := keys_nodup (ts := ts) hT.nd
    have kl := keys_lt (ts := ts) hT.nd
    have ll : ∀ k ∈ keysOf ts (srt us), (lnkOf ts (ts.zip ads) k).length ≤ 900 := fun k _ => by
      have h1 := lnk_len (ts := ts) (z := ts.zip ads) (k := k)
      have h2 := hT.tl
      rw [List.length_zip] at h1
      omega
    try dsimp only [gName]
    refine fun pn hpn => ?_
    have s2 := Same.new (o := .dK []) hpn
    try dsimp only [gName]
    refine ⟨by decide, fun pr hpr => ?_⟩
    have s3 := Same.new (o := .lst []) hpr
    have q3 := s1.trans (s2.trans s3)
    have fpr : H1 pr = none := s2.free hpr
    have npr : pn ≠ pr := ne_of_none upd_same hpr
    refine ⟨_, rfl, p, pu, pt, x, y, us, ads, ts, rfl, hT.same q3, nr, fun q os H4 s4 fq hq O pm => ?_⟩
    have hn4 := s4 _ _ (s3 _ _ (upd_same (H := H1) (a := pn) (o := .dK [])))
    have hr4 := s4 _ _ (upd_same (H := upd H1 pn (.dK [])) (a := pr) (o := .lst []))
    have nqn : pn ≠ q := ne_of_none (s3 _ _ upd_same) fq
    have nqr : pr ≠ q := ne_of_none upd_same fq
    have fq1 : H1 q = none := (s2.trans s3).free fq
    have lo : os.length ≤ 63 := by rw [pm.length_eq]; exact lk
    generalize keysOf ts (srt us) = keys at hB lk k nr kn kl ll O pm
    generalize lnkOf ts (ts.zip ads) = ln at hB k nr ll O
    refine ⟨q, rfl, ⟨_, SqL.of hq⟩, for_list (xs := os.map V.str) (fun i σ H' => ∃ (v4 v5 : Option V) (cs : List Addr) (lv : Str → Nat), σ = [some (.ref p), some (.ref pd), some (.ref pn), some (.ref pr), v4, v5] ∧ Same H1 H' ∧ H' q = some (.lst (os.map V.str)) ∧
      H' pn = some (.dK (dV (os.take i) fun x => .int (lv x))) ∧ H' pr = some (.lst (cs.map V.ref)) ∧ cs.length ≤ i ∧ cs.Nodup ∧ (∀ c ∈ cs, H1 c = none ∧ c ≠ pn ∧ c ≠ pr ∧ c ≠ q) ∧
      (∀ (j : Nat) c, cs[j]? = some c → H' c = some (.lst (((os.take i).filter (rowB lv j)).map V.str))) ∧ Lv ln (os.take i) lv cs.length)
      ⟨none, none, [], fun _ => 0, rfl, s2.trans (s3.trans s4), hq, hn4, hr4, Nat.le_refl _, by simp, by simp, by simp, Lv.nil⟩ (fun i σ H' _ h => by obtain ⟨_, _, _, _, _, _, q, _⟩ := h; exact SqL.of q) ?_ ?_⟩
    · rintro i v σ H5 hx ⟨v4, v5, cs, lv, rfl, q5, hq5, hn5, hr5, cl, cn, cf, ch, L⟩
      rw [List.getElem?_map] at hx
      cases eu : os[i]? with
      | none => rw [eu] at hx; cases hx
      | some u =>
        rw [eu] at hx
        cases hx
        have hu' : u ∈ keys := O.sub u (List.mem_of_getElem? eu)
        have hlow := O.low i u eu
        have hi := get_lt eu
        have hul : u ∉ os.take i := fun z => by
          have nd := O.nd
          rw [← List.take_append_drop i os, List.nodup_append] at nd
          refine nd.2.2 u z u ?_ rfl
          obtain ⟨hi, e⟩ := List.getElem?_eq_some_iff.mp eu
          rw [← e]
          exact List.mem_drop_iff_getElem.mpr ⟨0, by omega, by simp⟩
        have tk : os.take (i + 1) = os.take i ++ [u] := by rw [List.take_add_one, eu]; rfl
        have lt : (os.take i).length ≤ 63 := by rw [List.length_take]; omega
        have B5 := hB.same q5
        have lb : (bs u).length = (ln u).length := Paired.length (B5.e u hu')
        have lu := ll u hu'
        try dsimp only [gName]
        refine ⟨_, rfl, _, rfl, pd, _, rfl, B5.get hu', ad u, rfl, ⟨_, SqL.of (B5.l u hu')⟩, fun D hD => ?_⟩
        refine comp_gen (fix_list (K := K) (a := ad u) (xs := (bs u).map V.ref)) (fun i' σ' ys H' => ∃ w0 w1, σ' = [w0, w1, some (.ref pn)] ∧ ys = (lvN lv ((ln u).take i')).map V.int ∧ Same H5 H' ∧ H' D = some (.lst ys))
          ⟨none, none, rfl, by simp [lvN], Same.new hD, upd_same⟩ (fun i' σ' ys H' h => ?_) (by rw [List.length_map]; exact le_line (by omega)) ?_ ?_
        · obtain ⟨_, _, _, rfl, q, hd⟩ := h
          refine ⟨SqL.of (q _ _ (B5.l u hu')), hd, ?_⟩
          unfold lvN
          rw [List.length_map, List.length_map, List.length_take]
          omega
        · rintro i' v σ' ys H' hx ⟨w0, w1, rfl, rfl, q, hd⟩
          obtain ⟨b, ⟨l, r⟩, rfl, hlr, _, hb⟩ := pairs_at (B5.e u hu') hx
          have hix := get_lt hx
          have hl : l ∈ os.take i := hlow l r (List.mem_of_getElem? hlr)
          refine ⟨b, _, rfl, SqT.of (q _ _ hb), rfl, _, _, rfl, _, _, rfl, rfl, ?_⟩
          try dsimp only [gName]
          unfold tYes
          dsimp only
          rw [if_pos rfl]
          have g := DGet.k (k := Sum.inr l) (q _ _ hn5)
          rw [dV_val hl] at g
          refine ⟨_, rfl, _, rfl, pn, _, rfl, g, _, _, rfl, rfl, hd, cstep hix ⟨_, _, rfl, ?_, q.upd hD, upd_same⟩⟩
          rw [List.take_add_one, hlr]
          unfold lvN
          rw [List.map_append, List.map_append]
          rfl
        rintro σ' ys H6 ⟨w0, w1, rfl, rfl, t6, hd6⟩
        rw [List.length_map, lb, List.take_length] at hd6
        refine ⟨D, _, rfl, SqL.of hd6, fun m hm => ?_⟩
        obtain ⟨k', rfl, hk⟩ := L.next hlow hm
        have L' := L.step hul hlow hm hk
        have hn6 := t6 _ _ hn5
        have hr6 := t6 _ _ hr5
        try dsimp only [gName]
        refine ⟨_, rfl, _, rfl, _, rfl, pn, _, rfl, DPut.k (k := Sum.inr u) hn6 (by rw [dV_len]; exact small1000 (by omega)), ?_⟩
        rw [dV_new hul]
        have ed : dV (os.take i ++ [u]) (fun z => if z = u then V.int (k' : Int) else V.int (lv z)) = dV (os.take (i + 1)) fun x => V.int (lvU lv u k' x) := by
          rw [tk]
          refine dV_congr fun z _ => ?_
          unfold lvU
          split <;> rfl
        rw [ed]
        have q7 : Same H1 (upd H6 pn (.dK (dV (os.take (i + 1)) fun x => V.int (lvU lv u k' x)))) := (q5.trans t6).upd hpn
        have hq7 : upd H6 pn (.dK (dV (os.take (i + 1)) fun x => V.int (lvU lv u k' x))) q = some (.lst (os.map V.str)) := by rw [upd_ne (Ne.symm nqn)]; exact t6 _ _ hq5
        have hr7 : upd H6 pn (.dK (dV (os.take (i + 1)) fun x => V.int (lvU lv u k' x))) pr = some (.lst (cs.map V.ref)) := by rw [upd_ne (Ne.symm npr)]; exact hr6
        have hn7 : upd H6 pn (.dK (dV (os.take (i + 1)) fun x => V.int (lvU lv u k' x))) pn = some (.dK (dV (os.take (i + 1)) fun x => V.int (lvU lv u k' x))) := upd_same
        have ch7 : ∀ (j : Nat) c, cs[j]? = some c → upd H6 pn (.dK (dV (os.take (i + 1)) fun x => V.int (lvU lv u k' x))) c = some (.lst (((os.take i).filter (rowB lv j)).map V.str)) := fun j c e => by
          rw [upd_ne (cf c (List.mem_of_getElem? e)).2.1]
          exact t6 _ _ (ch j c e)
        generalize upd H6 pn (.dK (dV (os.take (i + 1)) fun x => V.int (lvU lv u k' x))) = H7 at q7 hq7 hr7 hn7 ch7
        try dsimp only
        unfold tSeq
        refine ifS_meet (fun σ' H' => ∃ (cs' : List Addr), σ' = [some (.ref p), some (.ref pd), some (.ref pn), some (.ref pr), some (.str u), some (.int k')] ∧ Same H1 H' ∧ H' q = some (.lst (os.map V.str)) ∧
            H' pn = some (.dK (dV (os.take (i + 1)) fun x => V.int (lvU lv u k' x))) ∧ H' pr = some (.lst (cs'.map V.ref)) ∧ cs'.length ≤ i + 1 ∧ cs'.Nodup ∧ (∀ c ∈ cs', H1 c = none ∧ c ≠ pn ∧ c ≠ pr ∧ c ≠ q) ∧
            (∀ (j : Nat) c, cs'[j]? = some c → H' c = some (.lst (((os.take i).filter (rowB lv j)).map V.str))) ∧ k' < cs'.length ∧ cs'.length = if k' = cs.length then cs.length + 1 else cs.length) (decide (k' = cs.length)) (fun Q' hQ => ?_) (fun e hn => ?_) (fun e hn => ?_) ?_
        · refine ⟨_, rfl, _, rfl, pr, _, rfl, .inl (SqL.of hr7), rfl, _, rfl, ?_⟩
          have e : decide (V.int (k' : Int) = V.int ((cs.map V.ref).length : Int)) = decide (k' = cs.length) := by
            rw [decide_eq_decide, List.length_map]
            constructor
            · intro z; injection z with z; omega
            · intro z; rw [z]
          rw [e]
          exact hQ
        · have e := of_decide_eq_true e
          refine ⟨_, rfl, .inl ⟨rfl, _, SqL.of hr7⟩, by decide, fun q0 hq0 => ?_⟩
          have t0 := Same.new (o := .lst []) hq0
          refine ⟨pr, _, _, rfl, rfl, t0 _ _ hr7, by rw [List.length_map]; exact small1000 (by omega), ?_⟩
          have fq0 : H1 q0 = none := q7.free hq0
          have fp0 : H1 pr = none := fpr
          have mp := List.map_append (f := V.ref) (l₁ := cs) (l₂ := [q0])
          have nr0 : pr ≠ q0 := ne_of_none hr7 hq0
          refine hn _ _ ⟨cs ++ [q0], rfl, (q7.trans t0).upd fp0, ?_, ?_, by rw [upd_same, mp]; rfl, by rw [List.length_append]; show cs.length + 1 ≤ _; omega, ?_, fun c hc => ?_, fun j c hc => ?_, by rw [List.length_append]; show _ < cs.length + 1; omega, by rw [if_pos e, List.length_append]; rfl⟩
          · rw [upd_ne (Ne.symm nqr)]; exact t0 _ _ hq7
          · rw [upd_ne npr]; exact t0 _ _ hn7
          · rw [List.nodup_append]
            refine ⟨cn, by simp, fun a ha b hb z => ?_⟩
            have hb : b = q0 := by simpa using hb
            subst hb
            subst z
            obtain ⟨j, hj⟩ := List.mem_iff_getElem?.mp ha
            have := ch7 j _ hj
            rw [hq0] at this
            cases this
          · rcases List.mem_append.mp hc with hc | hc
            · exact cf c hc
            · have hc : c = q0 := by simpa using hc
              subst hc
              exact ⟨fq0, Ne.symm (ne_of_none hn7 hq0), Ne.symm nr0, Ne.symm (ne_of_none hq7 hq0)⟩
          · by_cases hj : j < cs.length
            · rw [List.getElem?_append_left hj] at hc
              rw [upd_ne (cf c (List.mem_of_getElem? hc)).2.2.1]
              exact t0 _ _ (ch7 j c hc)
            · rw [List.getElem?_append_right (by omega)] at hc
              have hj2 : j = cs.length := by
                have := get_lt hc
                have : j - cs.length < 1 := this
                omega
              subst hj2
              simp at hc
              subst hc
              rw [upd_ne (Ne.symm nr0), upd_same, L.row_nil (Nat.le_refl _)]
              rfl
        · have e := of_decide_eq_false e
          exact hn _ _ ⟨cs, rfl, q7, hq7, hn7, hr7, by omega, cn, cf, ch7, by omega, by rw [if_neg e]⟩
        · rintro σ' H8 ⟨cs', rfl, q8, hq8, hn8, hr8, cl8, cn8, cf8, ch8, kc, ec⟩
          have hk' : cs'[k']? = some cs'[k'] := List.getElem?_eq_getElem kc
          have hc := ch8 k' _ hk'
          generalize cs'[k'] = c at hk' hc
          have hcm := cf8 c (List.mem_of_getElem? hk')
          refine ⟨_, rfl, _, rfl, pr, _, _, .ref c, rfl, rfl, SqL.of hr8, atI_nat (by rw [List.getElem?_map, hk']; rfl), .inl ⟨rfl, _, SqL.of hc⟩, _, rfl, c, _, _, rfl, rfl, hc, ?_, ?_⟩
          · rw [List.length_map]
            exact small1000 (by have := List.length_filter_le (rowB lv k') (os.take i); omega)
          refine ⟨_, _, cs', lvU lv u k', rfl, q8.upd hcm.1, ?_, ?_, ?_, cl8, cn8, cf8, fun j d hd => ?_, ?_⟩
          · rw [upd_ne (Ne.symm hcm.2.2.2)]; exact hq8
          · rw [upd_ne (Ne.symm hcm.2.1)]; exact hn8
          · rw [upd_ne (Ne.symm hcm.2.2.1)]; exact hr8
          · rw [tk, row_step hul]
            by_cases e : k' = j
            · subst e
              rw [hk'] at hd
              cases hd
              rw [upd_same, if_pos rfl, List.map_append]
              rfl
            · rw [if_neg e, List.append_nil, upd_ne (fun z => e (nd_inj cn8 hk' (by rw [← z]; exact hd)))]
              exact ch8 j d hd
          · rw [tk, ec]
            exact L'
    · rintro σ H5 ⟨v4, v5, cs, lv, rfl, q5, hq5, hn5, hr5, cl, cn, cf, ch, L⟩
      rw [List.length_map, List.take_length] at ch L
      rw [List.length_map] at cl
      have Lk := L.mem fun x => pm.mem_iff
      try dsimp only [gName]
      refine ⟨_, rfl, pr, rfl, ⟨_, SqL.of hr5⟩, fun D hD => ?_⟩
      refine comp_gen (fix_list (K := K) (a := pr) (xs := cs.map V.ref)) (fun i' σ' ys H' => ∃ (w0 : Option V) (ds : List Addr), σ' = [w0] ∧ ys = ds.map V.ref ∧ ds.length = i' ∧ Same H5 H' ∧ H' D = some (.lst ys) ∧ ds.Nodup ∧ (∀ d ∈ ds, H5 d = none ∧ d ≠ D) ∧ ∀ (j : Nat) d, ds[j]? = some d → H' d = some (.lst ((keys.filter (rowB lv j)).map V.str)))
        ⟨none, [], rfl, rfl, rfl, Same.new hD, upd_same, by simp, by simp, by simp⟩ (fun i' σ' ys H' h => ?_) (by rw [List.length_map]; exact le_line (by omega)) ?_ ?_
      · obtain ⟨_, _, _, rfl, dl, q, hd, _⟩ := h
        refine ⟨SqL.of (q _ _ hr5), hd, ?_⟩
        rw [List.length_map]
        omega
      · rintro i' v σ' ys H6 hx ⟨w0, ds, rfl, rfl, dl, q, hd, dn, df, dh⟩
        have hix := get_lt hx
        rw [List.getElem?_map] at hx
        cases ec : cs[i']? with
        | none => rw [ec] at hx; cases hx
        | some c =>
          rw [ec] at hx
          cases hx
          have hc := q _ _ (ch i' c ec)
          try dsimp only [gName]
          unfold tYes
          dsimp only
          rw [if_pos rfl]
          refine ⟨_, rfl, c, os.filter (rowB lv i'), rfl, SqL.of hc, by have := List.length_filter_le (rowB lv i') os; omega, fun d ms hd' pm' rs => ?_⟩
          have em := srt_eq pm' rs
          subst em
          rw [row_sorted pm kl]
          have t1 := Same.new (o := .lst ((keys.filter (rowB lv i')).map V.str)) hd'
          have nd : D ≠ d := ne_of_none hd hd'
          refine ⟨t1 _ _ hd, cstep hix ⟨_, ds ++ [d], rfl, by rw [List.map_append]; rfl, by rw [List.length_append]; show ds.length + 1 = _; omega, (q.trans t1).upd hD, by rw [upd_same], ?_, fun b hb => ?_, fun j b hb => ?_⟩⟩
          · rw [List.nodup_append]
            refine ⟨dn, by simp, fun a ha b hb z => ?_⟩
            have hb : b = d := by simpa using hb
            subst hb
            subst z
            obtain ⟨j, hj⟩ := List.mem_iff_getElem?.mp ha
            have := dh j _ hj
            rw [hd'] at this
            cases this
          · rcases List.mem_append.mp hb with hb | hb
            · exact df b hb
            · have hb : b = d := by simpa using hb
              subst hb
              exact ⟨q.free hd', Ne.symm nd⟩
          · by_cases hj : j < ds.length
            · rw [List.getElem?_append_left hj] at hb
              rw [upd_ne (df b (List.mem_of_getElem? hb)).2]
              exact t1 _ _ (dh j b hb)
            · rw [List.getElem?_append_right (by omega)] at hb
              have hj2 : j = ds.length := by
                have := get_lt hb
                have : j - ds.length < 1 := this
                omega
              subst hj2
              simp at hb
              subst hb
              rw [upd_ne (Ne.symm nd), upd_same, dl]
      rintro σ' ys H6 ⟨w0, ds, rfl, rfl, dl, q, hd, dn, df, dh⟩
      rw [List.length_map] at dl
      have f5 := s1.trans q5
      refine k D ds lv H6 (f5.trans q) (f5.free hD) hd (by omega) dn (fun c hc => ⟨f5.free (df c hc).1, (df c hc).2⟩) dh ?_
      rw [dl]
      exact Lk
/-! ### all that lies beneath -/
def sp_allb : Sp := fun vs H Q _ => ∃ (p pu pt : Addr) (x y : V) (us : List Str) (ads : List Addr) (ts : List Tie), vs = [.ref p] ∧ Tel K H p pu pt x y us ads ts ∧ NoR (lnkOf ts (ts.zip ads)) (keysOf ts (srt us)) ∧
  ∀ (pd : Addr) (ob : Obj) (os : List Str) (bel : Str → List Str) (ad : Str → Addr) (obs : Str → Obj) (H' : Hp), Same H H' → H pd = none → Dp H' pd ob os bel ad obs → os.Perm (keysOf ts (srt us)) → (∀ k ∈ keysOf ts (srt us), (bel k).Nodup ∧ ∀ y, y ∈ bel k ↔ Bel (lnkOf ts (ts.zip ads)) k y) → Q (.ref pd) H'
set_option maxHeartbeats 8000000 in
theorem h_all_beneath (T : Tx K mg w C_DigError C_Round) : Has P w K mg base "all_beneath" ["telling"] 8 (sp_allb (K := K)) := by
  refine T.d_all_beneath.has sc_all_beneath (fun vs H Q E h => ?_) (fun f cdv A outer s H vs Q E hr h => ?_)
  · obtain ⟨p, pu, pt, x, y, us, ads, ts, rfl, _⟩ := h; rfl
  · obtain ⟨p, pu, pt, x, y, us, ads, ts, rfl, hT, nr, k⟩ := h
    have hu := hu_of hr
    refine ⟨_, (pss_cons (ps_set (i := 1) sc_all_beneath.nd rfl (Or.inl rfl) (pe_fn (h_ties_beneath T) (hr.mono (by decide)) (by rfl) (pa_cons (pv 0) pa_nil)))
      (pss_cons (ps_set (i := 2) sc_all_beneath.nd rfl (Or.inl rfl) pe_dnewK)
      (pss_cons (ps_for PassesOwn.never rfl (pi_listK K rfl (pe_fn (h_order T) (hr.mono (by decide)) (by rfl) (pa_cons (pv 0) pa_nil))) (pg_name (i := 3) sc_all_beneath.nd rfl (Or.inl rfl)) (pss_cons (ps_dput hu (pv 2) (pv 3) pe_dnewK rfl)
        (pss_one (ps_for PassesOwn.never rfl (pi_listK K rfl (pe_dget hu (pv 1) (pv 3) (fun _ _ => rfl))) (pg_tupK K rfl rfl (pgs_cons (pg_name (i := 4) sc_all_beneath.nd rfl (Or.inl rfl)) (pgs_cons (pg_name (i := 5) sc_all_beneath.nd rfl (Or.inl rfl)) pgs_nil))) (pss_cons (ps_dput hu (pe_dget hu (pv 2) (pv 3) (fun _ _ => rfl)) (pv 4) pe_bl rfl)
          (pss_one (ps_expr (pe_bmK K rfl PySem.F.plainAttrs_dict PySem.F.slot_dict_update PySem.F.type_dict_update mt_update (pe_dget hu (pv 2) (pv 3) (fun _ _ => rfl)) (pa_cons (pe_dget hu (pv 2) (pv 4) (fun _ _ => rfl)) pa_nil)))))))))
      (pss_one (ps_frzs (ps_ret (pv 2))))))), ?_⟩
    refine ⟨_, rfl, p, pu, pt, x, y, us, ads, ts, rfl, hT, fun ps ob0 aB bB H1 s1 fps hB => ?_⟩
    have lk := hT.klen
    have kn := keys_nodup (ts := ts) hT.nd
    have cl := lnk_closed (us := us) (ts := ts) (ads := ads) hT.ends
    have ll : ∀ k, (lnkOf ts (ts.zip ads) k).length ≤ 900 := fun k => by
      have h1 := lnk_len (ts := ts) (z := ts.zip ads) (k := k)
      have h2 := hT.tl
      rw [List.length_zip] at h1
      omega
    try dsimp only [gName]
    refine fun pd hpd => ?_
    have s2 := Same.new (o := .dK []) hpd
    refine ⟨_, rfl, p, pu, pt, x, y, us, ads, ts, rfl, hT.same (s1.trans s2), nr, fun q os H3 s3 fq hq O pm => ?_⟩
    have hd3 := s3 _ _ (upd_same (H := H1) (a := pd) (o := .dK []))
    have nq : pd ≠ q := ne_of_none upd_same fq
    have lo : os.length ≤ 63 := by rw [pm.length_eq]; exact lk
    generalize keysOf ts (srt us) = keys at hB lk k nr kn cl O pm
    generalize lnkOf ts (ts.zip ads) = ln at hB k nr cl ll O
    have osk : ∀ z, z ∈ os ↔ z ∈ keys := fun z => pm.mem_iff
    refine ⟨q, rfl, ⟨_, SqL.of hq⟩, for_list (xs := os.map V.str) (fun i σ H' => ∃ (v3 v4 v5 : Option V) (bel : Str → List Str) (ad : Str → Addr), σ = [some (.ref p), some (.ref ps), some (.ref pd), v3, v4, v5] ∧ Same H1 H' ∧ H' q = some (.lst (os.map V.str)) ∧
        H' pd = some (.dK (dV (os.take i) fun k => .ref (ad k))) ∧ (∀ k ∈ os.take i, H' (ad k) = some (.dK (dV (bel k) tru)) ∧ H1 (ad k) = none ∧ ad k ≠ pd ∧ ad k ≠ q ∧ (bel k).Nodup ∧ ∀ y, y ∈ bel k ↔ Bel ln k y) ∧ (∀ k ∈ os.take i, ∀ k' ∈ os.take i, ad k = ad k' → k = k'))
      ⟨none, none, none, fun _ => [], fun _ => 0, rfl, s2.trans s3, hq, hd3, (fun k hk => by simp at hk), fun k hk => by simp at hk⟩ (fun i σ H' _ h => by obtain ⟨_, _, _, _, _, _, _, q, _⟩ := h; exact SqL.of q) ?_ ?_⟩
    · rintro i v σ H4 hx ⟨v3, v4, v5, bel, ad, rfl, q4, hq4, hd4, hk4, inj⟩
      rw [List.getElem?_map] at hx
      cases eu : os[i]? with
      | none => rw [eu] at hx; cases hx
      | some u =>
        rw [eu] at hx
        cases hx
        have huk : u ∈ keys := (osk u).mp (List.mem_of_getElem? eu)
        have hi := get_lt eu
        have hlow := O.low i u eu
        have hfr : u ∉ os.take i := by
          have := take_fresh O.nd i hi
          rw [show os[i] = u from (List.getElem?_eq_some_iff.mp eu).2] at this
          exact this
        have tk : os.take (i + 1) = os.take i ++ [u] := by rw [List.take_add_one, eu]; rfl
        have lt : (os.take i).length ≤ 63 := by rw [List.length_take]; omega
        try dsimp only [gName]
        refine fun q0 hq0 => ?_
        have t0 := Same.new (o := .dK []) hq0
        have hd5 := t0 _ _ hd4
        refine ⟨_, rfl, _, rfl, pd, _, rfl, DPut.k (k := Sum.inr u) hd5 (by rw [dV_len]; exact small1000 (by omega)), ?_⟩
        rw [dV_new hfr]
        have nqp : q0 ≠ pd := Ne.symm (ne_of_none hd4 hq0)
        have nqq : q0 ≠ q := Ne.symm (ne_of_none hq4 hq0)
        have fq0 : H1 q0 = none := q4.free hq0
        have ne0 : ∀ k ∈ os.take i, ad k ≠ q0 := fun k hk => ne_of_none (hk4 k hk).1 hq0
        have ed : dV (os.take i ++ [u]) (fun z => if z = u then V.ref q0 else V.ref (ad z)) = dV (os.take (i + 1)) fun z => V.ref (if z = u then q0 else ad z) := by
          rw [tk]
          refine dV_congr fun z _ => ?_
          split <;> rfl
        rw [ed]
        have q6 : Same H1 (upd (upd H4 q0 (.dK [])) pd (.dK (dV (os.take (i + 1)) fun z => V.ref (if z = u then q0 else ad z)))) := (q4.trans t0).upd hpd
        have hd6 : upd (upd H4 q0 (.dK [])) pd (.dK (dV (os.take (i + 1)) fun z => V.ref (if z = u then q0 else ad z))) pd = some (.dK (dV (os.take (i + 1)) fun z => V.ref (if z = u then q0 else ad z))) := upd_same
        have hq6 : upd (upd H4 q0 (.dK [])) pd (.dK (dV (os.take (i + 1)) fun z => V.ref (if z = u then q0 else ad z))) q = some (.lst (os.map V.str)) := by rw [upd_ne (Ne.symm nq)]; exact t0 _ _ hq4
        have hM6 : upd (upd H4 q0 (.dK [])) pd (.dK (dV (os.take (i + 1)) fun z => V.ref (if z = u then q0 else ad z))) q0 = some (.dK (dV [] tru)) := by rw [upd_ne nqp, upd_same]; rfl
        have hk6 : ∀ k ∈ os.take i, upd (upd H4 q0 (.dK [])) pd (.dK (dV (os.take (i + 1)) fun z => V.ref (if z = u then q0 else ad z))) (ad k) = some (.dK (dV (bel k) tru)) := fun k hk => by rw [upd_ne (hk4 k hk).2.2.1]; exact t0 _ _ (hk4 k hk).1
        generalize upd (upd H4 q0 (.dK [])) pd (.dK (dV (os.take (i + 1)) fun z => V.ref (if z = u then q0 else ad z))) = H6 at q6 hd6 hq6 hM6 hk6
        have B6 := hB.same q6
        have hu' : u ∈ os.take (i + 1) := by rw [tk]; simp
        refine ⟨_, rfl, _, rfl, ps, _, rfl, B6.get huk, aB u, rfl, ⟨_, SqL.of (B6.l u huk)⟩, for_list (xs := (bB u).map V.ref) (fun i' σ H' => ∃ (v4 v5 : Option V) (M : List Str), σ = [some (.ref p), some (.ref ps), some (.ref pd), some (.str u), v4, v5] ∧ Same H1 H' ∧ H' q = some (.lst (os.map V.str)) ∧ H' pd = some (.dK (dV (os.take (i + 1)) fun z => V.ref (if z = u then q0 else ad z))) ∧
            (∀ k ∈ os.take i, H' (ad k) = some (.dK (dV (bel k) tru))) ∧ H' q0 = some (.dK (dV M tru)) ∧ M.Nodup ∧ ∀ y, y ∈ M ↔ ∃ l r, (l, r) ∈ (ln u).take i' ∧ (l = y ∨ Bel ln l y))
          ⟨_, _, [], rfl, q6, hq6, hd6, hk6, hM6, by simp, by simp⟩ (fun i' σ H' _ h => by obtain ⟨_, _, _, _, q, _⟩ := h; exact SqL.of (q _ _ (hB.l u huk))) ?_ ?_⟩
        · rintro i' v σ H7 hx ⟨v4, v5, M, rfl, q7, hq7, hd7, hk7, hM7, Mn, Mm⟩
          obtain ⟨b, ⟨l, r⟩, rfl, hlr, _, hb⟩ := pairs_at (hB.same q7 |>.e u huk) hx
          have hlu : (l, r) ∈ ln u := List.mem_of_getElem? hlr
          have hl : l ∈ os.take i := hlow l r hlu
          have lu : l ≠ u := fun z => hfr (z ▸ hl)
          obtain ⟨_, hl1, hl2, hl3, hln, hlm⟩ := hk4 l hl
          have Msub : ∀ y ∈ M, y ∈ keys := fun y hy => by
            obtain ⟨l', r', h1, h2⟩ := (Mm y).mp hy
            have hl' := cl u huk l' r' (List.mem_of_mem_take h1)
            rcases h2 with rfl | ⟨j, _, h2⟩
            · exact hl'
            · exact h2.inKeys cl hl'
          have lM : M.length ≤ 63 := Nat.le_trans (nodup_le Mn Msub) lk
          have hlk : l ∈ keys := cl u huk l r hlu
          have lbl : (bel l).length ≤ 63 := Nat.le_trans (nodup_le hln fun y hy => by
            obtain ⟨j, _, h2⟩ := (hlm y).mp hy
            exact h2.inKeys cl hlk) lk
          have g1 := DGet.k (k := Sum.inr u) hd7
          rw [dV_val hu', if_pos rfl] at g1
          refine ⟨b, _, rfl, SqT.of hb, rfl, _, _, rfl, _, _, rfl, rfl, ?_⟩
          try dsimp only [gName]
          refine ⟨_, rfl, _, rfl, pd, _, rfl, g1, _, rfl, q0, _, rfl, DPut.k (k := Sum.inr l) hM7 (by rw [dV_len]; exact small1000 (by omega)), ?_⟩
          rw [dV_putS]
          have q8 := q7.upd (o := .dK (dV (putS M l) tru)) fq0
          have hq8 : upd H7 q0 (.dK (dV (putS M l) tru)) q = some (.lst (os.map V.str)) := by rw [upd_ne (Ne.symm nqq)]; exact hq7
          have hd8 : upd H7 q0 (.dK (dV (putS M l) tru)) pd = some (.dK (dV (os.take (i + 1)) fun z => V.ref (if z = u then q0 else ad z))) := by rw [upd_ne (Ne.symm nqp)]; exact hd7
          have hk8 : ∀ k ∈ os.take i, upd H7 q0 (.dK (dV (putS M l) tru)) (ad k) = some (.dK (dV (bel k) tru)) := fun k hk => by rw [upd_ne (ne0 k hk)]; exact hk7 k hk
          have hM8 : upd H7 q0 (.dK (dV (putS M l) tru)) q0 = some (.dK (dV (putS M l) tru)) := upd_same
          generalize upd H7 q0 (.dK (dV (putS M l) tru)) = H8 at q8 hq8 hd8 hk8 hM8
          have g2 := DGet.k (k := Sum.inr u) hd8
          rw [dV_val hu', if_pos rfl] at g2
          have g3 := DGet.k (k := Sum.inr l) hd8
          rw [dV_val (show l ∈ os.take (i + 1) by rw [tk]; exact List.mem_append_left _ hl), if_neg lu] at g3
          have lp : (putS M l).length ≤ 64 := by
            unfold putS
            split
            · omega
            · rw [List.length_append]; show M.length + 1 ≤ 64; omega
          refine ⟨_, rfl, _, rfl, pd, _, rfl, g2, .inr (.inr (.inl ⟨rfl, .inl ⟨_, hM8⟩⟩)), _, rfl, _, rfl, pd, _, rfl, g3, q0, ad l, _, _, rfl, rfl, Ne.symm (ne0 l hl), hM8, .inl (hk8 l hl), by rw [dV_len, dV_len]; omega, ?_⟩
          rw [dV_mrg]
          refine ⟨_, _, mrg (putS M l) (bel l), rfl, q8.upd fq0, by rw [upd_ne (Ne.symm nqq)]; exact hq8, by rw [upd_ne (Ne.symm nqp)]; exact hd8, fun k hk => by rw [upd_ne (ne0 k hk)]; exact hk8 k hk, upd_same, mrg_nodup (putS_nodup Mn), fun y => ?_⟩
          rw [mrg_mem, putS_mem, Mm, hlm, List.take_add_one, hlr]
          constructor
          · rintro ((⟨l', r', h1, h2⟩ | rfl) | h)
            · exact ⟨l', r', List.mem_append_left _ h1, h2⟩
            · exact ⟨y, r, List.mem_append_right _ (by simp), .inl rfl⟩
            · exact ⟨l, r, List.mem_append_right _ (by simp), .inr h⟩
          · rintro ⟨l', r', h1, h2⟩
            rcases List.mem_append.mp h1 with h1 | h1
            · exact .inl (.inl ⟨l', r', h1, h2⟩)
            · have h1 : (l', r') = (l, r) := by simpa using h1
              cases h1
              rcases h2 with rfl | h2
              · exact .inl (.inr rfl)
              · exact .inr h2
        · rintro σ H7 ⟨v4, v5, M, rfl, q7, hq7, hd7, hk7, hM7, Mn, Mm⟩
          have lb : (bB u).length = (ln u).length := Paired.length (hB.e u huk)
          rw [List.length_map, lb, List.take_length] at Mm
          refine ⟨_, _, _, fun z => if z = u then M else bel z, fun z => if z = u then q0 else ad z, rfl, q7, hq7, hd7, fun k hk => ?_, fun k hk k' hk' e => ?_⟩
          · rw [tk, List.mem_append] at hk
            dsimp only
            by_cases c : k = u
            · rw [if_pos c, if_pos c]
              refine ⟨hM7, fq0, nqp, nqq, Mn, fun y => ?_⟩
              rw [Mm, c]
              exact bel_iff.symm
            · rw [if_neg c, if_neg c]
              have hk' : k ∈ os.take i := hk.elim id fun z => absurd (by simpa using z) c
              obtain ⟨_, h2⟩ := hk4 k hk'
              exact ⟨hk7 k hk', h2⟩
          · rw [tk, List.mem_append] at hk hk'
            dsimp only at e
            by_cases c1 : k = u <;> by_cases c2 : k' = u
            · rw [c1, c2]
            · rw [if_pos c1, if_neg c2] at e
              exact absurd e.symm (ne0 k' (hk'.elim id fun z => absurd (by simpa using z) c2))
            · rw [if_neg c1, if_pos c2] at e
              exact absurd e (ne0 k (hk.elim id fun z => absurd (by simpa using z) c1))
            · rw [if_neg c1, if_neg c2] at e
              exact inj k (hk.elim id fun z => absurd (by simpa using z) c1) k' (hk'.elim id fun z => absurd (by simpa using z) c2) e
    · rintro σ H4 ⟨v3, v4, v5, bel, ad, rfl, q4, hq4, hd4, hk4, inj⟩
      rw [List.length_map, List.take_length] at hd4 hk4 inj
      refine frz_all (ad := ad) (f := fun k => dV (bel k) tru) os H4 (fun k hk => (hk4 k hk).1) inj O.nd fun H5 obs h1 h2 => ?_
      have hd5 : H5 pd = some (.dK (dV os fun k => .ref (ad k))) := by rw [h2 pd fun k hk => Ne.symm (hk4 k hk).2.2.1]; exact hd4
      have q5 : Same H1 H5 := fun b o e => by
        rw [h2 b fun k hk z => by rw [z, (hk4 k hk).2.1] at e; cases e]
        exact q4 b o e
      refine .frz pd _ hd5 fun ob => .go ⟨_, rfl, k pd ob os bel ad obs _ ((s1.trans q5).upd (s1.free hpd)) (s1.free hpd) ⟨upd_same, fun z hz => ?_⟩ pm fun z hz => ?_⟩
      · rw [upd_ne (hk4 z hz).2.2.1]
        exact h1 z hz
      · exact (hk4 z ((osk z).mpr hz)).2.2.2.2
def sp_between : Sp := fun vs H Q _ => ∃ (pd : Addr) (ob : Obj) (os : List Str) (bel : Str → List Str) (ad : Str → Addr) (obs : Str → Obj) (u l : Str), vs = [.ref pd, .str u, .str l] ∧ Dp H pd ob os bel ad obs ∧ u ∈ os ∧ (∀ t ∈ bel u, t ∈ os) ∧ (bel u).length ≤ 63 ∧
  ∀ H', Same H H' → Q (.bl ((bel u).any fun t => decide (l ∈ bel t))) H'
set_option maxHeartbeats 8000000 in
theorem h_lies_between (T : Tx K mg w C_DigError C_Round) : Has P w K mg base "lies_between" ["depths", "upper", "lower"] 1 sp_between := by
  refine T.d_lies_between.has sc_lies_between (fun vs H Q E h => ?_) (fun f cdv A outer s H vs Q E hr h => ?_)
  · obtain ⟨pd, ob, os, bel, ad, obs, u, l, rfl, _⟩ := h; rfl
  · obtain ⟨pd, ob, os, bel, ad, obs, u, l, rfl, hD, hu', cl, lb, k⟩ := h
    have hu := hu_of hr
    refine ⟨_, (pss_one (ps_ret (pe_callB (call_anyB K rfl rfl) (by rfl) T.any PyProof.Rows.boot_any (pa_cons (pe_comp (own := ["third"]) (cap := ["lower", "depths"]) (ix := [2, 0]) (osc := defScope (top 18)) rfl ⟨rfl, by decide +kernel, by decide +kernel, by decide +kernel, by decide +kernel⟩ rfl (pi_dict (pe_dget hu (pv 0) (pv 1) (fun _ _ => rfl))) (fun _ _ _ _ => pg_name (i := 0) (show List.Nodup (["third", "lower", "depths"] : List Str) by decide +kernel) rfl (Or.inl rfl)) (fun _ _ _ _ => pif_nil) (fun _ _ _ _ => (pe_cmp (pc_din hu (pv 1) (pe_dget hu (pv 2) (pv 0) (fun _ _ => rfl)))))) pa_nil)))), ?_⟩
    refine ⟨_, rfl, _, rfl, pd, _, rfl, frz_get hD.d hu', ad u, obs u, _, rfl, hD.e u hu', fun D hDn => ?_⟩
    refine comp_gen (fix_dict (a := ad u) (ob := obs u) (kvs := dV (bel u) tru)) (fun i σ' ys H' => ∃ w0, σ' = [w0, some (.str l), some (.ref pd)] ∧ ys = (((bel u).take i).map fun t => decide (l ∈ bel t)).map V.bl ∧ Same H H' ∧ H' D = some (.lst ys))
      ⟨none, rfl, by simp, Same.new hDn, upd_same⟩ (fun i σ' ys H' h => ?_) (by rw [List.length_map, dV_len]; exact le_line (by omega)) ?_ ?_
    · obtain ⟨_, _, rfl, q, hd⟩ := h
      refine ⟨q _ _ (hD.e u hu'), hd, ?_⟩
      rw [List.length_map, List.length_map, List.length_take]
      omega
    · rintro i v σ' ys H' hx ⟨w0, rfl, rfl, q, hd⟩
      have hix := get_lt hx
      rw [dV_keys, List.getElem?_map] at hx
      cases et : (bel u)[i]? with
      | none => rw [et] at hx; cases hx
      | some t =>
        rw [et] at hx
        cases hx
        have ht := cl t (List.mem_of_getElem? et)
        have D' := hD.same q
        try dsimp only [gName]
        unfold tYes
        dsimp only
        rw [if_pos rfl]
        refine ⟨_, rfl, _, rfl, _, rfl, pd, _, rfl, frz_get D'.d ht, ad t, _, rfl, frz_in (D'.e t ht) l, hd, cstep hix ⟨_, rfl, ?_, q.upd hDn, upd_same⟩⟩
        rw [List.take_add_one, et, List.map_append, List.map_append]
        congr 1
        show [V.bl (if l ∈ bel t then some (V.bl true) else none).isSome] = [V.bl (decide (l ∈ bel t))]
        by_cases c : l ∈ bel t
        · rw [if_pos c, decide_eq_true c]; rfl
        · rw [if_neg c, decide_eq_false c]; rfl
    rintro σ' ys H1 ⟨w0, rfl, rfl, q, hd⟩
    rw [List.length_map, dV_len, List.take_length] at hd
    refine ⟨D, _, rfl, SqL.of hd, ?_⟩
    rw [List.any_map]
    exact k _ q
def sp_drawn : Sp := fun vs H Q _ => ∃ (p pu pt : Addr) (x y : V) (us : List Str) (ads : List Addr) (ts : List Tie), vs = [.ref p] ∧ Tel K H p pu pt x y us ads ts ∧ ts.length ≤ 60 ∧ NoR (lnkOf ts (ts.zip ads)) (keysOf ts (srt us)) ∧
  ∀ (D : Addr) (bs : List Addr) (qs : List SS) (H' : Hp), Same H H' → H D = none → H' D = some (.lst (bs.map V.ref)) → Paired (fun a (p : SS) => H' a = some (.tup [.str p.1, .str p.2])) bs qs → qs.Pairwise (fun a b => ltPP a b = true) → qs.length < 64 → (∀ p, p ∈ qs ↔ Drn (lnkOf ts (ts.zip ads)) (keysOf ts (srt us)) p) → Q (.ref D) H'
set_option maxHeartbeats 8000000 in
theorem h_drawn (T : Tx K mg w C_DigError C_Round) : Has P w K mg base "drawn" ["telling"] 9 (sp_drawn (K := K)) := by
  refine T.d_drawn.has sc_drawn (fun vs H Q E h => ?_) (fun f cdv A outer s H vs Q E hr h => ?_)
  · obtain ⟨p, pu, pt, x, y, us, ads, ts, rfl, _⟩ := h; rfl
  · obtain ⟨p, pu, pt, x, y, us, ads, ts, rfl, hT, t60, nr, k⟩ := h
    have hu := hu_of hr
    refine ⟨_, (pss_cons (ps_set (i := 1) sc_drawn.nd rfl (Or.inl rfl) (pe_fn (h_ties_beneath T) (hr.mono (by decide)) (by rfl) (pa_cons (pv 0) pa_nil)))
      (pss_cons (ps_set (i := 2) sc_drawn.nd rfl (Or.inl rfl) (pe_fn (h_all_beneath T) (hr.mono (by decide)) (by rfl) (pa_cons (pv 0) pa_nil)))
      (pss_cons (ps_set (i := 3) sc_drawn.nd rfl (Or.inl rfl) pe_dnewT)
      (pss_cons (ps_for PassesOwn.never rfl (pi_dict (pv 1)) (pg_name (i := 4) sc_drawn.nd rfl (Or.inl rfl)) (pss_one (ps_for PassesOwn.never rfl (pi_listK K rfl (pe_dget hu (pv 1) (pv 4) (fun _ _ => rfl))) (pg_tupK K rfl rfl (pgs_cons (pg_name (i := 5) sc_drawn.nd rfl (Or.inl rfl)) (pgs_cons (pg_name (i := 6) sc_drawn.nd rfl (Or.inl rfl)) pgs_nil))) (pss_one (ps_if (pt_not (pt_val (pe_fn (h_lies_between T) (hr.mono (by decide)) (by rfl) (pa_cons (pv 2) (pa_cons (pv 4) (pa_cons (pv 5) pa_nil)))))) (pss_one (ps_dput hu (pv 3) (pe_tup (pa_cons (pv 4) (pa_cons (pv 5) pa_nil))) pe_bl rfl)) pss_nil)))))
      (pss_one (ps_ret (pe_callB (call_sortedDT (K := K) rfl rfl) (by rfl) T.sorted PyProof.Rows.boot_sorted (pa_cons (pv 3) pa_nil)))))))), ?_⟩
    refine ⟨_, rfl, p, pu, pt, x, y, us, ads, ts, rfl, hT, fun ps ob0 aB bB H1 s1 fps hB => ?_⟩
    have lk := hT.klen
    have kn := keys_nodup (ts := ts) hT.nd
    have cl := lnk_closed (us := us) (ts := ts) (ads := ads) hT.ends
    have lkm := fun (a b : Str) => lk_ln (ts := ts) (ads := ads) hT.len (x := a) (y := b)
    have lkl : (lkOf ts).length ≤ 60 := by
      have : (lkOf ts).length ≤ ts.length := by unfold lkOf; rw [List.length_map]; exact List.length_filter_le _ _
      omega
    try dsimp only [gName]
    refine ⟨_, rfl, p, pu, pt, x, y, us, ads, ts, rfl, hT.same s1, nr, fun pd ob os bel ad obs H2 s2 fpd hD pm hbel => ?_⟩
    generalize keysOf ts (srt us) = keys at hB lk k nr kn cl pm hbel
    generalize lnkOf ts (ts.zip ads) = ln at hB k nr cl hbel lkm
    generalize lkOf ts = lks at lkm lkl
    have osk : ∀ z, z ∈ os ↔ z ∈ keys := fun z => pm.mem_iff
    have belk : ∀ u ∈ keys, ∀ t ∈ bel u, t ∈ keys := fun u hu t ht => by
      obtain ⟨j, _, h⟩ := ((hbel u hu).2 t).mp ht
      exact h.inKeys cl hu
    have btw : ∀ u ∈ keys, ∀ l, ((bel u).any fun t => decide (l ∈ bel t)) = true ↔ ∃ t, Bel ln u t ∧ Bel ln t l := fun u hu l => by
      rw [List.any_eq_true]
      constructor
      · rintro ⟨t, h1, h2⟩
        exact ⟨t, ((hbel u hu).2 t).mp h1, ((hbel t (belk u hu t h1)).2 l).mp (of_decide_eq_true h2)⟩
      · rintro ⟨t, h1, h2⟩
        have h1' := ((hbel u hu).2 t).mpr h1
        exact ⟨t, h1', decide_eq_true (((hbel t (belk u hu t h1')).2 l).mpr h2)⟩
    try dsimp only [gName]
    refine fun pp hpp => ?_
    have s3 := Same.new (o := .dT []) hpp
    have B2 := hB.same s2
    have bound : ∀ qs : List SS, qs.Nodup → (∀ q ∈ qs, ∃ r, (q.2, r) ∈ ln q.1) → qs.length ≤ 60 := fun qs n h => by
      have := nodup_leG (us := lks) n fun q hq => (lkm q.1 q.2).mpr (h q hq)
      omega
    refine ⟨_, rfl, ps, ob0, _, rfl, s3 _ _ B2.d, for_dict (fun i σ H' => ∃ (v4 v5 v6 : Option V) (qs : List SS), σ = [some (.ref p), some (.ref ps), some (.ref pd), some (.ref pp), v4, v5, v6] ∧ Same H2 H' ∧ H' pp = some (.dT (dP qs)) ∧ qs.Nodup ∧ ∀ q : SS, q ∈ qs ↔ q.1 ∈ keys.take i ∧ (∃ r, (q.2, r) ∈ ln q.1) ∧ ¬ ∃ t, Bel ln q.1 t ∧ Bel ln t q.2)
      ⟨none, none, none, [], rfl, s3, upd_same, by simp, by simp⟩ (fun i σ H' _ h => by obtain ⟨_, _, _, _, _, q, _⟩ := h; exact q _ _ B2.d) ?_ ?_⟩
    · rintro i kk vv σ H4 hx ⟨v4, v5, v6, qs, rfl, q4, hp4, qn, qm⟩
      obtain ⟨u, hu', rfl, _⟩ := dV_at hx
      have huk : u ∈ keys := List.mem_of_getElem? hu'
      have hfr : u ∉ keys.take i := by
        have hi := get_lt hu'
        have := take_fresh kn i hi
        rw [show keys[i] = u from (List.getElem?_eq_some_iff.mp hu').2] at this
        exact this
      have B4 := B2.same q4
      try dsimp only [gName]
      refine ⟨_, rfl, _, rfl, ps, _, rfl, B4.get huk, aB u, rfl, ⟨_, SqL.of (B4.l u huk)⟩, for_list (xs := (bB u).map V.ref) (fun i' σ H' => ∃ (v5 v6 : Option V) (qs : List SS), σ = [some (.ref p), some (.ref ps), some (.ref pd), some (.ref pp), some (.str u), v5, v6] ∧ Same H2 H' ∧ H' pp = some (.dT (dP qs)) ∧ qs.Nodup ∧
          ∀ q : SS, q ∈ qs ↔ (q.1 ∈ keys.take i ∧ (∃ r, (q.2, r) ∈ ln q.1) ∧ ¬ ∃ t, Bel ln q.1 t ∧ Bel ln t q.2) ∨ (q.1 = u ∧ (∃ r, (q.2, r) ∈ (ln u).take i') ∧ ¬ ∃ t, Bel ln q.1 t ∧ Bel ln t q.2))
        ⟨_, _, qs, rfl, q4, hp4, qn, fun q => by rw [qm]; simp⟩ (fun i' σ H' _ h => by obtain ⟨_, _, _, _, q, _⟩ := h; exact SqL.of ((B2.same q).l u huk)) ?_ ?_⟩
      · clear qn qm hp4
        rintro i' v σ H5 hx ⟨v5, v6, qs, rfl, q5, hp5, qn, qm⟩
        obtain ⟨b, ⟨l, r⟩, rfl, hlr, _, hb⟩ := pairs_at ((B2.same q5).e u huk) hx
        have hlu : (l, r) ∈ ln u := List.mem_of_getElem? hlr
        have qin : ∀ q ∈ qs, ∃ r, (q.2, r) ∈ ln q.1 := fun q hq => by
          rcases (qm q).mp hq with ⟨_, h, _⟩ | ⟨e, ⟨r, h⟩, _⟩
          · exact h
          · exact ⟨r, by rw [e]; exact List.mem_of_mem_take h⟩
        have lq := bound qs qn qin
        refine ⟨b, _, rfl, SqT.of hb, rfl, _, _, rfl, _, _, rfl, rfl, ?_⟩
        try dsimp only [gName]
        have mstep : ∀ q : SS, (q.1 = u ∧ (∃ r, (q.2, r) ∈ (ln u).take (i' + 1)) ∧ ¬ ∃ t, Bel ln q.1 t ∧ Bel ln t q.2) ↔ (q.1 = u ∧ (∃ r, (q.2, r) ∈ (ln u).take i') ∧ ¬ ∃ t, Bel ln q.1 t ∧ Bel ln t q.2) ∨ (q = (u, l) ∧ ¬ ∃ t, Bel ln u t ∧ Bel ln t l) := fun q => by
          rw [List.take_add_one, hlr]
          constructor
          · rintro ⟨e, ⟨r', h⟩, n⟩
            rcases List.mem_append.mp h with h | h
            · exact .inl ⟨e, ⟨r', h⟩, n⟩
            · have h : (q.2, r') = (l, r) := by simpa using h
              have h := (Prod.mk.inj h).1
              refine .inr ⟨Prod.ext e h, ?_⟩
              rw [← e, ← h]
              exact n
          · rintro (⟨e, ⟨r', h⟩, n⟩ | ⟨rfl, n⟩)
            · exact ⟨e, ⟨r', List.mem_append_left _ h⟩, n⟩
            · exact ⟨rfl, ⟨r, List.mem_append_right _ (by simp)⟩, n⟩
        have hB' := btw u huk l
        refine ifS_same (!((bel u).any fun t => decide (l ∈ bel t))) (fun Q' hQ => ?_) (fun H6 s6 => ?_)
        · refine ⟨_, rfl, _, rfl, _, rfl, pd, ob, os, bel, ad, obs, u, l, rfl, hD.same q5, (osk u).mpr huk, fun t ht => (osk t).mpr (belk u huk t ht), Nat.le_trans (nodup_le (hbel u huk).1 (belk u huk)) lk, fun H6 s6 => ⟨_, rfl, ?_⟩⟩
          exact hQ _ s6
        · have q6 := q5.trans s6
          have hp6 := s6 _ _ hp5
          refine ite2 (fun c => ?_) (fun c => ?_)
          · have nb : ¬ ∃ t, Bel ln u t ∧ Bel ln t l := fun z => by rw [hB'.mpr z] at c; cases c
            refine ⟨_, rfl, _, rfl, _, rfl, (by show 2 ≤ sizeLine; decide), fun b0 hb0 => ?_⟩
            have t0 := Same.new (o := .tup [.str u, .str l]) hb0
            refine ⟨pp, _, rfl, DPut.t (k := [Sum.inr u, Sum.inr l]) (t0 _ _ hp6) upd_same (by unfold dP; rw [List.length_map]; exact small1000 (by omega)), ?_⟩
            rw [dP_put (p := (u, l))]
            refine ⟨_, _, putS qs (u, l), rfl, (q6.trans t0).upd hpp, upd_same, putS_nodup qn, fun q => ?_⟩
            rw [putS_mem, qm, mstep]
            constructor
            · rintro ((h | h) | rfl)
              · exact .inl h
              · exact .inr (.inl h)
              · exact .inr (.inr ⟨rfl, nb⟩)
            · rintro (h | h | ⟨rfl, _⟩)
              · exact .inl (.inl h)
              · exact .inl (.inr h)
              · exact .inr rfl
          · have yb : ∃ t, Bel ln u t ∧ Bel ln t l := hB'.mp (by simpa using c)
            refine ⟨_, _, qs, rfl, q6, hp6, qn, fun q => ?_⟩
            rw [qm, mstep]
            constructor
            · rintro (h | h)
              · exact .inl h
              · exact .inr (.inl h)
            · rintro (h | h | ⟨_, n⟩)
              · exact .inl h
              · exact .inr h
              · exact absurd yb n
      · clear qn qm hp4
        rintro σ H5 ⟨v5, v6, qs, rfl, q5, hp5, qn, qm⟩
        have lb : (bB u).length = (ln u).length := Paired.length (hB.e u huk)
        rw [List.length_map, lb, List.take_length] at qm
        refine ⟨_, _, _, qs, rfl, q5, hp5, qn, fun q => ?_⟩
        rw [qm, List.take_add_one, hu']
        constructor
        · rintro (⟨h1, h2⟩ | ⟨h1, h2⟩)
          · exact ⟨List.mem_append_left _ h1, h2⟩
          · exact ⟨List.mem_append_right _ (by rw [h1]; simp), by rw [← h1] at h2; exact h2⟩
        · rintro ⟨h1, h2⟩
          rcases List.mem_append.mp h1 with h1 | h1
          · exact .inl ⟨h1, h2⟩
          · have h1 : q.1 = u := by simpa using h1
            exact .inr ⟨h1, by rw [← h1]; exact h2⟩
    · rintro σ H4 ⟨v4, v5, v6, qs, rfl, q4, hp4, qn, qm⟩
      rw [dV_len, List.take_length] at qm
      have lq := bound qs qn fun q hq => ((qm q).mp hq).2.1
      refine ⟨_, rfl, pp, _, qs, rfl, .inl hp4, dP_fst qs, qn, by omega, fun D bs rs hDn pb pmr up => ?_⟩
      have t5 := Same.new (o := .lst (bs.map V.ref)) hDn
      have q3 := s1.trans (s2.trans q4)
      refine k D bs rs _ (q3.trans t5) (q3.free hDn) upd_same (Paired.mapP pb fun a z e => t5 _ _ e) up (by rw [pmr.length_eq]; omega) fun z => ?_
      rw [pmr.mem_iff, qm]
      rfl
/-! ### the exceptions' __init__ -/
def sp_Rinit (C : Addr) : Sp := fun vs H Q _ => ∃ (e p : Addr) (xs : List V), vs = [.ref e, .ref p] ∧ H e = some (excO e C none) ∧ SqL K H p xs ∧ xs.length ≤ 1000 ∧
  ∀ (q d : Addr), q ≠ e → d ≠ e → H q = none → H d = none → d ≠ q → Q .non (upd (upd (upd H q (.lst xs)) d (.xd [("ties", .ref q)])) e (excO e C (some d)))
set_option maxHeartbeats 8000000 in
theorem m_Round___init__ (T : Tx K mg w C_DigError C_Round) : HasM P w K mg base C_Round "__init__" ["self", "ties"] 1 (sp_Rinit (K := K) C_Round) := by
  refine T.d_Round___init__.has sc_Round___init__ (fun vs H Q E h => ?_) (fun f cdv A outer s H vs Q E hr h => ?_)
  · obtain ⟨e, p, xs, rfl, _⟩ := h; rfl
  · obtain ⟨e, p, xs, rfl, he, hp, hl, k⟩ := h
    refine ⟨_, (pss_cons (ps_expr (pe_vinit (by rfl) T.mg_DigError T.xb_DigError (pa_cons (pv 0) (pa_cons pe_str pa_nil))))
      (pss_one (ps_xfld (pv 0) (pe_callTy (call_list_ofK K rfl) (by rfl) T.list PyProof.Rows.boot_list (pa_cons (pv 1) pa_nil)) rfl))), ?_⟩
    obtain ⟨bm, xo, U⟩ := T.xo_Round
    refine ⟨_, rfl, e, C_Round, none, bm, _, rfl, he, xo, U, (by show 1 ≤ sizeLine; decide), ?_⟩
    refine ⟨_, rfl, p, xs, rfl, .inl hp, fun q hq => ?_⟩
    have ne : q ≠ e := fun z => by rw [z, he] at hq; cases hq
    refine ⟨_, rfl, e, C_Round, rfl, by rw [upd_ne ne.symm]; exact he, T.xc_Round, T.na_Round_ties, fun d hd => ?_⟩
    have nd : d ≠ q := fun z => by rw [z, upd_same] at hd; cases hd
    rw [upd_ne nd] at hd
    exact k q d ne (fun z => by rw [z, he] at hd; cases hd) hq hd nd
/-! ### spans -/
theorem same_del {H H' : Hp} {e : Addr} (he : H e = none) (s : ∀ b o, b ≠ e → H b = some o → H' b = some o) : Same H (del H' e) := fun b o h => by
  have n := ne_of_none h he
  unfold del
  rw [if_neg n]
  exact s b o n h
/-! ### refused for a round -/
def sp_refR (C : Addr) : Sp := fun vs H Q E => ∃ (p pu pt : Addr) (x y : V) (us : List Str) (ads : List Addr) (ts : List Tie), vs = [.ref p] ∧ Tel K H p pu pt x y us ads ts ∧ (NoR (lnkOf ts (ts.zip ads)) (keysOf ts (srt us)) → ∀ H', Same H H' → Q .non H') ∧
  ∀ (d q : Addr) (rs : List Addr) (H' : Hp), Same H H' → H' d = some (.xd [("ties", .ref q)]) → H' q = some (.lst (rs.map V.ref)) → rs ≠ [] → rs.length ≤ 64 → Rnd (lnkOf ts (ts.zip ads)) (keysOf ts (srt us)) rs → E (.ref C) (some d) H'
set_option maxHeartbeats 8000000 in
theorem x_refuse_round (T : Tx K mg w C_DigError C_Round) : HasX P w K mg base "refuse_round" ["telling"] 6 (sp_refR (K := K) C_Round) := by
  refine T.d_refuse_round.hasX sc_refuse_round (fun vs H Q E h => ?_) (fun f cdv A outer s H vs Q E hr h => ?_)
  · obtain ⟨p, pu, pt, x, y, us, ads, ts, rfl, _⟩ := h; rfl
  · obtain ⟨p, pu, pt, x, y, us, ads, ts, rfl, hT, kQ, kE⟩ := h
    refine ⟨_, (pss_cons (ps_set (i := 1) sc_refuse_round.nd rfl (Or.inl rfl) (pe_fn (h_shortest_round T) (hr.mono (by decide)) (by rfl) (pa_cons (pv 0) pa_nil)))
      (pss_one (ps_if (pt_cmpR (op_neDK K rfl (hu10 hr)) (pv 1) (pe_lst pa_nil) (nomark _)) (pss_one (ps_raiseM (m_Round___init__ T) T.xo_Round (hr.mono (by decide)) xeIs_of (by rfl) T.mg_Round (by decide) (pa_cons (pv 1) pa_nil))) pss_nil))), ?_⟩
    refine ⟨_, rfl, p, pu, pt, x, y, us, ads, ts, rfl, hT, fun q rs H1 s1 fq hq lr R => ?_⟩
    try dsimp only [gName]
    refine ⟨_, rfl, by decide, fun e he => ?_⟩
    have s2 := Same.new (o := .lst []) he
    refine ⟨q, e, _, rfl, rfl, DEq.nilL (SqL.of (s2 _ _ hq)) (SqL.of upd_same), _, rfl, ?_⟩
    refine ite2 (fun c => ?_) (fun c => ?_)
    · have c : rs ≠ [] := fun z => by rw [z] at c; simp at c
      have hq2 := s2 _ _ hq
      have q2 := s1.trans s2
      generalize upd H1 e (.lst []) = H2 at hq2 q2
      refine ⟨_, rfl, fun o ho => ?_⟩
      have t3 := Same.new (o := excO o C_Round none) ho
      refine ⟨o, q, _, rfl, upd_same, SqL.of (t3 _ _ hq2), by rw [List.length_map]; omega, fun q' d n1 n2 f1 f2 n3 => ?_⟩
      refine ⟨rfl, some d, upd_same, ?_⟩
      rw [upd_ne n1] at f1
      rw [upd_ne n2] at f2
      refine kE d q' rs _ (q2.trans (same_del ho fun b o' n h => ?_)) ?_ ?_ c lr R
      · rw [upd_ne n, upd_ne (ne_of_none h f2), upd_ne (ne_of_none h f1), upd_ne n]
        exact h
      · unfold del
        rw [if_neg n2, upd_ne n2, upd_same]
      · unfold del
        rw [if_neg n1, upd_ne n1, upd_ne (Ne.symm n3), upd_same]
    · have c : rs = [] := by simpa using c
      refine kQ (fun s hs j hj r => ?_) _ (s1.trans s2)
      exact (R.nil_iff.mpr ⟨s, hs, j, hj, r⟩) c
/-! ### what raises, with both ends -/
def RdE (C : Addr) (H : Hp) (E : XK) (us : List Str) (ads : List Addr) (ts : List Tie) : Prop := ∀ (d q : Addr) (rs : List Addr) (H' : Hp), Same H H' → H' d = some (.xd [("ties", .ref q)]) → H' q = some (.lst (rs.map V.ref)) → rs ≠ [] → rs.length ≤ 64 → Rnd (lnkOf ts (ts.zip ads)) (keysOf ts (srt us)) rs → E (.ref C) (some d) H'
theorem RdE.same {C : Addr} {H H' : Hp} {E : XK} {us : List Str} {ads : List Addr} {ts : List Tie} (h : RdE C H E us ads ts) (s : Same H H') : RdE C H' E us ads ts := fun d q rs H2 s2 => h d q rs H2 (s.trans s2)
def sp_rnd (C : Addr) (more : List V → Prop) : Sp := fun vs H Q E => ∃ (p pu pt : Addr) (x y : V) (us : List Str) (ads : List Addr) (ts : List Tie) (rest : List V), vs = .ref p :: rest ∧ more rest ∧ Tel K H p pu pt x y us ads ts ∧ ¬ NoR (lnkOf ts (ts.zip ads)) (keysOf ts (srt us)) ∧ RdE C H E us ads ts
theorem r_order (T : Tx K mg w C_DigError C_Round) : HasX P w K mg base "order" ["telling"] 7 (sp_rnd (K := K) C_Round fun r => r = []) := by
  refine T.d_order.hasX sc_order (fun vs H Q E h => ?_) (fun f cdv A outer s H vs Q E hr h => ?_)
  · obtain ⟨p, pu, pt, x, y, us, ads, ts, rest, rfl, rfl, _⟩ := h; rfl
  · obtain ⟨p, pu, pt, x, y, us, ads, ts, rest, rfl, rfl, hT, nn, kE⟩ := h
    have hu := hu_of hr
    refine ⟨_, (pss_cons (ps_expr (pe_fnX (x_refuse_round T) xeIs_of (hr.mono (by decide)) (by rfl) (pa_cons (pv 0) pa_nil)))
      (pss_cons (ps_set (i := 1) sc_order.nd rfl (Or.inl rfl) (pe_fn (h_ties_beneath T) (hr.mono (by decide)) (by rfl) (pa_cons (pv 0) pa_nil)))
      (pss_cons (ps_set (i := 2) sc_order.nd rfl (Or.inl rfl) pe_dnewK)
      (pss_cons (ps_while xeIs_of.own (pt_cmpR op_lt (pe_callB call_lenD (by rfl) T.len boot_len (pa_cons (pv 2) pa_nil)) (pe_callB call_lenDR (by rfl) T.len boot_len (pa_cons (pv 1) pa_nil)) (nomark _)) (pss_one (ps_dput hu (pv 2) (pe_fn (h_least_free T) (hr.mono (by decide)) (by rfl) (pa_cons (pv 1) (pa_cons (pv 2) pa_nil))) pe_bl rfl)))
      (pss_one (ps_ret (pe_callTy (call_list_dK rfl) (by rfl) T.list PyProof.Rows.boot_list (pa_cons (pv 2) pa_nil)))))))), ?_⟩
    exact ⟨_, rfl, p, pu, pt, x, y, us, ads, ts, rfl, hT, fun nr => absurd nr nn, kE⟩
theorem x_order (T : Tx K mg w C_DigError C_Round) : HasX P w K mg base "order" ["telling"] 7 (fun vs H Q E => sp_order (K := K) vs H Q E ∨ sp_rnd (K := K) C_Round (fun r => r = []) vs H Q E) := (h_order T).x.or (r_order T)
theorem r_all_beneath (T : Tx K mg w C_DigError C_Round) : HasX P w K mg base "all_beneath" ["telling"] 8 (sp_rnd (K := K) C_Round fun r => r = []) := by
  refine T.d_all_beneath.hasX sc_all_beneath (fun vs H Q E h => ?_) (fun f cdv A outer s H vs Q E hr h => ?_)
  · obtain ⟨p, pu, pt, x, y, us, ads, ts, rest, rfl, rfl, _⟩ := h; rfl
  · obtain ⟨p, pu, pt, x, y, us, ads, ts, rest, rfl, rfl, hT, nn, kE⟩ := h
    have hu := hu_of hr
    refine ⟨_, (pss_cons (ps_set (i := 1) sc_all_beneath.nd rfl (Or.inl rfl) (pe_fn (h_ties_beneath T) (hr.mono (by decide)) (by rfl) (pa_cons (pv 0) pa_nil)))
      (pss_cons (ps_set (i := 2) sc_all_beneath.nd rfl (Or.inl rfl) pe_dnewK)
      (pss_cons (ps_for xeIs_of.own rfl (pi_listK K rfl (pe_fnX (x_order T) xeIs_of (hr.mono (by decide)) (by rfl) (pa_cons (pv 0) pa_nil))) (pg_name (i := 3) sc_all_beneath.nd rfl (Or.inl rfl)) (pss_cons (ps_dput hu (pv 2) (pv 3) pe_dnewK rfl)
        (pss_one (ps_for xeIs_of.own rfl (pi_listK K rfl (pe_dget hu (pv 1) (pv 3) (fun _ _ => rfl))) (pg_tupK K rfl rfl (pgs_cons (pg_name (i := 4) sc_all_beneath.nd rfl (Or.inl rfl)) (pgs_cons (pg_name (i := 5) sc_all_beneath.nd rfl (Or.inl rfl)) pgs_nil))) (pss_cons (ps_dput hu (pe_dget hu (pv 2) (pv 3) (fun _ _ => rfl)) (pv 4) pe_bl rfl)
          (pss_one (ps_expr (pe_bmK K rfl PySem.F.plainAttrs_dict PySem.F.slot_dict_update PySem.F.type_dict_update mt_update (pe_dget hu (pv 2) (pv 3) (fun _ _ => rfl)) (pa_cons (pe_dget hu (pv 2) (pv 4) (fun _ _ => rfl)) pa_nil)))))))))
      (pss_one (ps_frzs (ps_ret (pv 2))))))), ?_⟩
    refine ⟨_, rfl, p, pu, pt, x, y, us, ads, ts, rfl, hT, fun pd ob ad bs H1 s1 fpd hB => ?_⟩
    try dsimp only [gName]
    refine fun pe hpe => ?_
    have s2 := Same.new (o := .dK []) hpe
    try dsimp only [gName]
    exact ⟨_, rfl, .inr ⟨p, pu, pt, x, y, us, ads, ts, [], rfl, rfl, hT.same (s1.trans s2), nn, kE.same (s1.trans s2)⟩⟩
theorem x_all_beneath (T : Tx K mg w C_DigError C_Round) : HasX P w K mg base "all_beneath" ["telling"] 8 (fun vs H Q E => sp_allb (K := K) vs H Q E ∨ sp_rnd (K := K) C_Round (fun r => r = []) vs H Q E) := (h_all_beneath T).x.or (r_all_beneath T)
theorem r_drawn (T : Tx K mg w C_DigError C_Round) : HasX P w K mg base "drawn" ["telling"] 9 (sp_rnd (K := K) C_Round fun r => r = []) := by
  refine T.d_drawn.hasX sc_drawn (fun vs H Q E h => ?_) (fun f cdv A outer s H vs Q E hr h => ?_)
  · obtain ⟨p, pu, pt, x, y, us, ads, ts, rest, rfl, rfl, _⟩ := h; rfl
  · obtain ⟨p, pu, pt, x, y, us, ads, ts, rest, rfl, rfl, hT, nn, kE⟩ := h
    have hu := hu_of hr
    refine ⟨_, (pss_cons (ps_set (i := 1) sc_drawn.nd rfl (Or.inl rfl) (pe_fn (h_ties_beneath T) (hr.mono (by decide)) (by rfl) (pa_cons (pv 0) pa_nil)))
      (pss_cons (ps_set (i := 2) sc_drawn.nd rfl (Or.inl rfl) (pe_fnX (x_all_beneath T) xeIs_of (hr.mono (by decide)) (by rfl) (pa_cons (pv 0) pa_nil)))
      (pss_cons (ps_set (i := 3) sc_drawn.nd rfl (Or.inl rfl) pe_dnewT)
      (pss_cons (ps_for xeIs_of.own rfl (pi_dict (pv 1)) (pg_name (i := 4) sc_drawn.nd rfl (Or.inl rfl)) (pss_one (ps_for xeIs_of.own rfl (pi_listK K rfl (pe_dget hu (pv 1) (pv 4) (fun _ _ => rfl))) (pg_tupK K rfl rfl (pgs_cons (pg_name (i := 5) sc_drawn.nd rfl (Or.inl rfl)) (pgs_cons (pg_name (i := 6) sc_drawn.nd rfl (Or.inl rfl)) pgs_nil))) (pss_one (ps_if (pt_not (pt_val (pe_fn (h_lies_between T) (hr.mono (by decide)) (by rfl) (pa_cons (pv 2) (pa_cons (pv 4) (pa_cons (pv 5) pa_nil)))))) (pss_one (ps_dput hu (pv 3) (pe_tup (pa_cons (pv 4) (pa_cons (pv 5) pa_nil))) pe_bl rfl)) pss_nil)))))
      (pss_one (ps_ret (pe_callB (call_sortedDT (K := K) rfl rfl) (by rfl) T.sorted PyProof.Rows.boot_sorted (pa_cons (pv 3) pa_nil)))))))), ?_⟩
    refine ⟨_, rfl, p, pu, pt, x, y, us, ads, ts, rfl, hT, fun pd ob ad bs H1 s1 fpd hB => ?_⟩
    try dsimp only [gName]
    exact ⟨_, rfl, .inr ⟨p, pu, pt, x, y, us, ads, ts, [], rfl, rfl, hT.same s1, nn, kE.same s1⟩⟩
theorem x_drawn (T : Tx K mg w C_DigError C_Round) : HasX P w K mg base "drawn" ["telling"] 9 (fun vs H Q E => sp_drawn (K := K) vs H Q E ∨ sp_rnd (K := K) C_Round (fun r => r = []) vs H Q E) := (h_drawn T).x.or (r_drawn T)
theorem r_levels (T : Tx K mg w C_DigError C_Round) : HasX P w K mg base "levels" ["telling"] 8 (sp_rnd (K := K) C_Round fun r => r = []) := by
  refine T.d_levels.hasX sc_levels (fun vs H Q E h => ?_) (fun f cdv A outer s H vs Q E hr h => ?_)
  · obtain ⟨p, pu, pt, x, y, us, ads, ts, rest, rfl, rfl, _⟩ := h; rfl
  · obtain ⟨p, pu, pt, x, y, us, ads, ts, rest, rfl, rfl, hT, nn, kE⟩ := h
    have hu := hu_of hr
    refine ⟨_, (pss_cons (ps_set (i := 1) sc_levels.nd rfl (Or.inl rfl) (pe_fn (h_ties_beneath T) (hr.mono (by decide)) (by rfl) (pa_cons (pv 0) pa_nil)))
      (pss_cons (ps_set (i := 2) sc_levels.nd rfl (Or.inr rfl) pe_dnewK)
      (pss_cons (ps_set (i := 3) sc_levels.nd rfl (Or.inl rfl) (pe_lst pa_nil))
      (pss_cons (ps_for xeIs_of.own rfl (pi_listK K rfl (pe_fnX (x_order T) xeIs_of (hr.mono (by decide)) (by rfl) (pa_cons (pv 0) pa_nil))) (pg_name (i := 4) sc_levels.nd rfl (Or.inl rfl)) (pss_cons (ps_set (i := 5) sc_levels.nd rfl (Or.inl rfl) (pe_maxD K rfl 0 rfl (by rfl) T.max (pe_comp (own := ["lower", "tie"]) (cap := ["numbers"]) (ix := [2]) (osc := defScope (top 20)) rfl ⟨rfl, by decide +kernel, by decide +kernel, by decide +kernel, by decide +kernel⟩ rfl (pi_listK K rfl (pe_dget hu (pv 1) (pv 4) (fun _ _ => rfl))) (fun _ _ _ _ => pg_tupK (n := 2) K rfl rfl (pgs_cons (pg_name (i := 0) (show List.Nodup (["lower", "tie", "numbers"] : List Str) by decide +kernel) rfl (Or.inl rfl)) (pgs_cons (pg_name (i := 1) (show List.Nodup (["lower", "tie", "numbers"] : List Str) by decide +kernel) rfl (Or.inl rfl)) pgs_nil))) (fun _ _ _ _ => pif_nil) (fun _ _ _ _ => (pe_op op_add (pe_dget hu (pv 2) (pv 0) (fun _ _ => rfl)) pe_int)))))
        (pss_cons (ps_dput hu (pv 2) (pv 4) (pv 5) rfl)
        (pss_cons (ps_if (pt_cmpR op_eq (pv 5) (pe_callB (call_len_seqK K rfl) (by rfl) T.len boot_len (pa_cons (pv 3) pa_nil)) (nomark _)) (pss_one (ps_expr (pe_bmK K rfl PySem.F.plainAttrs_list PySem.F.slot_list_append PySem.F.type_list_append mt_append (pv 3) (pa_cons (pe_lst pa_nil) pa_nil)))) pss_nil)
        (pss_one (ps_expr (pe_bmK K rfl PySem.F.plainAttrs_list PySem.F.slot_list_append PySem.F.type_list_append mt_append (pe_ix (ix_listK K rfl) (pv 3) (pv 5) (fun _ _ => rfl)) (pa_cons (pv 4) pa_nil))))))))
      (pss_one (ps_ret (pe_comp (own := ["row"]) (cap := []) (ix := []) (osc := defScope (top 20)) rfl ⟨rfl, by decide +kernel, by decide +kernel, by decide +kernel, by decide +kernel⟩ rfl (pi_listK K rfl (pv 3)) (fun _ _ _ _ => pg_name (i := 0) (show List.Nodup (["row"] : List Str) by decide +kernel) rfl (Or.inl rfl)) (fun _ _ _ _ => pif_nil) (fun _ _ _ _ => (pe_callB (call_sortedS (K := K) rfl) (by rfl) T.sorted PyProof.Rows.boot_sorted (pa_cons (pv 0) pa_nil)))))))))), ?_⟩
    refine ⟨_, rfl, p, pu, pt, x, y, us, ads, ts, rfl, hT, fun pd ob ad bs H1 s1 fpd hB => ?_⟩
    try dsimp only [gName]
    refine fun pe hpe => ?_
    have s2 := Same.new (o := .dK []) hpe
    try dsimp only [gName]
    refine ⟨by decide, fun pr hpr => ?_⟩
    have s3 := Same.new (o := .lst []) hpr
    have q3 := s1.trans (s2.trans s3)
    try dsimp only [gName]
    exact ⟨_, rfl, .inr ⟨p, pu, pt, x, y, us, ads, ts, [], rfl, rfl, hT.same q3, nn, kE.same q3⟩⟩
theorem x_levels (T : Tx K mg w C_DigError C_Round) : HasX P w K mg base "levels" ["telling"] 8 (fun vs H Q E => sp_levels (K := K) vs H Q E ∨ sp_rnd (K := K) C_Round (fun r => r = []) vs H Q E) := (h_levels T).x.or (r_levels T)
/-! ### the matrix shown -/
theorem nameB_len {x : Str} (h : nameB x = true) : x.length ≤ 12 := by
  unfold nameB at h
  simp only [Bool.and_eq_true, decide_eq_true_eq] at h
  omega
theorem join_sp_bound {xs : List Str} (h : ∀ x ∈ xs, x.length ≤ 12) (l : xs.length ≤ 63) : (xs.map (·.length)).sum + xs.length * (Str.ofString " " : Str).length ≤ 16777216 := by
  have h2 := sum_le (l := xs.map co) (k := 12) fun x hx => by
    obtain ⟨v, hv, rfl⟩ := List.mem_map.mp hx
    rw [co_len]
    exact h v hv
  have h3 : (xs.map co).map List.length = xs.map (·.length) := by
    rw [List.map_map]
    exact List.map_congr_left fun v _ => co_len v
  have e1 : (Str.ofString " " : Str).length = 1 := by decide +kernel
  rw [h3, List.length_map] at h2
  rw [e1]
  omega
theorem rowT_len {i : Nat} (hi : i < 64) {xs : List Str} (h : ∀ x ∈ xs, x.length ≤ 12) (l : xs.length ≤ 63) : (rowT (i : Int) xs).length ≤ 900 ∧ (Txt.join " " xs).length ≤ 900 := by
  have hn := num_len i hi
  have hj : (Txt.join " " xs).length ≤ 850 := by
    show (Txt.join (Str.ofString " ") xs).length ≤ 850
    rw [← co_len, co_glued, blank_is, co_strOf]
    have h1 := jc_len [32] (xs.map co)
    have h2 := sum_le (l := xs.map co) (k := 12) fun x hx => by
      obtain ⟨v, hv, rfl⟩ := List.mem_map.mp hx
      rw [co_len]
      exact h v hv
    rw [List.length_map] at h1 h2
    have : [32].length = 1 := rfl
    rw [this] at h1
    omega
  refine ⟨?_, by omega⟩
  unfold rowT
  rw [← co_len, co_app, co_app, co_app, List.length_append, List.length_append, List.length_append, co_len, co_len, co_len, co_len]
  have e0 : (Str.empty : Str).length = 0 := rfl
  have e1 : (Str.ofString ": " : Str).length = 2 := by decide +kernel
  show _ + (Str.ofString (toString (i : Int)) : Str).length + (Str.ofString ": " : Str).length + _ ≤ 900
  omega
def sp_showl : Sp := fun vs H Q _ => ∃ (i : Nat) (p : Addr) (xs : List Str), vs = [.int i, .ref p] ∧ SqL K H p (xs.map V.str) ∧ i < 64 ∧ xs.length ≤ 63 ∧ (∀ x ∈ xs, x.length ≤ 12) ∧ Q (.str (rowT i xs)) H
set_option maxHeartbeats 4000000 in
theorem h_show_level (T : Tx K mg w C_DigError C_Round) : Has P w K mg base "show_level" ["number", "names"] 1 (sp_showl (K := K)) := by
  refine T.d_show_level.has sc_show_level (fun vs H Q E h => ?_) (fun f cdv A outer s H vs Q E hr h => ?_)
  · obtain ⟨i, p, xs, rfl, _⟩ := h; rfl
  · obtain ⟨i, p, xs, rfl, hp, hi, lx, hx, k⟩ := h
    refine ⟨_, (pss_cons (ps_set (i := 2) sc_show_level.nd rfl (Or.inl rfl) (pe_bmK K rfl PySem.F.plainAttrs_str PySem.F.slot_str_join PySem.F.type_str_join (mt_joinK K rfl) pe_str (pa_cons (pv 1) pa_nil)))
      (pss_one (ps_ret (pe_joined (pj_fld (pv 0) (pj_txt pe_str (pj_fld (pv 2) pj_nil))))))), ?_⟩
    refine ⟨rfl, _, rfl, _, p, xs, rfl, rfl, hp, join_sp_bound hx lx, ?_⟩
    obtain ⟨r1, r2⟩ := rowT_len hi hx lx
    have hn := num_len i hi
    have e1 : (Str.empty ++ Str.ofString (toString (i : Int)) : Str).length ≤ 2 := by rw [emp_app]; exact hn
    have e2 : (Str.empty ++ Str.ofString (toString (i : Int)) ++ Str.ofString ": " : Str).length ≤ 4 := by
      rw [← co_len, co_app, List.length_append, co_len, co_len]
      have : (Str.ofString ": " : Str).length = 2 := by decide +kernel
      omega
    refine ⟨_, rfl, _, .inr ⟨_, rfl, ?_, rfl⟩, le_line (by exact Nat.le_trans hn (by decide)), le_line (by exact Nat.le_trans e1 (by decide)), ?_⟩
    · exact Nat.lt_of_le_of_lt (Nat.log2_le_self _) (by omega)
    refine ⟨_, rfl, le_line (by exact Nat.le_trans e2 (by decide)), ?_⟩
    refine ⟨_, rfl, _, .inl rfl, le_line (by omega), le_line (by exact Nat.le_trans r1 (by decide)), ?_, k⟩
    exact le_line (Nat.le_trans r1 (by decide))
def rowF (keys : List Str) (lv : Str → Nat) : V → V
  | .int z => .str (rowT z (keys.filter (rowB lv z.toNat)))
  | _ => .non
theorem drn_keys {ln : Ln} {keys : List Str} {p : SS} {lv : Str → Nat} {n : Nat} (L : Lv ln keys lv n) (h : Drn ln keys p) : p.1 ∈ keys ∧ p.2 ∈ keys := by
  obtain ⟨k1, ⟨r, hr⟩, _⟩ := h
  exact ⟨k1, L.cl _ k1 _ _ hr⟩
def sp_showm : Sp := fun vs H Q _ => ∃ (p pu pt : Addr) (x y : V) (us : List Str) (ads : List Addr) (ts : List Tie), vs = [.ref p] ∧ Tel K H p pu pt x y us ads ts ∧ ts.length ≤ 60 ∧ (∀ x ∈ us, x.length ≤ 12) ∧ NoR (lnkOf ts (ts.zip ads)) (keysOf ts (srt us)) ∧
  ∀ (lv : Str → Nat) (n : Nat) (qs : List SS) (H' : Hp), Same H H' → Lv (lnkOf ts (ts.zip ads)) (keysOf ts (srt us)) lv n → qs.Pairwise (fun a b => ltPP a b = true) → (∀ p, p ∈ qs ↔ Drn (lnkOf ts (ts.zip ads)) (keysOf ts (srt us)) p) → Q (.str (Txt.join "\n" (mLines (keysOf ts (srt us)) lv n qs))) H'
set_option maxHeartbeats 8000000 in
theorem h_show_matrix (T : Tx K mg w C_DigError C_Round) : Has P w K mg base "show_matrix" ["telling"] 10 (sp_showm (K := K)) := by
  refine T.d_show_matrix.has sc_show_matrix (fun vs H Q E h => ?_) (fun f cdv A outer s H vs Q E hr h => ?_)
  · obtain ⟨p, pu, pt, x, y, us, ads, ts, rfl, _⟩ := h; rfl
  · obtain ⟨p, pu, pt, x, y, us, ads, ts, rfl, hT, t60, hx12, nr, k⟩ := h
    refine ⟨_, (pss_cons (ps_set (i := 1) sc_show_matrix.nd rfl (Or.inr rfl) (pe_fn (h_levels T) (hr.mono (by decide)) (by rfl) (pa_cons (pv 0) pa_nil)))
      (pss_cons (ps_setC (i := 2) (own := ["number"]) (cap := ["rows"]) (ix := [1]) (osc := defScope (top 22)) rfl sc_show_matrix.nd rfl rfl rfl ⟨rfl, by decide +kernel, by decide +kernel, by decide +kernel, by decide +kernel⟩ rfl (pi_range3 (by rfl) T.range (pa_cons (pe_op op_sub (pe_callB (call_len_seqK K rfl) (by rfl) T.len boot_len (pa_cons (pv 1) pa_nil)) pe_int) (pa_cons (pe_un un_neg pe_int) (pa_cons (pe_un un_neg pe_int) pa_nil)))) (fun _ _ _ _ => pg_name (i := 0) (show List.Nodup (["number", "rows"] : List Str) by decide +kernel) rfl (Or.inl rfl)) (fun _ _ _ _ => pif_nil) (fun _ _ _ _ => (pe_fn (h_show_level T) (hr.mono (by decide)) (by rfl) (pa_cons (pv 0) (pa_cons (pe_ix (ix_listK K rfl) (pv 1) (pv 0) (fun _ _ => rfl)) pa_nil)))))
      (pss_cons (ps_expr (pe_bmK K rfl PySem.F.plainAttrs_list PySem.F.slot_list_extend PySem.F.type_list_extend mt_extend (pv 2) (pa_cons (pe_comp (own := ["upper", "lower"]) (cap := []) (ix := []) (osc := defScope (top 22)) rfl ⟨rfl, by decide +kernel, by decide +kernel, by decide +kernel, by decide +kernel⟩ rfl (pi_listK K rfl (pe_fn (h_drawn T) (hr.mono (by decide)) (by rfl) (pa_cons (pv 0) pa_nil))) (fun _ _ _ _ => pg_tupK (n := 2) K rfl rfl (pgs_cons (pg_name (i := 0) (show List.Nodup (["upper", "lower"] : List Str) by decide +kernel) rfl (Or.inl rfl)) (pgs_cons (pg_name (i := 1) (show List.Nodup (["upper", "lower"] : List Str) by decide +kernel) rfl (Or.inl rfl)) pgs_nil))) (fun _ _ _ _ => pif_nil) (fun _ _ _ _ => (pe_joined (pj_fld (pv 0) (pj_txt pe_str (pj_fld (pv 1) pj_nil)))))) pa_nil)))
      (pss_one (ps_ret (pe_bmK K rfl PySem.F.plainAttrs_str PySem.F.slot_str_join PySem.F.type_str_join (mt_joinK K rfl) pe_str (pa_cons (pv 2) pa_nil))))))), ?_⟩
    have lk := hT.klen
    have k12 : ∀ x ∈ keysOf ts (srt us), x.length ≤ 12 := fun x hx => hx12 x (keys_mem.mp hx).1
    refine ⟨_, rfl, p, pu, pt, x, y, us, ads, ts, rfl, hT, nr, fun q cs lv H1 s1 fq hq lcs csnd csf hrow L => ?_⟩
    try dsimp only [gName]
    have lcm : (cs.map V.ref).length = cs.length := List.length_map _
    refine ⟨_, rfl, q, _, rfl, .inl (SqL.of hq), _, _, rfl, rfl, _, rfl, _, rfl, _, _, rfl, ⟨by omega, by omega, by omega, by omega⟩, fun D hD => ?_⟩
    rw [lcm, show ((cs.length : Int) - 1 - -1).toNat = cs.length by omega]
    refine comp_pure (fix_down (hi := (cs.length : Int) - 1) (n := cs.length)) (fun _ => true) (rowF (keysOf ts (srt us)) lv) (fun _ => trivial) (by rw [List.length_map, List.length_range]; exact le_line (by omega)) (fun v hv ys Q' q => q) (fun v hv _ ys Q' q' => ?_) ?_
    · obtain ⟨j, hj, rfl⟩ := List.mem_map.mp hv
      have hj := List.mem_range.mp hj
      have t1 : Same H1 (upd H1 D (.lst ys)) := Same.new hD
      have ej : (cs.length : Int) - 1 - (j : Int) = ((cs.length - 1 - j : Nat) : Int) := by omega
      have hc := hrow (cs.length - 1 - j) cs[cs.length - 1 - j] (List.getElem?_eq_getElem (by omega))
      have at1 : atI (cs.map V.ref) ((cs.length - 1 - j : Nat) : Int) = some (.ref cs[cs.length - 1 - j]) := atI_nat (by rw [List.getElem?_map, List.getElem?_eq_getElem (by omega)]; rfl)
      rw [ej]
      rw [ej] at q'
      refine ⟨_, rfl, _, rfl, _, rfl, q, _, _, _, rfl, rfl, SqL.of (t1 _ _ hq), at1, (cs.length - 1 - j : Nat), _, _, rfl, SqL.of (t1 _ _ hc), by omega, ?_, fun x hx => k12 x ((List.mem_filter.mp hx).1), q'⟩
      exact Nat.le_trans (List.length_filter_le _ _) lk
    have el : (((List.range cs.length).map fun i => V.int ((cs.length : Int) - 1 - (i : Nat))).filter fun _ => true).map (rowF (keysOf ts (srt us)) lv) = ((List.range cs.length).map fun (i : Nat) => rowT ((cs.length : Int) - 1 - (i : Nat)) ((keysOf ts (srt us)).filter (rowB lv (cs.length - 1 - i)))).map V.str := by
      rw [List.filter_eq_self.mpr (fun _ _ => rfl), List.map_map, List.map_map]
      refine List.map_congr_left fun i hi => ?_
      have hi := List.mem_range.mp hi
      show V.str (rowT ((cs.length : Int) - 1 - (i : Nat)) ((keysOf ts (srt us)).filter (rowB lv ((cs.length : Int) - 1 - (i : Nat)).toNat))) = _
      rw [show ((cs.length : Int) - 1 - (i : Nat)).toNat = cs.length - 1 - i by omega]
      rfl
    rw [el]
    have t1 := Same.new (o := .lst (((List.range cs.length).map fun (i : Nat) => rowT ((cs.length : Int) - 1 - (i : Nat)) ((keysOf ts (srt us)).filter (rowB lv (cs.length - 1 - i)))).map V.str)) hD
    have q1 := s1.trans t1
    have eD := upd_same (H := H1) (a := D) (o := .lst (((List.range cs.length).map fun (i : Nat) => rowT ((cs.length : Int) - 1 - (i : Nat)) ((keysOf ts (srt us)).filter (rowB lv (cs.length - 1 - i)))).map V.str))
    have hlines : ∀ l ∈ (List.range cs.length).map fun (i : Nat) => rowT ((cs.length : Int) - 1 - (i : Nat)) ((keysOf ts (srt us)).filter (rowB lv (cs.length - 1 - i))), l.length ≤ 900 := fun l hl => by
      obtain ⟨i, hi, rfl⟩ := List.mem_map.mp hl
      have hi := List.mem_range.mp hi
      rw [show (cs.length : Int) - 1 - (i : Nat) = ((cs.length - 1 - i : Nat) : Int) by omega]
      exact (rowT_len (by omega) (fun x hx => k12 x ((List.mem_filter.mp hx).1)) (Nat.le_trans (List.length_filter_le _ _) lk)).1
    have hll : ((List.range cs.length).map fun (i : Nat) => rowT ((cs.length : Int) - 1 - (i : Nat)) ((keysOf ts (srt us)).filter (rowB lv (cs.length - 1 - i)))).length = cs.length := by rw [List.length_map, List.length_range]
    have eml : ∀ qs, mLines (keysOf ts (srt us)) lv cs.length qs = ((List.range cs.length).map fun (i : Nat) => rowT ((cs.length : Int) - 1 - (i : Nat)) ((keysOf ts (srt us)).filter (rowB lv (cs.length - 1 - i)))) ++ qs.map pairT := fun _ => rfl
    generalize ((List.range cs.length).map fun (i : Nat) => rowT ((cs.length : Int) - 1 - (i : Nat)) ((keysOf ts (srt us)).filter (rowB lv (cs.length - 1 - i)))) = rows at t1 q1 eD hlines hll eml
    generalize upd H1 D (.lst (rows.map V.str)) = H2 at t1 q1 eD
    try dsimp only [gName]
    refine ⟨_, rfl, .inl ⟨rfl, _, SqL.of eD⟩, _, rfl, p, pu, pt, x, y, us, ads, ts, rfl, hT.same q1, t60, nr, fun Dq bs qs H3 s3 fD hD3 pr sq l64 mem => ⟨Dq, rfl, ⟨_, SqL.of hD3⟩, fun D4 hD4 => ?_⟩⟩
    have lb : bs.length = qs.length := Paired.length pr
    refine comp_gen (fix_list (K := K) (a := Dq) (xs := bs.map V.ref)) (fun i σ' ys H' => ∃ w0 w1, σ' = [w0, w1] ∧ ys = ((qs.take i).map pairT).map V.str ∧ Same H3 H' ∧ H' D4 = some (.lst ys))
      ⟨none, none, rfl, by simp, Same.new hD4, upd_same⟩ (fun i σ' ys H' h => ?_) (by rw [List.length_map]; exact le_line (by omega)) ?_ ?_
    · obtain ⟨_, _, _, rfl, q, hd⟩ := h
      refine ⟨SqL.of (q _ _ hD3), hd, ?_⟩
      rw [List.length_map, List.length_map, List.length_take]
      omega
    · rintro i v σ' ys H' hx' ⟨w0, w1, rfl, rfl, q, hd⟩
      have hix := get_lt hx'
      rw [List.length_map] at hix
      rw [List.getElem?_map, List.getElem?_eq_getElem hix] at hx'
      cases hx'
      obtain ⟨⟨u, l⟩, hpl, hb⟩ := Paired.get' pr (List.getElem?_eq_getElem hix)
      have hm := (mem (u, l)).mp (List.mem_of_getElem? hpl)
      obtain ⟨k1, k2⟩ := drn_keys L hm
      have lu := k12 _ k1
      have ll := k12 _ k2
      have lp := pairT_len (p := (u, l)) lu ll
      have lu : u.length ≤ 12 := lu
      have ll : l.length ≤ 12 := ll
      refine ⟨_, _, rfl, SqT.of (q _ _ hb), rfl, _, _, rfl, _, _, rfl, rfl, ?_⟩
      try dsimp only [gName]
      unfold tYes
      dsimp only
      rw [if_pos rfl]
      have e1 : (Str.empty ++ u : Str).length ≤ 12 := by rw [emp_app]; exact lu
      have e2 : (Str.empty ++ u ++ Str.ofString " > " : Str).length ≤ 15 := by
        rw [← co_len, co_app, List.length_append, co_len, co_len]
        have : (Str.ofString " > " : Str).length = 3 := by decide +kernel
        omega
      refine ⟨_, rfl, _, .inl rfl, le_line (by omega), le_line (by omega), ?_⟩
      refine ⟨_, rfl, le_line (by exact Nat.le_trans e2 (by decide)), ?_⟩
      refine ⟨_, rfl, _, .inl rfl, le_line (by omega), le_line (by exact Nat.le_trans lp (by decide)), le_line (by exact Nat.le_trans lp (by decide)), hd, cstep (by rw [List.length_map]; exact hix) ⟨_, _, rfl, ?_, q.upd hD4, upd_same⟩⟩
      rw [List.take_add_one, hpl, List.map_append, List.map_append]
      rfl
    rintro σ' ys H4 ⟨w0, w1, rfl, rfl, q4, hd⟩
    rw [List.length_map, lb, List.take_length] at hd
    have eD4 := q4 _ _ (s3 _ _ eD)
    refine ⟨D, D4, _, _, rfl, rfl, eD4, hd, by rw [List.length_map, List.length_map, List.length_map, hll]; exact le_line (by omega), ?_⟩
    try dsimp only [gName]
    rw [← List.map_append, ← eml]
    have fD1 : H D = none := s1.free hD
    have hbd := lines_len (ls := mLines (keysOf ts (srt us)) lv cs.length qs) (by rw [eml, List.length_append, List.length_map, hll]; omega) (fun l hl => by
      rw [eml] at hl
      rcases List.mem_append.mp hl with hl | hl
      · exact hlines l hl
      · obtain ⟨r, hr, rfl⟩ := List.mem_map.mp hl
        obtain ⟨k1, k2⟩ := drn_keys L ((mem r).mp hr)
        exact Nat.le_trans (pairT_len (k12 _ k1) (k12 _ k2)) (by decide))
    refine ⟨rfl, _, rfl, _, D, _, rfl, rfl, SqL.of upd_same, hbd.2, ?_⟩
    exact k lv cs.length qs _ ((q1.trans (s3.trans q4)).upd fD1) L sq mem
theorem r_show_matrix (T : Tx K mg w C_DigError C_Round) : HasX P w K mg base "show_matrix" ["telling"] 10 (sp_rnd (K := K) C_Round fun r => r = []) := by
  refine T.d_show_matrix.hasX sc_show_matrix (fun vs H Q E h => ?_) (fun f cdv A outer s H vs Q E hr h => ?_)
  · obtain ⟨p, pu, pt, x, y, us, ads, ts, rest, rfl, rfl, _⟩ := h; rfl
  · obtain ⟨p, pu, pt, x, y, us, ads, ts, rest, rfl, rfl, hT, nn, kE⟩ := h
    refine ⟨_, (pss_cons (ps_set (i := 1) sc_show_matrix.nd rfl (Or.inr rfl) (pe_fnX (x_levels T) xeIs_of (hr.mono (by decide)) (by rfl) (pa_cons (pv 0) pa_nil)))
      (pss_cons (ps_setC (i := 2) (own := ["number"]) (cap := ["rows"]) (ix := [1]) (osc := defScope (top 22)) rfl sc_show_matrix.nd rfl rfl rfl ⟨rfl, by decide +kernel, by decide +kernel, by decide +kernel, by decide +kernel⟩ rfl (pi_range3 (by rfl) T.range (pa_cons (pe_op op_sub (pe_callB (call_len_seqK K rfl) (by rfl) T.len boot_len (pa_cons (pv 1) pa_nil)) pe_int) (pa_cons (pe_un un_neg pe_int) (pa_cons (pe_un un_neg pe_int) pa_nil)))) (fun _ _ _ _ => pg_name (i := 0) (show List.Nodup (["number", "rows"] : List Str) by decide +kernel) rfl (Or.inl rfl)) (fun _ _ _ _ => pif_nil) (fun _ _ _ _ => (pe_fn (h_show_level T) (hr.mono (by decide)) (by rfl) (pa_cons (pv 0) (pa_cons (pe_ix (ix_listK K rfl) (pv 1) (pv 0) (fun _ _ => rfl)) pa_nil)))))
      (pss_cons (ps_expr (pe_bmK K rfl PySem.F.plainAttrs_list PySem.F.slot_list_extend PySem.F.type_list_extend mt_extend (pv 2) (pa_cons (pe_comp (own := ["upper", "lower"]) (cap := []) (ix := []) (osc := defScope (top 22)) rfl ⟨rfl, by decide +kernel, by decide +kernel, by decide +kernel, by decide +kernel⟩ rfl (pi_listK K rfl (pe_fnX (x_drawn T) xeIs_of (hr.mono (by decide)) (by rfl) (pa_cons (pv 0) pa_nil))) (fun _ _ _ _ => pg_tupK (n := 2) K rfl rfl (pgs_cons (pg_name (i := 0) (show List.Nodup (["upper", "lower"] : List Str) by decide +kernel) rfl (Or.inl rfl)) (pgs_cons (pg_name (i := 1) (show List.Nodup (["upper", "lower"] : List Str) by decide +kernel) rfl (Or.inl rfl)) pgs_nil))) (fun _ _ _ _ => pif_nil) (fun _ _ _ _ => (pe_joined (pj_fld (pv 0) (pj_txt pe_str (pj_fld (pv 1) pj_nil)))))) pa_nil)))
      (pss_one (ps_ret (pe_bmK K rfl PySem.F.plainAttrs_str PySem.F.slot_str_join PySem.F.type_str_join (mt_joinK K rfl) pe_str (pa_cons (pv 2) pa_nil))))))), ?_⟩
    exact ⟨_, rfl, .inr ⟨p, pu, pt, x, y, us, ads, ts, [], rfl, rfl, hT, nn, kE⟩⟩
theorem x_show_matrix (T : Tx K mg w C_DigError C_Round) : HasX P w K mg base "show_matrix" ["telling"] 10 (fun vs H Q E => sp_showm (K := K) vs H Q E ∨ sp_rnd (K := K) C_Round (fun r => r = []) vs H Q E) := (h_show_matrix T).x.or (r_show_matrix T)
/-! ### the law's own -/
def sp_goes : Sp := fun vs H Q _ => ∃ (p pu pt : Addr) (x y : V) (us : List Str) (ads : List Addr) (ts : List Tie), vs = [.ref p] ∧ Tel K H p pu pt x y us ads ts ∧ ts.length ≤ 60 ∧ (∀ x ∈ us, x.length ≤ 12) ∧
  (NoR (lnkOf ts (ts.zip ads)) (keysOf ts (srt us)) → ∀ H', Same H H' → Q (.bl false) H') ∧ (¬ NoR (lnkOf ts (ts.zip ads)) (keysOf ts (srt us)) → ∀ H', Same H H' → Q (.bl true) H')
set_option maxHeartbeats 4000000 in
theorem h__law_goes_round (T : Tx K mg w C_DigError C_Round) : Has P w K mg base "_law_goes_round" ["_law_telling_here"] 8 (sp_goes (K := K)) := by
  refine T.d__law_goes_round.has sc__law_goes_round (fun vs H Q E h => ?_) (fun f cdv A outer s H vs Q E hr h => ?_)
  · obtain ⟨p, pu, pt, x, y, us, ads, ts, rfl, _⟩ := h; rfl
  · obtain ⟨p, pu, pt, x, y, us, ads, ts, rfl, hT, t60, h12, k1, k2⟩ := h
    refine ⟨_, (pss_cons (ps_set (i := 1) sc__law_goes_round.nd rfl (Or.inl rfl) pe_bl)
      (pss_cons (ps_try ⟨rfl, rfl, rfl⟩ (fun pn xe Es pt => (pss_one (ps_expr (pe_fnT (x_order T) pt (hr.mono (by decide)) (by rfl) (pa_cons (pv 0) pa_nil))))) (ph_no ⟨rfl, rfl, rfl⟩ (by rfl) T.mg_Round T.xk_Round (fun _ _ => (pss_one (ps_set (i := 1) sc__law_goes_round.nd rfl (Or.inl rfl) pe_bl))) ph_nil))
      (pss_one (ps_ret (pv 1))))), ?_⟩
    by_cases nr : NoR (lnkOf ts (ts.zip ads)) (keysOf ts (srt us))
    · refine ⟨_, rfl, .inl ⟨p, pu, pt, x, y, us, ads, ts, rfl, hT, nr, fun q os H1 s1 fq hq O pm => ?_⟩⟩
      exact ⟨_, rfl, k1 nr _ s1⟩
    · refine ⟨_, rfl, .inr ⟨p, pu, pt, x, y, us, ads, ts, [], rfl, rfl, hT, nr, fun d q rs H1 s1 hd hq hne hl R => ?_⟩⟩
      refine ⟨C_Round, rfl, true, T.sub_Round_Round, ?_⟩
      rw [if_pos rfl]
      exact ⟨_, rfl, k2 nr _ s1⟩
set_option maxHeartbeats 4000000 in
theorem h__law_refused (T : Tx K mg w C_DigError C_Round) : Has P w K mg base "_law_refused" ["_law_telling_here"] 11 (sp_goes (K := K)) := by
  refine T.d__law_refused.has sc__law_refused (fun vs H Q E h => ?_) (fun f cdv A outer s H vs Q E hr h => ?_)
  · obtain ⟨p, pu, pt, x, y, us, ads, ts, rfl, _⟩ := h; rfl
  · obtain ⟨p, pu, pt, x, y, us, ads, ts, rfl, hT, t60, h12, k1, k2⟩ := h
    refine ⟨_, (pss_cons (ps_set (i := 1) sc__law_refused.nd rfl (Or.inl rfl) pe_bl)
      (pss_cons (ps_try ⟨rfl, rfl, rfl⟩ (fun pn xe Es pt => (pss_one (ps_expr (pe_fnT (x_show_matrix T) pt (hr.mono (by decide)) (by rfl) (pa_cons (pv 0) pa_nil))))) (ph_no ⟨rfl, rfl, rfl⟩ (by rfl) T.mg_Round T.xk_Round (fun _ _ => (pss_one (ps_set (i := 1) sc__law_refused.nd rfl (Or.inl rfl) pe_bl))) ph_nil))
      (pss_one (ps_ret (pv 1))))), ?_⟩
    by_cases nr : NoR (lnkOf ts (ts.zip ads)) (keysOf ts (srt us))
    · refine ⟨_, rfl, .inl ⟨p, pu, pt, x, y, us, ads, ts, rfl, hT, t60, h12, nr, fun lv n qs H1 s1 _ _ _ => ?_⟩⟩
      exact ⟨_, rfl, k1 nr _ s1⟩
    · refine ⟨_, rfl, .inr ⟨p, pu, pt, x, y, us, ads, ts, [], rfl, rfl, hT, nr, fun d q rs H1 s1 hd hq hne hl R => ?_⟩⟩
      refine ⟨C_Round, rfl, true, T.sub_Round_Round, ?_⟩
      rw [if_pos rfl]
      exact ⟨_, rfl, k2 nr _ s1⟩
theorem lineF_snoc (l0 : Str) (xs : List Str) (x : Str) : lineF l0 (xs ++ [x]) = lineF l0 xs ++ Str.ofString " " ++ x := by unfold lineF; rw [List.foldl_append]; rfl
set_option maxHeartbeats 8000000 in
theorem h__law_due (T : Tx K mg w C_DigError C_Round) : Has P w K mg base "_law_due" ["_law_telling_here"] 10 (sp_showm (K := K)) := by
  refine T.d__law_due.has sc__law_due (fun vs H Q E h => ?_) (fun f cdv A outer s H vs Q E hr h => ?_)
  · obtain ⟨p, pu, pt, x, y, us, ads, ts, rfl, _⟩ := h; rfl
  · obtain ⟨p, pu, pt, x, y, us, ads, ts, rfl, hT, t60, hx12, nr, k⟩ := h
    refine ⟨_, (pss_cons (ps_set (i := 1) sc__law_due.nd rfl (Or.inl rfl) (pe_lst pa_nil))
      (pss_cons (ps_set (i := 2) sc__law_due.nd rfl (Or.inl rfl) (pe_fn (h_levels T) (hr.mono (by decide)) (by rfl) (pa_cons (pv 0) pa_nil)))
      (pss_cons (ps_for PassesOwn.never rfl (pi_range1 (by rfl) T.range (pa_cons (pe_callB (call_len_seqK K rfl) (by rfl) T.len boot_len (pa_cons (pv 2) pa_nil)) pa_nil)) (pg_name (i := 3) sc__law_due.nd rfl (Or.inl rfl)) (pss_cons (ps_set (i := 4) sc__law_due.nd rfl (Or.inl rfl) (pe_op op_add_str (pe_callTy call_str_int (by rfl) T.str PyProof.Rows.boot_str (pa_cons (pe_op op_sub (pe_op op_sub (pe_callB (call_len_seqK K rfl) (by rfl) T.len boot_len (pa_cons (pv 2) pa_nil)) pe_int) (pv 3)) pa_nil)) pe_str))
        (pss_cons (ps_for PassesOwn.never rfl (pi_listK K rfl (pe_ix (ix_listK K rfl) (pv 2) (pe_op op_sub (pe_op op_sub (pe_callB (call_len_seqK K rfl) (by rfl) T.len boot_len (pa_cons (pv 2) pa_nil)) pe_int) (pv 3)) (fun _ _ => rfl))) (pg_name (i := 5) sc__law_due.nd rfl (Or.inl rfl)) (pss_one (ps_set (i := 4) sc__law_due.nd rfl (Or.inl rfl) (pe_op op_add_str (pe_op op_add_str (pv 4) pe_str) (pv 5)))))
        (pss_one (ps_expr (pe_bmK K rfl PySem.F.plainAttrs_list PySem.F.slot_list_append PySem.F.type_list_append mt_append (pv 1) (pa_cons (pv 4) pa_nil)))))))
      (pss_cons (ps_for PassesOwn.never rfl (pi_listK K rfl (pe_fn (h_drawn T) (hr.mono (by decide)) (by rfl) (pa_cons (pv 0) pa_nil))) (pg_tupK K rfl rfl (pgs_cons (pg_name (i := 6) sc__law_due.nd rfl (Or.inl rfl)) (pgs_cons (pg_name (i := 7) sc__law_due.nd rfl (Or.inl rfl)) pgs_nil))) (pss_one (ps_expr (pe_bmK K rfl PySem.F.plainAttrs_list PySem.F.slot_list_append PySem.F.type_list_append mt_append (pv 1) (pa_cons (pe_op op_add_str (pe_op op_add_str (pv 6) pe_str) (pv 7)) pa_nil)))))
      (pss_one (ps_ret (pe_bmK K rfl PySem.F.plainAttrs_str PySem.F.slot_str_join PySem.F.type_str_join (mt_joinK K rfl) pe_str (pa_cons (pv 1) pa_nil)))))))), ?_⟩
    have lk := hT.klen
    have k12 : ∀ x ∈ keysOf ts (srt us), x.length ≤ 12 := fun x hx => hx12 x (keys_mem.mp hx).1
    refine ⟨by decide, fun p0 hp0 => ?_⟩
    have t0 := Same.new (o := .lst []) hp0
    have e0 : upd H p0 (.lst []) p0 = some (.lst []) := upd_same
    generalize upd H p0 (.lst []) = H0 at t0 e0
    try dsimp only [gName]
    refine ⟨_, rfl, p, pu, pt, x, y, us, ads, ts, rfl, hT.same t0, nr, fun q cs lv H1 s1 fq hq lcs csnd csf hrow L => ?_⟩
    try dsimp only [gName]
    have lcm : (cs.map V.ref).length = cs.length := List.length_map _
    have nq : q ≠ p0 := fun z => by rw [z, e0] at fq; cases fq
    have nc : ∀ c ∈ cs, c ≠ p0 := fun c hc z => by have := (csf c hc).1; rw [z, e0] at this; cases this
    refine ⟨_, rfl, q, _, rfl, .inl (SqL.of hq), ((cs.map V.ref).length : Int), rfl, by omega, by omega, for_range (lo := 0) (n := (cs.map V.ref).length) (fun i σ H' => ∃ (v3 v4 v5 : Option V), σ = [some (.ref p), some (.ref p0), some (.ref q), v3, v4, v5, none, none] ∧ Same H H' ∧ H' q = some (.lst (cs.map V.ref)) ∧
      (∀ (j : Nat) c, cs[j]? = some c → H' c = some (.lst (((keysOf ts (srt us)).filter (rowB lv j)).map V.str))) ∧ H' p0 = some (.lst (((List.range i).map fun (i : Nat) => rowT ((cs.length : Int) - 1 - (i : Nat)) ((keysOf ts (srt us)).filter (rowB lv (cs.length - 1 - i)))).map V.str)))
      ⟨none, none, none, rfl, t0.trans s1, hq, hrow, s1 _ _ e0⟩ ?_ ?_⟩
    · rintro i σ H2 hi ⟨v3, v4, v5, rfl, q2, hq2, hr2, h02⟩
      rw [lcm] at hi
      have ej : (cs.length : Int) - 1 - (0 + (i : Int)) = ((cs.length - 1 - i : Nat) : Int) := by omega
      have hc := hr2 (cs.length - 1 - i) cs[cs.length - 1 - i] (List.getElem?_eq_getElem (by omega))
      have at1 : atI (cs.map V.ref) ((cs.length - 1 - i : Nat) : Int) = some (.ref cs[cs.length - 1 - i]) := atI_nat (by rw [List.getElem?_map, List.getElem?_eq_getElem (by omega)]; rfl)
      obtain ⟨c, ec⟩ : ∃ c, c = cs[cs.length - 1 - i] := ⟨_, rfl⟩
      rw [← ec] at hc at1
      have hn := num_len (cs.length - 1 - i) (by omega)
      try dsimp only [gName]
      have e1 : (Str.ofString ":" : Str).length = 1 := by decide +kernel
      have ez : ((cs.map V.ref).length : Int) - 1 - (0 + (i : Int)) = ((cs.length - 1 - i : Nat) : Int) := by rw [lcm]; exact ej
      refine ⟨_, rfl, q, _, rfl, .inl (SqL.of hq2), _, _, rfl, rfl, _, rfl, _, _, rfl, rfl, ((cs.length - 1 - i : Nat) : Int), congrArg (fun z => [V.int z]) ez, Nat.lt_of_le_of_lt (Nat.log2_le_self _) (by omega), _, _, rfl, rfl, le_line (by rw [e1]; exact Nat.le_trans (Nat.add_le_add_right hn 1) (by decide)), ?_⟩
      try dsimp only [gName]
      refine ⟨_, rfl, _, rfl, q, _, rfl, .inl (SqL.of hq2), _, _, rfl, rfl, _, rfl, _, _, rfl, rfl, q, _, ((cs.length - 1 - i : Nat) : Int), _, rfl, congrArg V.int ez, SqL.of hq2, at1, c, rfl, ⟨_, SqL.of hc⟩, ?_⟩
      have lrow : ((keysOf ts (srt us)).filter (rowB lv (cs.length - 1 - i))).length ≤ 63 := Nat.le_trans (List.length_filter_le _ _) lk
      have ne := L.row_ne (j := cs.length - 1 - i) (by omega)
      have h12 : ∀ x ∈ (keysOf ts (srt us)).filter (rowB lv (cs.length - 1 - i)), x.length ≤ 12 := fun x hx => k12 x ((List.mem_filter.mp hx).1)
      have er := rowT_is ((cs.length - 1 - i : Nat) : Int) ne
      have ecs : cs[cs.length - 1 - i]? = some c := by rw [ec]; exact List.getElem?_eq_getElem _
      have snoc : ((List.range (i + 1)).map fun (i : Nat) => rowT ((cs.length : Int) - 1 - (i : Nat)) ((keysOf ts (srt us)).filter (rowB lv (cs.length - 1 - i)))) = ((List.range i).map fun (i : Nat) => rowT ((cs.length : Int) - 1 - (i : Nat)) ((keysOf ts (srt us)).filter (rowB lv (cs.length - 1 - i)))) ++ [rowT ((cs.length - 1 - i : Nat) : Int) ((keysOf ts (srt us)).filter (rowB lv (cs.length - 1 - i)))] := by
        rw [List.range_succ, List.map_append]
        show _ ++ [rowT ((cs.length : Int) - 1 - (i : Nat)) _] = _
        rw [show (cs.length : Int) - 1 - (i : Nat) = ((cs.length - 1 - i : Nat) : Int) by omega]
      have lrs : ((List.range i).map fun (i : Nat) => rowT ((cs.length : Int) - 1 - (i : Nat)) ((keysOf ts (srt us)).filter (rowB lv (cs.length - 1 - i)))).length = i := by rw [List.length_map, List.length_range]
      rw [snoc]
      generalize ((List.range i).map fun (i : Nat) => rowT ((cs.length : Int) - 1 - (i : Nat)) ((keysOf ts (srt us)).filter (rowB lv (cs.length - 1 - i)))) = rws at h02 lrs snoc
      generalize (keysOf ts (srt us)).filter (rowB lv (cs.length - 1 - i)) = names at hc lrow ne h12 er snoc
      obtain ⟨l0, el0⟩ : ∃ l0 : Str, l0 = (Str.ofString (toString ((cs.length - 1 - i : Nat) : Int)) ++ Str.ofString ":" : Str) := ⟨_, rfl⟩
      have ll0 : l0.length ≤ 3 := by
        rw [el0, ← co_len, co_app, List.length_append, co_len, co_len]
        omega
      have er : rowT ((cs.length - 1 - i : Nat) : Int) names = lineF l0 names := by rw [el0]; exact er
      rw [er]
      refine for_list (K := K) (a := c) (xs := names.map V.str) (fun j σ H' => ∃ (v5 : Option V), σ = [some (.ref p), some (.ref p0), some (.ref q), some (.int (0 + (i : Int))), some (.str (lineF l0 (names.take j))), v5, none, none] ∧ H' = H2)
        ⟨v5, by rw [el0]; rfl, rfl⟩ (fun j σ H' _ h => by obtain ⟨_, _, rfl⟩ := h; exact SqL.of hc) ?_ ?_
      · rintro j v σ H3 hx ⟨v5', rfl, rfl⟩
        have hj := get_lt hx
        rw [List.length_map] at hj
        rw [List.getElem?_map, List.getElem?_eq_getElem hj] at hx
        cases hx
        have l1 := lineF_len (xs := names.take j) (fun x hx => h12 x (List.mem_of_mem_take hx)) l0
        rw [List.length_take] at l1
        have l2 := h12 names[j] (List.getElem_mem _)
        have e32 : (Str.ofString " " : Str).length = 1 := by decide +kernel
        try dsimp only [gName]
        refine ⟨_, rfl, _, _, rfl, rfl, le_line (by omega), _, rfl, _, _, rfl, rfl, le_line ?_, some (.str names[j]), ?_, rfl⟩
        · have : (lineF l0 (names.take j) ++ Str.ofString " " : Str).length = (lineF l0 (names.take j)).length + 1 := by rw [← co_len, co_app, List.length_append, co_len, co_len, e32]
          rw [this]
          omega
        · rw [List.take_add_one, List.getElem?_eq_getElem hj, Option.toList_some, lineF_snoc]
          rfl
      · rintro σ H3 ⟨v5', rfl, rfl⟩
        rw [List.length_map, List.take_length]
        try dsimp only [gName]
        refine ⟨_, rfl, .inl ⟨rfl, _, SqL.of h02⟩, _, rfl, p0, _, _, rfl, rfl, h02, by rw [List.length_map, lrs]; exact small1000 (by omega), ?_⟩
        refine ⟨_, _, _, rfl, q2.upd hp0, by rw [upd_ne nq]; exact hq2, fun j c hj => by rw [upd_ne (nc c (List.mem_of_getElem? hj))]; exact hr2 j c hj, ?_⟩
        rw [upd_same, List.map_append]
        rfl
    rintro σ H2 ⟨v3, v4, v5, rfl, q2, hq2, hr2, h02⟩
    rw [lcm] at h02
    have hlines : ∀ l ∈ (List.range cs.length).map fun (i : Nat) => rowT ((cs.length : Int) - 1 - (i : Nat)) ((keysOf ts (srt us)).filter (rowB lv (cs.length - 1 - i))), l.length ≤ 900 := fun l hl => by
      obtain ⟨i, hi, rfl⟩ := List.mem_map.mp hl
      have hi := List.mem_range.mp hi
      rw [show (cs.length : Int) - 1 - (i : Nat) = ((cs.length - 1 - i : Nat) : Int) by omega]
      exact (rowT_len (by omega) (fun x hx => k12 x ((List.mem_filter.mp hx).1)) (Nat.le_trans (List.length_filter_le _ _) lk)).1
    have hll : ((List.range cs.length).map fun (i : Nat) => rowT ((cs.length : Int) - 1 - (i : Nat)) ((keysOf ts (srt us)).filter (rowB lv (cs.length - 1 - i)))).length = cs.length := by rw [List.length_map, List.length_range]
    have eml : ∀ qs, mLines (keysOf ts (srt us)) lv cs.length qs = ((List.range cs.length).map fun (i : Nat) => rowT ((cs.length : Int) - 1 - (i : Nat)) ((keysOf ts (srt us)).filter (rowB lv (cs.length - 1 - i)))) ++ qs.map pairT := fun _ => rfl
    generalize ((List.range cs.length).map fun (i : Nat) => rowT ((cs.length : Int) - 1 - (i : Nat)) ((keysOf ts (srt us)).filter (rowB lv (cs.length - 1 - i)))) = rows at h02 hlines hll eml
    try dsimp only [gName]
    refine ⟨_, rfl, p, pu, pt, x, y, us, ads, ts, rfl, hT.same q2, t60, nr, fun Dq bs qs H3 s3 fD hD3 pr sq l64 mem => ?_⟩
    have lb : bs.length = qs.length := Paired.length pr
    have nD : Dq ≠ p0 := fun z => by rw [z, h02] at fD; cases fD
    refine ⟨Dq, rfl, ⟨_, SqL.of hD3⟩, for_list (K := K) (a := Dq) (xs := bs.map V.ref) (fun i σ H' => ∃ (v6 v7 : Option V), σ = [some (.ref p), some (.ref p0), some (.ref q), v3, v4, v5, v6, v7] ∧ Same H H' ∧ H' Dq = some (.lst (bs.map V.ref)) ∧ Paired (fun a (p : SS) => H' a = some (.tup [.str p.1, .str p.2])) bs qs ∧ H' p0 = some (.lst ((rows ++ (qs.take i).map pairT).map V.str)))
      ⟨none, none, rfl, q2.trans s3, hD3, pr, by rw [List.take_zero, List.map_nil, List.append_nil]; exact s3 _ _ h02⟩ (fun i σ H' _ h => by obtain ⟨_, _, _, _, h, _⟩ := h; exact SqL.of h) ?_ ?_⟩
    · rintro i v σ H4 hx ⟨v6, v7, rfl, q4, hD4, pr4, h04⟩
      have hix := get_lt hx
      rw [List.length_map] at hix
      rw [List.getElem?_map, List.getElem?_eq_getElem hix] at hx
      cases hx
      obtain ⟨⟨u, l⟩, hpl, hb⟩ := Paired.get' pr4 (List.getElem?_eq_getElem hix)
      obtain ⟨k1, k2⟩ := drn_keys L ((mem (u, l)).mp (List.mem_of_getElem? hpl))
      have lu : u.length ≤ 12 := k12 _ k1
      have ll : l.length ≤ 12 := k12 _ k2
      have e3 : (Str.ofString " > " : Str).length = 3 := by decide +kernel
      refine ⟨_, _, rfl, SqT.of hb, rfl, _, _, rfl, _, _, rfl, rfl, ?_⟩
      try dsimp only [gName]
      refine ⟨_, rfl, .inl ⟨rfl, _, SqL.of h04⟩, _, rfl, _, _, rfl, rfl, le_line (by omega), _, rfl, _, _, rfl, rfl, le_line ?_, ?_⟩
      · have : (u ++ Str.ofString " > " : Str).length = u.length + 3 := by rw [← co_len, co_app, List.length_append, co_len, co_len, e3]
        rw [this]
        omega
      refine ⟨p0, _, _, rfl, rfl, h04, by rw [List.length_map, List.length_append, List.length_map, List.length_take, hll]; exact small1000 (by omega), ?_⟩
      refine ⟨_, _, rfl, q4.upd hp0, by rw [upd_ne nD]; exact hD4, Paired.mapP pr4 fun a p h => tup_stay h04 _ _ h, ?_⟩
      have ep : pairT (u, l) = u ++ Str.ofString " > " ++ l := by
        show Str.empty ++ u ++ Str.ofString " > " ++ l = _
        rw [emp_app]
      rw [upd_same, List.take_add_one, hpl, List.map_append (f := pairT), ← List.append_assoc, List.map_append (f := V.str) (l₁ := rows ++ _)]
      show some (HO.lst (_ ++ [V.str (u ++ Str.ofString " > " ++ l)])) = some (HO.lst (_ ++ [V.str (pairT (u, l))]))
      rw [ep]
    rintro σ H4 ⟨v6, v7, rfl, q4, hD4, pr4, h04⟩
    rw [List.length_map, lb, List.take_length, ← eml] at h04
    have hbd := lines_len (ls := mLines (keysOf ts (srt us)) lv cs.length qs) (by rw [eml, List.length_append, List.length_map, hll]; omega) (fun l hl => by
      rw [eml] at hl
      rcases List.mem_append.mp hl with hl | hl
      · exact hlines l hl
      · obtain ⟨r, hr, rfl⟩ := List.mem_map.mp hl
        obtain ⟨k1, k2⟩ := drn_keys L ((mem r).mp hr)
        exact Nat.le_trans (pairT_len (k12 _ k1) (k12 _ k2)) (by decide))
    try dsimp only [gName]
    refine ⟨rfl, _, rfl, _, p0, _, rfl, rfl, SqL.of h04, hbd.2, ?_⟩
    exact k lv cs.length qs _ q4 L sq mem
/-! ### the law -/
def kLaw : Nat := 13
def sp_law : Sp := fun vs H Q _ => ∃ (a : Addr) (ns : List Int), vs = [.ref a] ∧ SqL K H a (ns.map V.int) ∧ ns.length ≤ 63 ∧ ∀ H', Q (.bl true) H'
theorem tups_deq {H : Hp} {n : Nat} {as : List Addr} {wss : List (List V)} (t : Tups H as wss) (hw : ∀ vs ∈ wss, ∀ v ∈ vs, Wd v) : ∀ x ∈ as.map V.ref, DEq K H (n + 1) x x true := by
  intro x hx
  obtain ⟨a, ha, rfl⟩ := List.mem_map.mp hx
  obtain ⟨ws, hws, e⟩ := t.get ha
  have fl : ∀ v ∈ ws, flatV v = true := fun v hv => (hw ws hws v hv).flat
  have := DEq.flatT (n := n) (SqT.of (K := K) e) (SqT.of e) fl fl
  rwa [eqL_refl fl] at this
theorem nokeys : keysOf [] (srt []) = [] := List.eq_nil_iff_forall_not_mem.mpr fun x hx => by cases (keys_mem.mp hx).1
theorem nolines : Txt.join "\n" [] = Str.ofString "" := by decide +kernel
set_option maxHeartbeats 8000000 in
theorem h_law (T : Tx K mg w C_DigError C_Round) : Has P w K mg base "law" ["_law_script"] kLaw (sp_law (K := K)) := by
  refine T.d_law.has sc_law (fun vs H Q E h => ?_) (fun f cdv A outer s H vs Q E hr h => ?_)
  · obtain ⟨a, ns, rfl, _⟩ := h; rfl
  · obtain ⟨a, ns, rfl, ha, hl, k⟩ := h
    refine ⟨_, (pss_cons (ps_set (i := 1) sc_law.nd rfl (Or.inl rfl) (pe_fn (h__law_telling T) (hr.mono (by decide)) (by rfl) (pa_cons (pv 0) pa_nil)))
      (pss_cons (ps_set (i := 2) sc_law.nd rfl (Or.inl rfl) (pe_tup (pa_cons (pe_ix (ix_tupK K rfl) (pv 1) pe_int (fun _ _ => rfl)) (pa_cons (pe_callTy (call_list_ofK K rfl) (by rfl) T.list PyProof.Rows.boot_list (pa_cons (pe_ix (ix_tupK K rfl) (pv 1) pe_int (fun _ _ => rfl)) pa_nil)) (pa_cons (pe_callTy (call_list_ofK K rfl) (by rfl) T.list PyProof.Rows.boot_list (pa_cons (pe_ix (ix_tupK K rfl) (pv 1) pe_int (fun _ _ => rfl)) pa_nil)) (pa_cons (pe_lst pa_nil) pa_nil))))))
      (pss_cons (ps_if (PW.pt (pw_or (pt_cmpR op_ne (pe_fn (h__law_goes_round T) (hr.mono (by decide)) (by rfl) (pa_cons (pv 1) pa_nil)) (pe_fn (h__law_refused T) (hr.mono (by decide)) (by rfl) (pa_cons (pv 1) pa_nil)) (nomark _)) (pw_or1 (pt_cmpR (op_neDK K rfl (hu10 hr)) (pv 1) (pv 2) (nomark _))))) (pss_one (ps_ret pe_bl)) pss_nil)
      (pss_cons (ps_if (pt_val (pe_fn (h__law_goes_round T) (hr.mono (by decide)) (by rfl) (pa_cons (pv 1) pa_nil))) (pss_one (ps_ret pe_bl)) pss_nil)
      (pss_cons (ps_set (i := 3) sc_law.nd rfl (Or.inl rfl) (pe_fn (h_show_matrix T) (hr.mono (by decide)) (by rfl) (pa_cons (pv 1) pa_nil)))
      (pss_cons (ps_if (PW.pt (pw_or (pt_not (pt_val (pe_callB (call_isiK K rfl) (by rfl) T.isinstance PyProof.Rows.boot_isinstance (pa_cons (pv 3) (pa_cons (pe_bltn (v := .ty "str") (by rfl) T.str PyProof.Rows.boot_str rfl) pa_nil))))) (pw_or (pt_cmpR op_ne (pv 3) (pe_fn (h__law_due T) (hr.mono (by decide)) (by rfl) (pa_cons (pv 1) pa_nil)) (nomark _)) (pw_or1 (pt_cmpR (op_neDK K rfl (hu10 hr)) (pv 1) (pv 2) (nomark _)))))) (pss_one (ps_ret pe_bl)) pss_nil)
      (pss_one (ps_ret (pe_and (pe_cmpR op_eq (pe_fn (h_show_matrix T) (hr.mono (by decide)) (by rfl) (pa_cons (pe_tup (pa_cons (pe_ix (ix_tupK K rfl) (pv 1) pe_int (fun _ _ => rfl)) (pa_cons (pe_lst pa_nil) (pa_cons (pe_lst pa_nil) (pa_cons (pe_lst pa_nil) pa_nil))))) pa_nil)) pe_str (nomark _)) (pe_one (pe_cmpR op_eq (pe_fn (h_show_matrix T) (hr.mono (by decide)) (by rfl) (pa_cons (pv 1) pa_nil)) (pv 3) (nomark _)))))))))))), ?_⟩
    refine ⟨_, rfl, a, ns, rfl, ha, hl, fun p pm pu pt pf lo hi us ads ts H1 hT hpm hpf lu nm tl s1 => ?_⟩
    have h12 : ∀ x ∈ us, x.length ≤ 12 := fun x hx => nameB_len (nm x hx)
    have t60 : ts.length ≤ 60 := by omega
    have hw : ∀ vs ∈ ts.map tieV, ∀ v ∈ vs, Wd v := fun vs hv => by
      obtain ⟨u, hu, rfl⟩ := List.mem_map.mp hv
      exact ((hT.ok u hu).ok.words nm).1
    try dsimp only [gName]
    refine ⟨_, rfl, p, _, _, _, rfl, rfl, hT.p, rfl, ?_⟩
    refine ⟨_, rfl, p, _, _, _, rfl, rfl, hT.p, rfl, pu, _, rfl, .inl hT.u, fun b1 hb1 => ?_⟩
    have t1 := Same.new (o := .lst (us.map V.str)) hb1
    have T1 := hT.same t1
    refine ⟨_, rfl, p, _, _, _, rfl, rfl, T1.p, rfl, pt, _, rfl, .inl T1.t, fun b2 hb2 => ?_⟩
    have t2 := Same.new (o := .lst (ads.map V.ref)) hb2
    refine ⟨by decide, fun b3 hb3 => ?_⟩
    have t3 := Same.new (o := .lst []) hb3
    refine ⟨by show 4 ≤ sizeLine; decide, fun ph hph => ?_⟩
    have t4 := Same.new (o := .tup [.ref pm, .ref b1, .ref b2, .ref b3]) hph
    have e4 := upd_same (H := upd (upd (upd H1 b1 (.lst (us.map V.str))) b2 (.lst (ads.map V.ref))) b3 (.lst [])) (a := ph) (o := .tup [.ref pm, .ref b1, .ref b2, .ref b3])
    have e3 := t4 _ _ (upd_same (H := upd (upd H1 b1 (.lst (us.map V.str))) b2 (.lst (ads.map V.ref))) (a := b3) (o := .lst []))
    have e2 := t4 _ _ (t3 _ _ (upd_same (H := upd H1 b1 (.lst (us.map V.str))) (a := b2) (o := .lst (ads.map V.ref))))
    have e1 := t4 _ _ (t3 _ _ (t2 _ _ (upd_same (H := H1) (a := b1) (o := .lst (us.map V.str)))))
    have s4 := t1.trans (t2.trans (t3.trans t4))
    generalize upd (upd (upd (upd H1 b1 (.lst (us.map V.str))) b2 (.lst (ads.map V.ref))) b3 (.lst [])) ph (.tup [.ref pm, .ref b1, .ref b2, .ref b3]) = H4 at e1 e2 e3 e4 s4
    have T4 := hT.same s4
    have hpm4 := s4 _ _ hpm
    have hpf4 := s4 _ _ hpf
    clear t1 t2 t3 t4 T1 hT hpm hpf
    have same : ∀ H', Same H4 H' → DEq K H' 8 (.ref p) (.ref ph) true := fun H' s => by
      refine DEq.sameT (T4.same s).p (SqT.of (s _ _ e4)) rfl (fun i x y ex ey => ?_)
      match i, ex, ey with
      | 0, ex, ey =>
        cases ex; cases ey
        have fl : ∀ v ∈ [V.int lo, V.int hi], flatV v = true := fun v hv => by
          simp at hv
          rcases hv with rfl | rfl <;> rfl
        have := DEq.flatT (K := K) (n := 6) (SqT.of (s _ _ hpm4)) (SqT.of (s _ _ hpm4)) fl fl
        rwa [eqL_refl fl] at this
      | 1, ex, ey =>
        cases ex; cases ey
        exact DEq.sameL (T4.same s).u (SqL.of (s _ _ e1)) strs_deqM
      | 2, ex, ey =>
        cases ex; cases ey
        exact DEq.sameL (T4.same s).t (SqL.of (s _ _ e2)) (tups_deq (T4.same s).tt hw)
      | 3, ex, ey =>
        cases ex; cases ey
        exact DEq.nilL (SqL.of (s _ _ hpf4)) (SqL.of (s _ _ e3))
      | i + 4, ex, ey => cases ex
    try dsimp only [gName]
    by_cases nr : NoR (lnkOf ts (ts.zip ads)) (keysOf ts (srt us))
    · refine ifS_same false (fun Q' hQ => ?_) (fun H5 s5 => iteF ?_)
      · refine ⟨_, rfl, p, pu, pt, _, _, us, ads, ts, rfl, T4, t60, h12, fun _ H5 s5 => ?_, fun z => absurd nr z⟩
        refine ⟨_, rfl, p, pu, pt, _, _, us, ads, ts, rfl, T4.same s5, t60, h12, fun _ H6 s6 => ?_, fun z => absurd nr z⟩
        refine ⟨rfl, _, rfl, ?_⟩
        rw [decide_eq_true rfl]
        refine iteF ?_
        exact ⟨_, rfl, _, rfl, p, ph, true, rfl, rfl, same _ (s5.trans s6), _, rfl, hQ _ (s5.trans s6)⟩
      have T5 := T4.same s5
      try unfold tNext
      try dsimp only
      refine ifS_same false (fun Q' hQ => ?_) (fun H6 s6 => iteF ?_)
      · exact ⟨_, rfl, p, pu, pt, _, _, us, ads, ts, rfl, T5, t60, h12, fun _ H6 s6 => ⟨_, rfl, hQ _ s6⟩, fun z => absurd nr z⟩
      have T6 := T5.same s6
      try unfold tNext
      try dsimp only
      refine ⟨_, rfl, p, pu, pt, _, _, us, ads, ts, rfl, T6, t60, h12, nr, fun lv n qs H7 s7 L sq mem => ?_⟩
      have T7 := T6.same s7
      have q7 := s5.trans (s6.trans s7)
      try unfold tNext
      try dsimp only
      refine ifS_same false (fun Q' hQ => ?_) (fun H8 s8 => iteF ?_)
      · refine ⟨_, rfl, _, _, _, true, rfl, .str _, rfl, _, rfl, iteF ?_⟩
        refine ⟨_, rfl, _, rfl, p, pu, pt, _, _, us, ads, ts, rfl, T7, t60, h12, nr, fun lv' n' qs' H8 s8 L' sq' mem' => ?_⟩
        refine ⟨rfl, _, rfl, ?_⟩
        rw [mLines_eq L L' (pp_unique sq sq' fun r => (mem r).trans (mem' r).symm), decide_eq_true rfl]
        refine iteF ?_
        exact ⟨_, rfl, _, rfl, p, ph, true, rfl, rfl, same _ (q7.trans s8), _, rfl, hQ _ s8⟩
      have T8 := T7.same s8
      try unfold tNext
      try dsimp only
      refine ⟨_, rfl, p, _, _, _, rfl, rfl, T8.p, rfl, by decide, fun c1 hc1 => ?_⟩
      have u1 := Same.new (o := .lst []) hc1
      refine ⟨by decide, fun c2 hc2 => ?_⟩
      have u2 := Same.new (o := .lst []) hc2
      refine ⟨by decide, fun c3 hc3 => ?_⟩
      have u3 := Same.new (o := .lst []) hc3
      refine ⟨by show 4 ≤ sizeLine; decide, fun pe hpe => ?_⟩
      have u4 := Same.new (o := .tup [.ref pm, .ref c1, .ref c2, .ref c3]) hpe
      have f1 := u4 _ _ (u3 _ _ (u2 _ _ (upd_same (H := H8) (a := c1) (o := .lst []))))
      have f2 := u4 _ _ (u3 _ _ (upd_same (H := upd H8 c1 (.lst [])) (a := c2) (o := .lst [])))
      refine ⟨pe, c1, c2, _, _, [], [], [], rfl, ⟨SqT.of upd_same, SqL.of f1, SqL.of f2, .nil, by simp, by decide, by decide, by simp⟩, by decide, by simp, (fun x hx => by rw [nokeys] at hx; cases hx), fun lv' n' qs' H9 s9 L' sq' mem' => ?_⟩
      have eq0 : qs' = [] := List.eq_nil_iff_forall_not_mem.mpr fun r hr => by
        have := ((mem' r).mp hr).1
        rw [nokeys] at this
        cases this
      subst eq0
      rw [nokeys] at L'
      have en := L'.zero
      subst en
      rw [nokeys]
      refine ⟨rfl, ?_⟩
      rw [show mLines [] lv' 0 [] = [] from rfl, nolines, decide_eq_true rfl]
      refine ⟨true, rfl, ?_⟩
      rw [if_pos rfl]
      have q9 := u1.trans (u2.trans (u3.trans (u4.trans s9)))
      refine ⟨_, rfl, p, pu, pt, _, _, us, ads, ts, rfl, T8.same q9, t60, h12, nr, fun lv2 n2 qs2 H10 s10 L2 sq2 mem2 => ?_⟩
      refine ⟨_, rfl, rfl, ?_⟩
      rw [mLines_eq L2 L (pp_unique sq2 sq fun r => (mem2 r).trans (mem r).symm), decide_eq_true rfl]
      exact k _
    · refine ifS_same false (fun Q' hQ => ?_) (fun H5 s5 => iteF ?_)
      · refine ⟨_, rfl, p, pu, pt, _, _, us, ads, ts, rfl, T4, t60, h12, fun z => absurd z nr, fun _ H5 s5 => ?_⟩
        refine ⟨_, rfl, p, pu, pt, _, _, us, ads, ts, rfl, T4.same s5, t60, h12, fun z => absurd z nr, fun _ H6 s6 => ?_⟩
        refine ⟨rfl, _, rfl, ?_⟩
        rw [decide_eq_true rfl]
        refine iteF ?_
        exact ⟨_, rfl, _, rfl, p, ph, true, rfl, rfl, same _ (s5.trans s6), _, rfl, hQ _ (s5.trans s6)⟩
      have T5 := T4.same s5
      try unfold tNext
      try dsimp only
      refine ifS_same true (fun Q' hQ => ?_) (fun H6 s6 => iteT ?_)
      · exact ⟨_, rfl, p, pu, pt, _, _, us, ads, ts, rfl, T5, t60, h12, fun z => absurd z nr, fun _ H6 s6 => ⟨_, rfl, hQ _ s6⟩⟩
      exact k _

end
end LK71
open PySem PySem.W PyProof.Rows
set_option maxRecDepth 100000 in
set_option maxHeartbeats 0 in
theorem PySem.Challenge.cw_digmatrix_k71_a_matrix_shown_holds : PySem.Challenge.rw_digmatrix_k71_a_matrix_shown.Holds := by
  w_on; o_law; k_head; (case hw => w_witness2)
  k_fill
  refine L2.law_walk (l := PySem.Challenge.rw_digmatrix_k71_a_matrix_shown) (k := LK71.kLaw) (x := "_law_script") (sp := fun K => LK71.sp_law (K := K)) rfl rfl ⟨rfl, by decide, by decide⟩ (fun w h Y => PySem.W.kIn_of Y) (fun K H a ns hl hS => ⟨a, ns, rfl, hS, hl, fun _ => rfl⟩) ?F
  case F =>
    intro w mg h KX G
    have T : ∃ C_DigError, ∃ C_Round, LK71.Tx (L2.KOf KX) mg w C_DigError C_Round := by
      dsimp only [L2.KOf]
      refine' LK71.Tx.ex ⟨?z0, ?z1, ?z2, ?z3, ?z4, ?z5, ?z6, ?z7, ?z8, ?z9, ?z10, ?z11, ?z12, ?z13, ?z14, ?z15, ?z16, ?z17, ?z18, ?z19, ?z20, ?z21, ?z22, ?z23, ?z24, ?z25, ?z26, ?z27, ?z28, ?z29, ?z30, ?z31, ?z32, ?z33, ?z34, ?z35, ?z36, ?z37, ?z38, ?z39, ?z40, ?z41, ?z42, ?z43, ?z44⟩
      case z0 => refine' L2.const_mk KX G ?x0; (case x0 => k_is)
      case z1 => refine' ⟨?x1, ?y1, ?u1⟩; (case x1 => k_is); (case y1 => k_is); (case u1 => k_is)
      case z2 => refine' L2.const_mk KX G ?x2; (case x2 => k_is)
      case z3 => refine' ⟨?x3, ?y3, ?u3⟩; (case x3 => k_is); (case y3 => k_is); (case u3 => k_is)
      case z4 => refine' L2.xcls_of ?x4 ?y4 ?u4 ?v4; (case x4 => k_is); (case y4 => rfl); (case u4 => k_is); (case v4 => k_is)
      case z5 => refine' L2.xok_at ?x5 ?y5; (case x5 => k_is); (case y5 => rfl)
      case z6 => refine' L2.dfm_mk (fun _ _ _ _ _ _ => L2.len2 fun _ _ => rfl) ?p6 ?q6 ?r6 ?s6 ?t6; (case p6 => k_is); (case q6 => k_is); (case r6 => k_is); (case s6 => k_is); (case t6 => k_is)
      case z7 => (unfold L2.NoAttr; k_is)
      case z8 => k_is
      case z9 => refine' L2.df_mk KX G (fun _ _ _ _ _ _ => L2.len2 fun _ _ => rfl) ?p9 ?q9 ?r9 ?s9; (case p9 => k_is); (case q9 => k_is); (case r9 => k_is); (case s9 => k_is)
      case z10 => refine' L2.df_mk KX G (fun _ _ _ _ _ _ => L2.len3 fun _ _ _ => rfl) ?p10 ?q10 ?r10 ?s10; (case p10 => k_is); (case q10 => k_is); (case r10 => k_is); (case s10 => k_is)
      case z11 => refine' L2.df_mk KX G (fun _ _ _ _ _ _ => L2.len2 fun _ _ => rfl) ?p11 ?q11 ?r11 ?s11; (case p11 => k_is); (case q11 => k_is); (case r11 => k_is); (case s11 => k_is)
      case z12 => refine' L2.df_mk KX G (fun _ _ _ _ _ _ => L2.len1 fun _ => rfl) ?p12 ?q12 ?r12 ?s12; (case p12 => k_is); (case q12 => k_is); (case r12 => k_is); (case s12 => k_is)
      case z13 => refine' L2.df_mk KX G (fun _ _ _ _ _ _ => L2.len1 fun _ => rfl) ?p13 ?q13 ?r13 ?s13; (case p13 => k_is); (case q13 => k_is); (case r13 => k_is); (case s13 => k_is)
      case z14 => refine' L2.df_mk KX G (fun _ _ _ _ _ _ => L2.len2 fun _ _ => rfl) ?p14 ?q14 ?r14 ?s14; (case p14 => k_is); (case q14 => k_is); (case r14 => k_is); (case s14 => k_is)
      case z15 => refine' L2.df_mk KX G (fun _ _ _ _ _ _ => L2.len1 fun _ => rfl) ?p15 ?q15 ?r15 ?s15; (case p15 => k_is); (case q15 => k_is); (case r15 => k_is); (case s15 => k_is)
      case z16 => refine' L2.df_mk KX G (fun _ _ _ _ _ _ => L2.len1 fun _ => rfl) ?p16 ?q16 ?r16 ?s16; (case p16 => k_is); (case q16 => k_is); (case r16 => k_is); (case s16 => k_is)
      case z17 => refine' L2.df_mk KX G (fun _ _ _ _ _ _ => L2.len2 fun _ _ => rfl) ?p17 ?q17 ?r17 ?s17; (case p17 => k_is); (case q17 => k_is); (case r17 => k_is); (case s17 => k_is)
      case z18 => refine' L2.df_mk KX G (fun _ _ _ _ _ _ => L2.len2 fun _ _ => rfl) ?p18 ?q18 ?r18 ?s18; (case p18 => k_is); (case q18 => k_is); (case r18 => k_is); (case s18 => k_is)
      case z19 => refine' L2.df_mk KX G (fun _ _ _ _ _ _ => L2.len1 fun _ => rfl) ?p19 ?q19 ?r19 ?s19; (case p19 => k_is); (case q19 => k_is); (case r19 => k_is); (case s19 => k_is)
      case z20 => refine' L2.df_mk KX G (fun _ _ _ _ _ _ => L2.len1 fun _ => rfl) ?p20 ?q20 ?r20 ?s20; (case p20 => k_is); (case q20 => k_is); (case r20 => k_is); (case s20 => k_is)
      case z21 => refine' L2.df_mk KX G (fun _ _ _ _ _ _ => L2.len3 fun _ _ _ => rfl) ?p21 ?q21 ?r21 ?s21; (case p21 => k_is); (case q21 => k_is); (case r21 => k_is); (case s21 => k_is)
      case z22 => refine' L2.df_mk KX G (fun _ _ _ _ _ _ => L2.len1 fun _ => rfl) ?p22 ?q22 ?r22 ?s22; (case p22 => k_is); (case q22 => k_is); (case r22 => k_is); (case s22 => k_is)
      case z23 => refine' L2.df_mk KX G (fun _ _ _ _ _ _ => L2.len1 fun _ => rfl) ?p23 ?q23 ?r23 ?s23; (case p23 => k_is); (case q23 => k_is); (case r23 => k_is); (case s23 => k_is)
      case z24 => refine' L2.df_mk KX G (fun _ _ _ _ _ _ => L2.len2 fun _ _ => rfl) ?p24 ?q24 ?r24 ?s24; (case p24 => k_is); (case q24 => k_is); (case r24 => k_is); (case s24 => k_is)
      case z25 => refine' L2.df_mk KX G (fun _ _ _ _ _ _ => L2.len2 fun _ _ => rfl) ?p25 ?q25 ?r25 ?s25; (case p25 => k_is); (case q25 => k_is); (case r25 => k_is); (case s25 => k_is)
      case z26 => refine' L2.df_mk KX G (fun _ _ _ _ _ _ => L2.len3 fun _ _ _ => rfl) ?p26 ?q26 ?r26 ?s26; (case p26 => k_is); (case q26 => k_is); (case r26 => k_is); (case s26 => k_is)
      case z27 => refine' L2.df_mk KX G (fun _ _ _ _ _ _ => L2.len3 fun _ _ _ => rfl) ?p27 ?q27 ?r27 ?s27; (case p27 => k_is); (case q27 => k_is); (case r27 => k_is); (case s27 => k_is)
      case z28 => refine' L2.df_mk KX G (fun _ _ _ _ _ _ => L2.len2 fun _ _ => rfl) ?p28 ?q28 ?r28 ?s28; (case p28 => k_is); (case q28 => k_is); (case r28 => k_is); (case s28 => k_is)
      case z29 => refine' L2.df_mk KX G (fun _ _ _ _ _ _ => L2.len1 fun _ => rfl) ?p29 ?q29 ?r29 ?s29; (case p29 => k_is); (case q29 => k_is); (case r29 => k_is); (case s29 => k_is)
      case z30 => refine' L2.df_mk KX G (fun _ _ _ _ _ _ => L2.len1 fun _ => rfl) ?p30 ?q30 ?r30 ?s30; (case p30 => k_is); (case q30 => k_is); (case r30 => k_is); (case s30 => k_is)
      case z31 => refine' L2.df_mk KX G (fun _ _ _ _ _ _ => L2.len1 fun _ => rfl) ?p31 ?q31 ?r31 ?s31; (case p31 => k_is); (case q31 => k_is); (case r31 => k_is); (case s31 => k_is)
      case z32 => refine' L2.df_mk KX G (fun _ _ _ _ _ _ => L2.len1 fun _ => rfl) ?p32 ?q32 ?r32 ?s32; (case p32 => k_is); (case q32 => k_is); (case r32 => k_is); (case s32 => k_is)
      case z33 => refine' L2.df_mk KX G (fun _ _ _ _ _ _ => L2.len1 fun _ => rfl) ?p33 ?q33 ?r33 ?s33; (case p33 => k_is); (case q33 => k_is); (case r33 => k_is); (case s33 => k_is)
      case z34 => refine' L2.df_mk KX G (fun _ _ _ _ _ _ => L2.len1 fun _ => rfl) ?p34 ?q34 ?r34 ?s34; (case p34 => k_is); (case q34 => k_is); (case r34 => k_is); (case s34 => k_is)
      case z35 => refine' L2.blt_mk KX G ?_; k_is
      case z36 => refine' L2.blt_mk KX G ?_; k_is
      case z37 => refine' L2.blt_mk KX G ?_; k_is
      case z38 => refine' L2.blt_mk KX G ?_; k_is
      case z39 => refine' L2.blt_mk KX G ?_; k_is
      case z40 => refine' L2.blt_mk KX G ?_; k_is
      case z41 => refine' L2.blt_mk KX G ?_; k_is
      case z42 => refine' L2.blt_mk KX G ?_; k_is
      case z43 => refine' L2.blt_mk KX G ?_; k_is
      case z44 => refine' L2.blt_mk KX G ?_; k_is
    obtain ⟨_, _, T⟩ := T
    exact fun base _ _ => LK71.h_law T
#print axioms PySem.Challenge.cw_digmatrix_k71_a_matrix_shown_holds

