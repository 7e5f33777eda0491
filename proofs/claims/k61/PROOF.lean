import PyProof.Rows.All
import Wide.All
import OpenK.AllK
import Wide.FinOn
import Lean
import PyProof.EqAt
import PyProof.EqKinds
import PyProof.TupleCall
import PyProof.ZipIter
import PyProof.DictWalks
import PyProof.StrOps2
import KE.IntTextLaws
import PyProof.StrBlockI
import PyProof.StrLawsIn
import PyProof.StrLawsChain
import PyProof.StrLawsTight
import PyProof.Rows.StrItems
import PyProof.ExcInit
import PyProof.ExcClass3
import PyProof.ExcBaseAll.ValueError
import PyProof.FString
import PyProof.Rows.FStr
import PyProof.RaisesMany
import PyProof.RulesAs
import PyProof.NsDelKeeps
import PyProof.ExcAttrAll.ValueError
import PyProof.AutoSeq1
import PyProof.WalkInts
import PyProof.Rows.SetFrom
import PyProof.SetKind
import PyProof.CollectWalk
import PyProof.MinMaxWalk
import PyProof.TupleKey
import PyProof.FString5
import KE.KDictOf
import PyProof.AttrMissHeap
import KE.KSortTup
import PyProof.MeetsSeq3
import PyProof.DictUpdate
import PyProof.Rows.SumAny
import PySem.Challenge.RW_digmatrix_k61_deeds
set_option Elab.async false
set_option linter.all false
set_option maxRecDepth 100000
/-! no twins are wanted of these: the compiled file would be too large -/
def PySem.W.Fast.tw2611295053245376701 : Unit := ()
def PySem.W.Fast.tw15615281482986310361 : Unit := ()
def PySem.W.Fast.tw8933334871894092906 : Unit := ()
def PySem.W.Fast.tw9739181019384801049 : Unit := ()
def PySem.W.Fast.tw3122521101442813617 : Unit := ()
def PySem.W.Fast.tw4334519243473004733 : Unit := ()
def PySem.W.Fast.tw11888385523825976831 : Unit := ()
def PySem.W.Fast.tw6332661271273471543 : Unit := ()
def PySem.W.Fast.tw3469115934815989761 : Unit := ()
def PySem.W.Fast.tw3885949880978596400 : Unit := ()
def PySem.W.Fast.tw258647341993715882 : Unit := ()
def PySem.W.Fast.tw10352666633030863444 : Unit := ()
def PySem.W.Fast.tw11851595283515041743 : Unit := ()
-- CHANGE: your row's module here, as the last of these rows
/-! THE HAND LAYER, for ints, bools, texts, own classes, LISTS and tuples (index, slices, in, append, pop ..), calls, loops. Paste it whole ahead of your own text; what your proof does not reach may be deleted. -/
namespace L2
open PySem PySem.Spec PyProof.Rows

/-- a key: an int or a str -/
abbrev Key := Sum Int Str
def keyIs : Key → Value → Bool
  | .inl k, v => Value.isInt k v
  | .inr x, v => Value.isStrOf x v
def keyH (w : World) : Key → Int
  | .inl k => hashInt k
  | .inr x => hashStr w x
theorem keyIs_shape : ∀ {k : Key} {v : Value}, keyIs k v = true → (∃ i t, k = Sum.inl i ∧ v = Value.int i t) ∨ (∃ x t, k = Sum.inr x ∧ v = Value.str x t)
  | .inl i, v, h => by
    obtain ⟨t, e⟩ := Value.isInt_shape (k := i) (v := v) h
    exact .inl ⟨i, t, rfl, e⟩
  | .inr x, v, h => by
    obtain ⟨t, e⟩ := Value.isStrOf_shape (x := x) (v := v) h
    exact .inr ⟨x, t, rfl, e⟩
theorem keyIs_int (i : Int) (t : Tok) : keyIs (.inl i) (.int i t) = true := by simp [keyIs, Value.isInt]
theorem keyIs_str (x : Str) (t : Tok) : keyIs (.inr x) (.str x t) = true := by simp [keyIs, Value.isStrOf]
theorem key_ll (a b : Int) : decide ((Sum.inl a : Key) = Sum.inl b) = (a == b) := by
  by_cases e : a = b
  · subst e; simp
  · have h : ¬ (Sum.inl a : Key) = Sum.inl b := fun q => e (Sum.inl.inj q)
    rw [decide_eq_false h]
    exact (beq_eq_false_iff_ne.mpr e).symm
theorem key_rr (a b : Str) : decide ((Sum.inr a : Key) = Sum.inr b) = decide (a = b) := by
  by_cases e : a = b
  · subst e; simp
  · have h : ¬ (Sum.inr a : Key) = Sum.inr b := fun q => e (Sum.inr.inj q)
    rw [decide_eq_false h, decide_eq_false e]
theorem key_lr (a : Int) (b : Str) : decide ((Sum.inl a : Key) = Sum.inr b) = false := decide_eq_false (fun q => nomatch q)
theorem key_rl (a : Str) (b : Int) : decide ((Sum.inr a : Key) = Sum.inl b) = false := decide_eq_false (fun q => nomatch q)

def mixKind (prog : Program) (w : World) : PySem.KeyKind prog w Key where
  is := keyIs
  hash := keyH w
  inj := fun v a b ha hb => by
    rcases keyIs_shape ha with ⟨i, t, rfl, rfl⟩ | ⟨x, t, rfl, rfl⟩
    · rcases keyIs_shape hb with ⟨j, u, rfl, e⟩ | ⟨y, u, rfl, e⟩
      · injection e with e1 _; rw [e1]
      · exact nomatch e
    · rcases keyIs_shape hb with ⟨j, u, rfl, e⟩ | ⟨y, u, rfl, e⟩
      · exact nomatch e
      · injection e with e1 _; rw [e1]
  byValue := fun k v h => by
    rcases keyIs_shape h with ⟨i, t, rfl, rfl⟩ | ⟨x, t, rfl, rfl⟩ <;> rfl
  pyHash := fun hv h => by
    rcases keyIs_shape hv with ⟨i, t, rfl, rfl⟩ | ⟨x, t, rfl, rfl⟩
    · exact wpAny_pyHash_int h
    · exact wpAny_pyHash_str h
  eqBool := fun hu hv h => by
    rcases keyIs_shape hu with ⟨i, t, rfl, rfl⟩ | ⟨x, t, rfl, rfl⟩
    · rcases keyIs_shape hv with ⟨j, u, rfl, rfl⟩ | ⟨y, u, rfl, rfl⟩
      · rw [key_ll] at h; exact wpAny_eqBool_int h
      · rw [key_lr] at h; exact SeqAt.EqAt.int_str i t y u _ _ _ _ h
    · rcases keyIs_shape hv with ⟨j, u, rfl, rfl⟩ | ⟨y, u, rfl, rfl⟩
      · rw [key_rl] at h; exact SeqAt.EqAt.str_int x t j u _ _ _ _ h
      · rw [key_rr] at h; exact wpAny_eqBool_str h
  «strs» := fun k x t v h => by
    rcases keyIs_shape h with ⟨i, u, rfl, e⟩ | ⟨y, u, rfl, e⟩
    · exact nomatch e
    · injection e with e1 _
      subst e1
      cases v <;> rfl

theorem mixKind_int (prog : Program) (w : World) (i : Int) (t : Tok) : (mixKind prog w).is (.inl i) (.int i t) = true := keyIs_int i t
theorem mixKind_str (prog : Program) (w : World) (x : Str) (t : Tok) : (mixKind prog w).is (.inr x) (.str x t) = true := keyIs_str x t
end L2

namespace L2
open PySem PySem.Spec PyProof.Rows

/-- a value, without the heap -/
inductive V where
  | non | bl (b : Bool) | int (i : Int) | str (x : Str) | byt (b : Array UInt8) | flt (b : UInt64) | ref (a : Addr) | ty (n : String)
  deriving DecidableEq

def RelV : V → Value → Prop
  | .non, u => u = Value.none
  | .bl b, u => u = Value.bool b
  | .int i, u => ∃ t, u = Value.int i t
  | .str x, u => ∃ t, u = Value.str x t
  | .byt b, u => ∃ t, u = Value.bytes b t
  | .flt b, u => ∃ t, u = Value.float b t
  | .ref a, u => u = Value.ref a
  | .ty n, u => u = Value.type n

abbrev Vals : List V → List Value → Prop := Paired RelV
theorem Vals.length {xs : List V} {us : List Value} (r : Vals xs us) : xs.length = us.length := Paired.length r
theorem Vals.get : ∀ {xs : List V} {us : List Value} {i : Nat} {x : V}, Vals xs us → xs[i]? = some x → ∃ u, us[i]? = some u ∧ RelV x u
  | _, _, _, _, .nil, e => by simp at e
  | _, _, 0, _, .cons r _, e => by simp at e; subst e; exact ⟨_, rfl, r⟩
  | _, _, i + 1, x, .cons _ t, e => by
    obtain ⟨u, h1, h2⟩ := Vals.get (i := i) (x := x) t (by simpa using e)
    exact ⟨u, by simpa using h1, h2⟩
theorem Vals.set {x : V} {u : Value} (r : RelV x u) : ∀ {xs : List V} {us : List Value} (i : Nat), Vals xs us → Vals (xs.set i x) (us.set i u)
  | _, _, _, .nil => .nil
  | _, _, 0, .cons _ t => .cons r t
  | _, _, i + 1, .cons q t => .cons q (Vals.set r i t)
theorem Vals.append : ∀ {xs ys : List V} {us ws : List Value}, Vals xs us → Vals ys ws → Vals (xs ++ ys) (us ++ ws)
  | _, _, _, _, .nil, s => s
  | _, _, _, _, .cons r t, s => .cons r (Vals.append t s)
theorem Vals.take : ∀ {xs : List V} {us : List Value} (n : Nat), Vals xs us → Vals (xs.take n) (us.take n)
  | _, _, 0, _ => .nil
  | _, _, _ + 1, .nil => .nil
  | _, _, n + 1, .cons r t => .cons r (Vals.take n t)
theorem Vals.drop : ∀ {xs : List V} {us : List Value} (n : Nat), Vals xs us → Vals (xs.drop n) (us.drop n)
  | _, _, 0, r => r
  | _, _, _ + 1, .nil => .nil
  | _, _, n + 1, .cons _ t => Vals.drop n t

def RelO : Option V → Option Value → Prop
  | some v, some u => RelV v u
  | none, none => True
  | _, _ => False
def KV {κ : Type} : List (κ × V) → List (κ × Value) → Prop := Paired fun (p : κ × V) (q : κ × Value) => p.1 = q.1 ∧ RelV p.2 q.2

/-- a key of a dict (00_mix): an int or a text -/
def kV : Key → V
  | .inl i => .int i
  | .inr x => .str x

/-- what stands at a tracked address -/
inductive HO where
  /-- a list -/
  | lst (xs : List V)
  /-- a tuple (never changes) -/
  | tup (xs : List V)
  /-- a dict whose keys are ints and texts; one whose keys are tuples of ints and texts (the empty one is both) -/
  | dK (kvs : List (Key × V)) | dT (kvs : List (List Key × V))
  /-- a set of ints: its members, its size -/
  | set (S : Int → Bool) (n : Nat)
  /-- an instance of the class at C, its dict at dx, its attributes -/
  | ins (C dx : Addr) (fs : List (Str × V))
  /-- the dict of the instance at x -/
  | own (x : Addr)
  /-- the dict of an exception -/
  | xd (fs : List (Str × V))
  /-- a bound method, f of x -/
  | met (f x : Addr)
  /-- a range object lo, lo + 1, .. below hi -/
  | rng (lo hi : Int)
  /-- a thing that is known to the object (the script; a dict while a loop walks it): read, never written while it is so -/
  | frz (o : Obj) (u : HO)
  /-- a code object's table -/
  | tbl (ps : Array Value)
  /-- any other thing, by what is true of its one object (a def of one's own: SetO a S n := HO.ext fun h => ..) -/
  | ext (φ : Heap → Prop)

abbrev Hp := Addr → Option HO
def upd (H : Hp) (a : Addr) (o : HO) : Hp := fun b => if b = a then some o else H b
theorem upd_same {H : Hp} {a : Addr} {o : HO} : upd H a o a = some o := by unfold upd; rw [if_pos rfl]
theorem upd_ne {H : Hp} {a b : Addr} {o : HO} (h : b ≠ a) : upd H a o b = H b := by unfold upd; rw [if_neg h]
theorem upd_upd {H : Hp} {a : Addr} {o u : HO} : upd (upd H a o) a u = upd H a u := by
  funext b; unfold upd; split <;> rfl
/-- two objects of different content stand apart -/
theorem ne_of {H : Hp} {a b : Addr} {o u : HO} (h : H a = some o) (h' : H b = some u) (d : o ≠ u) : a ≠ b := by
  intro e; subst e; rw [h] at h'; exact d (Option.some.inj h')
theorem ne_of_none {H : Hp} {a b : Addr} {o : HO} (h : H a = some o) (h' : H b = none) : a ≠ b := by
  intro e; subst e; rw [h] at h'; cases h'

section
variable (P : Program) (w : World)
def ObjOk (H : Hp) (h : Heap) (a : Addr) : HO → Prop
  | .lst xs => xs.length ≤ sizeLine ∧ ∃ (its : List Value) (n : Nat), Vals xs its ∧ h.get? a = some { cls := .type "list", data := .seq its.toArray n }
  | .tup xs => xs.length ≤ sizeLine ∧ ∃ its : List Value, Vals xs its ∧ IsTup h a its.toArray
  | .dK kvs => kvs.length ≤ sizeLine ∧ (a == sysModules) = false ∧ ∃ vs, KV kvs vs ∧ h.DictOf (mixKind P w) a vs
  | .dT kvs => kvs.length ≤ sizeLine ∧ (a == sysModules) = false ∧ ∃ xs : List (List Key × Addr × Value),
      Paired (fun (p : List Key × V) (q : List Key × Addr × Value) => p.1 = q.1 ∧ H q.2.1 = some (.tup (p.1.map kV)) ∧ RelV p.2 q.2.2) kvs xs ∧
      ∃ o es ep, h.get? a = some o ∧ o.ExactDict ∧ o.data = .dict es ep ∧ es.toList = xs.map (entryOfKey (tupleKind (mixKind P w))) ∧ (xs.map (·.1)).Nodup
  | .set S n => h.SetOf (intKind P w) a S n
  | .ins C dx fs => H dx = some (.own a) ∧ fs.length ≤ 1000 ∧ dx ≠ a ∧ h.get? a = some (PySem.W.instObj C dx) ∧
      ∃ mA, h.Ns1 dx mA ∧ (∀ f, RelO (fs.lookup f) (mA f)) ∧ PySem.Within mA (fs.map (·.1))
  | .own _ => ∃ o, h.get? a = some o
  | .xd fs => ∃ mA, h.Ns1 a mA ∧ ∀ f, RelO (fs.lookup f) (mA f)
  | .rng lo hi => ∃ t u v, h.get? a = some { cls := .type "range", data := .fields #[.int lo t, .int hi u, .int 1 v] }
  | .frz o u => h.get? a = some o ∧ ObjOk H h a u
  | .tbl ps => h.get? a = some { cls := .none, data := .fields ps }
  | .met f x => h.get? a = some (PySem.W.methodObj (.ref f) (.ref x))
  | .ext φ => φ h ∧ (∃ o, h.get? a = some o) ∧ ∀ h1 h2 : Heap, φ h1 → (∀ o, h1.get? a = some o → h2.get? a = some o) → φ h2
/-- the abstract heap is held -/
def HOk (H : Hp) (h : Heap) : Prop := ∀ a o, H a = some o → ObjOk P w H h a o
end

section
variable {P : Program} {w : World} {H H' : Hp} {h h' : Heap} {a : Addr} {o : HO}
theorem ObjOk.lt (x : ObjOk P w H h a o) : a < h.objs.size := by
  cases o with
  | lst xs => obtain ⟨_, _, _, _, e⟩ := x; exact Heap.lt_size e
  | tup xs => obtain ⟨_, _, _, p⟩ := x; exact p.lt
  | dK kvs => obtain ⟨_, _, _, _, o, _, _, e, _⟩ := x; exact Heap.lt_size e
  | dT kvs => obtain ⟨_, _, _, _, o, _, _, e, _⟩ := x; exact Heap.lt_size e
  | set S n => obtain ⟨o, _, _, _, e, _⟩ := x; exact Heap.lt_size e
  | ins C dx fs => obtain ⟨_, _, _, e, _⟩ := x; exact Heap.lt_size e
  | own y => obtain ⟨_, e⟩ := x; exact Heap.lt_size e
  | xd fs => obtain ⟨_, ⟨_, _, _, e, _⟩, _⟩ := x; exact Heap.lt_size e
  | rng lo hi => obtain ⟨_, _, _, e⟩ := x; exact Heap.lt_size e
  | frz ob u => obtain ⟨e, _⟩ := x; exact Heap.lt_size e
  | tbl ps => exact Heap.lt_size (show h.get? a = some _ from x)
  | met f y => exact Heap.lt_size (show h.get? a = some _ from x)
  | ext φ => obtain ⟨_, ⟨_, e⟩, _⟩ := x; exact Heap.lt_size e
theorem Paired.mapP {α β : Type} {F G : α → β → Prop} : ∀ {l₁ : List α} {l₂ : List β}, Paired F l₁ l₂ → (∀ a b, F a b → G a b) → Paired G l₁ l₂
  | _, _, .nil, _ => .nil
  | _, _, .cons r t, f => .cons (f _ _ r) (Paired.mapP t f)
/-- what an object's description leans on: its own object, its own dict, the tuples -/
theorem ObjOk.stay (x : ObjOk P w H h a o) (k : ∀ b u, (b = a ∨ H b = some (.own a)) → h.get? b = some u → h'.get? b = some u)
    (ho : ∀ b, H b = some (.own a) → H' b = some (.own a)) (ht : ∀ b xs, H b = some (.tup xs) → H' b = some (.tup xs)) : ObjOk P w H' h' a o := by
  induction o with
  | lst xs => obtain ⟨z, its, n, r, e⟩ := x; exact ⟨z, its, n, r, k _ _ (.inl rfl) e⟩
  | tup xs => obtain ⟨z, its, r, ob, e, c⟩ := x; exact ⟨z, its, r, ob, k _ _ (.inl rfl) e, c⟩
  | dK kvs => obtain ⟨z, y, vs, r, ob, es, ep, e, c⟩ := x; exact ⟨z, y, vs, r, ob, es, ep, k _ _ (.inl rfl) e, c⟩
  | dT kvs =>
    obtain ⟨z, y, xs, r, ob, es, ep, e, c⟩ := x
    exact ⟨z, y, xs, Paired.mapP r fun p q z => ⟨z.1, ht _ _ z.2.1, z.2.2⟩, ob, es, ep, k _ _ (.inl rfl) e, c⟩
  | set S n => obtain ⟨ob, es, ep, t, e, c⟩ := x; exact ⟨ob, es, ep, t, k _ _ (.inl rfl) e, c⟩
  | ins C dx fs =>
    obtain ⟨d, z, ne, e, mA, ⟨od, es, ep, e2, c⟩, r⟩ := x
    exact ⟨ho _ d, z, ne, k _ _ (.inl rfl) e, mA, ⟨od, es, ep, k _ _ (.inr d) e2, c⟩, r⟩
  | own y => obtain ⟨ob, e⟩ := x; exact ⟨ob, k _ _ (.inl rfl) e⟩
  | xd fs => obtain ⟨mA, ⟨od, es, ep, e, c⟩, r⟩ := x; exact ⟨mA, ⟨od, es, ep, k _ _ (.inl rfl) e, c⟩, r⟩
  | rng lo hi => obtain ⟨t, u, v, e⟩ := x; exact ⟨t, u, v, k _ _ (.inl rfl) e⟩
  | frz ob u ih => obtain ⟨e, q⟩ := x; exact ⟨k _ _ (.inl rfl) e, ih q⟩
  | tbl ps =>
    have e : h.get? a = some { cls := .none, data := .fields ps } := x
    show h'.get? a = some { cls := .none, data := .fields ps }
    exact k a _ (.inl rfl) e
  | met f y =>
    have e : h.get? a = some (PySem.W.methodObj (.ref f) (.ref y)) := x
    show h'.get? a = some (PySem.W.methodObj (.ref f) (.ref y))
    exact k a _ (.inl rfl) e
  | ext φ => obtain ⟨p, ⟨o, e⟩, st⟩ := x; exact ⟨st _ _ p fun o q => k _ _ (.inl rfl) q, ⟨o, k _ _ (.inl rfl) e⟩, st⟩
theorem HOk.lt (x : HOk P w H h) (e : H a = some o) : a < h.objs.size := (x a o e).lt
theorem HOk.fresh (x : HOk P w H h) (e : h.objs.size ≤ a) : H a = none := by
  cases q : H a with
  | none => rfl
  | some u => exact absurd (Nat.lt_of_lt_of_le (x.lt q) e) (Nat.lt_irrefl _)
/-- every object of the heap is kept -/
theorem HOk.kept (x : HOk P w H h) (k : ∀ b u, h.get? b = some u → h'.get? b = some u) : HOk P w H h' := fun a o e =>
  (x a o e).stay (fun b u _ q => k b u q) (fun _ q => q) fun _ _ q => q
/-- a new object is laid and tracked -/
theorem HOk.laid (x : HOk P w H h) (k : ∀ b u, h.get? b = some u → h'.get? b = some u) (hp : h.objs.size ≤ a) (new : ObjOk P w (upd H a o) h' a o) : HOk P w (upd H a o) h' := fun b u e => by
  have hn := x.fresh hp
  by_cases hb : b = a
  · subst hb; rw [upd_same] at e; cases e; exact new
  · rw [upd_ne hb] at e
    exact (x b u e).stay (fun c v _ q => k c v q) (fun c q => by rw [upd_ne (ne_of_none q hn)]; exact q) fun c xs q => by rw [upd_ne (ne_of_none q hn)]; exact q
end

/-- what may be read as u: it is u, or a known u -/
def Rd (H : Hp) (a : Addr) (u : HO) : Prop := H a = some u ∨ ∃ o, H a = some (.frz o u)
theorem Rd.ok {P : Program} {w : World} {H : Hp} {h : Heap} {a : Addr} {u : HO} (r : Rd H a u) (x : HOk P w H h) : ObjOk P w H h a u := by
  rcases r with r | ⟨o, r⟩
  · exact x a u r
  · obtain ⟨_, q⟩ := x a _ r
    exact q
/-- what may be written -/
def Mut : Option HO → Prop
  | some (.lst _) => True
  | some (.dK _) => True
  | some (.dT _) => True
  | some (.set _ _) => True
  | some (.ins _ _ _) => True
  | some (.ext _) => True
  | _ => False
section
variable {P : Program} {w : World} {H : Hp} {h h' : Heap} {x e : Addr} {o' : HO}
/-- the object at e is changed: x itself, or the dict of the instance x -/
theorem HOk.write (ok : HOk P w H h) (mu : Mut (H x)) (he : e = x ∨ H e = some (.own x)) (k : ∀ b u, b ≠ e → h.get? b = some u → h'.get? b = some u) (heo : ∃ u, h'.get? e = some u)
    (new : ObjOk P w (upd H x o') h' x o') : HOk P w (upd H x o') h' := fun b u q => by
  have nown : ∀ c y, H c = some (.own y) → c ≠ x := fun c y r z => by subst z; rw [r] at mu; exact mu
  have ntup : ∀ c xs, H c = some (.tup xs) → c ≠ x := fun c xs r z => by subst z; rw [r] at mu; exact mu
  by_cases hb : b = x
  · subst hb; rw [upd_same] at q; cases q; exact new
  · rw [upd_ne hb] at q
    by_cases hbe : b = e
    · have q' : H b = some (.own x) := by
        rcases he with z | z
        · exact absurd (hbe.trans z) hb
        · rw [hbe]; exact z
      rw [q] at q'; cases q'
      obtain ⟨v, hv⟩ := heo
      exact ⟨v, by rw [hbe]; exact hv⟩
    · refine (ok b u q).stay (fun c v hc r => k c v ?_ r) (fun c r => by rw [upd_ne (nown c b r)]; exact r) fun c xs r => by rw [upd_ne (ntup c xs r)]; exact r
      rcases hc with rfl | hc
      · exact hbe
      · rintro rfl
        rcases he with z | z
        · exact nown c b hc z
        · rw [hc] at z; cases z; exact hb rfl
end

/-! ### kept unless tracked; of the frames at fs (the callers') the slots may change (an exception that passes writes there); of the records at ex (iterators) nothing is said -/
structure Un (fs ex : List Addr) (H H' : Hp) (h h' : Heap) : Prop where
  keep : ∀ b o, h.get? b = some o → H b = none → b ∉ fs → b ∉ ex → h'.get? b = some o
  slot : ∀ b o, h.get? b = some o → H b = none → b ∈ fs → b ∉ ex → ∃ sl, h'.get? b = some { o with slots := sl }
  free : ∀ b o, h.get? b = some o → H b = none → b ∉ ex → H' b = none
  there : ∀ b o, h.get? b = some o → b ∉ ex → ∃ o', h'.get? b = some o'
  tups : ∀ b xs, H b = some (.tup xs) → H' b = some (.tup xs)
  frzs : ∀ b o u, H b = some (.frz o u) → H' b = some (.frz o u)
  tbls : ∀ b ps, H b = some (.tbl ps) → ∃ more, H' b = some (.tbl (ps ++ more))
section
variable {fs fs' ex ex' : List Addr} {H H1 H2 : Hp} {h h1 h2 h' : Heap} {a x e : Addr} {o : HO}
theorem Un.any (u : Un fs ex H H1 h h1) {b : Addr} {ob : Obj} (q : h.get? b = some ob) (n : H b = none) (hx : b ∉ ex) : ∃ sl, h1.get? b = some { ob with slots := sl } := by
  by_cases hb : b ∈ fs
  · exact u.slot b ob q n hb hx
  · exact ⟨ob.slots, u.keep b ob q n hb hx⟩
theorem Un.kept (k : ∀ b u, h.get? b = some u → h'.get? b = some u) : Un fs ex H H h h' :=
  ⟨fun b ob q _ _ _ => k b ob q, fun b ob q _ _ _ => ⟨ob.slots, k b ob q⟩, fun _ _ _ n _ => n, fun b ob q _ => ⟨ob, k b ob q⟩, fun _ _ q => q, fun _ _ _ q => q, fun _ ps q => ⟨#[], by rw [q]; simp⟩⟩
theorem Un.refl : Un fs ex H H h h := Un.kept fun _ _ q => q
theorem Un.laid (k : ∀ b u, h.get? b = some u → h'.get? b = some u) (hp : h.objs.size ≤ a) (hn : H a = none) : Un fs ex H (upd H a o) h h' where
  keep := fun b u q _ _ _ => k b u q
  slot := fun b u q _ _ _ => ⟨u.slots, k b u q⟩
  free := fun b u q n _ => by rw [upd_ne (Nat.ne_of_lt (Nat.lt_of_lt_of_le (Heap.lt_size q) hp))]; exact n
  there := fun b u q _ => ⟨u, k b u q⟩
  tups := fun b xs q => by rw [upd_ne (ne_of_none q hn)]; exact q
  frzs := fun b u xs q => by rw [upd_ne (ne_of_none q hn)]; exact q
  tbls := fun b ps q => ⟨#[], by rw [upd_ne (ne_of_none q hn), q]; simp⟩
theorem Un.write (mu : Mut (H x)) (he : e = x ∨ H e = some (.own x)) (k : ∀ b u, b ≠ e → h.get? b = some u → h'.get? b = some u) (heo : ∃ u, h'.get? e = some u) : Un fs ex H (upd H x o) h h' := by
  have hx : ∀ b, H b = none → b ≠ x := fun b n z => by subst z; rw [n] at mu; exact mu
  have hb : ∀ b, H b = none → b ≠ e := fun b n z => by
    subst z
    rcases he with r | r
    · exact hx b n r
    · rw [n] at r; cases r
  have hm : ∀ b u, H b = some u → ¬ Mut (some u) → b ≠ x := fun b u q nm z => by subst z; rw [q] at mu; exact nm mu
  refine ⟨fun b u q n _ _ => k b u (hb b n) q, fun b u q n _ _ => ⟨u.slots, k b u (hb b n) q⟩, fun b u q n _ => by rw [upd_ne (hx b n)]; exact n, fun b u q _ => ?_,
    fun b xs q => by rw [upd_ne (hm b _ q fun z => z)]; exact q, fun b u xs q => by rw [upd_ne (hm b _ q fun z => z)]; exact q, fun b ps q => ⟨#[], by rw [upd_ne (hm b _ q fun z => z), q]; simp⟩⟩
  by_cases hbe : b = e
  · subst hbe; exact heo
  · exact ⟨u, k b u hbe q⟩
end

/-! ### the heap without what is tracked -/
def trk (h : Heap) (H : Hp) : List Addr := (List.range h.objs.size).filter fun a => (H a).isSome
def hidT (h : Heap) (H : Hp) : Heap := PySem.W.hideAll h (trk h H)
theorem hidT_size (h : Heap) (H : Hp) : (hidT h H).objs.size = h.objs.size := PySem.W.hideAll_size _ _
theorem hidT_get {h : Heap} {H : Hp} {b : Addr} {o : Obj} (e : h.get? b = some o) (n : H b = none) : (hidT h H).get? b = some o :=
  PySem.W.hideAll_get _ e fun hm => by
    have q : (H b).isSome = true := (List.mem_filter.mp hm).2
    rw [n] at q; simp at q
theorem of_hidT {h : Heap} {H : Hp} {b : Addr} {o : Obj} (e : (hidT h H).get? b = some o) : h.get? b = some o ∧ H b = none := by
  have e' : h.get? b = some o := PySem.W.of_hideAll (trk h H) e
  refine ⟨e', ?_⟩
  cases q : H b with
  | none => rfl
  | some x =>
    have hm : b ∈ trk h H := List.mem_filter.mpr ⟨List.mem_range.mpr (Heap.lt_size e'), by simp [q]⟩
    have z : (hidT h H).get? b = none := PySem.W.hideAll_none (trk h H) hm
    rw [z] at e; cases e

/-! ### OpenK's ledger, filled with every new object but one -/
def allNews (g h : Heap) (L : Addr) : List (Addr × Obj) := (List.range h.objs.size).filterMap fun a => if a = L ∨ (g.get? a).isSome = true then none else (h.get? a).map fun o => (a, o)
def rest (g h : Heap) (L d : Addr) : List (Addr × Obj) := (allNews g h L).filter fun p => decide (p.1 ≠ d)
end L2

namespace L2
open PySem PySem.Spec PyProof.Rows

/-- the module's facts, over the base: the heap at the law's entry without what is tracked there -/
structure Mod (K : PySem.W.Frag) (mg : Str → Option Value) (base : Heap) : Prop where
  kin : K.In base
  glob : base.Ns mainGlobals mg
  blt : ∃ mb, base.Ns builtinsNs mb ∧ ∀ x : Str, x ≠ "__name__" → mb x = bootBuiltins x
  nolimit : base.NoLimit

/-- the context: a def's body (or a comprehension's block) running. base: fixed through the whole law; s₀, H₀: the entry; outer: the frames whose slots others may change (a def's callers); stack: all frames that run;
   ex: iterators that were made ahead of the entry and are walked here (a comprehension's); fn: the names whose cells were made at the entry (a def: all; a comprehension's block: its own); calm: not within an except suite; pn: pins that every state bears; xe: what is wanted of an exception that leaves the code -/
structure Cx where
  prog : Program
  w : World
  K : PySem.W.Frag
  mg : Str → Option Value
  base : Heap
  A : Around
  N : List Str
  s₀ : Shared
  H₀ : Hp
  env : Env
  outer : List Env
  stack : List Env
  ex : List Addr
  fn : Str → Bool
  calm : Bool
  pn : List (Addr × Obj)
  xe : Value → Shared → Prop
/-- the callers' frames -/
def frs (l : List Env) : List Addr := l.filterMap (·.frame)
abbrev Cx.fs (X : Cx) : List Addr := frs X.outer

def Vis (sc : Scope) (x : Str) : Prop := sc.names.lookup x = some .local ∨ sc.names.lookup x = some .cell ∨ sc.names.lookup x = some .free
def Loc (sc : Scope) (x : Str) : Prop := sc.names.lookup x = some .local ∨ sc.names.lookup x = some .cell
def Look (env : Env) (h : Heap) (m : Str → Option Value) (x : Str) (u : Value) : Prop :=
  (env.kindOf x = some .local ∧ m x = some u) ∨ ((env.kindOf x = some .cell ∨ env.kindOf x = some .free) ∧ ∃ c, env.cells.lookup x = some c ∧ h.IsCell c (some u))

structure Cx.Ok (X : Cx) : Prop where
  mod : Mod X.K X.mg X.base
  kind : X.env.scope.kind = .function
  glob : X.env.globals = mainGlobals
  blt : X.env.builtins = builtinsNs
  above : X.s₀.heap.objs.size ≤ X.env.locals
  inj : ∀ x y c, X.env.cells.lookup x = some c → X.env.cells.lookup y = some c → x = y
  has : ∀ x, (X.env.kindOf x = some .cell ∨ X.env.kindOf x = some .free) → ∃ c, X.env.cells.lookup x = some c
  cab : ∀ x c, X.fn x = true → X.env.cells.lookup x = some c → X.s₀.heap.objs.size ≤ c
  hd : X.calm = true → X.A.handled = none
  frames : X.A.frames = some X.stack
  stk : X.stack = X.outer ∨ (X.stack = X.env :: X.outer ∧ X.env.frame = some X.env.locals)
  exf : ∀ b ∈ X.ex, b ≠ X.env.locals ∧ ∀ x c, X.env.cells.lookup x = some c → c ≠ b
  bs : ∀ b o, X.base.get? b = some o → X.s₀.heap.get? b = some o ∧ X.H₀ b = none
  bsz : X.base.objs.size ≤ X.s₀.heap.objs.size
  noex : ∀ b o, X.base.get? b = some o → b ∉ X.ex
  exfs : ∀ b ∈ X.ex, b ∉ X.fs
  funs : X.s₀.heap.FunFrames X.base X.outer
  frf : ∀ b ∈ X.fs, X.H₀ b = none

structure Inv (X : Cx) (pins : List (Addr × Obj)) (σ : List (Option V)) (H : Hp) (s : Shared) : Prop where
  ok : X.Ok
  os : s.os = X.s₀.os
  bare : AllBare s.gens
  base : Un X.fs X.ex X.H₀ H X.s₀.heap s.heap
  loc : ∃ m, s.heap.Ns X.env.locals m ∧ ∀ (i : Nat) (x : Str) (v : V), X.N[i]? = some x → σ[i]? = some (some v) → Vis X.env.scope x → ∃ u, RelV v u ∧ Look X.env s.heap m x u
  cell : ∀ x c, X.env.cells.lookup x = some c → ∃ v, s.heap.IsCell c v
  free : H X.env.locals = none
  freeC : ∀ x c, X.env.cells.lookup x = some c → H c = none
  pin : ∀ p ∈ X.pn ++ pins, s.heap.get? p.1 = some p.2 ∧ H p.1 = none ∧ p.1 ≠ X.env.locals ∧ p.1 ∉ X.fs ∧ ∀ v, p.2.data ≠ .cell v
  hok : HOk X.prog X.w H s.heap
  len : σ.length = X.N.length

section
variable {X : Cx} {pins : List (Addr × Obj)} {σ : List (Option V)} {H H' : Hp} {s : Shared} {h' : Heap}

theorem Cx.Ok.nofr (ok : X.Ok) {b : Addr} {o : Obj} (e : X.base.get? b = some o) : b ∉ X.fs := fun hb => by
  have := (ok.funs.mem hb).1
  rw [e] at this; cases this
theorem Inv.bs (I : Inv X pins σ H s) : ∀ b o, X.base.get? b = some o → s.heap.get? b = some o ∧ H b = none := fun b o e =>
  ⟨I.base.keep b o (I.ok.bs b o e).1 (I.ok.bs b o e).2 (I.ok.nofr e) (I.ok.noex b o e), I.base.free b o (I.ok.bs b o e).1 (I.ok.bs b o e).2 (I.ok.noex b o e)⟩
theorem Inv.bk (I : Inv X pins σ H s) : ∀ b o, X.base.get? b = some o → s.heap.get? b = some o := fun b o e => (I.bs b o e).1
theorem Inv.mod (I : Inv X pins σ H s) : Mod X.K X.mg X.base := I.ok.mod
theorem Inv.kIn (I : Inv X pins σ H s) : X.K.In s.heap := I.ok.mod.kin.keeps I.bk
theorem Inv.lt (I : Inv X pins σ H s) : X.env.locals < s.heap.objs.size := let ⟨_, hn, _⟩ := I.loc; hn.lt
theorem Inv.sz (I : Inv X pins σ H s) : X.s₀.heap.objs.size ≤ s.heap.objs.size := Nat.le_trans I.ok.above (Nat.le_of_lt I.lt)
theorem Inv.nofs (I : Inv X pins σ H s) {a : Addr} (h : s.heap.objs.size ≤ a) : a ∉ X.fs := fun hb => by
  obtain ⟨_, o, ho, _⟩ := I.ok.funs.mem hb
  exact absurd (Nat.lt_of_lt_of_le (Heap.lt_size ho) (Nat.le_trans I.sz h)) (Nat.lt_irrefl _)
theorem Inv.cne (I : Inv X pins σ H s) : ∀ x c, X.env.cells.lookup x = some c → c ≠ X.env.locals := fun x c e z => by
  obtain ⟨v, o, ho, hd⟩ := I.cell x c e
  obtain ⟨m, ⟨o', es, ep, ho', hd', _⟩, _⟩ := I.loc
  rw [z, ho'] at ho; cases ho; rw [hd'] at hd; cases hd
theorem Inv.funs (I : Inv X pins σ H s) : s.heap.FunFrames X.base X.outer := by
  have all : ∀ (l : List Env), (∀ b ∈ frs l, b ∈ X.fs) → X.s₀.heap.FunFrames X.base l → s.heap.FunFrames X.base l := by
    intro l
    induction l with
    | nil => intro _ _; trivial
    | cons env r ih =>
      intro hs hl
      obtain ⟨hk, ⟨L, o, hf, hn, ho, hd⟩, hr⟩ := hl
      have hL : L ∈ X.fs := hs L (by unfold frs; rw [List.filterMap_cons, hf]; exact List.mem_cons_self)
      obtain ⟨sl, e⟩ := I.base.slot L o ho (I.ok.frf L hL) hL fun z => I.ok.exfs L z hL
      exact ⟨hk, ⟨L, _, hf, hn, e, hd⟩, ih (fun b hb => hs b (by unfold frs; rw [List.filterMap_cons, hf]; exact List.mem_cons_of_mem _ hb)) hr⟩
  exact all X.outer (fun _ hb => hb) I.ok.funs

/-- the frames that run, for a call -/
theorem Inv.stack (I : Inv X pins σ H s) : s.heap.FunFrames X.base X.stack := by
  rcases I.ok.stk with e | ⟨e, hf⟩
  · rw [e]; exact I.funs
  · rw [e]
    obtain ⟨m, hn, _⟩ := I.loc
    refine .cons (by rw [I.ok.kind]; decide) hf hn ?_ I.funs
    exact Heap.get?_none_of_le (Nat.le_trans I.ok.bsz I.ok.above)
theorem Inv.stkSub (I : Inv X pins σ H s) : ∀ b ∈ frs X.stack, b ∈ X.env.locals :: X.fs := fun b hb => by
  rcases I.ok.stk with e | ⟨e, hf⟩
  · rw [e] at hb; exact List.mem_cons_of_mem _ hb
  · rw [e] at hb
    unfold frs at hb
    rw [List.filterMap_cons, hf] at hb
    exact hb
theorem Inv.stkFree (I : Inv X pins σ H s) : ∀ b ∈ frs X.stack, H b = none := fun b hb => by
  rcases List.mem_cons.mp (I.stkSub b hb) with e | hb
  · rw [e]; exact I.free
  · obtain ⟨_, o, ho, _⟩ := I.ok.funs.mem hb
    exact I.base.free b o ho (I.ok.frf b hb) fun z => I.ok.exfs b z hb

/-- THE STEP: the untracked objects but the frame and the records at ch are kept (the callers' frames up to slots), the frame's map is kept, the new abstract heap is held -/
theorem Inv.step {g' : Array GenState} {t' : Nat} {d' : Drawn} {ch : List Addr} (I : Inv X pins σ H s)
    (hch : ∀ b ∈ ch, (b ∈ X.ex ∨ X.s₀.heap.objs.size ≤ b) ∧ b ≠ X.env.locals ∧ (∀ x c, X.env.cells.lookup x = some c → c ≠ b) ∧ ∀ p ∈ X.pn ++ pins, p.1 ≠ b)
    (keep : ∀ b o, b ≠ X.env.locals → b ∉ X.fs → b ∉ ch → s.heap.get? b = some o → H b = none → h'.get? b = some o)
    (slot : ∀ b o, b ≠ X.env.locals → b ∈ X.fs → b ∉ ch → s.heap.get? b = some o → H b = none → ∃ sl, h'.get? b = some { o with slots := sl }) (free : ∀ b o, b ∉ ch → s.heap.get? b = some o → H b = none → H' b = none)
    (there : ∀ b o, b ∉ ch → s.heap.get? b = some o → ∃ o', h'.get? b = some o')
    (tups : ∀ b xs, H b = some (.tup xs) → H' b = some (.tup xs)) (frzs : ∀ b o u, H b = some (.frz o u) → H' b = some (.frz o u)) (tbls : ∀ b ps, H b = some (.tbl ps) → ∃ more, H' b = some (.tbl (ps ++ more)))
    (ns : ∀ m, s.heap.Ns X.env.locals m → h'.Ns X.env.locals m) (hok : HOk X.prog X.w H' h') (hg : AllBare g') :
    Inv X pins σ H' { s with heap := h', gens := g', drawn := d', toks := t' } := by
  have neL : ∀ b o, X.s₀.heap.get? b = some o → b ≠ X.env.locals := fun b o e => Nat.ne_of_lt (Nat.lt_of_lt_of_le (Heap.lt_size e) I.ok.above)
  have neC : ∀ b o, X.s₀.heap.get? b = some o → b ∉ X.ex → b ∉ ch := fun b o e hx hb => by
    rcases (hch b hb).1 with z | z
    · exact hx z
    · exact absurd (Nat.lt_of_lt_of_le (Heap.lt_size e) z) (Nat.lt_irrefl _)
  have cellK : ∀ x c, X.env.cells.lookup x = some c → ∀ v, s.heap.IsCell c v → h'.IsCell c v := fun x c e v ⟨o, ho, hd⟩ => by
    have nch : c ∉ ch := fun z => (hch c z).2.2.1 x c e rfl
    by_cases hc : c ∈ X.fs
    · obtain ⟨sl, q⟩ := slot c o (I.cne x c e) hc nch ho (I.freeC x c e)
      exact ⟨_, q, hd⟩
    · exact ⟨o, keep c o (I.cne x c e) hc nch ho (I.freeC x c e), hd⟩
  refine ⟨I.ok, I.os, hg, ⟨fun b o e n hb hx => ?_, fun b o e n hb hx => ?_, fun b o e n hx => ?_, fun b o e hx => ?_, fun b xs e => tups b xs (I.base.tups b xs e), fun b o xs e => frzs b o xs (I.base.frzs b o xs e), fun b ps e => ?_⟩, ?_, fun x c e => ?_, ?_, fun x c e => ?_, fun p hp => ?_, hok, I.len⟩
  · exact keep b o (neL b o e) hb (neC b o e hx) (I.base.keep b o e n hb hx) (I.base.free b o e n hx)
  · obtain ⟨sl, e1⟩ := I.base.slot b o e n hb hx
    obtain ⟨sl', e2⟩ := slot b _ (neL b o e) hb (neC b o e hx) e1 (I.base.free b o e n hx)
    exact ⟨sl', e2⟩
  · obtain ⟨o', e1⟩ := I.base.there b o e hx
    exact free b o' (neC b o e hx) e1 (I.base.free b o e n hx)
  · obtain ⟨o', e1⟩ := I.base.there b o e hx
    exact there b o' (neC b o e hx) e1
  · obtain ⟨m1, e1⟩ := I.base.tbls b ps e
    obtain ⟨m2, e2⟩ := tbls b _ e1
    exact ⟨m1 ++ m2, by rw [e2, Array.append_assoc]⟩
  · obtain ⟨m, hn, hl⟩ := I.loc
    refine ⟨m, ns m hn, fun i x v e1 e2 e3 => ?_⟩
    obtain ⟨u, r, l⟩ := hl i x v e1 e2 e3
    refine ⟨u, r, ?_⟩
    rcases l with l | ⟨k, c, e, z⟩
    · exact .inl l
    · exact .inr ⟨k, c, e, cellK x c e _ z⟩
  · obtain ⟨v, z⟩ := I.cell x c e
    exact ⟨v, cellK x c e v z⟩
  · obtain ⟨m, ⟨o, _, _, ho, _⟩, _⟩ := I.loc
    exact free _ o (fun z => (hch _ z).2.1 rfl) ho I.free
  · obtain ⟨v, o, ho, hd⟩ := I.cell x c e
    exact free c o (fun z => (hch c z).2.2.1 x c e rfl) ho (I.freeC x c e)
  · obtain ⟨e, n, ne, nf, d⟩ := I.pin p hp
    have nch : p.1 ∉ ch := fun z => (hch p.1 z).2.2.2 p hp rfl
    exact ⟨keep p.1 p.2 ne nf nch e n, free p.1 p.2 nch e n, ne, nf, d⟩
/-- .. where the frame's own object is kept too -/
theorem Inv.un {t' : Nat} (I : Inv X pins σ H s) (u : Un X.fs [] H H' s.heap h') (hok : HOk X.prog X.w H' h') : Inv X pins σ H' { s with heap := h', toks := t' } := by
  obtain ⟨m, ⟨o, es, ep, ho, r⟩, _⟩ := id I.loc
  obtain ⟨sl, hL⟩ := u.any ho I.free (by simp)
  exact I.step (g' := s.gens) (d' := s.drawn) (ch := []) (fun _ z => nomatch z) (fun b o _ hb _ e n => u.keep b o e n hb (by simp)) (fun b o _ hb _ e n => u.slot b o e n hb (by simp)) (fun b o _ e n => u.free b o e n (by simp)) (fun b o _ e => u.there b o e (by simp)) u.tups u.frzs u.tbls (fun m' hm => by
    obtain ⟨o', es', ep', ho', r'⟩ := hm
    rw [ho] at ho'; cases ho'
    exact ⟨_, es', ep', hL, r'⟩) hok I.bare
/-- behind a call (or a comprehension's block): the slots of this frame may have changed too, the records at ch may have turned -/
theorem Inv.call {g' : Array GenState} {t' : Nat} {d' : Drawn} {ch : List Addr} (I : Inv X pins σ H s) (u : Un (frs X.stack) ch H H' s.heap h') (hok : HOk X.prog X.w H' h') (hg : AllBare g')
    (hch : ∀ b ∈ ch, (b ∈ X.ex ∨ X.s₀.heap.objs.size ≤ b) ∧ b ≠ X.env.locals ∧ (∀ x c, X.env.cells.lookup x = some c → c ≠ b) ∧ ∀ p ∈ X.pn ++ pins, p.1 ≠ b) :
    Inv X pins σ H' { s with heap := h', gens := g', drawn := d', toks := t' } := by
  obtain ⟨m, ⟨o, es, ep, ho, r⟩, _⟩ := id I.loc
  obtain ⟨sl, hL⟩ := u.any ho I.free fun z => (hch _ z).2.1 rfl
  exact I.step (ch := ch) hch (fun b o hL hb hc e n => u.keep b o e n (fun z => (List.mem_cons.mp (I.stkSub b z)).elim hL hb) hc) (fun b o _ _ hc e n => u.any e n hc) (fun b o hc e n => u.free b o e n hc) (fun b o hc e => u.there b o e hc) u.tups u.frzs u.tbls (fun m' hm => by
    obtain ⟨o', es', ep', ho', r'⟩ := hm
    rw [ho] at ho'; cases ho'
    exact ⟨_, es', ep', hL, r'⟩) hok hg
/-- an untracked record of ours (an iterator) has turned -/
theorem Inv.turned {t' : Nat} {it : Addr} (I : Inv X pins σ H s) (k : ∀ b o, b ≠ it → s.heap.get? b = some o → h'.get? b = some o) (hn : H it = none) (hL : it ≠ X.env.locals)
    (h1 : it ∈ X.ex ∨ X.s₀.heap.objs.size ≤ it) (h2 : ∀ x c, X.env.cells.lookup x = some c → c ≠ it) (h3 : ∀ p ∈ X.pn ++ pins, p.1 ≠ it) : Inv X pins σ H { s with heap := h', toks := t' } := by
  have nit : ∀ b u, H b = some u → b ≠ it := fun b u e z => by rw [z, hn] at e; cases e
  refine I.step (g' := s.gens) (d' := s.drawn) (ch := [it]) (fun b hb => ?_) (fun b o _ _ hc e _ => k b o (fun z => hc (by simp [z])) e) (fun b o _ _ hc e _ => ⟨o.slots, k b o (fun z => hc (by simp [z])) e⟩) (fun _ _ _ _ n => n)
    (fun b o hc e => ⟨o, k b o (fun z => hc (by simp [z])) e⟩) (fun _ _ e => e) (fun _ _ _ e => e) (fun b ps e => ⟨#[], by rw [e]; simp⟩) (fun m hm => ?_) (fun b u e => ?_) I.bare
  · have e : b = it := by simpa using hb
    subst e
    exact ⟨h1, hL, h2, h3⟩
  · obtain ⟨o, es, ep, ho, r⟩ := hm
    exact ⟨o, es, ep, k _ o (Ne.symm hL) ho, r⟩
  · refine (I.hok b u e).stay (fun c v hc q => k c v ?_ q) (fun _ q => q) fun _ _ q => q
    rcases hc with z | z
    · rw [z]; exact nit b u e
    · exact nit c _ z
theorem Inv.tok (I : Inv X pins σ H s) (t : Nat) : Inv X pins σ H { s with toks := t } := I.un (h' := s.heap) (t' := t) Un.refl I.hok
/-- all objects kept -/
theorem Inv.kept {t' : Nat} (I : Inv X pins σ H s) (k : ∀ b u, s.heap.get? b = some u → h'.get? b = some u) : Inv X pins σ H { s with heap := h', toks := t' } := I.un (Un.kept k) (I.hok.kept k)
/-- a new object laid and tracked -/
theorem Inv.laid {a : Addr} {o : HO} {t' : Nat} (I : Inv X pins σ H s) (k : ∀ b u, s.heap.get? b = some u → h'.get? b = some u) (hp : s.heap.objs.size ≤ a) (new : ObjOk X.prog X.w (upd H a o) h' a o) :
    Inv X pins σ (upd H a o) { s with heap := h', toks := t' } := I.un (Un.laid k hp (I.hok.fresh hp)) (I.hok.laid k hp new)
/-- an object written -/
theorem Inv.write {x e : Addr} {o : HO} {t' : Nat} (I : Inv X pins σ H s) (mu : Mut (H x)) (he : e = x ∨ H e = some (.own x)) (k : ∀ b u, b ≠ e → s.heap.get? b = some u → h'.get? b = some u) (heo : ∃ u, h'.get? e = some u)
    (new : ObjOk X.prog X.w (upd H x o) h' x o) : Inv X pins σ (upd H x o) { s with heap := h', toks := t' } := I.un (Un.write mu he k heo) (I.hok.write mu he k heo new)
theorem Inv.pins_of {pins' : List (Addr × Obj)} (I : Inv X pins σ H s) (h : ∀ p ∈ pins', s.heap.get? p.1 = some p.2 ∧ H p.1 = none ∧ p.1 ≠ X.env.locals ∧ p.1 ∉ X.fs ∧ ∀ v, p.2.data ≠ .cell v) : Inv X pins' σ H s :=
  ⟨I.ok, I.os, I.bare, I.base, I.loc, I.cell, I.free, I.freeC, fun p hp => (List.mem_append.mp hp).elim (fun z => I.pin p (List.mem_append_left _ z)) (h p), I.hok, I.len⟩

theorem nodup_ix {N : List Str} (hN : N.Nodup) {i j : Nat} {x : Str} (a : N[i]? = some x) (b : N[j]? = some x) : i = j := by
  obtain ⟨h1, e1⟩ := List.getElem?_eq_some_iff.mp a
  obtain ⟨h2, e2⟩ := List.getElem?_eq_some_iff.mp b
  exact (List.getElem_inj hN).mp (e1.trans e2.symm)

/-- a name is stored; what changed -/
theorem store_ok2 {M : Model} {A : Around} {E : Value → Shared → Prop} {i : Nat} {x : Str} {v : V} {u : Value} {Q : Unit → Shared → Prop} (I : Inv X pins σ H s) (hN : X.N.Nodup) (hi : X.N[i]? = some x) (hx : Loc X.env.scope x) (r : RelV v u)
    (h : ∀ s', Inv X pins (σ.set i (some v)) H s' → (∃ a, Heap.SameBut a s.heap s'.heap ∧ (a = X.env.locals ∨ X.env.cells.lookup x = some a)) → Q () s') (hf : X.fn x = true ∨ X.env.scope.names.lookup x = some .local := by first | exact .inl rfl | exact .inr rfl | assumption) : wpAny M A (storeName X.env x u) Q E s := by
  obtain ⟨m, hn, hl⟩ := id I.loc
  have hcls : (X.env.scope.kind == .class || (X.env.scope.kind == .module && X.env.locals != X.env.globals)) = false := by rw [I.ok.kind]; rfl
  have hiσ : i < σ.length := by rw [I.len]; exact (List.getElem?_eq_some_iff.mp hi).1
  have cne := I.cne
  have tracked : ∀ {a : Addr} {h' : Heap}, (∃ o, s.heap.get? a = some o ∧ H a = none) → Heap.SameBut a s.heap h' → HOk X.prog X.w H h' := fun {a h'} ha hs b ob e => by
    obtain ⟨_, _, hfree⟩ := ha
    refine (I.hok b ob e).stay (fun c w' hc q => (hs.2 c ?_).trans q) (fun _ q => q) fun _ _ q => q
    rintro rfl
    rcases hc with rfl | hc
    · rw [hfree] at e; cases e
    · rw [hfree] at hc; cases hc
  rcases hx with hk | hk
  · refine wpAny_storeName_local hk hn (fun h' hn' hs => ?_) hcls
    obtain ⟨oL, _, _, hoL, _⟩ := id hn
    refine h _ ⟨I.ok, I.os, I.bare, ⟨fun b o e n hb hx => ?_, fun b o e n hb hx => ?_, I.base.free, fun b o e hx => ?_, I.base.tups, I.base.frzs, I.base.tbls⟩, ⟨_, hn', fun j y v' e1 e2 e3 => ?_⟩, fun y c e => ?_, I.free, I.freeC, fun p hp => ?_, tracked ⟨oL, hoL, I.free⟩ hs, by simpa using I.len⟩ ⟨_, hs, .inl rfl⟩
    · exact (hs.2 b (Nat.ne_of_lt (Nat.lt_of_lt_of_le (Heap.lt_size e) I.ok.above))).trans (I.base.keep b o e n hb hx)
    · obtain ⟨sl, e1⟩ := I.base.slot b o e n hb hx
      exact ⟨sl, (hs.2 b (Nat.ne_of_lt (Nat.lt_of_lt_of_le (Heap.lt_size e) I.ok.above))).trans e1⟩
    · obtain ⟨o', e1⟩ := I.base.there b o e hx
      exact ⟨o', (hs.2 b (Nat.ne_of_lt (Nat.lt_of_lt_of_le (Heap.lt_size e) I.ok.above))).trans e1⟩
    · by_cases hj : j = i
      · subst hj
        rw [hi] at e1; cases e1
        rw [List.getElem?_set_self hiσ] at e2
        cases e2
        exact ⟨u, r, .inl ⟨hk, by simp⟩⟩
      · rw [List.getElem?_set_ne (Ne.symm hj)] at e2
        obtain ⟨u', r', q⟩ := hl j y v' e1 e2 e3
        refine ⟨u', r', ?_⟩
        rcases q with ⟨k, e⟩ | ⟨k, c, e, z⟩
        · refine .inl ⟨k, ?_⟩
          have : y ≠ x := fun e => hj (nodup_ix hN e1 (e ▸ hi))
          simp [this, e]
        · exact .inr ⟨k, c, e, z.sameBut hs (cne y c e)⟩
    · obtain ⟨w', z⟩ := I.cell y c e
      exact ⟨w', z.sameBut hs (cne y c e)⟩
    · obtain ⟨e, n, ne, nf, d⟩ := I.pin p hp
      exact ⟨(hs.2 p.1 ne).trans e, n, ne, nf, d⟩
  · have hfn : X.fn x = true := by
      rcases hf with z | z
      · exact z
      · rw [z] at hk; cases hk
    obtain ⟨c, hc⟩ := I.ok.has x (.inl hk)
    obtain ⟨w', z⟩ := I.cell x c hc
    refine wpAny_storeName_cell I.ok.kind hk hc z (fun h' hc' hs => ?_)
    obtain ⟨oc, hoc, hocd⟩ := id z
    refine h { s with heap := h' } ⟨I.ok, I.os, I.bare, ⟨fun b o e n hb hx => ?_, fun b o e n hb hx => ?_, I.base.free, fun b o e hx => ?_, I.base.tups, I.base.frzs, I.base.tbls⟩, ⟨m, hn.sameBut hs (Ne.symm (cne x c hc)), fun j y v' e1 e2 e3 => ?_⟩, fun y c' e => ?_, I.free, I.freeC, fun p hp => ?_, tracked ⟨oc, hoc, I.freeC x c hc⟩ hs, by simpa using I.len⟩ ⟨c, hs, .inr hc⟩
    · exact (hs.2 b (Nat.ne_of_lt (Nat.lt_of_lt_of_le (Heap.lt_size e) (I.ok.cab x c hfn hc)))).trans (I.base.keep b o e n hb hx)
    · obtain ⟨sl, e1⟩ := I.base.slot b o e n hb hx
      exact ⟨sl, (hs.2 b (Nat.ne_of_lt (Nat.lt_of_lt_of_le (Heap.lt_size e) (I.ok.cab x c hfn hc)))).trans e1⟩
    · obtain ⟨o', e1⟩ := I.base.there b o e hx
      exact ⟨o', (hs.2 b (Nat.ne_of_lt (Nat.lt_of_lt_of_le (Heap.lt_size e) (I.ok.cab x c hfn hc)))).trans e1⟩
    · by_cases hj : j = i
      · subst hj
        rw [hi] at e1; cases e1
        rw [List.getElem?_set_self hiσ] at e2
        cases e2
        exact ⟨u, r, .inr ⟨.inl hk, c, hc, hc'⟩⟩
      · rw [List.getElem?_set_ne (Ne.symm hj)] at e2
        obtain ⟨u', r', q⟩ := hl j y v' e1 e2 e3
        refine ⟨u', r', ?_⟩
        rcases q with q | ⟨k, c', e, z'⟩
        · exact .inl q
        · refine .inr ⟨k, c', e, z'.sameBut hs ?_⟩
          rintro rfl
          exact hj (nodup_ix hN e1 (I.ok.inj _ _ _ e hc ▸ hi))
    · by_cases hcc : c' = c
      · subst hcc; exact ⟨_, hc'⟩
      · obtain ⟨w2, z2⟩ := I.cell y c' e
        exact ⟨w2, z2.sameBut hs hcc⟩
    · obtain ⟨e, n, ne, nf, d⟩ := I.pin p hp
      refine ⟨(hs.2 p.1 ?_).trans e, n, ne, nf, d⟩
      intro q
      rw [q, hoc] at e
      have q' : oc = p.2 := Option.some.inj e
      exact d w' (by rw [← q']; exact hocd)
theorem store_ok {M : Model} {A : Around} {E : Value → Shared → Prop} {i : Nat} {x : Str} {v : V} {u : Value} {Q : Unit → Shared → Prop} (I : Inv X pins σ H s) (hN : X.N.Nodup) (hi : X.N[i]? = some x) (hx : Loc X.env.scope x) (r : RelV v u)
    (h : ∀ s', Inv X pins (σ.set i (some v)) H s' → Q () s') (hf : X.fn x = true ∨ X.env.scope.names.lookup x = some .local := by first | exact .inl rfl | exact .inr rfl | assumption) : wpAny M A (storeName X.env x u) Q E s :=
  store_ok2 I hN hi hx r (fun s' I' _ => h s' I') hf
/-- behind a call or a block, the state as it is -/
theorem Inv.call' {s' : Shared} {ch : List Addr} (I : Inv X pins σ H s) (ho : s'.os = s.os) (u : Un (frs X.stack) ch H H' s.heap s'.heap) (hok : HOk X.prog X.w H' s'.heap) (hg : AllBare s'.gens)
    (hch : ∀ b ∈ ch, (b ∈ X.ex ∨ X.s₀.heap.objs.size ≤ b) ∧ b ≠ X.env.locals ∧ (∀ x c, X.env.cells.lookup x = some c → c ≠ b) ∧ ∀ p ∈ X.pn ++ pins, p.1 ≠ b) : Inv X pins σ H' s' := by
  obtain ⟨h', g', d', t', o'⟩ := s'
  have e : o' = s.os := ho
  subst e
  exact I.call (g' := g') (t' := t') (d' := d') u hok hg hch
end

/-! ### the judgements -/
/-- an exception: its class, its own dict's address (where it has one), the abstract heap behind it -/
abbrev XK := Value → Option Addr → Hp → Prop
abbrev St := List (Option V)
abbrev VK := V → Hp → Prop
/-- an expression's reading; a test's; an argument list's -/
abbrev TE := St → Hp → VK → Prop
abbrev TT := St → Hp → (Bool → Hp → Prop) → Prop
abbrev TA := St → Hp → (List V → Hp → Prop) → Prop
/-- what is wanted behind a statement -/
structure Ends where
  nx : St → Hp → Prop
  rt : VK
  bk : St → Hp → Prop := fun _ _ => False
  ct : St → Hp → Prop := fun _ _ => False
abbrev TS := Ends → St → Hp → Prop

def EP (X : Cx) (pins : List (Addr × Obj)) (σ : St) (Q : VK) (u : Value) (s' : Shared) : Prop := ∃ v H', Inv X pins σ H' s' ∧ RelV v u ∧ Q v H'
def TP (X : Cx) (pins : List (Addr × Obj)) (σ : St) (Q : Bool → Hp → Prop) (b : Bool) (s' : Shared) : Prop := ∃ H', Inv X pins σ H' s' ∧ Q b H'
def AP (X : Cx) (pins : List (Addr × Obj)) (σ : St) (Q : List V → Hp → Prop) (us : List Value) (s' : Shared) : Prop := ∃ vs H', Inv X pins σ H' s' ∧ Vals vs us ∧ Q vs H'
def SP (X : Cx) (pins : List (Addr × Obj)) (D : Ends) (f : Flow) (s' : Shared) : Prop :=
  match f with
  | .next => ∃ σ' H', Inv X pins σ' H' s' ∧ D.nx σ' H'
  | .brk => ∃ σ' H', Inv X pins σ' H' s' ∧ D.bk σ' H'
  | .cont => ∃ σ' H', Inv X pins σ' H' s' ∧ D.ct σ' H'
  | .ret u => ∃ v σ' H', Inv X pins σ' H' s' ∧ RelV v u ∧ D.rt v H'

def PE (X : Cx) (e : Expr) (t : TE) : Prop :=
  ∀ (pins : List (Addr × Obj)) (s : Shared) (σ : St) (H : Hp) (Q : VK), Inv X pins σ H s → t σ H Q → wpAny (model X.prog X.w) X.A (eval e X.env) (EP X pins σ Q) X.xe s
def PT (X : Cx) (e : Expr) (t : TT) : Prop :=
  ∀ (pins : List (Addr × Obj)) (s : Shared) (σ : St) (H : Hp) (Q : Bool → Hp → Prop), Inv X pins σ H s → t σ H Q → wpAny (model X.prog X.w) X.A (isTrue e X.env (eval e X.env)) (TP X pins σ Q) X.xe s
/-- a test whatever its 'whole' is (and, or) -/
def PW (X : Cx) (e : Expr) (t : TT) : Prop :=
  ∀ (whole : Sem Value) (pins : List (Addr × Obj)) (s : Shared) (σ : St) (H : Hp) (Q : Bool → Hp → Prop), Inv X pins σ H s → t σ H Q → wpAny (model X.prog X.w) X.A (isTrue e X.env whole) (TP X pins σ Q) X.xe s
theorem PW.pt {X : Cx} {e : Expr} {t : TT} (h : PW X e t) : PT X e t := h _
/-- an argument list (no star), from the left -/
def PA (X : Cx) (es : List Expr) (t : TA) : Prop :=
  ∀ (pos : Pos) (pins : List (Addr × Obj)) (s : Shared) (σ : St) (H : Hp) (Q : List V → Hp → Prop), Inv X pins σ H s → t σ H Q → wpAny (model X.prog X.w) X.A (spliced (backTo pos (starEach es X.env))) (AP X pins σ Q) X.xe s
def PS (X : Cx) (st : Stmt) (t : TS) : Prop :=
  ∀ (pins : List (Addr × Obj)) (s : Shared) (σ : St) (H : Hp) (D : Ends), Inv X pins σ H s → t D σ H → wpAny (model X.prog X.w) X.A (exec st X.env) (SP X pins D) X.xe s
def PSs (X : Cx) (st : List Stmt) (t : TS) : Prop :=
  ∀ (pins : List (Addr × Obj)) (s : Shared) (σ : St) (H : Hp) (D : Ends), Inv X pins σ H s → t D σ H → wpAny (model X.prog X.w) X.A (execs st X.env) (SP X pins D) X.xe s
/-- weaken the end -/
theorem thn {α : Type} {t : Sem α} {Q Q' : α → Shared → Prop} {M : Model} {A : Around} {E : Value → Shared → Prop} {s : Shared} (h : wpAny M A t Q E s) (hQ : ∀ a s, Q a s → Q' a s) : wpAny M A t Q' E s := wpAny_mono h hQ fun _ _ x => x
end L2

namespace L2
open PySem PySem.Spec PyProof.Rows
section
variable {X : Cx}

/-- two expressions in a row -/
theorem bin {a b : Expr} {ta tb : TE} (ha : PE X a ta) (hb : PE X b tb) {pins : List (Addr × Obj)} {s : Shared} {σ : St} {H : Hp} {R : V → V → Hp → Prop} (I : Inv X pins σ H s) (h : ta σ H fun x H1 => tb σ H1 fun y H2 => R x y H2)
    {α : Type} {Q : α → Shared → Prop} {f : Value → Value → Sem α}
    (hf : ∀ v u s2 x y H2, Inv X pins σ H2 s2 → RelV x v → RelV y u → R x y H2 → wpAny (model X.prog X.w) X.A (f v u) Q X.xe s2) :
    wpAny (model X.prog X.w) X.A (eval a X.env) (fun v s₁ => wpAny (model X.prog X.w) X.A (eval b X.env) (fun u s₂ => wpAny (model X.prog X.w) X.A (f v u) Q X.xe s₂) X.xe s₁) X.xe s := by
  refine thn (ha pins s σ H _ I h) fun v s1 hq0 => ?_
  obtain ⟨x, H1, I1, r1, q1⟩ := hq0
  refine thn (hb pins s1 σ H1 _ I1 q1) fun u s2 hq0 => ?_
  obtain ⟨y, H2, I2, r2, q2⟩ := hq0
  exact hf v u s2 x y H2 I2 r1 r2 q2

/-! ### names and constants -/
def tVar (i : Nat) : TE := fun σ H Q => ∃ v, σ[i]? = some (some v) ∧ Q v H
def tC (v : V) : TE := fun _ H Q => Q v H
theorem pe_var {i : Nat} {x : Str} {pos : Pos} (hN : X.N[i]? = some x) (hv : Vis X.env.scope x) (hd : (x == ("__debug__" : Str)) = false := by decide) (hcd : (x == ("__classdict__" : Str)) = false := by decide) : PE X (.Name x pos) (tVar i) := by
  intro pins s σ H Q I h
  obtain ⟨v, e, h⟩ := h
  obtain ⟨m, hn, hl⟩ := I.loc
  obtain ⟨u, r, l⟩ := hl i x v hN e hv
  have fin : EP X pins σ Q u s := ⟨v, H, I, r, h⟩
  rcases l with ⟨hk, hm⟩ | ⟨hk, c, hc, hcell⟩
  · exact wpAny_Name (wpAny_loadName_local I.ok.kind hk hn hm fin) hd
  · rcases hk with hk | hk
    · exact wpAny_Name (wpAny_loadName_cell I.ok.kind hk hc hcell fin) hd
    · exact wpAny_Name (wpAny_loadName_free I.ok.kind hk hc hcell fin hcd) hd
theorem pe_int {i j pos} : PE X (.Constant (.int i) j pos) (tC (.int i)) := fun _ _ _ H _ I h => wpAny_Constant_int ⟨.int i, H, I.tok _, ⟨_, rfl⟩, h⟩
theorem pe_bl {b j pos} : PE X (.Constant (.bool b) j pos) (tC (.bl b)) := fun _ _ _ H _ I h => Constant_bool ⟨.bl b, H, I, rfl, h⟩
theorem pe_str {x j pos} : PE X (.Constant (.str x) j pos) (tC (.str x)) := fun _ _ _ H _ I h => Calls.Constant_str ⟨.str x, H, I.tok _, ⟨_, rfl⟩, h⟩

/-- a global name of the def -/
def Gl (X : Cx) (x : Str) : Prop := X.env.kindOf x = some .globalImplicit
theorem ld_glob {E : Value → Shared → Prop} {pins : List (Addr × Obj)} {s : Shared} {σ : St} {H : Hp} {x : Str} {u : Value} {pos : Pos} {Q : Value → Shared → Prop} (I : Inv X pins σ H s) (hg : Gl X x) (hm : X.mg x = some u) (h : Q u s)
    (hd : (x == ("__debug__" : Str)) = false := by decide) : wpAny (model X.prog X.w) X.A (eval (.Name x pos) X.env) Q E s :=
  Calls.Name_function_global I.ok.kind hg (Calls.loadGlobal_global (by rw [I.ok.glob]; exact I.mod.glob.keeps I.bk) hm h) hd
theorem ld_blt {E : Value → Shared → Prop} {pins : List (Addr × Obj)} {s : Shared} {σ : St} {H : Hp} {x : Str} {u : Value} {pos : Pos} {Q : Value → Shared → Prop} (I : Inv X pins σ H s) (hg : Gl X x) (hm : X.mg x = none) (hv : bootBuiltins x = some u) (h : Q u s)
    (hn : x ≠ "__name__" := by decide) (hd : (x == ("__debug__" : Str)) = false := by decide) : wpAny (model X.prog X.w) X.A (eval (.Name x pos) X.env) Q E s := by
  obtain ⟨mb, h1, h2⟩ := I.mod.blt
  exact Calls.Name_function_global I.ok.kind hg (Calls.loadGlobal_builtin (by rw [I.ok.glob]; exact I.mod.glob.keeps I.bk) hm (by rw [I.ok.blt]; exact h1.keeps I.bk) ((h2 x hn).trans hv) h) hd
theorem pe_bltn {x : Str} {v : V} {u : Value} {pos : Pos} (hg : Gl X x) (hm : X.mg x = none) (hv : bootBuiltins x = some u) (r : RelV v u) (hn : x ≠ "__name__" := by decide) (hd : (x == ("__debug__" : Str)) = false := by decide) : PE X (.Name x pos) (tC v) :=
  fun _ _ _ H _ I h => ld_blt I hg hm hv ⟨v, H, I, r, h⟩ hn hd

/-! ### arithmetic -/
variable {a b : Expr} {ta tb : TE} {pos : Pos}

/-! ### comparisons -/
def PC (X : Cx) (op : CmpOp) (a b : Expr) (t : TE) : Prop :=
  ∀ (pins : List (Addr × Obj)) (s : Shared) (σ : St) (H : Hp) (Q : VK), Inv X pins σ H s → t σ H Q →
    wpAny (model X.prog X.w) X.A (eval a X.env) (fun v s₁ => wpAny (model X.prog X.w) X.A (eval b X.env) (fun u s₂ => wpAny (model X.prog X.w) X.A (compareOp op v u) (EP X pins σ Q) X.xe s₂) X.xe s₁) X.xe s
/-- a comparison as a value, as a test -/
def tB (t : TE) : TT := fun σ H Q => t σ H fun x H1 => ∃ c, x = .bl c ∧ Q c H1
theorem pt_cmp {op : CmpOp} {t : TE} (h : PC X op a b t) (h1 : behindInMarks op b = false := by first | exact nobehind _ (by decide) (by decide) | rfl) : PT X (.Compare a [op] [b] pos) (tB t) := by
  intro pins s σ H Q I hw
  refine wpAny_isTrue_Compare1 (thn (h pins s σ H _ I hw) fun v s1 h1 => thn h1 fun u s2 h2 => thn h2 fun c s3 hq0 => ?_) h1
  obtain ⟨x, H1, I1, r1, q1⟩ := hq0
  obtain ⟨d, rfl, q⟩ := q1
  cases r1
  exact wpAny_truthy_bool ⟨H1, I1, q⟩
/-- an expression whose value is a bool, as a test -/
theorem pt_val {e : Expr} {t : TE} (h : PE X e t) (he : ∀ whole, isTrue e X.env whole = (do let v ← whole; standAt e.pos; holding [v] (truthy v)) := by intro _; rfl) : PT X e (tB t) := by
  intro pins s σ H Q I hw
  refine isTrue_plain (thn (h pins s σ H _ I hw) fun v s1 hq0 => ?_) (he _)
  obtain ⟨x, H1, I1, r1, q1⟩ := hq0
  obtain ⟨d, rfl, q⟩ := q1
  cases r1
  exact wpAny_truthy_bool ⟨H1, I1, q⟩

/-! ### and, or, not -/
variable {tA tB' : TT} {rest : List Expr}
def tAnd (t u : TT) : TT := fun σ H Q => t σ H fun c H1 => if c = true then u σ H1 Q else Q false H1
def tOr (t u : TT) : TT := fun σ H Q => t σ H fun c H1 => if c = true then Q true H1 else u σ H1 Q
def tNot (t : TT) : TT := fun σ H Q => t σ H fun c H1 => Q (!c) H1
theorem pw_and1 (ha : PT X a tA) : PW X (.BoolOp .And [a] pos) tA := by
  intro wh pins s σ H Q I h
  refine isTrue_and (thn (ha pins s σ H Q I h) fun c s1 e => ?_)
  cases c with
  | true => exact isTrue_and_nil e
  | false => exact e
theorem pw_or1 (ha : PT X a tA) : PW X (.BoolOp .Or [a] pos) tA := by
  intro wh pins s σ H Q I h
  refine isTrue_or (thn (ha pins s σ H Q I h) fun c s1 e => ?_)
  cases c with
  | false => exact isTrue_or_nil e
  | true => exact e
theorem pw_and (ha : PT X a tA) (hb : PW X (.BoolOp .And (b :: rest) pos) tB') : PW X (.BoolOp .And (a :: b :: rest) pos) (tAnd tA tB') := by
  intro wh pins s σ H Q I h
  refine isTrue_and (thn (ha pins s σ H _ I h) fun c s1 hq0 => ?_)
  obtain ⟨H1, I1, q1⟩ := hq0
  cases c with
  | true => exact hb wh pins s1 σ H1 Q I1 q1
  | false => exact ⟨H1, I1, q1⟩
theorem pw_or (ha : PT X a tA) (hb : PW X (.BoolOp .Or (b :: rest) pos) tB') : PW X (.BoolOp .Or (a :: b :: rest) pos) (tOr tA tB') := by
  intro wh pins s σ H Q I h
  refine isTrue_or (thn (ha pins s σ H _ I h) fun c s1 hq0 => ?_)
  obtain ⟨H1, I1, q1⟩ := hq0
  cases c with
  | true => exact ⟨H1, I1, q1⟩
  | false => exact hb wh pins s1 σ H1 Q I1 q1
theorem pt_not (ha : PT X a tA) : PT X (.UnaryOp .Not a pos) (tNot tA) := by
  intro pins s σ H Q I h
  exact isTrue_not (ha pins s σ H (fun c H1 => Q (!c) H1) I h)
/-- .. as values (bools) -/
def tAndV (ta tb : TE) : TE := fun σ H Q => ta σ H fun x H1 => ∃ c, x = .bl c ∧ if c = true then tb σ H1 Q else Q (.bl false) H1
def tOrV (ta tb : TE) : TE := fun σ H Q => ta σ H fun x H1 => ∃ c, x = .bl c ∧ if c = true then Q (.bl true) H1 else tb σ H1 Q
theorem pe_one {op} {t : TE} (h : PE X a t) : PE X (.BoolOp op [a] pos) t := fun pins s σ H Q I hw => BoolOp_one (h pins s σ H Q I hw)
theorem pe_and (ha : PE X a ta) (hb : PE X (.BoolOp .And (b :: rest) pos) tb) : PE X (.BoolOp .And (a :: b :: rest) pos) (tAndV ta tb) := by
  intro pins s σ H Q I h
  refine BoolOp_and (thn (ha pins s σ H _ I h) fun v s1 hq0 => ?_)
  obtain ⟨x, H1, I1, r1, q1⟩ := hq0
  obtain ⟨c, rfl, q1⟩ := q1
  cases r1
  refine wpAny_truthy_bool ?_
  cases c with
  | true => exact hb pins s1 σ H1 Q I1 q1
  | false => exact ⟨.bl false, H1, I1, rfl, q1⟩
theorem pe_or (ha : PE X a ta) (hb : PE X (.BoolOp .Or (b :: rest) pos) tb) : PE X (.BoolOp .Or (a :: b :: rest) pos) (tOrV ta tb) := by
  intro pins s σ H Q I h
  refine BoolOp_or (thn (ha pins s σ H _ I h) fun v s1 hq0 => ?_)
  obtain ⟨x, H1, I1, r1, q1⟩ := hq0
  obtain ⟨c, rfl, q1⟩ := q1
  cases r1
  refine wpAny_truthy_bool ?_
  cases c with
  | false => exact hb pins s1 σ H1 Q I1 q1
  | true => exact ⟨.bl true, H1, I1, rfl, q1⟩
end
end L2

namespace L2
open PySem PySem.Spec PyProof.Rows

/-! ### a list, a tuple that is read: tracked, frozen, or an object of the module -/
def SqL (K : PySem.W.Frag) (H : Hp) (a : Addr) (xs : List V) : Prop :=
  Rd H a (.lst xs) ∨
    ∃ (o : Obj) (its : Array Value) (n : Nat), K.lookup a = some o ∧ o.cls = .type "list" ∧ o.dict = none ∧ o.data = .seq its n ∧ its.size ≤ sizeLine ∧ Vals xs its.toList
def SqT (K : PySem.W.Frag) (H : Hp) (a : Addr) (xs : List V) : Prop :=
  Rd H a (.tup xs) ∨
    ∃ (o : Obj) (its : Array Value) (n : Nat), K.lookup a = some o ∧ o.cls = .type "tuple" ∧ o.data = .seq its n ∧ its.size ≤ sizeLine ∧ Vals xs its.toList
def absV : Value → Option V
  | .none => some .non
  | .bool b => some (.bl b)
  | .int i _ => some (.int i)
  | .str x _ => some (.str x)
  | .bytes b _ => some (.byt b)
  | .float b _ => some (.flt b)
  | .ref a => some (.ref a)
  | .type n => some (.ty n)
  | _ => none
theorem RelV.abs {x : V} {u : Value} (r : RelV x u) : absV u = some x := by
  cases x with
  | non => cases r; rfl
  | bl _ => cases r; rfl
  | int _ => obtain ⟨t, rfl⟩ := r; rfl
  | str _ => obtain ⟨t, rfl⟩ := r; rfl
  | byt _ => obtain ⟨t, rfl⟩ := r; rfl
  | flt _ => obtain ⟨t, rfl⟩ := r; rfl
  | ref _ => cases r; rfl
  | ty _ => cases r; rfl
theorem RelV.inj {x y : V} {u : Value} (r : RelV x u) (q : RelV y u) : x = y := Option.some.inj (r.abs.symm.trans q.abs)
theorem Vals.inj : ∀ {xs ys : List V} {us : List Value}, Vals xs us → Vals ys us → xs = ys
  | _, _, _, .nil, .nil => rfl
  | _, _, _, .cons r t, .cons r' t' => by rw [r.inj r', Vals.inj t t']
section
variable {X : Cx} {pins : List (Addr × Obj)} {σ : St} {H : Hp} {s : Shared} {a : Addr} {xs ys : List V}
theorem SqL.of {K : PySem.W.Frag} (h : H a = some (.lst xs)) : SqL K H a xs := .inl (.inl h)
theorem SqT.of {K : PySem.W.Frag} (h : H a = some (.tup xs)) : SqT K H a xs := .inl (.inl h)
theorem Inv.list (I : Inv X pins σ H s) (h : SqL X.K H a xs) : ∃ its : List Value, Vals xs its ∧ PlainL s.heap a its.toArray ∧ xs.length ≤ sizeLine := by
  rcases h with h | ⟨o, its, n, hk, hc, hd, hs, hz, r⟩
  · obtain ⟨z, its, n, r, e⟩ := h.ok I.hok
    exact ⟨its, r, ⟨_, n, e, rfl, rfl, rfl⟩, z⟩
  · refine ⟨its.toList, r, ⟨o, n, I.kIn a o hk, hc, hd, by simpa using hs⟩, ?_⟩
    have e := r.length
    simp only [Array.length_toList] at e
    omega
theorem Inv.tuple (I : Inv X pins σ H s) (h : SqT X.K H a xs) : ∃ its : List Value, Vals xs its ∧ IsTup s.heap a its.toArray ∧ xs.length ≤ sizeLine := by
  rcases h with h | ⟨o, its, n, hk, hc, hs, hz, r⟩
  · obtain ⟨z, its, r, p⟩ := h.ok I.hok
    exact ⟨its, r, p, z⟩
  · refine ⟨its.toList, r, ⟨o, I.kIn a o hk, hc, n, by simpa using hs⟩, ?_⟩
    have e := r.length
    simp only [Array.length_toList] at e
    omega
theorem Inv.list_inj (I : Inv X pins σ H s) (h : SqL X.K H a xs) (h' : SqL X.K H a ys) : xs = ys := by
  obtain ⟨its, r, ⟨o, n, e, _, _, d⟩, _⟩ := I.list h
  obtain ⟨its', r', ⟨o', n', e', _, _, d'⟩, _⟩ := I.list h'
  rw [e] at e'; cases e'
  rw [d] at d'
  injection d' with d1 _
  have : its = its' := by simpa using congrArg Array.toList d1
  subst this
  exact r.inj r'
theorem Inv.tuple_inj (I : Inv X pins σ H s) (h : SqT X.K H a xs) (h' : SqT X.K H a ys) : xs = ys := by
  obtain ⟨its, r, ⟨o, e, _, n, d⟩, _⟩ := I.tuple h
  obtain ⟨its', r', ⟨o', e', _, n', d'⟩, _⟩ := I.tuple h'
  rw [e] at e'; cases e'
  rw [d] at d'
  injection d' with d1 _
  have : its = its' := by simpa using congrArg Array.toList d1
  subst this
  exact r.inj r'
end

/-! ### another wish about exceptions -/
abbrev Cx.wish (X : Cx) (E : Value → Shared → Prop) : Cx := { X with xe := E }
/-- no exception leaves -/
abbrev Cx.nox (X : Cx) : Cx := X.wish fun _ _ => False
theorem Cx.Ok.wish {X : Cx} (ok : X.Ok) (E : Value → Shared → Prop) : (X.wish E).Ok :=
  ⟨ok.mod, ok.kind, ok.glob, ok.blt, ok.above, ok.inj, ok.has, ok.cab, ok.hd, ok.frames, ok.stk, ok.exf, ok.bs, ok.bsz, ok.noex, ok.exfs, ok.funs, ok.frf⟩
theorem Cx.Ok.unwish {X : Cx} {E : Value → Shared → Prop} (ok : (X.wish E).Ok) : X.Ok :=
  ⟨ok.mod, ok.kind, ok.glob, ok.blt, ok.above, ok.inj, ok.has, ok.cab, ok.hd, ok.frames, ok.stk, ok.exf, ok.bs, ok.bsz, ok.noex, ok.exfs, ok.funs, ok.frf⟩
section
variable {X : Cx} {pins : List (Addr × Obj)} {σ : St} {H : Hp} {s : Shared} {E : Value → Shared → Prop}
theorem Inv.wish (I : Inv X pins σ H s) (E : Value → Shared → Prop) : Inv (X.wish E) pins σ H s := ⟨I.ok.wish E, I.os, I.bare, I.base, I.loc, I.cell, I.free, I.freeC, I.pin, I.hok, I.len⟩
theorem Inv.unwish (I : Inv (X.wish E) pins σ H s) : Inv X pins σ H s := ⟨I.ok.unwish, I.os, I.bare, I.base, I.loc, I.cell, I.free, I.freeC, I.pin, I.hok, I.len⟩
theorem SP.unwish {D : Ends} {f : Flow} {s' : Shared} (h : SP (X.wish E) pins D f s') : SP X pins D f s' := by
  cases f with
  | next => obtain ⟨σ', H', I, q⟩ := h; exact ⟨σ', H', I.unwish, q⟩
  | brk => obtain ⟨σ', H', I, q⟩ := h; exact ⟨σ', H', I.unwish, q⟩
  | cont => obtain ⟨σ', H', I, q⟩ := h; exact ⟨σ', H', I.unwish, q⟩
  | ret u => obtain ⟨v, σ', H', I, r, q⟩ := h; exact ⟨v, σ', H', I.unwish, r, q⟩
theorem PSs.nox {st : List Stmt} {t : TS} (h : PSs X.nox st t) : PSs X st t := fun pins s σ H D I hw =>
  wpAny_mono (h pins s σ H D (I.wish _) hw) (fun _ _ q => q.unwish) fun _ _ z => False.elim z
end

/-! ### blocks and small statements -/
section
variable {X : Cx} {st : Stmt} {rest : List Stmt} {t u : TS} {e : Expr} {te : TE} {pos : Pos}
def tNext : TS := fun D σ H => D.nx σ H
def tSeq (t u : TS) : TS := fun D σ H => t { D with nx := u D } σ H
theorem pss_nil : PSs X [] tNext := fun _ _ σ H _ I h => wpAny_execs_nil ⟨σ, H, I, h⟩
theorem pss_cons (h1 : PS X st t) (h2 : PSs X rest u) : PSs X (st :: rest) (tSeq t u) := by
  intro pins s σ H D I h
  refine wpAny_execs_cons (thn (h1 pins s σ H { D with nx := u D } I h) fun f s1 q => ?_)
  cases f with
  | next =>
    obtain ⟨σ', H', I', q⟩ := q
    exact h2 pins s1 σ' H' D I' q
  | ret v => exact q
  | brk => exact q
  | cont => exact q
theorem pss_one (h1 : PS X st t) : PSs X [st] t := by
  intro pins s σ H D I h
  refine wpAny_execs_cons (thn (h1 pins s σ H D I h) fun f s1 q => ?_)
  cases f with
  | next => exact wpAny_execs_nil q
  | ret v => exact q
  | brk => exact q
  | cont => exact q
/-- in a def's body nothing is shown -/
theorem Inv.quiet {pins : List (Addr × Obj)} {σ : St} {H : Hp} {s : Shared} (I : Inv X pins σ H s) : interactive X.env = false := by simp [interactive, I.ok.kind]
/-- an expression whose value is dropped -/
def tDrop (te : TE) : TS := fun D σ H => te σ H fun _ H1 => D.nx σ H1
theorem ps_expr (he : PE X e te) (hs : swapsWith e none pos.line X.env = pure false := by rfl) : PS X (.Expr e pos) (tDrop te) := by
  intro pins s σ H D I h
  exact wpAny_Expr_any (thn (he pins s σ H _ I h) fun v s1 ⟨x, H1, I1, r1, q1⟩ => ⟨σ, H1, I1, q1⟩) I.quiet hs
def tRet (te : TE) : TS := fun D σ H => te σ H D.rt
theorem ps_ret (he : PE X e te) : PS X (.Return (some e) pos) (tRet te) := by
  intro pins s σ H D I h
  exact wpAny_Return_some (thn (he pins s σ H _ I h) fun v s1 ⟨x, H1, I1, r1, q1⟩ => ⟨x, σ, H1, I1, r1, q1⟩)
def tIfS (c : TT) (t u : TS) : TS := fun D σ H => c σ H fun b H1 => if b = true then t D σ H1 else u D σ H1
theorem ps_if {c : Expr} {a b : List Stmt} {tc : TT} (hc : PT X c tc) (ha : PSs X a t) (hb : PSs X b u) : PS X (.If c a b pos) (tIfS tc t u) := by
  intro pins s σ H D I h
  refine wpAny_If (thn (hc pins s σ H _ I h) fun d s1 hq0 => ?_)
  obtain ⟨H1, I1, q1⟩ := hq0
  cases d with
  | true => exact ha pins s1 σ H1 D I1 q1
  | false => exact hb pins s1 σ H1 D I1 q1
/-- code that the proof never comes to -/
def tNever : TS := fun _ _ _ => False
theorem ps_never : PS X st tNever := fun _ _ _ _ _ _ h => h.elim
end

/-! ### targets -/
abbrev TG := V → St → Hp → (St → Hp → Prop) → Prop
abbrev TGs := List V → St → Hp → (St → Hp → Prop) → Prop
def PG (X : Cx) (target : Expr) (t : TG) : Prop :=
  ∀ (pins : List (Addr × Obj)) (s : Shared) (σ : St) (H : Hp) (v : V) (u : Value) (Q : St → Hp → Prop), Inv X pins σ H s → RelV v u → t v σ H Q →
    wpAny (model X.prog X.w) X.A (assign target X.env u) (fun _ s' => ∃ σ' H', Inv X pins σ' H' s' ∧ Q σ' H') X.xe s
/-- several targets, one after another -/
def PGs (X : Cx) (ts : List Expr) (t : TGs) : Prop :=
  ∀ (pins : List (Addr × Obj)) (s : Shared) (σ : St) (H : Hp) (vs : List V) (us : List Value) (Q : St → Hp → Prop), Inv X pins σ H s → Vals vs us → t vs σ H Q →
    wpAny (model X.prog X.w) X.A (assignInOrder ((assignEach ts X.env).map (·.2)) us) (fun _ s' => ∃ σ' H', Inv X pins σ' H' s' ∧ Q σ' H') X.xe s
/-- o[i] = v, by values -/
abbrev TSet := V → V → V → Hp → (Hp → Prop) → Prop
def PSet (X : Cx) (t : TSet) : Prop :=
  ∀ (pins : List (Addr × Obj)) (s : Shared) (σ : St) (H : Hp) (o i v : V) (ov iv u : Value) (Q : Hp → Prop), Inv X pins σ H s → RelV o ov → RelV i iv → RelV v u → t o i v H Q →
    wpAny (model X.prog X.w) X.A (setItem ov iv u) (fun _ s' => ∃ H', Inv X pins σ H' s' ∧ Q H') X.xe s
section
variable {X : Cx} {pos : Pos}
def gName (i : Nat) : TG := fun v σ H Q => Q (σ.set i (some v)) H
theorem pg_name {i : Nat} {x : Str} (hN : X.N.Nodup) (hi : X.N[i]? = some x) (hx : Loc X.env.scope x) (hf : X.fn x = true ∨ X.env.scope.names.lookup x = some .local := by first | exact .inl rfl | exact .inr rfl | assumption) : PG X (.Name x pos) (gName i) := by
  intro pins s σ H v u Q I r h
  exact wpAny_assign_Name (store_ok I hN hi hx r (fun s' I' => ⟨_, H, I', h⟩) hf)
def gNil : TGs := fun vs σ H Q => vs = [] ∧ Q σ H
def gCons (t : TG) (u : TGs) : TGs := fun vs σ H Q => ∃ v r, vs = v :: r ∧ t v σ H fun σ' H' => u r σ' H' Q
theorem pgs_nil : PGs X [] gNil := by
  intro pins s σ H vs us Q I r h
  obtain ⟨e, h⟩ := h
  subst e
  cases r
  exact assignInOrder_nil ⟨σ, H, I, h⟩
theorem pgs_cons {e : Expr} {es : List Expr} {t : TG} {u : TGs} (h1 : PG X e t) (h2 : PGs X es u)
    (hs : (assignEach (e :: es) X.env).map (·.2) = assign e X.env :: (assignEach es X.env).map (·.2) := by rfl) : PGs X (e :: es) (gCons t u) := by
  intro pins s σ H vs us Q I r h
  obtain ⟨v, vr, e1, h⟩ := h
  subst e1
  cases r with
  | cons r rr =>
    rw [hs]
    refine assignInOrder_cons (thn (h1 pins s σ H _ _ _ I r h) fun _ s1 hq0 => ?_)
    obtain ⟨σ1, H1, I1, q1⟩ := hq0
    exact h2 pins s1 σ1 H1 _ _ Q I1 rr q1
/-- (a, b, ..) = a tuple of that length -/
def gTup (K : PySem.W.Frag) (n : Nat) (t : TGs) : TG := fun v σ H Q => ∃ a xs, v = .ref a ∧ SqT K H a xs ∧ xs.length = n ∧ t xs σ H Q
theorem pg_tup {es : List Expr} {k : Nat} {t : TGs} {n : Nat} (hc : X.calm = true) (h : PGs X es t)
    (hn : (assignEach es X.env).length = n := by rfl) (hst : (assignEach es X.env).findIdx? (·.1) = none := by rfl) : PG X (.Tuple es k pos) (gTup X.K n t) := by
  intro pins s σ H v u Q I r hw
  obtain ⟨a, xs, e1, hq, hl, hw⟩ := hw
  subst e1
  cases r
  obtain ⟨its, rv, ht, hz⟩ := I.tuple hq
  refine assign_Tuple_tuple (I.ok.hd hc) ht (by simp [hn, ← hl, rv.length]) hst fun h' hx => ?_
  have I1 : Inv X pins σ H { s with heap := h' } := I.kept (t' := s.toks) fun b o e => hx b o (Nat.ne_of_lt (Heap.lt_size e)) e
  exact h pins _ σ H xs _ Q I1 (by simpa using rv) hw
/-- o[i] = .. -/
def gSub (to ti : TE) (t : TSet) : TG := fun v σ H Q => to σ H fun o H1 => ti σ H1 fun i H2 => t o i v H2 fun H3 => Q σ H3
theorem pg_sub {o i : Expr} {to ti : TE} {t : TSet} (ho : PE X o to) (hi : PE X i ti) (hs : PSet X t)
    (ha : ∀ v, assign (.Subscript o i pos) X.env v = (do
      let ov ← holding [v] (eval o X.env)
      let iv ← holding [v, ov] (eval i X.env)
      standAt pos
      holding [v, ov, iv] (setItem ov iv v)
      release [v, ov, iv] []) := by intro _; rfl) : PG X (.Subscript o i pos) (gSub to ti t) := by
  intro pins s σ H v u Q I r h
  rw [ha]
  refine wpAny_bind (wpAny_holding (thn (ho pins s σ H _ I h) fun ov s1 hq0 => ?_))
  obtain ⟨x, H1, I1, r1, q1⟩ := hq0
  refine wpAny_bind (wpAny_holding (thn (hi pins s1 σ H1 _ I1 q1) fun iv s2 hq0 => ?_))
  obtain ⟨y, H2, I2, r2, q2⟩ := hq0
  refine wpAny_bind (wpAny_standAt (wpAny_bind (wpAny_holding (thn (hs pins s2 σ H2 x y v ov iv u _ I2 r1 r2 r q2) fun _ s3 hq0 => ?_))))
  obtain ⟨H3, I3, q3⟩ := hq0
  exact wpAny_release ⟨σ, H3, I3, q3⟩
/-- target = value -/
def tAsg (te : TE) (g : TG) : TS := fun D σ H => te σ H fun x H1 => g x σ H1 D.nx
theorem ps_asg {tg e : Expr} {te : TE} {g : TG} (he : PE X e te) (hg : PG X tg g) (hs : swapsWithSole [tg] e pos.line X.env = pure false := by rfl) (hw : swappedStores [tg] e X.env = pure none := by rfl)
    (h1 : (assignEach [tg] X.env).map (·.2) = [assign tg X.env] := by rfl) : PS X (.Assign [tg] e pos) (tAsg te g) := by
  intro pins s σ H D I h
  refine wpAny_Assign_stores (thn (he pins s σ H _ I h) fun v s1 hq0 => ?_) hs hw
  obtain ⟨x, H1, I1, r1, q1⟩ := hq0
  rw [h1]
  exact thn (hg pins s1 σ H1 x v _ I1 r1 q1) fun _ s2 q => q
/-- name = value -/
theorem ps_set {i : Nat} {x : Str} {e : Expr} {te : TE} {pos' : Pos} (hN : X.N.Nodup) (hi : X.N[i]? = some x) (hx : Loc X.env.scope x) (he : PE X e te) (hs : swapsWith e (some (.Name x pos')) pos.line X.env = pure false := by rfl) (hf : X.fn x = true ∨ X.env.scope.names.lookup x = some .local := by first | exact .inl rfl | exact .inr rfl | assumption) :
    PS X (.Assign [.Name x pos'] e pos) (tAsg te (gName i)) := by
  intro pins s σ H D I h
  refine wpAny_Assign_Name (thn (he pins s σ H _ I h) fun v s1 hq0 => ?_) hs
  obtain ⟨y, H1, I1, r1, q1⟩ := hq0
  exact store_ok I1 hN hi hx r1 (fun s2 I2 => ⟨_, H1, I2, q1⟩) hf
end

/-! ### while -/
section
variable {X : Cx} {pos : Pos}
end

/-! ### what a loop or a comprehension walks -/
/-- at turn i: it yields x (the heap may grow), or it stops -/
structure It where
  go : Nat → Hp → Prop
  yld : Nat → Hp → V → Hp → Prop
  stop : Nat → Hp → Prop
/-- the iterator's own objects may turn: they are not the frame's, not pinned, younger than the entry (or a comprehension's own) -/
def FpOk (X : Cx) (pins : List (Addr × Obj)) (H : Hp) (b : Addr) : Prop :=
  H b = none ∧ b ≠ X.env.locals ∧ b ∉ X.fs ∧ (b ∈ X.ex ∨ X.s₀.heap.objs.size ≤ b) ∧ (∀ x c, X.env.cells.lookup x = some c → c ≠ b) ∧ ∀ p ∈ X.pn ++ pins, p.1 ≠ b
theorem Inv.fpOk {X : Cx} {pins : List (Addr × Obj)} {σ : St} {H H' : Hp} {s : Shared} {b : Addr} (I : Inv X pins σ H s) (hb : s.heap.objs.size ≤ b) (hn : H' b = none) : FpOk X pins H' b := by
  refine ⟨hn, Nat.ne_of_gt (Nat.lt_of_lt_of_le I.lt hb), I.nofs hb, .inr (Nat.le_trans I.sz hb), fun x c e z => ?_, fun p hp z => ?_⟩
  · obtain ⟨v, q⟩ := I.cell x c e
    exact absurd (Nat.lt_of_lt_of_le q.lt (by rw [z]; exact hb)) (Nat.lt_irrefl _)
  · exact absurd (Nat.lt_of_lt_of_le (Heap.lt_size (I.pin p hp).1) (by rw [z]; exact hb)) (Nat.lt_irrefl _)
structure Turn (P : Program) (w : World) (K : PySem.W.Frag) (tg : Expr) (J : It) (fp : List Addr) (it : Addr) (tn : Nat → Heap → Prop) : Prop where
  mem : it ∈ fp
  obj : ∀ i h, tn i h → ∀ b ∈ fp, ∃ o, h.get? b = some o ∧ ∀ v, o.data ≠ .cell v
  keep : ∀ i h h', tn i h → (∀ b ∈ fp, ∀ o, h.get? b = some o → h'.get? b = some o) → tn i h'
  item : ∀ (X : Cx), X.prog = P → X.w = w → X.K = K → X.calm = true → ∀ (i : Nat) (pins : List (Addr × Obj)) (s : Shared) (σ : St) (H : Hp) (E : Value → Shared → Prop), Inv X pins σ H s → (∀ b ∈ fp, FpOk X pins H b) → tn i s.heap → J.go i H →
    wpAny (model P w) X.A (pyNext (.ref it)) (fun r s1 => ∃ u, r = some u ∧
      wpAny (model P w) X.A (letOwnedTupleGo tg (.ref it) u) (fun _ s2 => ∃ x H', Inv X pins σ H' s2 ∧ RelV x u ∧ J.yld i H x H' ∧ tn (i + 1) s2.heap ∧ ∀ b ∈ fp, H' b = none) E s1) E s
  done : ∀ (X : Cx), X.prog = P → X.w = w → X.K = K → X.calm = true → ∀ (i : Nat) (pins : List (Addr × Obj)) (s : Shared) (σ : St) (H : Hp) (E : Value → Shared → Prop), Inv X pins σ H s → (∀ b ∈ fp, FpOk X pins H b) → tn i s.heap → J.stop i H →
    wpAny (model P w) X.A (pyNext (.ref it)) (fun r s1 => r = none ∧ Inv X pins σ H s1) E s
  self : ∀ (A : Around) (i : Nat) (s : Shared) (Q : Value → Shared → Prop) (E : Value → Shared → Prop), tn i s.heap → Q (.ref it) s → wpAny (model P w) A (pyIter (.ref it)) Q E s
abbrev TI := St → Hp → (It → Hp → Prop) → Prop
/-- an iterator has come -/
def PIE (X : Cx) (pins : List (Addr × Obj)) (σ : St) (tg : Expr) (R : It → Hp → Prop) (itv : Value) (s2 : Shared) : Prop :=
  ∃ (it : Addr) (fp : List Addr) (tn : Nat → Heap → Prop) (J : It) (H' : Hp), itv = .ref it ∧ Inv X pins σ H' s2 ∧ Turn X.prog X.w X.K tg J fp it tn ∧ tn 0 s2.heap ∧ (∀ b ∈ fp, FpOk X pins H' b) ∧ R J H'
def PI (X : Cx) (tg iter : Expr) (wi : TI) : Prop :=
  ∀ (pins : List (Addr × Obj)) (s : Shared) (σ : St) (H : Hp) (R : It → Hp → Prop), Inv X pins σ H s → wi σ H R →
    wpAny (model X.prog X.w) X.A (eval iter X.env) (fun v s1 => wpAny (model X.prog X.w) X.A (pyIter v) (PIE X pins σ tg R) X.xe s1) X.xe s

/-- the step ahead of the store is nothing for an iterator that keeps no tuple -/
theorem go_of {M : Model} {A : Around} {E : Value → Shared → Prop} {s : Shared} {tg : Expr} {it : Addr} {u : Value} {o : Obj} {n : String} {vs : Array Value} {Q : Unit → Shared → Prop} (ho : s.heap.get? it = some o) (hc : o.cls = .type n) (hd : o.data = .fields vs)
    (hn : ["enumerate", "zip", "dict_itemiterator", "dict_reverseitemiterator", "odict_iterator", "itertools.zip_longest", "itertools.pairwise"].contains n = false) (hQ : Q () s) : wpAny M A (letOwnedTupleGo tg (.ref it) u) Q E s := by
  unfold letOwnedTupleGo
  cases tg <;> first
    | exact wpAny_pure hQ
    | (cases u <;> first
        | exact wpAny_pure hQ
        | (refine wpAny_bind (wpAny_load ho ?_)
           rw [hc, hd]
           show wpAny M A (if (["enumerate", "zip", "dict_itemiterator", "dict_reverseitemiterator", "odict_iterator", "itertools.zip_longest", "itertools.pairwise"].contains n && vs[0]? == some (rawInt _)) = true then _ else _) Q E s
           rw [if_neg (by intro h; rw [hn, Bool.false_and] at h; cases h)]
           exact wpAny_pure hQ))

/-- the list at a, as it stands at each turn (a loop may append to it) -/
def Itl (K : PySem.W.Frag) (a : Addr) : It :=
  ⟨fun i H => ∃ xs x, SqL K H a xs ∧ xs[i]? = some x, fun i H x H' => H' = H ∧ ∀ xs, SqL K H a xs → xs[i]? = some x, fun i H => ∃ xs, SqL K H a xs ∧ xs.length ≤ i⟩
/-- lo, lo + 1, .. (n of them) -/
def Itr (lo : Int) (n : Nat) : It := ⟨fun i _ => i < n, fun i H x H' => H' = H ∧ x = .int (lo + i), fun i _ => n ≤ i⟩
theorem turn_list {P : Program} {w : World} {K : PySem.W.Frag} {tg : Expr} (a it : Addr) : Turn P w K tg (Itl K a) [it] it (fun i h => h.IsListIter it a i) where
  mem := by simp
  obj := fun i h st b hb => by
    have e : b = it := by simpa using hb
    subst e
    obtain ⟨o, e, c, d⟩ := st
    exact ⟨o, e, fun v z => by rw [d] at z; cases z⟩
  keep := fun i h h' st k => st.at fun o e => k it (by simp) o e
  item := by
    intro X hP hw hK hc i pins s σ H E I hf st hg
    subst hP hw hK
    obtain ⟨xs, x, hq, hx⟩ := hg
    obtain ⟨its, rv, p, hz⟩ := I.list hq
    obtain ⟨u, hu, ru⟩ := rv.get hx
    obtain ⟨f0, f1, f2, f3, f4, f5⟩ := hf it (by simp)
    refine wpAny_pyNext_list_item st p.isList (x := u) (by simpa using hu) fun h' st' sb => ?_
    have I1 : Inv X pins σ H { s with heap := h' } := I.turned (t' := s.toks) (fun b o hb e => (sb.2 b hb).trans e) f0 f1 f3 f4 f5
    obtain ⟨o, e, c, d⟩ := id st'
    exact ⟨u, rfl, go_of (s := { s with heap := h' }) e c d (by decide) ⟨x, H, I1, ru, ⟨rfl, fun ys hy => by rw [I.list_inj hy hq]; exact hx⟩, st', fun b hb => (hf b hb).1⟩⟩
  done := by
    intro X hP hw hK hc i pins s σ H E I hf st hg
    subst hP hw hK
    obtain ⟨xs, hq, hx⟩ := hg
    obtain ⟨its, rv, p, hz⟩ := I.list hq
    obtain ⟨f0, f1, f2, f3, f4, f5⟩ := hf it (by simp)
    have hl := rv.length
    exact wpAny_pyNext_list_end (I.ok.hd hc) st p.isList (by simp; omega) fun h' eb => ⟨rfl, I.turned (t' := s.toks) (fun b o hb e => eb b o hb e) f0 f1 f3 f4 f5⟩
  self := fun _ _ _ _ _ st h => wpAny_pyIter_listiter st h
theorem turn_range {P : Program} {w : World} {K : PySem.W.Frag} {tg : Expr} (it : Addr) (lo : Int) (n : Nat) : Turn P w K tg (Itr lo n) [it] it (fun i h => IsRangeIter h it (lo + (i : Nat) * 1) ((n : Int) - (i : Nat)) 1) where
  mem := by simp
  obj := fun i h st b hb => by
    have e : b = it := by simpa using hb
    subst e
    exact ⟨_, st, fun v z => by
      have z' : Data.fields _ = Data.cell v := z
      cases z'⟩
  keep := fun i h h' st k => k it (by simp) _ st
  item := by
    intro X hP hw hK hc i pins s σ H E I hf st hg
    subst hP hw hK
    obtain ⟨f0, f1, f2, f3, f4, f5⟩ := hf it (by simp)
    have W := Walks.range (prog := X.prog) (w := X.w) (I.ok.hd hc) it lo 1 n
    refine W.item i s _ _ hg st fun v h' tk hv st' kk => ?_
    obtain ⟨t, rfl⟩ := hv
    have I1 : Inv X pins σ H { s with heap := h', toks := tk } := I.turned (fun b o hb e => kk b o (by simpa using hb) e) f0 f1 f3 f4 f5
    refine ⟨_, rfl, go_of (s := { s with heap := h', toks := tk }) (n := "range_iterator") st' rfl rfl (by decide) ⟨.int (lo + i), H, I1, ⟨t, ?_⟩, ⟨rfl, rfl⟩, st', fun b hb => (hf b hb).1⟩⟩
    rw [Int.mul_one]
  done := by
    intro X hP hw hK hc i pins s σ H E I hf st hg
    subst hP hw hK
    obtain ⟨f0, f1, f2, f3, f4, f5⟩ := hf it (by simp)
    exact wpAny_pyNext_range_end (I.ok.hd hc) st (by have : n ≤ i := hg; omega) fun h' eb => ⟨rfl, I.turned (t' := s.toks) (fun b o hb e => eb b o hb e) f0 f1 f3 f4 f5⟩
  self := fun _ _ _ _ _ st h => wpAny_pyIter_rangeiter st h
end L2

namespace L2
open PySem PySem.Spec PyProof.Rows
section
variable {X : Cx} {tg : Expr}
def iList (K : PySem.W.Frag) (tl : TE) : TI := fun σ H R => tl σ H fun x H1 => ∃ a, x = .ref a ∧ (∃ xs, SqL K H1 a xs) ∧ R (Itl K a) H1
theorem pi_list {l : Expr} {tl : TE} (hl : PE X l tl) : PI X tg l (iList X.K tl) := by
  intro pins s σ H R I h
  refine thn (hl pins s σ H _ I h) fun v s1 hq0 => ?_
  obtain ⟨x, H1, I1, r1, q1⟩ := hq0
  obtain ⟨a, e, ⟨xs, hq⟩, q⟩ := q1
  subst e
  cases r1
  obtain ⟨its, rv, p, hz⟩ := I1.list hq
  refine wpAny_pyIter_list p.isList ?_
  refine ⟨s1.heap.objs.size, [s1.heap.objs.size], _, _, H1, rfl, I1.kept (t' := s1.toks) fun b o e => Heap.get?_push_of_some _ e, turn_list a _, ⟨_, Heap.get?_push_size _ rfl, rfl, rfl⟩, fun b hb => ?_, q⟩
  have e : b = s1.heap.objs.size := by simpa using hb
  subst e
  exact I1.fpOk (Nat.le_refl _) (I1.hok.fresh (Nat.le_refl _))
/-- a range object just made, walked -/
theorem range_it {pins : List (Addr × Obj)} {σ : St} {H : Hp} {s : Shared} {R : It → Hp → Prop} {E : Value → Shared → Prop} {lo hi : Int} {t u v : Tok} {tk : Nat} (I : Inv X pins σ H s) (h1 : -(2 ^ 62) ≤ lo) (h2 : lo < 2 ^ 62) (h3 : -(2 ^ 62) ≤ hi) (h4 : hi < 2 ^ 62)
    (q : R (Itr lo (hi - lo).toNat) H) : wpAny (model X.prog X.w) X.A (pyIter (.ref s.heap.objs.size)) (PIE X pins σ tg R) E { s with heap := s.heap.push { cls := .type "range", data := .fields #[.int lo t, .int hi u, .int 1 v] }, toks := tk } := by
  refine wpAny_pyIter_range (IsRange.new ..) (small_one h1 h2 h3 h4) ?_
  have I1 : Inv X pins σ H { s with heap := s.heap.push { cls := .type "range", data := .fields #[.int lo t, .int hi u, .int 1 v] }, toks := tk } := I.kept fun b o e => Heap.get?_push_of_some _ e
  refine ⟨(s.heap.push { cls := .type "range", data := .fields #[.int lo t, .int hi u, .int 1 v] }).objs.size, [(s.heap.push { cls := .type "range", data := .fields #[.int lo t, .int hi u, .int 1 v] }).objs.size], _, _, H, rfl,
    I1.kept (t' := tk) fun b o e => Heap.get?_push_of_some _ e, turn_range _ lo (hi - lo).toNat, ?_, fun b hb => ?_, q⟩
  · have e1 : lo + ((0 : Nat) : Int) * 1 = lo := by simp
    have e2 : (((hi - lo).toNat : Nat) : Int) - ((0 : Nat) : Int) = Builtin.Range.rangeSize lo hi 1 := by rw [rangeSize_one]; split <;> omega
    show IsRangeIter _ _ (lo + ((0 : Nat) : Int) * 1) ((((hi - lo).toNat : Nat) : Int) - ((0 : Nat) : Int)) 1
    rw [e1, e2]
    exact Heap.get?_push_size _ rfl
  · have e : b = (s.heap.push { cls := .type "range", data := .fields #[.int lo t, .int hi u, .int 1 v] }).objs.size := by simpa using hb
    subst e
    exact I1.fpOk (Nat.le_refl _) (I1.hok.fresh (Nat.le_refl _))
def iRng1 (ta : TA) : TI := fun σ H R => ta σ H fun vs H1 => ∃ j : Int, vs = [.int j] ∧ -(2 ^ 62) ≤ j ∧ j < 2 ^ 62 ∧ R (Itr 0 j.toNat) H1
theorem pi_range1 {a : Expr} {ta : TA} {p pos : Pos} (hg : Gl X "range") (hm : X.mg "range" = none) (ha : PA X [a] ta) (hs : starEach [a] X.env = [(false, eval a X.env)] := by rfl) : PI X tg (.Call (.Name "range" p) [a] [] pos) (iRng1 ta) := by
  intro pins s σ H R I h
  refine Call_ (ld_blt I hg hm boot_range (PyProof.Rows.callWith_type1 (thn (ha pos pins s σ H _ I h) fun us s1 hq0 => ?_) hs rfl))
  obtain ⟨vs, H1, I1, r1, q1⟩ := hq0
  obtain ⟨j, e, q1, q2, q⟩ := q1
  subst e
  cases r1 with
  | cons r rr =>
    cases rr
    obtain ⟨t, rfl⟩ := r
    exact call_range_1 (range_it I1 (by omega) (by omega) q1 q2 (by simpa using q))

/-! ### for -/
/-- W: the invariant by the turn and a measure; N: what the body is to reach -/
def tFor (wi : TI) (g : TG) (tb : TS) : TS := fun D σ H => wi σ H fun J H1 => ∃ W : Nat → Nat → St → Hp → Prop, (∃ m, W 0 m σ H1) ∧ ∀ i m σ H, W i m σ H →
  (J.stop i H ∧ D.nx σ H) ∨ (J.go i H ∧ ∃ N : St → Hp → Prop, (∀ σ' H', N σ' H' → ∃ m', m' < m ∧ W (i + 1) m' σ' H') ∧ ∀ x H', J.yld i H x H' → g x σ H' fun σ2 H2 => tb { D with nx := N, ct := N, bk := D.nx } σ2 H2)
/-- the records at fp as they stand -/
def pinsAt (fp : List Addr) (h : Heap) : List (Addr × Obj) := fp.filterMap fun b => (h.get? b).map fun o => (b, o)
theorem mem_pinsAt {fp : List Addr} {h : Heap} {b : Addr} {o : Obj} (hb : b ∈ fp) (e : h.get? b = some o) : (b, o) ∈ pinsAt fp h := List.mem_filterMap.mpr ⟨b, hb, by rw [e]; rfl⟩
theorem of_pinsAt {fp : List Addr} {h : Heap} {p : Addr × Obj} (hp : p ∈ pinsAt fp h) : p.1 ∈ fp ∧ h.get? p.1 = some p.2 := by
  obtain ⟨b, hb, e⟩ := List.mem_filterMap.mp hp
  cases q : h.get? b with
  | none => rw [q] at e; cases e
  | some o =>
    rw [q] at e
    have e' : (b, o) = p := Option.some.inj e
    subst e'
    exact ⟨hb, q⟩
theorem Inv.pinned {pins : List (Addr × Obj)} {σ : St} {H : Hp} {s : Shared} {fp : List Addr} (I : Inv X pins σ H s) (hf : ∀ b ∈ fp, FpOk X pins H b) (ho : ∀ b ∈ fp, ∃ o, s.heap.get? b = some o ∧ ∀ v, o.data ≠ .cell v) : Inv X (pins ++ pinsAt fp s.heap) σ H s :=
  I.pins_of fun p hp => (List.mem_append.mp hp).elim (fun z => I.pin p (List.mem_append_right _ z)) fun z => by
    obtain ⟨hb, e⟩ := of_pinsAt z
    obtain ⟨f0, f1, f2, _⟩ := hf p.1 hb
    obtain ⟨o, e', d⟩ := ho p.1 hb
    rw [e] at e'; cases e'
    exact ⟨e, f0, f1, f2, d⟩
theorem Inv.unpinned {pins pl : List (Addr × Obj)} {σ : St} {H : Hp} {s : Shared} (I : Inv X (pins ++ pl) σ H s) : Inv X pins σ H s := I.pins_of fun p hp => I.pin p (List.mem_append_right _ (List.mem_append_left _ hp))
theorem ps_for {iter : Expr} {body : List Stmt} {wi : TI} {g : TG} {tb : TS} {pos : Pos} (hp : PassesOwn (model X.prog X.w) X.A X.env X.xe) (hc : X.calm = true) (hi : PI X tg iter wi) (hg : PG X tg g) (hb : PSs X body tb)
    (hs : ∀ x, foldedSetIterable iter X.env x = pure x := by intro _; rfl) : PS X (.For tg iter body [] pos) (tFor wi g tb) := by
  intro pins s σ H D I h
  refine wpAny_For (thn (hi pins s σ H _ I h) fun v s1 h1 => thn h1 fun itv s2 h2 => ?_) hs
  obtain ⟨it, fp, tn, J, H2, e, I2, T, st2, f2, W, ⟨m0, w0⟩, turn⟩ := h2
  subst e
  -- what stays true of the iterator's objects through the loop
  have stat : ∀ {H' : Hp}, (∀ b ∈ fp, H' b = none) → ∀ b ∈ fp, FpOk X pins H' b := fun hn b hb => ⟨hn b hb, (f2 b hb).2⟩
  refine codeAny_forLoop_any (fun n s' => ∃ i σ' H', Inv X pins σ' H' s' ∧ tn i s'.heap ∧ (∀ b ∈ fp, H' b = none) ∧ W i n σ' H') ?_ m0 ⟨0, σ, H2, I2, st2, fun b hb => (f2 b hb).1, w0⟩
  rintro n s3 ⟨i, σ3, H3, I3, st3, fr3, w3⟩
  rcases turn i n σ3 H3 w3 with ⟨stop, qn⟩ | ⟨go, N, hN, step⟩
  · refine wpAny_passesOwn hp (thn (T.done X rfl rfl rfl hc i pins s3 σ3 H3 X.xe I3 (stat fr3) st3 stop) fun r s4 hq0 => ?_)
    obtain ⟨hr, I4⟩ := hq0
    subst hr
    exact wpAny_execs_nil ⟨σ3, H3, I4, qn⟩
  · refine wpAny_passesOwn hp (thn (T.item X rfl rfl rfl hc i pins s3 σ3 H3 X.xe I3 (stat fr3) st3 go) fun r s4 hq0 => ?_)
    obtain ⟨u, hr, h4⟩ := hq0
    subst hr
    refine wpAny_passesOwn hp (thn h4 fun _ s5 hq0 => ?_)
    obtain ⟨x, H5, I5, r5, y5, st5, fr5⟩ := hq0
    have I5' := I5.pinned (stat fr5) (T.obj _ _ st5)
    refine wpAny_passesOwn hp (thn (hg _ s5 σ3 H5 x u _ I5' r5 (step x H5 y5)) fun _ s6 hq0 => ?_)
    obtain ⟨σ6, H6, I6, q6⟩ := hq0
    refine wpAny_passesOwn hp (thn (hb _ s6 σ6 H6 _ I6 q6) fun f s7 q7 => ?_)
    have again : ∀ {σ7 : St} {H7 : Hp}, Inv X (pins ++ pinsAt fp s5.heap) σ7 H7 s7 → N σ7 H7 → ∃ m, m < n ∧ ∃ i σ' H', Inv X pins σ' H' s7 ∧ tn i s7.heap ∧ (∀ b ∈ fp, H' b = none) ∧ W i m σ' H' := fun {σ7 H7} I7 n7 => by
      obtain ⟨m', hm, w7⟩ := hN σ7 H7 n7
      refine ⟨m', hm, i + 1, σ7, H7, I7.unpinned, T.keep _ _ _ st5 fun b hb o e => (I7.pin (b, o) (List.mem_append_right _ (List.mem_append_right _ (mem_pinsAt hb e)))).1, fun b hb => ?_, w7⟩
      obtain ⟨o, e, d⟩ := T.obj _ _ st5 b hb
      exact (I7.pin (b, o) (List.mem_append_right _ (List.mem_append_right _ (mem_pinsAt hb e)))).2.1
    cases f with
    | next => obtain ⟨σ7, H7, I7, n7⟩ := q7; exact again I7 n7
    | cont => obtain ⟨σ7, H7, I7, n7⟩ := q7; exact again I7 n7
    | brk => obtain ⟨σ7, H7, I7, q7⟩ := q7; exact ⟨σ7, H7, I7.unpinned, q7⟩
    | ret v => obtain ⟨x7, σ7, H7, I7, r7, q7⟩ := q7; exact ⟨x7, σ7, H7, I7.unpinned, r7, q7⟩
end

/-! ### the forms one uses -/
/-- over a list that the body leaves as it is -/
theorem for_list {K : PySem.W.Frag} {a : Addr} {xs : List V} {g : TG} {tb : TS} {D : Ends} {σ : St} {H : Hp} (Pv : Nat → St → Hp → Prop) (h0 : Pv 0 σ H) (hl : ∀ i σ H, i ≤ xs.length → Pv i σ H → SqL K H a xs)
    (hs : ∀ i x σ H, xs[i]? = some x → Pv i σ H → g x σ H fun σ2 H2 => tb { D with nx := Pv (i + 1), ct := Pv (i + 1), bk := D.nx } σ2 H2) (hd : ∀ σ H, Pv xs.length σ H → D.nx σ H) :
    ∃ W : Nat → Nat → St → Hp → Prop, (∃ m, W 0 m σ H) ∧ ∀ i m σ H, W i m σ H →
      ((Itl K a).stop i H ∧ D.nx σ H) ∨ ((Itl K a).go i H ∧ ∃ N : St → Hp → Prop, (∀ σ' H', N σ' H' → ∃ m', m' < m ∧ W (i + 1) m' σ' H') ∧ ∀ x H', (Itl K a).yld i H x H' → g x σ H' fun σ2 H2 => tb { D with nx := N, ct := N, bk := D.nx } σ2 H2) := by
  refine ⟨fun i m σ H => m = xs.length - i ∧ i ≤ xs.length ∧ Pv i σ H, ⟨xs.length, by simp, Nat.zero_le _, h0⟩, ?_⟩
  rintro i m σ H ⟨rfl, hi, p⟩
  have q := hl i σ H hi p
  by_cases hlt : i < xs.length
  · refine .inr ⟨⟨xs, xs[i], q, by simp [hlt]⟩, Pv (i + 1), fun σ' H' p' => ⟨xs.length - (i + 1), by omega, rfl, hlt, p'⟩, fun x H' y => ?_⟩
    obtain ⟨e, y⟩ := y
    subst e
    exact hs i x σ _ (y xs q) p
  · have e : i = xs.length := by omega
    subst e
    exact .inl ⟨⟨xs, q, Nat.le_refl _⟩, hd σ H p⟩
theorem for_range {lo : Int} {n : Nat} {g : TG} {tb : TS} {D : Ends} {σ : St} {H : Hp} (Pv : Nat → St → Hp → Prop) (h0 : Pv 0 σ H)
    (hs : ∀ i σ H, i < n → Pv i σ H → g (.int (lo + i)) σ H fun σ2 H2 => tb { D with nx := Pv (i + 1), ct := Pv (i + 1), bk := D.nx } σ2 H2) (hd : ∀ σ H, Pv n σ H → D.nx σ H) :
    ∃ W : Nat → Nat → St → Hp → Prop, (∃ m, W 0 m σ H) ∧ ∀ i m σ H, W i m σ H →
      ((Itr lo n).stop i H ∧ D.nx σ H) ∨ ((Itr lo n).go i H ∧ ∃ N : St → Hp → Prop, (∀ σ' H', N σ' H' → ∃ m', m' < m ∧ W (i + 1) m' σ' H') ∧ ∀ x H', (Itr lo n).yld i H x H' → g x σ H' fun σ2 H2 => tb { D with nx := N, ct := N, bk := D.nx } σ2 H2) := by
  refine ⟨fun i m σ H => m = n - i ∧ i ≤ n ∧ Pv i σ H, ⟨n, by simp, Nat.zero_le _, h0⟩, ?_⟩
  rintro i m σ H ⟨rfl, hi, p⟩
  by_cases hlt : i < n
  · refine .inr ⟨hlt, Pv (i + 1), fun σ' H' p' => ⟨n - (i + 1), by omega, rfl, hlt, p'⟩, fun x H' y => ?_⟩
    obtain ⟨e, y⟩ := y
    subst e y
    exact hs i σ _ hlt p
  · have e : i = n := by omega
    subst e
    exact .inl ⟨Nat.le_refl _, hd σ H p⟩
end L2

namespace L2
open PySem PySem.Spec PyProof.Rows

abbrev R2 := V → V → Hp → VK → Prop
/-- a two-place operation on values: f is binaryOp op, inplaceOp op or compareOp op -/
def OpR (X : Cx) (f : Value → Value → Sem Value) (r : R2) : Prop :=
  ∀ (pins : List (Addr × Obj)) (s : Shared) (σ : St) (H : Hp) (x y : V) (v u : Value) (Q : VK), Inv X pins σ H s → RelV x v → RelV y u → r x y H Q →
    wpAny (model X.prog X.w) X.A (f v u) (EP X pins σ Q) X.xe s
/-- a one-place operation -/
def UnR (X : Cx) (f : Value → Sem Value) (r : V → Hp → VK → Prop) : Prop :=
  ∀ (pins : List (Addr × Obj)) (s : Shared) (σ : St) (H : Hp) (x : V) (v : Value) (Q : VK), Inv X pins σ H s → RelV x v → r x H Q →
    wpAny (model X.prog X.w) X.A (f v) (EP X pins σ Q) X.xe s
/-- a call of a value that is known (a builtin, a type) with values -/
def CallR (X : Cx) (f : Value) (r : List V → Hp → VK → Prop) : Prop :=
  ∀ (pins : List (Addr × Obj)) (s : Shared) (σ : St) (H : Hp) (xs : List V) (us : List Value) (Q : VK), Inv X pins σ H s → Vals xs us → r xs H Q →
    wpAny (model X.prog X.w) X.A (call f us) (EP X pins σ Q) X.xe s

def tOp (r : R2) (ta tb : TE) : TE := fun σ H Q => ta σ H fun x H1 => tb σ H1 fun y H2 => r x y H2 Q
def tUn (r : V → Hp → VK → Prop) (ta : TE) : TE := fun σ H Q => ta σ H fun x H1 => r x H1 Q
/-- ints in, under C, and a value out -/
def rI (C : Int → Int → Prop) (g : Int → Int → V) : R2 := fun x y H Q => ∃ i j, x = .int i ∧ y = .int j ∧ C i j ∧ Q (g i j) H
def rI0 (g : Int → Int → V) : R2 := fun x y H Q => ∃ i j, x = .int i ∧ y = .int j ∧ Q (g i j) H
def rU (g : Int → V) : V → Hp → VK → Prop := fun x H Q => ∃ i, x = .int i ∧ Q (g i) H

section
variable {X : Cx} {a b c : Expr} {ta tb tc : TE} {pos : Pos}

theorem binT (ha : PE X a ta) (hb : PE X b tb) {pins : List (Addr × Obj)} {s : Shared} {σ : St} {H : Hp} {R : V → V → Hp → Prop} (I : Inv X pins σ H s)
    (h : ta σ H fun x H1 => tb σ H1 fun y H2 => R x y H2) {Q : Value → Shared → Prop} {f : Value → Value → Sem Value}
    (hf : ∀ v u s2 x y H2, Inv X pins σ H2 s2 → RelV x v → RelV y u → R x y H2 → wpAny (model X.prog X.w) X.A (f v u) Q X.xe s2) :
    wpAny (model X.prog X.w) X.A (eval a X.env) (fun v s₁ => wpAny (model X.prog X.w) X.A (eval b X.env) (fun u s₂ => wpAny (model X.prog X.w) X.A (f v u) Q X.xe s₂) X.xe s₁) X.xe s := by
  refine thn (ha pins s σ H _ I h) fun v s1 hq0 => ?_
  obtain ⟨x, H1, I1, r1, q1⟩ := hq0
  refine thn (hb pins s1 σ H1 _ I1 q1) fun u s2 hq0 => ?_
  obtain ⟨y, H2, I2, r2, q2⟩ := hq0
  exact hf v u s2 x y H2 I2 r1 r2 q2

theorem pe_op {op : Operator} {r : R2} (ho : OpR X (binaryOp op) r) (ha : PE X a ta) (hb : PE X b tb) : PE X (.BinOp a op b pos) (tOp r ta tb) := by
  intro pins s σ H Q I h
  exact wpAny_BinOp (binT ha hb I h fun v u s2 x y H2 I2 rx ry q => ho pins s2 σ H2 x y v u Q I2 rx ry q)
theorem pe_un {op : UnaryOp} {r : V → Hp → VK → Prop} (ho : UnR X (unaryOp op) r) (ha : PE X a ta) : PE X (.UnaryOp op a pos) (tUn r ta) := by
  intro pins s σ H Q I h
  exact UnaryOp_ (thn (ha pins s σ H _ I h) fun v s1 ⟨x, H1, I1, r1, q1⟩ => ho pins s1 σ H1 x v Q I1 r1 q1)

/-! ### ints -/
theorem opI {f : Value → Value → Sem Value} {C : Int → Int → Prop} {g : Int → Int → Int}
    (rule : ∀ (i j : Int) (t u : Tok) (s : Shared) (Q : Value → Shared → Prop) (E : Value → Shared → Prop), C i j → Q (.int (g i j) s.toks) { s with toks := s.toks + 1 } → wpAny (model X.prog X.w) X.A (f (.int i t) (.int j u)) Q E s) :
    OpR X f (rI C fun i j => .int (g i j)) := by
  intro pins s σ H x y v u Q I rx ry h
  obtain ⟨i, j, rfl, rfl, hc, q⟩ := h
  obtain ⟨t, rfl⟩ := rx
  obtain ⟨t', rfl⟩ := ry
  exact rule i j t t' s _ _ hc ⟨.int (g i j), H, I.tok _, ⟨_, rfl⟩, q⟩
theorem opI0 {f : Value → Value → Sem Value} {g : Int → Int → Int}
    (rule : ∀ (i j : Int) (t u : Tok) (s : Shared) (Q : Value → Shared → Prop) (E : Value → Shared → Prop), Q (.int (g i j) s.toks) { s with toks := s.toks + 1 } → wpAny (model X.prog X.w) X.A (f (.int i t) (.int j u)) Q E s) :
    OpR X f (rI0 fun i j => .int (g i j)) := by
  intro pins s σ H x y v u Q I rx ry h
  obtain ⟨i, j, rfl, rfl, q⟩ := h
  obtain ⟨t, rfl⟩ := rx
  obtain ⟨t', rfl⟩ := ry
  exact rule i j t t' s _ _ ⟨.int (g i j), H, I.tok _, ⟨_, rfl⟩, q⟩
theorem opB0 {f : Value → Value → Sem Value} {g : Int → Int → Bool}
    (rule : ∀ (i j : Int) (t u : Tok) (s : Shared) (Q : Value → Shared → Prop) (E : Value → Shared → Prop), Q (.bool (g i j)) s → wpAny (model X.prog X.w) X.A (f (.int i t) (.int j u)) Q E s) :
    OpR X f (rI0 fun i j => .bl (g i j)) := by
  intro pins s σ H x y v u Q I rx ry h
  obtain ⟨i, j, rfl, rfl, q⟩ := h
  obtain ⟨t, rfl⟩ := rx
  obtain ⟨t', rfl⟩ := ry
  exact rule i j t t' s _ _ ⟨.bl (g i j), H, I, rfl, q⟩

def CPow (i j : Int) : Prop := 0 ≤ j ∧ j ≤ 1000000 ∧ i.natAbs < 2 ^ 64
def CMul (i j : Int) : Prop := (-(2 ^ 64) < i ∧ i < 2 ^ 64) ∨ (-(2 ^ 64) < j ∧ j < 2 ^ 64)
theorem CMul.ok {i j : Int} (h : CMul i j) : IntMulOk i j := by
  rcases h with ⟨h1, h2⟩ | ⟨h1, h2⟩
  · exact .of_left (intBits_le_64 h1 h2)
  · exact .of_right (intBits_le_64 h1 h2)

theorem op_add : OpR X (binaryOp .Add) (rI0 fun i j => .int (i + j)) := opI0 fun _ _ _ _ _ _ _ q => add_int q
theorem op_sub : OpR X (binaryOp .Sub) (rI0 fun i j => .int (i - j)) := opI0 fun _ _ _ _ _ _ _ q => sub_int q
theorem op_mul : OpR X (binaryOp .Mult) (rI CMul fun i j => .int (i * j)) := opI fun _ _ _ _ _ _ _ hc q => mul_int q hc.ok
/-- % by a positive divisor of any size -/
theorem op_mod : OpR X (binaryOp .Mod) (rI (fun _ j => 0 < j) fun i j => .int (i % j)) := opI fun i j _ _ _ _ _ hc q => by
  have h1 : (0 : Int) < j := hc
  exact mod_int' (by omega) (by rw [Int.fmod_eq_emod_of_nonneg i (by omega)]; exact q)
theorem op_pow : OpR X (binaryOp .Pow) (rI CPow fun i j => .int (i ^ j.toNat)) := opI fun _ _ _ _ _ _ _ hc q => pow_int_small hc.1 hc.2.1 hc.2.2 q


theorem unI {f : Value → Sem Value} {g : Int → Int}
    (rule : ∀ (i : Int) (t : Tok) (s : Shared) (Q : Value → Shared → Prop) (E : Value → Shared → Prop), Q (.int (g i) s.toks) { s with toks := s.toks + 1 } → wpAny (model X.prog X.w) X.A (f (.int i t)) Q E s) :
    UnR X f (rU fun i => .int (g i)) := by
  intro pins s σ H x v Q I rx h
  obtain ⟨i, rfl, q⟩ := h
  obtain ⟨t, rfl⟩ := rx
  exact rule i t s _ _ ⟨.int (g i), H, I.tok _, ⟨_, rfl⟩, q⟩
theorem un_neg : UnR X (unaryOp .USub) (rU fun i => .int (-i)) := unI fun _ _ _ _ _ q => neg_int q

/-! ### bools among ints: n += (a < b) -/
end

/-! ### comparisons -/
/-- the scalars that == tells apart as data does -/
def scal : V → V → Bool
  | .non, .non => true | .non, .int _ => true | .int _, .non => true | .non, .bl _ => true | .bl _, .non => true | .non, .str _ => true | .str _, .non => true
  | .int _, .int _ => true | .bl _, .bl _ => true | .str _, .str _ => true | .byt _, .byt _ => true
  | .int _, .str _ => true | .str _, .int _ => true | .bl _, .str _ => true | .str _, .bl _ => true
  | _, _ => false
def rEq : R2 := fun x y H Q => scal x y = true ∧ Q (.bl (decide (x = y))) H
def rNe : R2 := fun x y H Q => scal x y = true ∧ Q (.bl (!decide (x = y))) H

theorem dec_int {i j : Int} : decide (V.int i = V.int j) = (i == j) := by
  rw [Bool.eq_iff_iff]
  simp
theorem dec_bl {i j : Bool} : decide (V.bl i = V.bl j) = (i == j) := by
  rw [Bool.eq_iff_iff]
  simp
theorem dec_str {i j : Str} : decide (V.str i = V.str j) = (i == j) := by
  rw [Bool.eq_iff_iff]
  simp
theorem dec_byt {i j : Array UInt8} : decide (V.byt i = V.byt j) = (i.toList == j.toList) := by
  rw [Bool.eq_iff_iff]
  cases i
  cases j
  simp

section
variable {X : Cx} {a b c : Expr} {ta tb tc : TE} {pos : Pos}
theorem fin_bl {pins : List (Addr × Obj)} {σ : St} {H : Hp} {s : Shared} {Q : VK} {k k' : Bool} (I : Inv X pins σ H s) (q : Q (.bl k) H) (e : k = k') : EP X pins σ Q (.bool k') s := by
  subst e
  exact ⟨.bl k, H, I, rfl, q⟩
theorem op_eq : OpR X (compareOp .Eq) rEq := by
  intro pins s σ H x y v u Q I rx ry h
  obtain ⟨hs, q⟩ := h
  cases x with
  | non =>
    cases rx
    cases y with
    | non => cases ry; exact PySem.EqNone.eq_none_none (fin_bl I q (by simp))
    | bl j => cases ry; exact PySem.EqNone.eq_none_bool (fin_bl I q (by simp))
    | int j => obtain ⟨t', rfl⟩ := ry; exact PySem.EqNone.eq_none_int (fin_bl I q (by simp))
    | str j => obtain ⟨t', rfl⟩ := ry; exact PySem.EqNone.eq_none_str (fin_bl I q (by simp))
    | _ => exact absurd (show false = true from hs) Bool.false_ne_true
  | bl i =>
    cases rx
    cases y with
    | non => cases ry; exact PySem.EqNone.eq_bool_none (fin_bl I q (by simp))
    | bl j => cases ry; exact eq_bool (fin_bl I q dec_bl)
    | str j => obtain ⟨t', rfl⟩ := ry; exact PySem.EqMixed.eq_bool_str (fin_bl I q (by simp))
    | _ => exact absurd (show false = true from hs) Bool.false_ne_true
  | int i =>
    obtain ⟨t, rfl⟩ := rx
    cases y with
    | non => cases ry; exact PySem.EqNone.eq_int_none (fin_bl I q (by simp))
    | int j => obtain ⟨t', rfl⟩ := ry; exact eq_int (fin_bl I q dec_int)
    | str j => obtain ⟨t', rfl⟩ := ry; exact PySem.EqMixed.eq_int_str (fin_bl I q (by simp))
    | _ => exact absurd (show false = true from hs) Bool.false_ne_true
  | str i =>
    obtain ⟨t, rfl⟩ := rx
    cases y with
    | non => cases ry; exact PySem.EqNone.eq_str_none (fin_bl I q (by simp))
    | bl j => cases ry; exact PySem.EqMixed.eq_str_bool (fin_bl I q (by simp))
    | int j => obtain ⟨t', rfl⟩ := ry; exact PySem.EqMixed.eq_str_int (fin_bl I q (by simp))
    | str j => obtain ⟨t', rfl⟩ := ry; exact eq_str (fin_bl I q dec_str)
    | _ => exact absurd (show false = true from hs) Bool.false_ne_true
  | byt i =>
    obtain ⟨t, rfl⟩ := rx
    cases y with
    | byt j => obtain ⟨t', rfl⟩ := ry; exact PySem.W.eq_bytes (fin_bl I q dec_byt)
    | _ => exact absurd (show false = true from hs) Bool.false_ne_true
  | _ => cases y <;> exact absurd (show false = true from hs) Bool.false_ne_true
theorem op_ne : OpR X (compareOp .NotEq) rNe := by
  intro pins s σ H x y v u Q I rx ry h
  obtain ⟨hs, q⟩ := h
  cases x with
  | non =>
    cases rx
    cases y with
    | non => cases ry; exact PySem.EqNone.ne_none_none (fin_bl I q (by simp))
    | bl j => cases ry; exact PySem.EqNone.ne_none_bool (fin_bl I q (by simp))
    | int j => obtain ⟨t', rfl⟩ := ry; exact PySem.EqNone.ne_none_int (fin_bl I q (by simp))
    | str j => obtain ⟨t', rfl⟩ := ry; exact PySem.EqNone.ne_none_str (fin_bl I q (by simp))
    | _ => exact absurd (show false = true from hs) Bool.false_ne_true
  | bl i =>
    cases rx
    cases y with
    | non => cases ry; exact PySem.EqNone.ne_bool_none (fin_bl I q (by simp))
    | bl j => cases ry; exact ne_bool (fin_bl I q (congrArg not dec_bl))
    | str j => obtain ⟨t', rfl⟩ := ry; exact PySem.EqMixed.ne_bool_str (fin_bl I q (by simp))
    | _ => exact absurd (show false = true from hs) Bool.false_ne_true
  | int i =>
    obtain ⟨t, rfl⟩ := rx
    cases y with
    | non => cases ry; exact PySem.EqNone.ne_int_none (fin_bl I q (by simp))
    | int j => obtain ⟨t', rfl⟩ := ry; exact ne_int (fin_bl I q (congrArg not dec_int))
    | str j => obtain ⟨t', rfl⟩ := ry; exact PySem.EqMixed.ne_int_str (fin_bl I q (by simp))
    | _ => exact absurd (show false = true from hs) Bool.false_ne_true
  | str i =>
    obtain ⟨t, rfl⟩ := rx
    cases y with
    | non => cases ry; exact PySem.EqNone.ne_str_none (fin_bl I q (by simp))
    | bl j => cases ry; exact PySem.EqMixed.ne_str_bool (fin_bl I q (by simp))
    | int j => obtain ⟨t', rfl⟩ := ry; exact PySem.EqMixed.ne_str_int (fin_bl I q (by simp))
    | str j => obtain ⟨t', rfl⟩ := ry; exact ne_str (fin_bl I q (congrArg not dec_str))
    | _ => exact absurd (show false = true from hs) Bool.false_ne_true
  | byt i =>
    obtain ⟨t, rfl⟩ := rx
    cases y with
    | byt j => obtain ⟨t', rfl⟩ := ry; exact PySem.W.ne_bytes (fin_bl I q (congrArg not dec_byt))
    | _ => exact absurd (show false = true from hs) Bool.false_ne_true
  | _ => cases y <;> exact absurd (show false = true from hs) Bool.false_ne_true

theorem op_lt : OpR X (compareOp .Lt) (rI0 fun i j => .bl (decide (i < j))) := opB0 fun _ _ _ _ _ _ _ q => lt_int q
theorem op_ge : OpR X (compareOp .GtE) (rI0 fun i j => .bl (decide (j ≤ i))) := opB0 fun _ _ _ _ _ _ _ q => ge_int q




theorem nomark (b : Expr) {op : CmpOp} (h : op ≠ .In := by decide) (h2 : op ≠ .NotIn := by decide) : behindInMarks op b = false := by
  have e1 : (op == CmpOp.In) = false := by cases op <;> first | rfl | exact absurd rfl h
  have e2 : (op == CmpOp.NotIn) = false := by cases op <;> first | rfl | exact absurd rfl h2
  cases b <;> simp [behindInMarks, e1, e2]
/-- a comparison as a value; hm: nomark b, or (for in, not in) by with_unfolding_all rfl -/
theorem pe_cmpR {op : CmpOp} {r : R2} (ho : OpR X (compareOp op) r) (ha : PE X a ta) (hb : PE X b tb) (hm : behindInMarks op b = false) : PE X (.Compare a [op] [b] pos) (tOp r ta tb) := by
  intro pins s σ H Q I h
  exact wpAny_Compare1 (binT ha hb I h fun v u s2 x y H2 I2 rx ry q => ho pins s2 σ H2 x y v u Q I2 rx ry q) hm
/-- a reading of a value as a test -/
def tTest (t : TE) : TT := fun σ H Q => t σ H fun x H' => ∃ k, x = .bl k ∧ Q k H'
theorem pt_cmpR {op : CmpOp} {r : R2} (ho : OpR X (compareOp op) r) (ha : PE X a ta) (hb : PE X b tb) (hm : behindInMarks op b = false) : PT X (.Compare a [op] [b] pos) (tTest (tOp r ta tb)) := by
  intro pins s σ H Q I h
  refine wpAny_isTrue_Compare1 (thn (ha pins s σ H _ I h) fun v s1 ⟨x, H1, I1, r1, q1⟩ => thn (hb pins s1 σ H1 _ I1 q1) fun u s2 ⟨y, H2, I2, r2, q2⟩ =>
    thn (ho pins s2 σ H2 x y v u _ I2 r1 r2 q2) fun c s3 ⟨z, H3, I3, r3, k, e, q3⟩ => ?_) hm
  subst e
  cases r3
  exact wpAny_truthy_bool ⟨H3, I3, q3⟩

/-! ### truth -/
theorem line63 : (sizeLine : Nat) < 2 ^ 63 := by rw [sizeLine_eq]; decide

/-! ### strs and bytes -/
theorem op_add_str : OpR X (binaryOp .Add) (fun x y H Q => ∃ i j, x = .str i ∧ y = .str j ∧ i.length + j.length ≤ sizeLine ∧ Q (.str (i ++ j)) H) := by
  intro pins s σ H x y v u Q I rx ry h
  obtain ⟨i, j, rfl, rfl, hz, q⟩ := h
  obtain ⟨t, rfl⟩ := rx
  obtain ⟨t', rfl⟩ := ry
  exact add_str (fun t' tk => ⟨.str (i ++ j), H, I.tok _, ⟨_, rfl⟩, q⟩) hz


/-! ### scalar builtins, by CallR -/
theorem vals1 {x : V} {us : List Value} (r : Vals [x] us) : ∃ u, us = [u] ∧ RelV x u := by
  cases r with
  | cons r1 r2 => cases r2; exact ⟨_, rfl, r1⟩
theorem vals2 {x y : V} {us : List Value} (r : Vals [x, y] us) : ∃ u w', us = [u, w'] ∧ RelV x u ∧ RelV y w' := by
  cases r with
  | cons r1 r2 =>
    cases r2 with
    | cons r3 r4 => cases r4; exact ⟨_, _, rfl, r1, r3⟩
end
end L2

namespace L2
open PySem PySem.Spec PyProof.Rows

/-! ### an instance, its attributes a map -/
structure ObjM (h : Heap) (x dx C : Addr) (mA : Str → Option Value) : Prop where
  obj : h.get? x = some (PySem.W.instObj C dx)
  ns : h.Ns1 dx mA
  ne : dx ≠ x

theorem lookIn_ns {h : Heap} {dx : Addr} {mA : Str → Option Value} (n : h.Ns1 dx mA) : ∃ od, h.get? dx = some od ∧ ∀ name, PySem.W.lookIn name od = some (mA name) := by
  obtain ⟨o, es, ep, ho, hd, hk, _, hm⟩ := n
  refine ⟨o, ho, fun name => ?_⟩
  have e := hm name
  unfold nsFind findBy at e
  rw [← Array.find?_toList] at e
  unfold PySem.W.lookIn
  rw [hd]
  dsimp only
  split
  · rename_i y q
    rw [q] at e
    exact congrArg some e
  · rename_i q
    rw [q] at e
    have a : es.toList.any (·.refKey) = false := by
      rw [List.any_eq_false]
      intro y hy
      obtain ⟨z, t, hkey⟩ := hk y (Array.mem_toList_iff.mp hy)
      simp [DictEntry.refKey, hkey]
    have a' : ¬ es.toList.any (·.refKey) = true := by rw [a]; exact Bool.false_ne_true
    rw [if_neg a']
    exact congrArg some e

theorem ObjM.look {h : Heap} {x dx C : Addr} {mA : Str → Option Value} (I : ObjM h x dx C mA) : ∃ od, PySem.W.InstAt h x (PySem.W.instObj C dx) C (some od) ∧ ∀ name, PySem.W.lookIn name od = some (mA name) :=
  let ⟨od, ho, hl⟩ := lookIn_ns I.ns
  ⟨od, ⟨I.obj, rfl, rfl, ho⟩, hl⟩

section
variable {prog : Program} {w : World} {A : Around} {E : Value → Shared → Prop} {s : Shared} {K : PySem.W.Frag} {x dx C f : Addr} {mA : Str → Option Value} {name : Str} {v : Value}

theorem get_map {expr : Bool} {Q : Value → Shared → Prop} (X : K.In s.heap) (I : ObjM s.heap x dx C mA) (hg : PySem.W.plainGet K C name = true) (hh : PySem.W.hasDictIn K C = true)
    (ha : PySem.W.findIn K (.ref C) name = some none) (hv : mA name = some v) (hv' : PySem.W.handedIn v = true) (h : Q v { s with toks := s.toks + 1 }) :
    wpAny (model prog w) A (getAttr (.ref x) name expr) Q E s := by
  obtain ⟨od, J, hl⟩ := I.look
  exact PySem.W.get_value X J (PySem.W.plainGet_of hg).1 (PySem.W.findObj_own hh ha rfl (by rw [hl, hv])) hv' h


theorem get_meth {pl : Sem Bool} {Q : Value × List Value → Shared → Prop} (X : K.In s.heap) (I : ObjM s.heap x dx C mA) (hg : PySem.W.plainGet K C name = true)
    (hf : PySem.W.findIn K (.ref C) name = some (some (.ref f))) (ht : PySem.W.isFn K (.ref f) = true) (hv : mA name = none) (h : Q (.ref f, [.ref x]) s) :
    wpAny (model prog w) A (getMethod (.ref x) name pl) Q E s := by
  obtain ⟨od, J, hl⟩ := I.look
  exact PySem.W.method_fn X J (PySem.W.plainGet_of hg).1 (PySem.W.plainGet_of hg).2 hf (beq_iff_eq.mp ht) (by show (PySem.W.lookIn name od).map (·.isSome) = some false; rw [hl, hv]; rfl) h

theorem set_map {ns : List Str} {Q : Unit → Shared → Prop} (X : K.In s.heap) (I : ObjM s.heap x dx C mA)
    (hs : PySem.W.findIn K (.ref C) "__setattr__" = some (some (.builtin "object.__setattr__"))) (hp : PySem.W.plainOver K C = true) (ht : PySem.W.takerIn K C name = some none) (hh : PySem.W.hasDictIn K C = true)
    (hw : PySem.Within mA ns) (hsz : ns.length ≤ sizeLine)
    (h : ∀ h', ObjM h' x dx C (fun y => if y = name then some v else mA y) → Heap.SameBut dx s.heap h' → Q () { s with heap := h', toks := s.toks + 2 }) :
    wpAny (model prog w) A (setAttr (.ref x) name v) Q E s := by
  obtain ⟨od, J, hl⟩ := I.look
  refine PySem.W.set_plain X J hs (PySem.W.osa_open (s := { s with toks := s.toks + 1 }) (r := none) X J hp ht fun b => ?_)
  obtain ⟨cd, hc, hd'⟩ := PySem.W.any_some hh
  have hx : s.heap.get? x = some ⟨.ref C, some dx, .plain, #[]⟩ := I.obj
  refine wpAny_bind (wpAny_pure (wpAny_bind (wpAny_bind (wpAny_loadPart hx (wpAny_bind (PySem.W.Looks.here (s := { s with toks := s.toks + 1 }) (PySem.W.looks_clsIn X hc) ?_))))))
  rw [hd']
  refine wpAny_pure (a := some dx) (wpAny_bind (wpAny_pure (wpAny_bind ?_)))
  refine wpAny_nsSet1 (s := { s with toks := s.toks + 1 }) I.ns fun h' hn2 hs2 => ?_
  obtain ⟨oD, esD, epD, hoD, hdD, hcD⟩ := hn2.count (PySem.Within.cons name v hw)
  refine wpAny_bind (wpAny_lookBehind hoD (by rw [hdD]; exact pastItsLine_dict (Nat.le_trans hcD (by rw [List.length_cons]; omega))) ?_)
  exact wpAny_pure (h _ ⟨(hs2.2 _ (Ne.symm I.ne)).trans I.obj, hn2, I.ne⟩ hs2)

/-- C(..): the dict at the heap's end, the instance behind it; then its __init__ -/
theorem make_map {R : Result → Shared → Prop} {vs : List Value} {kw : List (Str × Value)} (X : K.In s.heap) (hm : PySem.W.makesIn K C = true)
    (hi : PySem.W.findIn K (.ref C) "__init__" = some (some (.ref f))) (hf : PySem.W.typeIn K (.ref f) = some (.type "function"))
    (h : codeAny (model prog w) (A.under (.builtin "type.__call__" ⟨.ref C :: vs, kw⟩)) (.call (.ref f) ⟨.ref (s.heap.objs.size + 1) :: vs, kw⟩) (PySem.W.InitBack (s.heap.objs.size + 1) R)
      { s with heap := (s.heap.push PySem.W.emptyDict).push (PySem.W.instObj C s.heap.objs.size) }) :
    codeAny (model prog w) A (.call (.ref C) ⟨vs, kw⟩) R s := by
  obtain ⟨hh, g, d, t, os⟩ := s
  exact PySem.W.make_core (PySem.W.makes_of X hm) (PySem.W.looks_findIn X hi) (fun self => PySem.W.bind_fn X self hf) (.inl rfl) h
end

/-! ### the attributes as a list of pairs -/
def putF (f : Str) (v : V) : List (Str × V) → List (Str × V)
  | [] => [(f, v)]
  | (g, x) :: r => if g = f then (g, v) :: r else (g, x) :: putF f v r
theorem lookup_putF (f g : Str) (v : V) : ∀ fs : List (Str × V), (putF f v fs).lookup g = if g = f then some v else fs.lookup g
  | [] => by
    show List.lookup g [(f, v)] = _
    by_cases h : g = f
    · have hb : (g == f) = true := beq_iff_eq.mpr h
      simp only [List.lookup, hb, if_pos h]
    · have hb : (g == f) = false := beq_eq_false_iff_ne.mpr h
      simp only [List.lookup, hb, if_neg h]
  | (k, x) :: r => by
    have ih := lookup_putF f g v r
    rw [show putF f v ((k, x) :: r) = (if k = f then (k, v) :: r else (k, x) :: putF f v r) from rfl]
    by_cases hk : k = f
    · rw [if_pos hk]
      by_cases h : g = k
      · have hb : (g == k) = true := beq_iff_eq.mpr h
        simp only [List.lookup, hb, if_pos (h.trans hk)]
      · have hb : (g == k) = false := beq_eq_false_iff_ne.mpr h
        simp only [List.lookup, hb, if_neg (fun e : g = f => h (e.trans hk.symm))]
    · rw [if_neg hk]
      by_cases h : g = k
      · have hb : (g == k) = true := beq_iff_eq.mpr h
        simp only [List.lookup, hb, if_neg (fun e : g = f => hk (h.symm.trans e))]
      · have hb : (g == k) = false := beq_eq_false_iff_ne.mpr h
        simp only [List.lookup, hb]
        exact ih
theorem keys_putF (f : Str) (v : V) : ∀ fs : List (Str × V), f ∈ (putF f v fs).map (·.1) ∧ ∀ g, g ∈ fs.map (·.1) → g ∈ (putF f v fs).map (·.1)
  | [] => ⟨by simp [putF], fun g h => by simp at h⟩
  | (k, x) :: r => by
    obtain ⟨i1, i2⟩ := keys_putF f v r
    rw [show putF f v ((k, x) :: r) = (if k = f then (k, v) :: r else (k, x) :: putF f v r) from rfl]
    by_cases hk : k = f
    · rw [if_pos hk]
      subst hk
      exact ⟨by simp, fun g h => by simpa using h⟩
    · rw [if_neg hk]
      refine ⟨?_, fun g h => ?_⟩
      · rw [List.map_cons]
        exact List.mem_cons_of_mem _ i1
      · rw [List.map_cons] at h ⊢
        rcases List.mem_cons.mp h with e | e
        · exact List.mem_cons.mpr (.inl e)
        · exact List.mem_cons_of_mem _ (i2 g e)
theorem length_putF (f : Str) (v : V) : ∀ fs : List (Str × V), (putF f v fs).length ≤ fs.length + 1
  | [] => by simp [putF]
  | (k, x) :: r => by
    have ih := length_putF f v r
    rw [show putF f v ((k, x) :: r) = (if k = f then (k, v) :: r else (k, x) :: putF f v r) from rfl]
    by_cases hk : k = f
    · rw [if_pos hk, List.length_cons, List.length_cons]; omega
    · rw [if_neg hk, List.length_cons, List.length_cons]; omega

theorem RelO.some_of {v : V} {o : Option Value} (r : RelO (some v) o) : ∃ u, o = some u ∧ RelV v u := by
  cases o with
  | none => exact (show False from r).elim
  | some u => exact ⟨u, rfl, r⟩
theorem RelO.none_of {o : Option Value} (r : RelO none o) : o = none := by
  cases o with
  | none => rfl
  | some u => exact (show False from r).elim
theorem handed_of {v : V} {u : Value} (r : RelV v u) : PySem.W.handedIn u = true := by
  cases v with
  | non => cases (show u = Value.none from r); rfl
  | bl b => cases (show u = Value.bool b from r); rfl
  | int i => obtain ⟨t, e⟩ := (show ∃ t, u = Value.int i t from r); cases e; rfl
  | str x => obtain ⟨t, e⟩ := (show ∃ t, u = Value.str x t from r); cases e; rfl
  | byt b => obtain ⟨t, e⟩ := (show ∃ t, u = Value.bytes b t from r); cases e; rfl
  | flt b => obtain ⟨t, e⟩ := (show ∃ t, u = Value.float b t from r); cases e; rfl
  | ref a => cases (show u = Value.ref a from r); rfl
  | ty n => cases (show u = Value.type n from r); rfl

section
variable {P : Program} {w : World} {H H' : Hp} {h h' : Heap} {a C dx : Addr} {fs fs' : List (Str × V)}
theorem ins_get (hok : HOk P w H h) (e : H a = some (.ins C dx fs)) : ∃ mA, ObjM h a dx C mA ∧ (∀ f, RelO (fs.lookup f) (mA f)) ∧ PySem.Within mA (fs.map (·.1)) ∧ fs.length ≤ 1000 ∧ H dx = some (.own a) := by
  obtain ⟨d, z, ne, ob, mA, n, r, q⟩ := (show ObjOk P w H h a (.ins C dx fs) from hok a _ e)
  exact ⟨mA, ⟨ob, n, ne⟩, r, q, z, d⟩
end

/-! ### what of the text a class must have -/
structure Cls (K : PySem.W.Frag) (C : Addr) : Prop where
  pg : PySem.W.plainGet K C Str.empty = true
  hd : PySem.W.hasDictIn K C = true
  po : PySem.W.plainOver K C = true
  sa : PySem.W.findIn K (.ref C) "__setattr__" = some (some (.builtin "object.__setattr__"))
theorem Cls.get {K : PySem.W.Frag} {C : Addr} (c : Cls K C) (f : Str) : PySem.W.plainGet K C f = true := c.pg
/-- no class of it has the name -/
def NoAttr (K : PySem.W.Frag) (C : Addr) (f : Str) : Prop := PySem.W.findIn K (.ref C) f = some none
theorem NoAttr.taker {K : PySem.W.Frag} {C : Addr} {f : Str} (n : NoAttr K C f) : PySem.W.takerIn K C f = some none := by
  unfold PySem.W.takerIn
  rw [show PySem.W.findIn K (.ref C) f = some none from n]
  rfl
/-- a method: a plain def of the class or of one above it -/
structure Meth (K : PySem.W.Frag) (C : Addr) (m : Str) (f : Addr) : Prop where
  at_ : PySem.W.findIn K (.ref C) m = some (some (.ref f))
  fn : PySem.W.isFn K (.ref f) = true
  kp : PySem.W.keepIn K (.ref f) = true

section
variable {X : Cx} {pins : List (Addr × Obj)} {σ : St} {H : Hp} {s : Shared} {a C dx : Addr} {fs : List (Str × V)} {f : Str} {v : V} {A : Around} {E : Value → Shared → Prop}

theorem getattr_ok {b : Bool} {Q : Value → Shared → Prop} (I : Inv X pins σ H s) (e : H a = some (.ins C dx fs)) (c : Cls X.K C) (n : NoAttr X.K C f) (l : fs.lookup f = some v)
    (h : ∀ u s', Inv X pins σ H s' → RelV v u → Q u s') : wpAny (model X.prog X.w) A (getAttr (.ref a) f b) Q E s := by
  obtain ⟨mA, O, r, _, _, _⟩ := ins_get I.hok e
  obtain ⟨u, hu, ru⟩ := RelO.some_of (v := v) (o := mA f) (by rw [← l]; exact r f)
  exact get_map I.kIn O (c.get f) c.hd n hu (handed_of ru) (h u _ (I.tok _) ru)


theorem getmeth_ok {m : Str} {g : Addr} {pl : Sem Bool} {Q : Value × List Value → Shared → Prop} (I : Inv X pins σ H s) (e : H a = some (.ins C dx fs)) (c : Cls X.K C) (k : Meth X.K C m g) (l : fs.lookup m = none)
    (h : Q (.ref g, [.ref a]) s) : wpAny (model X.prog X.w) A (getMethod (.ref a) m pl) Q E s := by
  obtain ⟨mA, O, r, _, _, _⟩ := ins_get I.hok e
  have hn : mA m = none := RelO.none_of (by rw [← l]; exact r m)
  exact get_meth I.kIn O (c.get m) k.at_ k.fn hn h

theorem setattr_ok {y : V} {u : Value} {Q : Unit → Shared → Prop} (I : Inv X pins σ H s) (e : H a = some (.ins C dx fs)) (c : Cls X.K C) (n : NoAttr X.K C f) (hl : fs.length < 1000) (ry : RelV y u)
    (h : ∀ s', Inv X pins σ (upd H a (.ins C dx (putF f y fs))) s' → Q () s') : wpAny (model X.prog X.w) A (setAttr (.ref a) f u) Q E s := by
  obtain ⟨mA, O, r, wi, _, ho⟩ := ins_get I.hok e
  have hz : (fs.map (·.1)).length ≤ sizeLine := by rw [List.length_map, sizeLine_eq]; omega
  refine set_map I.kIn O c.sa c.po n.taker c.hd wi hz fun h' O' sb => h _ ?_
  have hd : ∃ o, h'.get? dx = some o := let ⟨o, _, _, e', _⟩ := O'.ns; ⟨o, e'⟩
  refine I.write (x := a) (e := dx) (by rw [e]; exact True.intro) (.inr ho) (fun b q hb z => (sb.2 b hb).trans z) hd ?_
  refine ⟨by rw [upd_ne O.ne]; exact ho, ?_, O.ne, O'.obj, _, O'.ns, fun g => ?_, fun g hg => ?_⟩
  · have := length_putF f y fs; omega
  · show RelO ((putF f y fs).lookup g) (if g = f then some u else mA g)
    rw [lookup_putF]
    by_cases q : g = f
    · rw [if_pos q, if_pos q]; exact ry
    · rw [if_neg q, if_neg q]; exact r g
  · by_cases q : g = f
    · rw [q]; exact (keys_putF f y fs).1
    · refine (keys_putF f y fs).2 g (wi g fun z => hg ?_)
      show (if g = f then some u else mA g) = none
      rw [if_neg q]; exact z

/-- a new instance, tracked, without attributes -/
theorem Inv.made (I : Inv X pins σ H s) : Inv X pins σ (upd (upd H s.heap.objs.size (.own (s.heap.objs.size + 1))) (s.heap.objs.size + 1) (.ins C s.heap.objs.size []))
    { s with heap := (s.heap.push PySem.W.emptyDict).push (PySem.W.instObj C s.heap.objs.size) } := by
  have e1 : (s.heap.push PySem.W.emptyDict).get? s.heap.objs.size = some PySem.W.emptyDict := Heap.get?_push_size s.heap rfl
  have e2 : ((s.heap.push PySem.W.emptyDict).push (PySem.W.instObj C s.heap.objs.size)).get? (s.heap.objs.size + 1) = some (PySem.W.instObj C s.heap.objs.size) := by
    have := Heap.get?_push_size (s.heap.push PySem.W.emptyDict) (o := PySem.W.instObj C s.heap.objs.size) rfl
    rwa [Heap.size_push] at this
  have e3 : (s.heap.push PySem.W.emptyDict).Ns s.heap.objs.size (fun _ => none) := ⟨PySem.W.emptyDict, #[], _, e1, rfl, (fun e he => absurd he (by simp)), fun _ => rfl⟩
  have I1 := I.laid (a := s.heap.objs.size) (o := .own (s.heap.objs.size + 1)) (h' := s.heap.push PySem.W.emptyDict) (t' := s.toks) (fun b u q => Heap.get?_push_of_some _ q) (Nat.le_refl _) ⟨_, e1⟩
  refine I1.laid (a := s.heap.objs.size + 1) (o := .ins C s.heap.objs.size []) (t' := s.toks) (fun b u q => Heap.get?_push_of_some _ q) (Nat.le_of_eq (Heap.size_push _ _)) ?_
  have ne : s.heap.objs.size ≠ s.heap.objs.size + 1 := Nat.ne_of_lt (Nat.lt_succ_self _)
  refine ⟨by rw [upd_ne ne, upd_same], Nat.zero_le _, ne, e2, fun _ => none, (Heap.Ns1.of_empty e3).at fun o q => Heap.get?_push_of_some _ q, fun _ => True.intro, fun y hy => absurd rfl hy⟩

/-- e.f where nothing but the object is asked: through attributeBase (super) and the last hold -/
theorem attr_of {prog : Program} {w : World} {env : Env} {e : Expr} {f : Str} {pos : Pos} {s : Shared} {Q : Value → Shared → Prop} (hb : attributeBase e f env (eval e env) = eval e env)
    (h : wpAny (model prog w) A (eval e env) (fun o s₁ => wpAny (model prog w) A (getAttr o f true) Q E s₁) E s) : wpAny (model prog w) A (eval (.Attribute e f pos) env) Q E s :=
  Attribute_any_ h (by rw [arm_eval_Attribute, hb])
end

/-! ### readings and rules -/
/-- e.f, an attribute of the instance -/
def tFld (K : PySem.W.Frag) (ta : TE) (f : Str) : TE := fun σ H Q => ta σ H fun x H1 => ∃ a C dx fs v, x = .ref a ∧ H1 a = some (.ins C dx fs) ∧ Cls K C ∧ NoAttr K C f ∧ fs.lookup f = some v ∧ Q v H1
/-- e.f = value -/
def sFld (K : PySem.W.Frag) (ta tv : TE) (f : Str) : TS := fun D σ H => tv σ H fun y H1 => ta σ H1 fun x H2 => ∃ a C dx fs, x = .ref a ∧ H2 a = some (.ins C dx fs) ∧ Cls K C ∧ NoAttr K C f ∧ fs.length < 1000 ∧
  D.nx σ (upd H2 a (.ins C dx (putF f y fs)))

section
variable {X : Cx} {o e value : Expr} {f : Str} {pos pos' tpos : Pos} {ta tv : TE}
theorem pe_fld (he : PE X e ta) (hb : attributeBase e f X.env (eval e X.env) = eval e X.env) : PE X (.Attribute e f pos) (tFld X.K ta f) := by
  intro pins s σ H Q I h
  refine attr_of hb (thn (he pins s σ H _ I h) fun u s1 hq0 => ?_)
  obtain ⟨x, H1, I1, rx, a, C, dx, fs, v, ex, ea, c, n, l, q⟩ := hq0
  subst ex
  obtain rfl : u = Value.ref a := rx
  exact getattr_ok I1 ea c n l fun u' s2 I2 ru => ⟨v, H1, I2, ru, q⟩
theorem ps_fld (ha : PE X o ta) (hv : PE X value tv) (hs : swapsWith value (some (.Attribute o f pos')) pos.line X.env = pure false) : PS X (.Assign [.Attribute o f pos'] value pos) (sFld X.K ta tv f) := by
  intro pins s σ H D I h
  refine plainObj_wpAny_Assign_Attribute (thn (hv pins s σ H _ I h) fun u s1 ⟨y, H1, I1, ry, q⟩ => thn (ha pins s1 σ H1 _ I1 q) fun ov s2 hq0 => ?_) hs
  obtain ⟨x, H2, I2, rx, a, C, dx, fs, ex, ea, c, n, l, q2⟩ := hq0
  subst ex
  obtain rfl : ov = Value.ref a := rx
  exact setattr_ok I2 ea c n l ry fun s3 I3 => ⟨σ, _, I3, q2⟩

/-- what is between an instance and its method: the tree of a method call -/
theorem methcall_of {pl : Sem Bool} {m : Str} {apos : Pos} {args : List Expr} {pins : List (Addr × Obj)} {s : Shared} {σ : St} {H : Hp} {Q : Value → Shared → Prop} {te : TE} (he : PE X e te) (I : Inv X pins σ H s)
    (h : te σ H fun x H1 => ∃ a C dx fs g, x = .ref a ∧ H1 a = some (.ins C dx fs) ∧ Cls X.K C ∧ Meth X.K C m g ∧ fs.lookup m = none ∧
      ∀ s1, Inv X pins σ H1 s1 → wpAny (model X.prog X.w) X.A (callWith pos (.ref g) [.ref a] (backTo pos (starEach args X.env)) (backToKw pos (keywordEach [] X.env))) Q X.xe s1)
    (ht : eval (.Call (.Attribute e m apos) args [] pos) X.env = (do
      let ov ← eval e X.env
      standAt apos.atName
      let (f, first) ← holding [ov] (getMethod ov m pl)
      callWith pos f first (backTo pos (starEach args X.env)) (backToKw pos (keywordEach [] X.env)))) :
    wpAny (model X.prog X.w) X.A (eval (.Call (.Attribute e m apos) args [] pos) X.env) Q X.xe s := by
  refine PySem.W.methodCall_KW (pl := pl) (thn (he pins s σ H _ I h) fun u s1 hq0 => ?_) ht
  obtain ⟨x, H1, I1, rx, a, C, dx, fs, g, ex, ea, c, k, l, q⟩ := hq0
  subst ex
  obtain rfl : u = Value.ref a := rx
  exact getmeth_ok I1 ea c k l (q s1 I1)
end

/-! ### isinstance -/
section
variable {X : Cx} {pins : List (Addr × Obj)} {σ : St} {H : Hp} {s : Shared} {A : Around} {E : Value → Shared → Prop} {Q : Value → Shared → Prop} {c : Value} {b : Bool}
/-- the type of a value, as the fragment's deciders take it; for an instance its class -/
inductive TyOf (K : PySem.W.Frag) (H : Hp) : V → Value → Prop where
  | non : TyOf K H .non (.type "NoneType")
  | bl (x : Bool) : TyOf K H (.bl x) (.type "bool")
  | int (i : Int) : TyOf K H (.int i) (.type "int")
  | str (x : Str) : TyOf K H (.str x) (.type "str")
  | flt (x : UInt64) : TyOf K H (.flt x) (.type "float")
  | lst {a : Addr} {xs : List V} (e : H a = some (.lst xs)) : TyOf K H (.ref a) (.type "list")
  | frz {a : Addr} {o : Obj} {xs : List V} (e : H a = some (.frz o (.lst xs))) : TyOf K H (.ref a) (.type "list")
  | tup {a : Addr} {xs : List V} (e : H a = some (.tup xs)) : TyOf K H (.ref a) (.type "tuple")
  | dK {a : Addr} {kvs : List (Key × V)} (e : H a = some (.dK kvs)) : TyOf K H (.ref a) (.type "dict")
  | dT {a : Addr} {kvs : List (List Key × V)} (e : H a = some (.dT kvs)) : TyOf K H (.ref a) (.type "dict")
  | ins {a C dx : Addr} {fs : List (Str × V)} (e : H a = some (.ins C dx fs)) (cl : Cls K C) (ha : PySem.W.findIn K (.ref C) "__class__" = some (some (.builtin "object.__class__")))
      (hn : PySem.W.specialIn K (.builtin "object.__class__") "__get__" = some (some (.builtin "getset_descriptor.__get__"))) (htk : PySem.W.takesIn K (.builtin "object.__class__") = some true)
      (hm : PySem.W.mroIn K C (.type "object") = some true) : TyOf K H (.ref a) (.ref C)
/-- isinstance(x, c) for one class c, a built-in or an own one: kitOne's answer -/
theorem isinst_ok {x : V} {u t : Value} (I : Inv X pins σ H s) (rx : RelV x u) (ty : TyOf X.K H x t) (e : PySem.W.kitOne X.K t c = some b) (h : ∀ tk, Q (.bool b) { s with toks := tk }) :
    wpAny (model X.prog X.w) A (call (.builtin "isinstance") [u, c]) Q E s := by
  cases ty with
  | non => cases (show u = Value.none from rx); exact PySem.W.kia_one PySem.W.kitx_none I.kIn True.intro e (fun z => nomatch z) h
  | bl y => cases (show u = Value.bool y from rx); exact PySem.W.kia_one PySem.W.kitx_bool I.kIn True.intro e (fun z => nomatch z) h
  | int i => obtain ⟨t, q⟩ := (show ∃ t, u = Value.int i t from rx); cases q; exact PySem.W.kia_one PySem.W.kitx_int I.kIn True.intro e (fun z => nomatch z) h
  | str y => obtain ⟨t, q⟩ := (show ∃ t, u = Value.str y t from rx); cases q; exact PySem.W.kia_one PySem.W.kitx_str I.kIn True.intro e (fun z => nomatch z) h
  | flt y => obtain ⟨t, q⟩ := (show ∃ t, u = Value.float y t from rx); cases q; exact PySem.W.kia_one PySem.W.kitx_float I.kIn True.intro e (fun z => nomatch z) h
  | @lst a xs ea =>
    cases (show u = Value.ref a from rx)
    obtain ⟨_, _, n, _, h1⟩ := (show ObjOk X.prog X.w H s.heap a (.lst xs) from I.hok a _ ea)
    exact PySem.W.kia_one PySem.W.kitx_list I.kIn ⟨_, h1, rfl⟩ e (fun z => nomatch z) h
  | @frz a ob xs ea =>
    cases (show u = Value.ref a from rx)
    obtain ⟨_, _, _, n, _, h1⟩ := (show ObjOk X.prog X.w H s.heap a (.frz ob (.lst xs)) from I.hok a _ ea)
    exact PySem.W.kia_one PySem.W.kitx_list I.kIn ⟨_, h1, rfl⟩ e (fun z => nomatch z) h
  | @tup a xs ea =>
    cases (show u = Value.ref a from rx)
    obtain ⟨_, _, _, p⟩ := (show ObjOk X.prog X.w H s.heap a (.tup xs) from I.hok a _ ea)
    obtain ⟨o, h1, h2, _⟩ := p
    exact PySem.W.kia_one PySem.W.kitx_tuple I.kIn ⟨o, h1, h2⟩ e (fun z => nomatch z) h
  | @dK a kvs ea =>
    cases (show u = Value.ref a from rx)
    obtain ⟨_, _, vs, _, p⟩ := (show ObjOk X.prog X.w H s.heap a (.dK kvs) from I.hok a _ ea)
    obtain ⟨o, es, ep, h1, h2, _⟩ := p
    exact PySem.W.kia_one PySem.W.kitx_dict I.kIn ⟨o, h1, h2.1⟩ e (fun z => nomatch z) h
  | @dT a kvs ea =>
    cases (show u = Value.ref a from rx)
    obtain ⟨_, _, xs, _, o, es, ep, h1, h2, _⟩ := (show ObjOk X.prog X.w H s.heap a (.dT kvs) from I.hok a _ ea)
    exact PySem.W.kia_one PySem.W.kitx_dict I.kIn ⟨o, h1, h2.1⟩ e (fun z => nomatch z) h
  | @ins a C dx fs ea cl ha hn htk hm =>
    cases (show u = Value.ref a from rx)
    obtain ⟨mA, O, _⟩ := ins_get I.hok ea
    obtain ⟨od, J, _⟩ := O.look
    exact PySem.W.kia_one (PySem.W.kitx_own (cl.get _) cl.hd ha hn htk hm) I.kIn J e (fun z => nomatch z) h
end
end L2

namespace L2
open PySem PySem.Spec PyProof.Rows

/-! ### room -/
structure Room (k : Nat) (A : Around) : Prop where
  hd : A.handled = none
  dp : A.depth + 3 * k + 5 < recursionLimit
  un : A.units + 16 * k + 200 < cLine
theorem Room.mono {j k : Nat} {A : Around} (r : Room k A) (h : j ≤ k) : Room j A := ⟨r.hd, by have := r.dp; omega, by have := r.un; omega⟩
theorem Room.deeper {k : Nat} {A : Around} (r : Room (k + 1) A) (env : Env) : Room k (A.deeper env) :=
  ⟨r.hd, by have := r.dp; show A.depth + 1 + 3 * k + 5 < _; omega, by have := r.un; show A.units + 3 + 16 * k + 200 < _; omega⟩
theorem make_depth {A : Around} {C : Addr} {us : List Value} {kw : List (Str × Value)} : (A.under (.builtin "type.__call__" ⟨.ref C :: us, kw⟩)).depth = A.depth + 1 := by
  first | rfl | simp [Around.under, Code.weight, Code.isCreation, Code.isGuard, Code.isCaller, Code.frames, Code.isFrame, guardIds]
theorem make_units {A : Around} {C : Addr} {us : List Value} {kw : List (Str × Value)} : (A.under (.builtin "type.__call__" ⟨.ref C :: us, kw⟩)).units = A.units + 1 := by
  first | rfl | simp [Around.under, Code.cUnits, Code.frames, Code.isFrame]
theorem Room.make {k : Nat} {A : Around} (r : Room (k + 1) A) (C : Addr) (us : List Value) (kw : List (Str × Value)) : Room k (A.under (.builtin "type.__call__" ⟨.ref C :: us, kw⟩)) :=
  ⟨r.hd, by have := r.dp; rw [make_depth]; omega, by have := r.un; rw [make_units]; omega⟩
theorem Room.depth {k : Nat} {A : Around} (r : Room k A) : A.depth < recursionLimit := by have := r.dp; omega
theorem Room.units {k : Nat} {A : Around} (r : Room k A) : A.units + 64 < cLine := by have := r.un; omega

/-! ### argument lists and displays -/
def tNil : TA := fun _ H Q => Q [] H
def tCons (ta : TE) (tr : TA) : TA := fun σ H Q => ta σ H fun x H1 => tr σ H1 fun xs H2 => Q (x :: xs) H2
section
variable {X : Cx} {e : Expr} {es : List Expr} {te : TE} {t : TA} {pos : Pos}
theorem pa_nil : PA X [] tNil := fun _ _ _ _ H Q I h => Calls.spliced_nil ⟨[], H, I, .nil, h⟩
theorem pa_cons (ha : PE X e te) (hr : PA X es t) (hs : starEach (e :: es) X.env = (false, eval e X.env) :: starEach es X.env := by rfl) : PA X (e :: es) (tCons te t) := by
  intro pos pins s σ H Q I h
  rw [hs]
  show wpAny _ _ (spliced ((false, eval e X.env) :: backTo pos (starEach es X.env))) _ _ s
  refine Calls.spliced_cons (thn (ha pins s σ H _ I h) fun u s1 hq0 => ?_)
  obtain ⟨x, H1, I1, r1, q1⟩ := hq0
  exact thn (hr pos pins s1 σ H1 _ I1 q1) fun us s2 ⟨xs, H2, I2, r2, q2⟩ => ⟨x :: xs, H2, I2, .cons r1 r2, q2⟩

/-- a tuple, a list of written items -/
def tTup (t : TA) : TE := fun σ H Q => t σ H fun xs H1 => xs.length ≤ sizeLine ∧ ∀ p, H1 p = none → Q (.ref p) (upd H1 p (.tup xs))
def tLst (t : TA) : TE := fun σ H Q => t σ H fun xs H1 => xs.length ≤ sizeLine ∧ ∀ p, H1 p = none → Q (.ref p) (upd H1 p (.lst xs))
theorem pe_tup {x1} (h : PA X es t) : PE X (.Tuple es x1 pos) (tTup t) := by
  intro pins s σ H Q I hq
  refine wpAny_Tuple_spliced (thn (h pos pins s σ H _ I hq) fun us s1 ⟨xs, H1, I1, r, z, q⟩ => ⟨by rw [← r.length]; exact z, ?_⟩)
  have hf : H1 s1.heap.objs.size = none := I1.hok.fresh (Nat.le_refl _)
  refine ⟨.ref s1.heap.objs.size, upd H1 s1.heap.objs.size (.tup xs), I1.laid (t' := s1.toks) (fun b u e => Heap.get?_push_of_some _ e) (Nat.le_refl _) ?_, rfl, q _ hf⟩
  exact ⟨z, us, r, ⟨_, Heap.get?_push_size _ rfl, rfl, _, rfl⟩⟩
theorem pe_lst (h : PA X es t) : PE X (.List es pos) (tLst t) := by
  intro pins s σ H Q I hq
  refine wpAny_List_spliced (thn (h pos pins s σ H _ I hq) fun us s1 ⟨xs, H1, I1, r, z, q⟩ => ⟨by rw [← r.length]; exact z, ?_⟩)
  have hf : H1 s1.heap.objs.size = none := I1.hok.fresh (Nat.le_refl _)
  refine ⟨.ref s1.heap.objs.size, upd H1 s1.heap.objs.size (.lst xs), I1.laid (t' := s1.toks) (fun b u e => Heap.get?_push_of_some _ e) (Nat.le_refl _) ?_, rfl, q _ hf⟩
  exact ⟨z, us, 0, r, Heap.get?_push_size _ rfl⟩
end

/-! ### what a def promises -/
/-- a def's promise: the bound arguments in the parameters' order, the heap, the wanted end, the wanted exception -/
abbrev Sp := List V → Hp → VK → XK → Prop
/-- how an exception lies behind a call (file 08 gives it): the callers' frames, abstract heap and state ahead of the call, the wish, the exception, the state -/
abbrev CXT := List Env → Hp → Shared → XK → Value → Shared → Prop

/-- the state at a call -/
structure Env0 (P : Program) (w : World) (K : PySem.W.Frag) (mg : Str → Option Value) (base : Heap) (A : Around) (outer : List Env) (s : Shared) (H : Hp) : Prop where
  frames : A.frames = some outer
  mod : Mod K mg base
  bs : ∀ b o, base.get? b = some o → s.heap.get? b = some o ∧ H b = none
  bsz : base.objs.size ≤ s.heap.objs.size
  funs : s.heap.FunFrames base outer
  frf : ∀ b ∈ frs outer, H b = none
  hok : HOk P w H s.heap
  bare : AllBare s.gens
/-- a call's end -/
def CE (outer : List Env) (P : Program) (w : World) (H : Hp) (s : Shared) (Q : VK) (u : Value) (s' : Shared) : Prop :=
  ∃ v H', s'.os = s.os ∧ AllBare s'.gens ∧ Un (frs outer) [] H H' s.heap s'.heap ∧ HOk P w H' s'.heap ∧ RelV v u ∧ Q v H'
def CR (CX : CXT) (outer : List Env) (P : Program) (w : World) (H : Hp) (s : Shared) (Q : VK) (E : XK) (r : Result) (s' : Shared) : Prop :=
  match r with
  | .ok (.ret u) => CE outer P w H s Q u s'
  | .ok _ => False
  | .error e => CX outer H s E e s'
structure FnOk (P : Program) (w : World) (K : PySem.W.Frag) (mg : Str → Option Value) (base : Heap) (CX : CXT) (k : Nat) (f : Addr) (fd : FuncData) (ps : List Str) (sp : Sp) : Prop where
  len : ∀ vs H Q E, sp vs H Q E → vs.length = ps.length
  run : ∀ (A : Around) (outer : List Env) (s : Shared) (H : Hp) (args : Args) (us : List Value) (vs : List V) (Q : VK) (E : XK), Room k A → Env0 P w K mg base A outer s H → BindsTo s fd args (ps.zip us) → Vals vs us → sp vs H Q E →
    codeAny (model P w) A (.call (.ref f) args) (CR CX outer P w H s Q E) s

theorem Env0.make {P : Program} {w : World} {K : PySem.W.Frag} {mg : Str → Option Value} {base : Heap} {A : Around} {outer : List Env} {s : Shared} {H : Hp} (e : Env0 P w K mg base A outer s H) (C : Addr) (us : List Value) (kw : List (Str × Value)) :
    Env0 P w K mg base (A.under (.builtin "type.__call__" ⟨.ref C :: us, kw⟩)) outer s H := ⟨by first | exact e.frames | (simpa [Around.under, Code.envs, Code.isFrame, pushEnvs] using e.frames), e.mod, e.bs, e.bsz, e.funs, e.frf, e.hok, e.bare⟩

section
variable {X : Cx} {pins : List (Addr × Obj)} {σ : St} {H : Hp} {s s' : Shared}
/-- from a body: what a callee wants -/
theorem Inv.env0 (I : Inv X pins σ H s) : Env0 X.prog X.w X.K X.mg X.base X.A X.stack s H :=
  ⟨I.ok.frames, I.ok.mod, I.bs, Nat.le_trans I.ok.bsz I.sz, I.stack, I.stkFree, I.hok, I.bare⟩
/-- behind a call -/
theorem Inv.after {Q : VK} {u : Value} (I : Inv X pins σ H s) (h : CE X.stack X.prog X.w H s Q u s') : EP X pins σ Q u s' := by
  obtain ⟨v, H', os, bare, un, hok, r, q⟩ := h
  obtain ⟨hh, g, d, t, os'⟩ := s'
  obtain rfl : os' = s.os := os
  exact ⟨v, H', I.call (h' := hh) (g' := g) (d' := d) (t' := t) (ch := []) un hok bare (fun b z => absurd z (by simp)), r, q⟩
end

/-! ### calls -/
/-- f(..): the written arguments, then the defaults dvs; E: what is wanted of an exception -/
def tCall (sp : Sp) (dvs : List V) (E : XK) (t : TA) : TE := fun σ H Q => t σ H fun vs H1 => sp (vs ++ dvs) H1 Q E
/-- o.m(..) of an instance of the class at C -/
def tMeth (C : Addr) (m : Str) (sp : Sp) (dvs : List V) (E : XK) (ta : TE) (t : TA) : TE := fun σ H Q => ta σ H fun x H1 => ∃ a dx fs, x = .ref a ∧ H1 a = some (.ins C dx fs) ∧ fs.lookup m = none ∧
  t σ H1 fun vs H2 => sp (x :: (vs ++ dvs)) H2 Q E
/-- C(..): a new instance and its dict, then __init__ -/
def tMake (C : Addr) (sp : Sp) (dvs : List V) (E : XK) (t : TA) : TE := fun σ H Q => t σ H fun vs H1 => ∀ x dx, H1 x = none → H1 dx = none → dx ≠ x →
  sp (.ref x :: (vs ++ dvs)) (upd (upd H1 dx (.own x)) x (.ins C dx [])) (fun v H2 => v = .non ∧ Q (.ref x) H2) E

/-- how the parameters are bound: us the positional arguments, kw the keywords' values by name, ds the defaults that fill up -/
def Binds (K : PySem.W.Frag) (fd : FuncData) (ps : List Str) (ds : List Value) : Prop :=
  ∀ (s : Shared) (us : List Value), K.In s.heap → (us ++ ds).length = ps.length → BindsTo s fd ⟨us, []⟩ (ps.zip (us ++ ds))
/-- every parameter is given -/
theorem Binds.all {K : PySem.W.Frag} {fd : FuncData} {ps : List Str} (h : ∀ us : List Value, us.length = ps.length → bindArgs fd ⟨us, []⟩ = pure (ps.zip us)) : Binds K fd ps [] := fun s us _ hl => by
  rw [List.append_nil] at hl ⊢
  exact .of_eq (h us hl)

/-- an exception of a callee reaches what this body wants of exceptions -/
def Passes (CX : CXT) (X : Cx) (E : XK) : Prop := ∀ (pins : List (Addr × Obj)) (σ : St) (H : Hp) (s : Shared) (e : Value) (s' : Shared), Inv X pins σ H s → CX X.stack H s E e s' → X.xe e s'

section
variable {X : Cx} {CX : CXT} {k : Nat} {f C : Addr} {fd : FuncData} {ps : List Str} {sp : Sp} {dvs : List V} {ds : List Value} {E : XK} {x m : Str} {p pos apos : Pos} {e o : Expr} {es : List Expr} {ta : TE} {t : TA}

/-- the callee runs -/
theorem run_fn {pins : List (Addr × Obj)} {σ : St} {H : Hp} {s : Shared} {Q : VK} {us : List Value} {vs : List V} (F : FnOk X.prog X.w X.K X.mg X.base CX k f fd ps sp) (hr : Room k X.A) (hb : Binds X.K fd ps ds) (hd : Vals dvs ds) (hx : Passes CX X E)
    (I : Inv X pins σ H s) (r : Vals vs us) (h : sp (vs ++ dvs) H Q E) : wpAny (model X.prog X.w) X.A (call (.ref f) us) (EP X pins σ Q) X.xe s := by
  have r2 : Vals (vs ++ dvs) (us ++ ds) := r.append hd
  have hl : (us ++ ds).length = ps.length := by rw [← r2.length]; exact F.len _ _ _ _ h
  refine wpAny_call (codeAny_mono (F.run X.A X.stack s H ⟨us, []⟩ (us ++ ds) (vs ++ dvs) Q E hr I.env0 (hb s us I.kIn hl) r2 h) fun r s' hq => ?_)
  cases r with
  | error e => exact hx pins σ H s e s' I hq
  | ok fl =>
    cases fl with
    | ret u => exact I.after hq
    | next => exact False.elim hq
    | brk => exact False.elim hq
    | cont => exact False.elim hq

theorem pe_call (F : FnOk X.prog X.w X.K X.mg X.base CX k f fd ps sp) (hr : Room k X.A) (hg : Gl X x) (hm : X.mg x = some (.ref f)) (hk : PySem.W.keepIn X.K (.ref f) = true) (hb : Binds X.K fd ps ds) (hd : Vals dvs ds) (hx : Passes CX X E)
    (ha : PA X (e :: es) t) (hdb : (x == ("__debug__" : Str)) = false := by decide) (he : starEach (e :: es) X.env = (false, eval e X.env) :: starEach es X.env := by rfl) (hpl : (backTo pos (starEach es X.env)).any (·.1) = false := by rfl) :
    PE X (.Call (.Name x p) (e :: es) [] pos) (tCall sp dvs E t) := by
  intro pins s σ H Q I h
  refine wpAny_Call_Name_kw (ld_glob I hg hm ?_ hdb)
  refine PySem.W.callWith_K (h₀ := X.base) I.ok.mod.kin hk (thn (ha pos pins s σ H _ I h) fun us s1 ⟨vs, H1, I1, r, q⟩ => ⟨I1.kIn, ?_⟩) he hpl
  exact run_fn F hr hb hd hx I1 r q

/-- o.m(e, ..) -/
theorem pe_meth {pl : Sem Bool} (he : PE X o ta) (c : Cls X.K C) (hm : Meth X.K C m f) (F : FnOk X.prog X.w X.K X.mg X.base CX k f fd ps sp) (hr : Room k X.A) (hb : Binds X.K fd ps ds) (hd : Vals dvs ds) (hx : Passes CX X E) (ha : PA X (e :: es) t)
    (hst : starEach (e :: es) X.env = (false, eval e X.env) :: starEach es X.env := by rfl) (hpl : (backTo pos (starEach es X.env)).any (·.1) = false := by rfl)
    (ht : eval (.Call (.Attribute o m apos) (e :: es) [] pos) X.env = (do
      let ov ← eval o X.env
      standAt apos.atName
      let (f, first) ← holding [ov] (getMethod ov m pl)
      callWith pos f first (backTo pos (starEach (e :: es) X.env)) (backToKw pos (keywordEach [] X.env))) := by rfl) :
    PE X (.Call (.Attribute o m apos) (e :: es) [] pos) (tMeth C m sp dvs E ta t) := by
  intro pins s σ H Q I h
  refine PySem.W.methodCall_KW (pl := pl) (thn (he pins s σ H _ I h) fun u s1 hq0 => ?_) ht
  obtain ⟨x, H1, I1, rx, a, dx, fs, ex, ea, l, q⟩ := hq0
  subst ex
  obtain rfl : u = Value.ref a := rx
  refine getmeth_ok I1 ea c hm l ?_
  refine PySem.W.callWith_K (first := [.ref a]) (h₀ := X.base) I.ok.mod.kin hm.kp (thn (ha pos pins s1 σ H1 _ I1 q) fun us s2 ⟨vs, H2, I2, r, q2⟩ => ⟨I2.kIn, ?_⟩) hst hpl
  exact run_fn (us := .ref a :: us) (vs := .ref a :: vs) F hr hb hd hx I2 (.cons rfl r) q2
/-- o.m() -/
theorem pe_meth0 {pl : Sem Bool} (he : PE X o ta) (c : Cls X.K C) (hm : Meth X.K C m f) (F : FnOk X.prog X.w X.K X.mg X.base CX k f fd ps sp) (hr : Room k X.A) (hb : Binds X.K fd ps ds) (hd : Vals dvs ds) (hx : Passes CX X E)
    (ht : eval (.Call (.Attribute o m apos) [] [] pos) X.env = (do
      let ov ← eval o X.env
      standAt apos.atName
      let (f, first) ← holding [ov] (getMethod ov m pl)
      callWith pos f first (backTo pos (starEach [] X.env)) (backToKw pos (keywordEach [] X.env))) := by rfl) :
    PE X (.Call (.Attribute o m apos) [] [] pos) (tMeth C m sp dvs E ta tNil) := by
  intro pins s σ H Q I h
  refine PySem.W.methodCall_KW (pl := pl) (thn (he pins s σ H _ I h) fun u s1 hq0 => ?_) ht
  obtain ⟨x, H1, I1, rx, a, dx, fs, ex, ea, l, q⟩ := hq0
  subst ex
  obtain rfl : u = Value.ref a := rx
  refine getmeth_ok I1 ea c hm l ?_
  exact PySem.W.callWith_K0 (first := [.ref a]) I1.kIn hm.kp (run_fn (us := [.ref a]) (vs := [.ref a]) F hr hb hd hx I1 (.cons rfl .nil) q)

/-- what a class must have to be made -/
structure Mk (K : PySem.W.Frag) (C f : Addr) : Prop where
  makes : PySem.W.makesIn K C = true
  init : PySem.W.findIn K (.ref C) "__init__" = some (some (.ref f))
  fn : PySem.W.isFn K (.ref f) = true
  kp : PySem.W.keepIn K (.ref C) = true

theorem run_make {pins : List (Addr × Obj)} {σ : St} {H : Hp} {s : Shared} {Q : VK} {us : List Value} {vs : List V} (M : Mk X.K C f) (F : FnOk X.prog X.w X.K X.mg X.base CX k f fd ps sp) (hr : Room (k + 1) X.A) (hb : Binds X.K fd ps ds) (hd : Vals dvs ds)
    (hx : Passes CX X E) (I : Inv X pins σ H s) (r : Vals vs us)
    (h : ∀ x dx, H x = none → H dx = none → dx ≠ x → sp (.ref x :: (vs ++ dvs)) (upd (upd H dx (.own x)) x (.ins C dx [])) (fun v H2 => v = .non ∧ Q (.ref x) H2) E) :
    wpAny (model X.prog X.w) X.A (call (.ref C) us) (EP X pins σ Q) X.xe s := by
  have hq := h (s.heap.objs.size + 1) s.heap.objs.size (I.hok.fresh (Nat.le_succ _)) (I.hok.fresh (Nat.le_refl _)) (Nat.ne_of_lt (Nat.lt_succ_self _))
  have I2 := Inv.made (C := C) I
  have r2 : Vals (V.ref (s.heap.objs.size + 1) :: (vs ++ dvs)) (Value.ref (s.heap.objs.size + 1) :: (us ++ ds)) := .cons rfl (r.append hd)
  have hl : (Value.ref (s.heap.objs.size + 1) :: us ++ ds).length = ps.length := by
    have e := r2.length
    rw [F.len _ _ _ _ hq] at e
    exact e.symm
  refine wpAny_call (make_map (f := f) I.kIn M.makes M.init (beq_iff_eq.mp M.fn) (codeAny_mono (F.run _ X.stack _ _ ⟨Value.ref (s.heap.objs.size + 1) :: us, []⟩ (Value.ref (s.heap.objs.size + 1) :: (us ++ ds)) _ _ E (hr.make C us [])
    (I2.env0.make C us []) (hb _ (Value.ref (s.heap.objs.size + 1) :: us) I2.kIn hl) r2 hq) fun r s' hq' => ?_))
  cases r with
  | error e => exact hx pins σ _ _ e s' I2 hq'
  | ok fl =>
    cases fl with
    | ret u =>
      obtain ⟨v, H', I3, rv, ev, q3⟩ := I2.after hq'
      subst ev
      exact ⟨rv, ⟨V.ref (s.heap.objs.size + 1), H', I3, rfl, q3⟩⟩
    | next => exact False.elim hq'
    | brk => exact False.elim hq'
    | cont => exact False.elim hq'
theorem pe_make (M : Mk X.K C f) (F : FnOk X.prog X.w X.K X.mg X.base CX k f fd ps sp) (hr : Room (k + 1) X.A) (hg : Gl X x) (hm : X.mg x = some (.ref C)) (hb : Binds X.K fd ps ds) (hd : Vals dvs ds) (hx : Passes CX X E)
    (ha : PA X (e :: es) t) (hdb : (x == ("__debug__" : Str)) = false := by decide) (he : starEach (e :: es) X.env = (false, eval e X.env) :: starEach es X.env := by rfl) (hpl : (backTo pos (starEach es X.env)).any (·.1) = false := by rfl) :
    PE X (.Call (.Name x p) (e :: es) [] pos) (tMake C sp dvs E t) := by
  intro pins s σ H Q I h
  refine wpAny_Call_Name_kw (ld_glob I hg hm ?_ hdb)
  refine PySem.W.callWith_K (h₀ := X.base) I.ok.mod.kin M.kp (thn (ha pos pins s σ H _ I h) fun us s1 ⟨vs, H1, I1, r, q⟩ => ⟨I1.kIn, ?_⟩) he hpl
  exact run_make M F hr hb hd hx I1 r q
end

/-! ### keywords -/
section
variable {X : Cx} {CX : CXT} {k : Nat} {f C : Addr} {fd : FuncData} {ps ks : List Str} {sp : Sp} {E : XK} {x m : Str} {p pos apos kpos : Pos} {e o : Expr} {es : List Expr} {kws : List Keyword} {te ta : TE} {t tk : TA} {nm : Option Str}

variable {g : List Value → List Value → List Value} {gV : List V → List V → List V}
end

/-! ### a def's body keeps its promise -/
/-- names: the parameters first -/
structure FnScope (N P : List Str) (sc : Scope) : Prop where
  kind : sc.kind = .function
  co : sc.isCoroutine = false
  gen : sc.isGenerator = false
  nd : N.Nodup
  pre : N.take P.length = P
  par : ∀ x ∈ P, sc.names.lookup x = some .local ∨ sc.names.lookup x = some .cell
  nofree : ∀ y ∈ sc.names, y.2 ≠ .free

theorem bindL_out {kindOf : Str → Option NameKind} {x : Str} : ∀ {binds : List (Str × Value)} {m : Str → Option Value}, (∀ v, (x, v) ∉ binds) → bindL kindOf binds m x = m x
  | [], _, _ => rfl
  | (n, v) :: r, m, h => by
    unfold bindL
    rw [bindL_out fun w hw => h w (List.mem_cons_of_mem _ hw)]
    split
    · have : x ≠ n := by rintro rfl; exact h v List.mem_cons_self
      simp [this]
    · rfl
theorem bindC_out {kindOf : Str → Option NameKind} {x : Str} : ∀ {binds : List (Str × Value)} {m : Str → Option Value}, (∀ v, (x, v) ∉ binds) → bindC kindOf binds m x = m x
  | [], _, _ => rfl
  | (n, v) :: r, m, h => by
    unfold bindC
    rw [bindC_out fun w hw => h w (List.mem_cons_of_mem _ hw)]
    split
    · rfl
    · have : x ≠ n := by rintro rfl; exact h v List.mem_cons_self
      simp [this]
theorem bindL_get {kindOf : Str → Option NameKind} {x : Str} {v : Value} : ∀ {P : List Str} {vs : List Value} {i : Nat} {m : Str → Option Value}, P.Nodup → P[i]? = some x → vs[i]? = some v → kindOf x = some .local →
    bindL kindOf (P.zip vs) m x = some v
  | [], _, _, _, _, h, _, _ => by simp at h
  | _ :: _, [], _, _, _, _, h, _ => by simp at h
  | p :: P, w :: vs, 0, m, nd, h1, h2, hk => by
    simp at h1 h2; subst h1; subst h2
    show bindL kindOf ((p, w) :: P.zip vs) m p = _
    unfold bindL
    rw [bindL_out fun v hv => (List.nodup_cons.mp nd).1 (List.of_mem_zip hv).1, if_pos hk]
    simp
  | p :: P, w :: vs, i + 1, m, nd, h1, h2, hk => by
    show bindL kindOf ((p, w) :: P.zip vs) m x = _
    unfold bindL
    exact bindL_get (i := i) (List.nodup_cons.mp nd).2 (by simpa using h1) (by simpa using h2) hk
theorem bindC_get {kindOf : Str → Option NameKind} {x : Str} {v : Value} : ∀ {P : List Str} {vs : List Value} {i : Nat} {m : Str → Option Value}, P.Nodup → P[i]? = some x → vs[i]? = some v → kindOf x ≠ some .local →
    bindC kindOf (P.zip vs) m x = some v
  | [], _, _, _, _, h, _, _ => by simp at h
  | _ :: _, [], _, _, _, _, h, _ => by simp at h
  | p :: P, w :: vs, 0, m, nd, h1, h2, hk => by
    simp at h1 h2; subst h1; subst h2
    show bindC kindOf ((p, w) :: P.zip vs) m p = _
    unfold bindC
    rw [bindC_out fun v hv => (List.nodup_cons.mp nd).1 (List.of_mem_zip hv).1, if_neg hk]
    simp
  | p :: P, w :: vs, i + 1, m, nd, h1, h2, hk => by
    show bindC kindOf ((p, w) :: P.zip vs) m x = _
    unfold bindC
    exact bindC_get (i := i) (List.nodup_cons.mp nd).2 (by simpa using h1) (by simpa using h2) hk

/-- the names' values at the entry -/
def start (N : List Str) (vs : List V) : St := vs.map some ++ List.replicate (N.length - vs.length) none

/-- the context of a def's body, at its entry; an exception leaves the frame, then lies as CX says -/
def cxOf (CX : CXT) (P : Program) (w : World) (K : PySem.W.Frag) (mg : Str → Option Value) (base : Heap) (N : List Str) (qual : Str) (scope : Scope) (f : Addr) (cd : Value) (A : Around) (outer : List Env) (s : Shared) (H : Hp) (E : XK) : Cx where
  prog := P
  w := w
  K := K
  mg := mg
  base := base
  A := A.deeper (envOfC qual scope s.heap.objs.size f cd)
  N := N
  s₀ := s
  H₀ := H
  env := envOfC qual scope s.heap.objs.size f cd
  outer := outer
  stack := envOfC qual scope s.heap.objs.size f cd :: outer
  ex := []
  calm := true
  fn := fun _ => true
  pn := []
  xe := fun e s' => wpAny (model P w) (A.deeper (envOfC qual scope s.heap.objs.size f cd)) (leaving (envOfC qual scope s.heap.objs.size f cd) e) (fun _ s'' => CX outer H s E e s'') (fun e' s'' => CX outer H s E e' s'') s'

theorem cell_has {sc : Scope} {n : Nat} {x : Str} (h : sc.names.lookup x = some .cell) : ∃ c, (cellsFrom n sc.names []).lookup x = some c := by
  have q := PySem.W.cellsFrom_some sc.names n [] (.inl h)
  exact Option.isSome_iff_exists.mp q

theorem inv_start {CX : CXT} {P : Program} {w : World} {K : PySem.W.Frag} {mg : Str → Option Value} {base : Heap} {N ps : List Str} {qual : Str} {scope : Scope} {f : Addr} {cd : Value} {A : Around} {outer : List Env} {s s1 : Shared} {H : Hp} {E : XK} {us : List Value} {vs : List V}
    (S : FnScope N ps scope) (hd : A.handled = none) (e0 : Env0 P w K mg base A outer s H) (hl : vs.length = ps.length) (r : Vals vs us)
    (x : InCallC s s.heap.objs.size (bindL (envOfC qual scope s.heap.objs.size f cd).kindOf (ps.zip us) fun _ => none) (cellsFrom (s.heap.objs.size + 1) scope.names []) (bindC (envOfC qual scope s.heap.objs.size f cd).kindOf (ps.zip us) fun _ => none) s1) :
    Inv (cxOf CX P w K mg base N qual scope f cd A outer s H E) [] (start N vs) H s1 := by
  have hpl : ps.length ≤ N.length := by have := congrArg List.length S.pre; rw [List.length_take] at this; omega
  obtain ⟨h1, tk, rfl, hk⟩ := x.done
  have noA : ∀ b : Addr, b ∉ (cxOf CX P w K mg base N qual scope f cd A outer s H E).ex := fun b z => absurd (show b ∈ ([] : List Addr) from z) (by simp)
  refine ⟨⟨e0.mod, S.kind, rfl, rfl, Nat.le_refl _, fun y z c h1 h2 => ?_, fun y hy => ?_, fun y c _ h => ?_, fun _ => hd, Around.frames_deeper e0.frames, .inr ⟨rfl, rfl⟩, fun b z => absurd z (noA b), e0.bs, e0.bsz, fun b _ _ => noA b, fun b z => absurd z (noA b), e0.funs, e0.frf⟩,
    rfl, e0.bare, Un.kept hk, ⟨_, x.toInCall.ns, fun i y v h1 h2 h3 => ?_⟩, fun y c h => ⟨_, x.cell y c h⟩, e0.hok.fresh (Nat.le_refl _), fun y c h => ?_, fun p hp => absurd (show p ∈ ([] : List (Addr × Obj)) from hp) (by simp), e0.hok.kept hk, ?_⟩
  · exact name_of_addr x.apart (PySem.mem_of_lookup h1) (PySem.mem_of_lookup h2)
  · have hy : scope.names.lookup y = some .cell ∨ scope.names.lookup y = some .free := hy
    rcases hy with hy | hy
    · exact cell_has hy
    · exact absurd rfl (S.nofree _ (PySem.mem_of_lookup hy))
  · exact Nat.le_of_lt (x.above y c (PySem.mem_of_lookup h))
  · have hi : i < vs.length := by
      unfold start at h2
      by_cases hi : i < vs.length
      · exact hi
      · rw [List.getElem?_append_right (by simpa using hi)] at h2
        rw [List.getElem?_replicate] at h2
        split at h2 <;> cases h2
    have ha : vs[i]? = some v := by
      unfold start at h2
      rw [List.getElem?_append_left (by simpa using hi), List.getElem?_map] at h2
      cases e : vs[i]? with
      | none => rw [e] at h2; cases h2
      | some a => rw [e] at h2; cases h2; rfl
    obtain ⟨u, hu, rv⟩ := r.get ha
    have hp : ps[i]? = some y := by
      rw [← S.pre, List.getElem?_take_of_lt (by omega)]; exact h1
    have ndP : ps.Nodup := by rw [← S.pre]; exact S.nd.sublist (List.take_sublist _ _)
    refine ⟨u, rv, ?_⟩
    rcases S.par y (List.mem_of_getElem? hp) with k | k
    · exact .inl ⟨k, bindL_get ndP hp hu k⟩
    · obtain ⟨c, e⟩ := cell_has (n := s.heap.objs.size + 1) k
      refine .inr ⟨.inl k, c, e, ?_⟩
      have q := x.cell y c e
      rw [bindC_get ndP hp hu (by show scope.names.lookup y ≠ _; rw [k]; decide)] at q
      exact q
  · exact e0.hok.fresh (Nat.le_of_lt (x.above y c (PySem.mem_of_lookup h)))
  · unfold start
    show _ = N.length
    rw [List.length_append, List.length_map, List.length_replicate]
    omega

/-- THE RULE: a def (or a method) of the text, by its body. The body's reading t is chosen for each entry; it is run at the parameters' values -/
theorem fn_of {CX : CXT} {P : Program} {w : World} {K : PySem.W.Frag} {mg : Str → Option Value} {base : Heap} {k : Nat} {f : Addr} {name qual : Str} {params : Arguments} {body : List Stmt} {scope : Scope} {dV kV doc pm cdv ct oc : Value} {an od : Option Addr}
    {osl : Array (Option Value)} {N ps : List Str} {sp : Sp} (lk : K.lookup f = some ⟨oc, od, .func (PySem.W.fnOf name qual params body scope dV kV doc pm an cdv ct), osl⟩) (hcd : PySem.W.codeIn K cdv qual = true) (S : FnScope N ps scope)
    (len : ∀ vs H Q E, sp vs H Q E → vs.length = ps.length)
    (hbody : ∀ (A : Around) (outer : List Env) (s : Shared) (H : Hp) (vs : List V) (Q : VK) (E : XK), Room k (A.deeper (envOfC qual scope s.heap.objs.size f cdv)) → sp vs H Q E →
      ∃ t, PSs (cxOf CX P w K mg base N qual scope f cdv A outer s H E) body t ∧ t { nx := fun _ H' => Q .non H', rt := Q } (start N vs) H) :
    FnOk P w K mg base CX (k + 1) f (PySem.W.fnOf name qual params body scope dV kV doc pm an cdv ct) ps sp := by
  refine ⟨len, fun A outer s H args us vs Q E hr e0 hb r hsp => ?_⟩
  have hl := len _ _ _ _ hsp
  have KX : K.In s.heap := e0.mod.kin.keeps fun b o e => (e0.bs b o e).1
  have lim : s.heap.NoLimit := e0.mod.nolimit.keeps fun b o e => (e0.bs b o e).1
  have hkind : ∀ y ∈ ps.zip us, scope.names.lookup y.1 = some .local ∨ (scope.names.lookup y.1 = some .cell ∧ ((cellsFrom (s.heap.objs.size + 1) scope.names []).lookup y.1).isSome = true) := fun ⟨n, v⟩ hy => by
    rcases S.par n (List.of_mem_zip hy).1 with q | q
    · exact .inl q
    · exact .inr ⟨q, PySem.W.cellsFrom_some _ _ _ (.inl q)⟩
  refine codeAny_call_function hr.depth (KX _ _ lk) rfl S.co S.gen rfl (PySem.W.codeRec_of KX hcd) (hb _ _ _ _ ?_)
  refine wpAny_newFunctionEnv_cells S.kind hkind fun env he s1 x => ?_
  subst he
  refine ⟨lim.keeps x.toInCall.keep, codeAny_func ?_⟩
  obtain ⟨t, ht, hq⟩ := hbody A outer s H vs Q E (hr.deeper _) hsp
  have I : Inv (cxOf CX P w K mg base N qual scope f cdv A outer s H E) [] (start N vs) H s1 := inv_start S hr.hd e0 hl r x
  refine wpAny_mono (ht [] s1 (start N vs) H _ I hq) (fun fl s' hs => ?_) fun e s' hs => hs
  have fin : ∀ {σ' : St} {H' : Hp} {v : V} {u : Value}, Inv (cxOf CX P w K mg base N qual scope f cdv A outer s H E) [] σ' H' s' → RelV v u → Q v H' → CE outer P w H s Q u s' :=
    fun {σ' H' v u} J rv q => ⟨v, H', J.os, J.bare, J.base, J.hok, rv, q⟩
  cases fl with
  | ret u =>
    obtain ⟨v, σ', H', J, rv, q⟩ := hs
    exact fin J rv q
  | next =>
    obtain ⟨σ', H', J, q⟩ := hs
    exact fin (v := V.non) (u := Value.none) J rfl q
  | brk =>
    obtain ⟨_, _, _, q⟩ := hs
    exact False.elim q
  | cont =>
    obtain ⟨_, _, _, q⟩ := hs
    exact False.elim q
end L2

namespace L2
open PySem PySem.Spec PyProof.Rows
section
variable {X : Cx} {x : Str} {p pos : Pos} {e : Expr} {es : List Expr} {t : TA} {id T : String} {r : List V → Hp → VK → Prop}

def tCB (r : List V → Hp → VK → Prop) (t : TA) : TE := fun σ H Q => t σ H fun vs H1 => r vs H1 Q
/-- f(e, ..), f a built-in function -/
theorem pe_callB (hc : CallR X (.builtin id) r) (hg : Gl X x) (hm : X.mg x = none) (hv : bootBuiltins x = some (.builtin id)) (ha : PA X (e :: es) t) (hn : x ≠ "__name__" := by decide) (hdb : (x == ("__debug__" : Str)) = false := by decide)
    (he : starEach (e :: es) X.env = (false, eval e X.env) :: starEach es X.env := by rfl) (hpl : (backTo pos (starEach es X.env)).any (·.1) = false := by rfl) : PE X (.Call (.Name x p) (e :: es) [] pos) (tCB r t) := by
  intro pins s σ H Q I h
  refine wpAny_Call_Name_kw (ld_blt I hg hm hv ?_ hn hdb)
  exact PyProof.Rows.callWith_builtin1 (thn (ha pos pins s σ H _ I h) fun us s1 ⟨vs, H1, I1, r1, q1⟩ => hc pins s1 σ H1 vs us Q I1 r1 q1) he hpl
/-- T(e, ..), T a built-in type -/
theorem pe_callTy (hc : CallR X (.type T) r) (hg : Gl X x) (hm : X.mg x = none) (hv : bootBuiltins x = some (.type T)) (ha : PA X (e :: es) t) (hn : x ≠ "__name__" := by decide) (hdb : (x == ("__debug__" : Str)) = false := by decide)
    (he : starEach (e :: es) X.env = (false, eval e X.env) :: starEach es X.env := by rfl) (hpl : (backTo pos (starEach es X.env)).any (·.1) = false := by rfl) : PE X (.Call (.Name x p) (e :: es) [] pos) (tCB r t) := by
  intro pins s σ H Q I h
  refine wpAny_Call_Name_kw (ld_blt I hg hm hv ?_ hn hdb)
  exact PyProof.Rows.callWith_type1 (thn (ha pos pins s σ H _ I h) fun us s1 ⟨vs, H1, I1, r1, q1⟩ => hc pins s1 σ H1 vs us Q I1 r1 q1) he hpl
end
end L2

namespace HT
open PySem PyProof.Rows



section
open PySem.SeqAt
open PySem.AutoSeq1 (wpAny_loadPart')
open PySem.MeetsSeq PySem.MeetsSeq2 PySem.MeetsSeq3

end

section
variable {prog : Program} {w : World} {A : Around} {E : Value → Shared → Prop} {s : Shared}


/-- t + u, t not empty -/
theorem cat_tup {t b : Addr} {vs ws : List Value} {Q : Value → Shared → Prop} (ht : IsTup s.heap t vs.toArray) (hb : IsTup s.heap b ws.toArray) (hv : vs ≠ [])
    (h1 : ws = [] → Q (.ref t) s) (h2 : ws ≠ [] → Q (.ref s.heap.objs.size) { s with heap := s.heap.push { cls := .type "tuple", data := .seq (vs ++ ws).toArray } })
    (hsz : vs.length + ws.length ≤ sizeLine) : wpAny (model prog w) A (binaryOp .Add (.ref t) (.ref b)) Q E s := by
  obtain ⟨⟨cls, dd, data, sl⟩, ho, hc, n, hd⟩ := id ht
  obtain ⟨⟨cls2, dd2, data2, sl2⟩, ho2, hc2, n2, hd2⟩ := id hb
  simp only at hc hd hc2 hd2
  subst hc hd hc2 hd2
  have e : vs.toArray ++ ws.toArray = (vs ++ ws).toArray := by simp
  by_cases hw : ws = []
  · exact concat_meets ⟨_, ho, rfl⟩ ⟨_, ho2, rfl⟩ noFill_tuple_add seq_tuple_add PySem.F.slot_tuple_add PySem.F.entry_tuple_add (PySem.F.args_tuple_add_2 _ _)
      (tuple_addW1 t b vs.toArray ws.toArray n n2 dd dd2 sl sl2 (by simpa using hv) (by simp [hw])) ⟨ho, ho2, h1 hw⟩
  · refine concat_meets ⟨_, ho, rfl⟩ ⟨_, ho2, rfl⟩ noFill_tuple_add seq_tuple_add PySem.F.slot_tuple_add PySem.F.entry_tuple_add (PySem.F.args_tuple_add_2 _ _)
      (tuple_addW2 t b vs.toArray ws.toArray n n2 dd dd2 sl sl2 (by simpa using hv) (by simpa using hw) (by rw [List.size_toArray, List.size_toArray]; exact hsz)) ⟨ho, ho2, ?_⟩
    rw [e]
    exact h2 hw

/-! ### t[a:b], not the whole -/
/-- a slice's bound as a place among n (d where it is left out) -/
def sIx (n d : Nat) : Option Int → Nat
  | none => d
  | some v => if v < 0 then (v + (n : Int)).toNat else min v.toNat n
theorem sIx_le (n d : Nat) (hd : d ≤ n) (o : Option Int) : sIx n d o ≤ n := by
  cases o with
  | none => exact hd
  | some v =>
    show (if v < 0 then (v + (n : Int)).toNat else min v.toNat n) ≤ n
    by_cases hv : v < 0
    · rw [if_pos hv]; omega
    · rw [if_neg hv]; exact Nat.min_le_right _ _
theorem clip_eq (v : Int) (n d : Nat) : (if v < 0 then max (v + (n : Int)) 0 else min v (n : Int)) = ((sIx n d (some v) : Nat) : Int) := by
  show (if v < 0 then max (v + (n : Int)) 0 else min v (n : Int)) = (((if v < 0 then (v + (n : Int)).toNat else min v.toNat n) : Nat) : Int)
  by_cases hv : v < 0
  · simp only [if_pos hv]; omega
  · simp only [if_neg hv]; omega
theorem adjust_gen (lo hi : Option Int) (n : Nat) : Builtin.Slice.sliceAdjust lo hi 1 (n : Int) = (((sIx n 0 lo : Nat) : Int), ((sIx n n hi : Nat) : Int)) := by
  have h1 : ¬ ((1 : Int) < 0) := by omega
  unfold Builtin.Slice.sliceAdjust
  simp only [h1, if_false]
  refine Prod.ext ?_ ?_
  · cases lo with
    | none => rfl
    | some v => exact clip_eq v n 0
  · cases hi with
    | none => rfl
    | some v => exact clip_eq v n n
theorem places_gen (i j : Nat) : Builtin.Slice.slicePlaces (i : Int) (j : Int) 1 = j - i := by
  unfold Builtin.Slice.slicePlaces
  have h1 : (1 : Int) > 0 := by omega
  simp only [h1, if_true, Int.ediv_one]
  split <;> omega
theorem slicePart_ {v : Value} {o : Option Int} {Q : Option Int → Shared → Prop} (p : IsPart v o) (h : Q o s) : wpAny (model prog w) A (Builtin.Slice.slicePartIndex v) Q E s := by
  cases p with
  | none => exact slicePart_none h
  | int i t => exact slicePart_int h
theorem sliceApplied_gen {sl : Addr} {vl vu : Value} {lo hi : Option Int} {n : Nat} {Q : Int × Int × Nat → Shared → Prop} (hs : s.heap.IsSliceOf sl vl vu .none) (pl : IsPart vl lo) (pu : IsPart vu hi)
    (h : Q (((sIx n 0 lo : Nat) : Int), 1, sIx n n hi - sIx n 0 lo) s) : wpAny (model prog w) A (Builtin.Slice.sliceApplied (.ref sl) (pure (n : Int))) Q E s := by
  obtain ⟨os, hos, hcs, hds⟩ := id hs
  unfold Builtin.Slice.sliceApplied Builtin.Slice.sliceFields
  refine wpAny_bind (wpAny_bind (wpAny_field hos hds (x := vl) rfl (wpAny_bind (wpAny_field hos hds (x := vu) rfl (wpAny_bind (wpAny_field hos hds (x := .none) rfl (wpAny_pure ?_)))))))
  refine wpAny_bind (slicePart_none ?_)
  show wpAny _ _ (if ((1 : Int) == 0) = true then _ else _) _ _ s
  rw [if_neg (by decide)]
  refine wpAny_bind (slicePart_ pl (wpAny_bind (slicePart_ pu (wpAny_bind (wpAny_pure ?_)))))
  show wpAny _ _ (match Builtin.Slice.sliceAdjust lo hi 1 (n : Int) with | (lo, hi) => pure (lo, (1 : Int), Builtin.Slice.slicePlaces lo hi 1)) _ _ s
  rw [adjust_gen lo hi n]
  show wpAny _ _ (pure (((sIx n 0 lo : Nat) : Int), (1 : Int), Builtin.Slice.slicePlaces ((sIx n 0 lo : Nat) : Int) ((sIx n n hi : Nat) : Int) 1)) _ _ s
  rw [places_gen]
  exact wpAny_pure h
theorem pick_gen (xs : Array Value) (i k : Nat) : ((List.range k).filterMap fun (m : Nat) => xs[((i : Int) + (m : Int) * 1).toNat]?).toArray = ((xs.toList.drop i).take k).toArray := by
  have e : (fun (m : Nat) => xs[((i : Int) + (m : Int) * 1).toNat]?) = fun m => xs[i + m]? := by
    funext m
    have : ((i : Int) + (m : Int) * 1).toNat = i + m := by omega
    rw [this]
  rw [e]
  have := pick_run xs i k
  rw [List.filterMap_map] at this
  have e2 : ((fun x => xs[x]?) ∘ fun x => i + x) = fun m => xs[i + m]? := rfl
  rw [e2] at this
  rw [this]

theorem getItem_tuple_cut {t sl : Addr} {items : Array Value} {vl vu : Value} {lo hi : Option Int} {Q : Value → Shared → Prop} (ht : IsTup s.heap t items) (hs : s.heap.IsSliceOf sl vl vu .none) (pl : IsPart vl lo) (pu : IsPart vu hi)
    (hw : ¬ (sIx items.size 0 lo = 0 ∧ sIx items.size items.size hi = items.size))
    (h : Q (.ref s.heap.objs.size) { s with heap := s.heap.push { cls := .type "tuple", data := .seq ((items.toList.drop (sIx items.size 0 lo)).take (sIx items.size items.size hi - sIx items.size 0 lo)).toArray } })
    (hsz : items.size ≤ sizeLine) : wpAny (model prog w) A (getItem (.ref t) (.ref sl)) Q E s := by
  have htake : sizeOk (.seq ((items.toList.drop (sIx items.size 0 lo)).take (sIx items.size items.size hi - sIx items.size 0 lo)).toArray) := by
    show ((items.toList.drop (sIx items.size 0 lo)).take (sIx items.size items.size hi - sIx items.size 0 lo)).toArray.size ≤ sizeLine
    rw [List.size_toArray, List.length_take, List.length_drop, Array.length_toList]
    omega
  have hj : sIx items.size items.size hi ≤ items.size := sIx_le _ _ (Nat.le_refl _) hi
  obtain ⟨os, hos, hcs, hds⟩ := id hs
  have hTs : s.TypeIs (.ref sl) "slice" := ⟨os, hos, hcs⟩
  unfold getItem
  try with_reducible refine wpAny_holding ?_
  first | refine wpAny_bind (wpAny_pure ?_) | skip
  refine wpAny_bind (wpAny_sequenceKey ht.typeIs (by decide) ?_)
  refine wpAny_bind (wpAny_callSpecial?_slot (name := Str.ofString "__getitem__") ht.typeIs PyProof.Rows.slot_tuple_getitem
    (wpAny_call_entry PyProof.Rows.slot_tuple_getitem ht.typeIs entry_tuple_getitem ?_ (args_tuple_getitem _ _)))
  show wpAny _ _ (Builtin.Tuple.tupleItemsOf (.ref t) >>= _) _ _ s
  refine wpAny_bind (tupleItemsOf_ ht ?_)
  refine wpAny_bind (wpAny_typeOf hTs ?_)
  rw [if_pos (by decide)]
  refine wpAny_bind (sliceApplied_gen hs pl pu ?_)
  have hno : ¬ ((((sIx items.size 0 lo : Nat) : Int) == 0 && (1 : Int) == 1 && (sIx items.size items.size hi - sIx items.size 0 lo) == items.size) = true) := by
    intro q
    rw [Bool.and_eq_true, Bool.and_eq_true] at q
    have q1 : ((sIx items.size 0 lo : Nat) : Int) = 0 := eq_of_beq q.1.1
    have q2 : sIx items.size items.size hi - sIx items.size 0 lo = items.size := eq_of_beq q.2
    exact hw ⟨by omega, by omega⟩
  show wpAny _ _ (if (((sIx items.size 0 lo : Nat) : Int) == 0 && (1 : Int) == 1 && (sIx items.size items.size hi - sIx items.size 0 lo) == items.size) = true then _ else _) _ _ s
  rw [if_neg hno, pick_gen]
  first
    | exact wpAny_bind (m := Builtin.Tuple.tupleExact _) (wpAny_newObj_type (wpAny_pure ⟨_, rfl, wpAny_pure h⟩) htake)
    | exact wpAny_bind (m := Builtin.Tuple.tupleExact _) (wpAny_newObj_type (wpAny_bind (wpAny_pure (wpAny_pure ⟨_, rfl, wpAny_pure h⟩))) htake)
    | exact wpAny_bind (wpAny_bind (m := Builtin.Tuple.tupleExact _) (wpAny_newObj_type (wpAny_pure (wpAny_pure ⟨_, rfl, wpAny_pure h⟩)) htake))
    | exact wpAny_bind (wpAny_bind (m := Builtin.Tuple.tupleExact _) (wpAny_newObj_type (wpAny_pure ⟨_, rfl, wpAny_pure h⟩) htake))
end
end HT

namespace L2
open PySem PySem.Spec PyProof.Rows

/-! ### the parts of a slice -/
abbrev TO := St → Hp → (Option Int → Hp → Prop) → Prop
/-- a slice's part (left out, or an int) -/
def PO (X : Cx) (e : Option Expr) (t : TO) : Prop :=
  ∀ (pins : List (Addr × Obj)) (s : Shared) (σ : St) (H : Hp) (Q : Option Int → Hp → Prop), Inv X pins σ H s → t σ H Q →
    wpAny (model X.prog X.w) X.A (evalPart e X.env) (fun u s' => ∃ o H', Inv X pins σ H' s' ∧ IsPart u o ∧ Q o H') X.xe s
def tNoPart : TO := fun _ H Q => Q none H
def tPart (t : TE) : TO := fun σ H Q => t σ H fun x H1 => ∃ i, x = .int i ∧ Q (some i) H1

theorem intsAre_of {ns : List Int} : ∀ {us : List Value}, Vals (ns.map V.int) us → IntsAre us ns := by
  induction ns with
  | nil => intro us r; rw [List.map_nil] at r; cases r; exact .nil
  | cons n ns ih =>
    intro us r
    rw [List.map_cons] at r
    cases r with
    | cons r1 r2 =>
      obtain ⟨t, e⟩ := r1
      subst e
      exact .cons n t (ih r2)

section
variable {X : Cx} {e : Expr} {te : TE} {lo hi : Option Expr} {tl th : TO} {pos p2 : Pos}

theorem po_none : PO X none tNoPart := by
  intro pins s σ H Q I h
  rw [evalPart_none]
  exact wpAny_pure ⟨none, H, I, .none, h⟩
theorem po_some (h : PE X e te) : PO X (some e) (tPart te) := by
  intro pins s σ H Q I hw
  rw [evalPart_some]
  refine thn (h pins s σ H _ I hw) fun u s1 hq0 => ?_
  obtain ⟨x, H1, I1, r1, q1⟩ := hq0
  obtain ⟨i, rfl, q⟩ := q1
  obtain ⟨t, rfl⟩ := r1
  exact ⟨some i, H1, I1, .int i t, q⟩

/-- what a slice of a value is, by values: the slice object stands at sl -/
def SlR (X : Cx) (r : V → Option Int → Option Int → Hp → VK → Prop) : Prop :=
  ∀ (pins : List (Addr × Obj)) (s : Shared) (σ : St) (H : Hp) (x : V) (v vl vu : Value) (lo hi : Option Int) (sl : Addr) (Q : VK), Inv X pins σ H s → RelV x v → s.heap.IsSliceOf sl vl vu .none → IsPart vl lo → IsPart vu hi → r x lo hi H Q →
    ∃ T id, typeLookup (.type T) "__getitem__" = pure (some (.builtin id)) ∧ s.TypeIs v T ∧ wpAny (model X.prog X.w) X.A (getItem v (.ref sl)) (EP X pins σ Q) X.xe s
def tSl (r : V → Option Int → Option Int → Hp → VK → Prop) (te : TE) (tl th : TO) : TE := fun σ H Q => te σ H fun x H1 => tl σ H1 fun l H2 => th σ H2 fun u H3 => r x l u H3 Q
/-- a[lo:hi], any a -/
theorem pe_slice {r : V → Option Int → Option Int → Hp → VK → Prop} (hr : SlR X r) (he : PE X e te) (hl : PO X lo tl) (hu : PO X hi th) : PE X (.Subscript e (.Slice lo hi none p2) pos) (tSl r te tl th) := by
  intro pins s σ H Q I h
  refine Subscript_ (thn (he pins s σ H _ I h) fun v s1 hq0 => ?_)
  obtain ⟨x, H1, I1, r1, q1⟩ := hq0
  refine wpAny_Slice (thn (hl pins s1 σ H1 _ I1 q1) fun vl s2 ⟨l, H2, I2, pl, q2⟩ => thn (hu pins s2 σ H2 _ I2 q2) fun vu s3 hq0 => ?_)
  obtain ⟨u, H3, I3, pu, q3⟩ := hq0
  rw [evalPart_none]
  refine wpAny_pure ?_
  have I4 : Inv X pins σ H3 { s3 with heap := s3.heap.push { cls := .type "slice", data := .fields #[vl, vu, .none] } } := I3.kept (t' := s3.toks) fun b ob q => Heap.get?_push_of_some _ q
  obtain ⟨T, id, hT, ht, hg⟩ := hr pins { s3 with heap := s3.heap.push { cls := .type "slice", data := .fields #[vl, vu, .none] } } σ H3 x v vl vu l u s3.heap.objs.size Q I4 r1 (Heap.IsSliceOf.new ..) pl pu q3
  show wpAny (model X.prog X.w) X.A (subscriptTail e (.Slice lo hi none p2) v (.ref s3.heap.objs.size)) (EP X pins σ Q) X.xe { s3 with heap := s3.heap.push { cls := .type "slice", data := .fields #[vl, vu, .none] } }
  exact tail_any (ops := [.ref s3.heap.objs.size, v]) ht hT hg (by with_unfolding_all rfl)

/-- the items of xs[lo:hi] -/
def cutV (xs : List V) (lo hi : Option Int) : List V := (xs.drop (HT.sIx xs.length 0 lo)).take (HT.sIx xs.length xs.length hi - HT.sIx xs.length 0 lo)
theorem cutV_length (xs : List V) (lo hi : Option Int) : (cutV xs lo hi).length ≤ xs.length := by
  unfold cutV
  rw [List.length_take, List.length_drop]
  omega
/-- t[lo:hi], not the whole of it (the whole would be t itself) -/
def rSlT (K : PySem.W.Frag) : V → Option Int → Option Int → Hp → VK → Prop := fun x lo hi H Q => ∃ a xs, x = .ref a ∧ SqT K H a xs ∧
  ¬ (HT.sIx xs.length 0 lo = 0 ∧ HT.sIx xs.length xs.length hi = xs.length) ∧ ∀ p, H p = none → Q (.ref p) (upd H p (.tup (cutV xs lo hi)))
theorem sl_tup : SlR X (rSlT X.K) := by
  intro pins s σ H x v vl vu lo hi sl Q I rx hs pl pu h
  obtain ⟨a, xs, rfl, hx, hw, q⟩ := h
  cases rx
  obtain ⟨its, r, ht, hz⟩ := I.tuple hx
  have hlen : its.toArray.size = xs.length := by rw [List.size_toArray]; exact r.length.symm
  refine ⟨"tuple", _, PyProof.Rows.slot_tuple_getitem.lookup, ht.typeIs, ?_⟩
  refine HT.getItem_tuple_cut ht hs pl pu (by rw [hlen]; exact hw) ?_ (by rw [hlen]; exact hz)
  rw [hlen]
  refine ⟨.ref s.heap.objs.size, _, I.laid (t' := s.toks) (o := .tup (cutV xs lo hi)) (fun b ob q => Heap.get?_push_of_some _ q) (Nat.le_refl _) ?_, rfl, q _ (I.hok.fresh (Nat.le_refl _))⟩
  exact ⟨Nat.le_trans (cutV_length xs lo hi) hz, _, (r.drop (HT.sIx xs.length 0 lo)).take (HT.sIx xs.length xs.length hi - HT.sIx xs.length 0 lo), IsTup.new _ _⟩

/-! ### t < u, t + u -/
/-- t + u, t not empty: u empty gives t itself -/
def rCatT (K : PySem.W.Frag) : R2 := fun x y H Q => ∃ a b xs ys, x = .ref a ∧ y = .ref b ∧ SqT K H a xs ∧ SqT K H b ys ∧ xs ≠ [] ∧ xs.length + ys.length ≤ sizeLine ∧
  (ys = [] → Q (.ref a) H) ∧ (ys ≠ [] → ∀ p, H p = none → Q (.ref p) (upd H p (.tup (xs ++ ys))))
theorem Vals.nil_iff {xs : List V} {us : List Value} (r : Vals xs us) : us = [] ↔ xs = [] := by
  cases r with
  | nil => simp
  | cons _ _ => simp
theorem op_catT : OpR X (binaryOp .Add) (rCatT X.K) := by
  intro pins s σ H x y v u Q I rx ry h
  obtain ⟨a, b, xs, ys, rfl, rfl, ha, hb, hx, hz, q1, q2⟩ := h
  cases rx
  cases ry
  obtain ⟨its, r1, p1, _⟩ := I.tuple ha
  obtain ⟨its2, r2, p2, _⟩ := I.tuple hb
  refine HT.cat_tup p1 p2 (fun z => hx (r1.nil_iff.mp z)) (fun z => ⟨.ref a, H, I, rfl, q1 (r2.nil_iff.mp z)⟩) (fun z => ?_) (by rw [← r1.length, ← r2.length]; exact hz)
  refine ⟨.ref s.heap.objs.size, _, I.laid (t' := s.toks) (o := .tup (xs ++ ys)) (fun b ob q => Heap.get?_push_of_some _ q) (Nat.le_refl _) ?_, rfl, q2 (fun w => z (r2.nil_iff.mpr w)) _ (I.hok.fresh (Nat.le_refl _))⟩
  exact ⟨by rw [List.length_append]; exact hz, _, r1.append r2, IsTup.new _ _⟩
end
end L2

namespace L2
open PySem PySem.Spec PyProof.Rows

/-! ### places -/
/-- the place that an index of any sign means -/
def ixN (n : Nat) (i : Int) : Option Nat := if 0 ≤ i then (if i < n then some i.toNat else none) else if -(n : Int) ≤ i then some (i + n).toNat else none
def atI {α : Type} (xs : List α) (i : Int) : Option α := (ixN xs.length i).bind fun j => xs[j]?
theorem ixN_seq {n : Nat} {i : Int} {j : Nat} (h : ixN n i = some j) : seqIndex? i n = some j ∧ j < n ∧ -(n : Int) ≤ i ∧ i < n := by
  unfold ixN at h
  by_cases h0 : 0 ≤ i
  · rw [if_pos h0] at h
    by_cases h1 : i < n
    · rw [if_pos h1] at h
      have e : i.toNat = j := Option.some.inj h
      exact ⟨by rw [seqIndex_of h0 h1, e], by omega, by omega, h1⟩
    · rw [if_neg h1] at h; cases h
  · rw [if_neg h0] at h
    by_cases h1 : -(n : Int) ≤ i
    · rw [if_pos h1] at h
      have e : (i + n).toNat = j := Option.some.inj h
      exact ⟨by rw [seqIndex_neg (by omega) h1, e], by omega, h1, by omega⟩
    · rw [if_neg h1] at h; cases h
theorem atI_get {α : Type} {xs : List α} {i : Int} {v : α} (h : atI xs i = some v) : ∃ j, seqIndex? i xs.length = some j ∧ xs[j]? = some v ∧ j < xs.length ∧ -(xs.length : Int) ≤ i ∧ i < xs.length := by
  unfold atI at h
  cases e : ixN xs.length i with
  | none => rw [e] at h; cases h
  | some j =>
    rw [e] at h
    obtain ⟨h1, h2, h3, h4⟩ := ixN_seq e
    exact ⟨j, h1, h, h2, h3, h4⟩
theorem atI_nat {α : Type} {xs : List α} {j : Nat} {v : α} (h : xs[j]? = some v) : atI xs (j : Int) = some v := by
  have hj : j < xs.length := (List.getElem?_eq_some_iff.mp h).1
  have e : ixN xs.length (j : Int) = some j := by
    unfold ixN
    rw [if_pos (by omega), if_pos (by omega)]; simp
  unfold atI; rw [e]; exact h
theorem atI_last {α : Type} (xs : List α) (v : α) : atI (xs ++ [v]) (-1) = some v := by
  have hl : (xs ++ [v]).length = xs.length + 1 := by simp
  have e : ixN (xs ++ [v]).length (-1) = some xs.length := by
    unfold ixN
    rw [hl, if_neg (by decide), if_pos (by omega)]
    congr 1
    omega
  unfold atI
  rw [e]
  show (xs ++ [v])[xs.length]? = some v
  simp

/-! ### what may be subscripted -/
/-- what stands as an index of a plain subscript -/
def PlainIx (b : Expr) : Prop := ∀ o i, subscripted b false o i = operate [o, i] (getItem o i)
/-- a subscript by values -/
def IxR (X : Cx) (r : R2) : Prop :=
  ∀ (value slice : Expr) (pins : List (Addr × Obj)) (s : Shared) (σ : St) (H : Hp) (x y : V) (v u : Value) (Q : VK), Inv X pins σ H s → RelV x v → RelV y u → r x y H Q →
    subscripted slice false v u = operate [v, u] (getItem v u) → wpAny (model X.prog X.w) X.A (subscriptTail value slice v u) (EP X pins σ Q) X.xe s
/-- a call of a builtin's method by values: the receiver, the arguments -/
def MtR (X : Cx) (id : String) (r : V → List V → Hp → VK → Prop) : Prop :=
  ∀ (pins : List (Addr × Obj)) (s : Shared) (σ : St) (H : Hp) (x : V) (xs : List V) (v : Value) (us : List Value) (Q : VK), Inv X pins σ H s → RelV x v → Vals xs us → r x xs H Q →
    wpAny (model X.prog X.w) X.A (call (.builtin id) (v :: us)) (EP X pins σ Q) X.xe s
section
variable {X : Cx} {a b : Expr} {ta tb : TE} {pos : Pos}
/-- a[b] -/
theorem pe_ix {r : R2} (hr : IxR X r) (ha : PE X a ta) (hb : PE X b tb) (hs : PlainIx b) : PE X (.Subscript a b pos) (tOp r ta tb) := by
  intro pins s σ H Q I h
  exact Subscript_ (binT ha hb I h fun v u s2 x y H2 I2 rx ry q => hr a b pins s2 σ H2 x y v u Q I2 rx ry q (hs _ _))

def rIxL (K : PySem.W.Frag) : R2 := fun x y H Q => ∃ p xs i v, x = .ref p ∧ y = .int i ∧ SqL K H p xs ∧ atI xs i = some v ∧ Q v H
def rIxT (K : PySem.W.Frag) : R2 := fun x y H Q => ∃ p xs i v, x = .ref p ∧ y = .int i ∧ SqT K H p xs ∧ atI xs i = some v ∧ Q v H
def rIxS : R2 := fun x y H Q => ∃ z i c, x = .str z ∧ y = .int i ∧ z.length ≤ sizeLine ∧ atI z.cps.toList i = some c ∧ Q (.str ⟨#[c]⟩) H
theorem ix_list : IxR X (rIxL X.K) := by
  intro value slice pins s σ H x y v u Q I rx ry h hs
  obtain ⟨p, xs, i, z, rfl, rfl, hq, he, q⟩ := h
  cases rx
  obtain ⟨t, rfl⟩ := ry
  obtain ⟨its, r, pl, hz⟩ := I.list hq
  obtain ⟨j, h1, h2, h3, h4, h5⟩ := atI_get he
  obtain ⟨w, ew, rw'⟩ := r.get h2
  have hl := r.length
  have hn := line63
  have fin : EP X pins σ Q w s := ⟨z, H, I, rw', q⟩
  by_cases h0 : 0 ≤ i
  · have hj : i.toNat = j := by
      rw [seqIndex_of h0 h5] at h1
      exact Option.some.inj h1
    exact item_listR pl.isList h0 (by omega) (by rw [hj]; simpa using ew) fin hs
  · have hj : (i + (its.toArray.size : Int)).toNat = j := by
      rw [seqIndex_neg (by omega) h4] at h1
      rw [List.size_toArray, ← hl]
      exact Option.some.inj h1
    exact subscriptTail_builtinR (x := w) pl.isList.typeIs slot_list_getitem.lookup
      (wpAny_getItem_list_neg (Q := fun r s' => r = w ∧ EP X pins σ Q r s') pl.isList (by omega) (by rw [List.size_toArray] <;> omega) (by omega) (by rw [hj]; simpa using ew) ⟨rfl, fin⟩) hs
theorem ix_tup : IxR X (rIxT X.K) := by
  intro value slice pins s σ H x y v u Q I rx ry h hs
  obtain ⟨p, xs, i, z, rfl, rfl, hq, he, q⟩ := h
  cases rx
  obtain ⟨t, rfl⟩ := ry
  obtain ⟨its, r, pl, hz⟩ := I.tuple hq
  obtain ⟨j, h1, h2, h3, h4, h5⟩ := atI_get he
  obtain ⟨w, ew, rw'⟩ := r.get h2
  have hl := r.length
  have hn := line63
  have fin : EP X pins σ Q w s := ⟨z, H, I, rw', q⟩
  exact subscriptTail_builtinR (x := w) pl.typeIs slot_tuple_getitem.lookup
    (getItem_tuple (j := j) (Q := fun r s' => r = w ∧ EP X pins σ Q r s') pl (by omega) (by omega) (by rw [List.size_toArray, ← hl]; exact h1) (by simpa using ew) ⟨rfl, fin⟩) hs
theorem ix_str : IxR X rIxS := by
  intro value slice pins s σ H x y v u Q I rx ry h hs
  obtain ⟨z, i, c, rfl, rfl, hz, he, q⟩ := h
  obtain ⟨t, rfl⟩ := rx
  obtain ⟨t', rfl⟩ := ry
  obtain ⟨j, h1, h2, h3, h4, h5⟩ := atI_get he
  have hl : z.cps.toList.length = z.length := by simp [Str.length]
  rw [hl] at h1 h4 h5
  have hn := line63
  exact tail_any (typeIs_str s z t) slot_str_getitem.lookup (getItem_str (c := c) (by
    have e1 : decide (i < -(2 ^ 63 : Int)) = false := decide_eq_false (by omega)
    have e2 : decide (i ≥ 2 ^ 63) = false := decide_eq_false (by omega)
    rw [e1, e2, Bool.or_false]) (by rw [h1]; simpa using h2) ⟨.str ⟨#[c]⟩, H, I.tok _, ⟨_, rfl⟩, q⟩) hs

/-! ### xs[i] = v, any sign -/
/-- the list's object behind a store -/
theorem mapSeq_set (its : List Value) (n j : Nat) (u : Value) : Obj.mapSeq (·.setIfInBounds j u) { cls := .type "list", data := .seq its.toArray n } = { cls := .type "list", data := .seq (its.set j u).toArray n } := by
  simp [Obj.mapSeq]
theorem Inv.lst {pins : List (Addr × Obj)} {σ : St} {H : Hp} {s : Shared} {p : Addr} {xs : List V} (I : Inv X pins σ H s) (h : H p = some (.lst xs)) :
    ∃ (its : List Value) (n : Nat), Vals xs its ∧ s.heap.get? p = some { cls := .type "list", data := .seq its.toArray n } ∧ xs.length ≤ sizeLine := by
  obtain ⟨z, its, n, r, e⟩ := I.hok p _ h
  exact ⟨its, n, r, e, z⟩
/-- the list at p is written by an update of its object -/
theorem Inv.lstUpd {pins : List (Addr × Obj)} {σ : St} {H : Hp} {s : Shared} {p : Addr} {xs ys : List V} {its its' : List Value} {n n' : Nat} {f : Obj → Obj} (I : Inv X pins σ H s) (h : H p = some (.lst xs))
    (ho : s.heap.get? p = some { cls := .type "list", data := .seq its.toArray n }) (hf : f { cls := .type "list", data := .seq its.toArray n } = { cls := .type "list", data := .seq its'.toArray n' }) (r : Vals ys its') (hz : ys.length ≤ sizeLine) (t : Nat) :
    Inv X pins σ (upd H p (.lst ys)) { s with heap := s.heap.update p f, toks := t } := by
  have e : (s.heap.update p f).get? p = some { cls := .type "list", data := .seq its'.toArray n' } := by
    rw [Heap.get?_update_self f ho (by rw [hf] <;> rfl), hf]
  refine I.write (x := p) (e := p) (by rw [h]; trivial) (.inl rfl) (fun b u hb q => (Heap.get?_update_other _ _ (Ne.symm hb)).trans q) ⟨_, e⟩ ?_
  exact ⟨hz, its', n', r, e⟩
def rSetL : V → V → V → Hp → (Hp → Prop) → Prop := fun o i v H Q => ∃ p xs k j, o = .ref p ∧ i = .int k ∧ H p = some (.lst xs) ∧ ixN xs.length k = some j ∧ Q (upd H p (.lst (xs.set j v)))
theorem set_list : PSet X rSetL := by
  intro pins s σ H o i v ov iv u Q I ro ri rv h
  obtain ⟨p, xs, k, j, rfl, rfl, hp, hj, q⟩ := h
  cases ro
  obtain ⟨t, rfl⟩ := ri
  obtain ⟨its, n, r, ho, hz⟩ := I.lst hp
  obtain ⟨h1, h2, h3, h4⟩ := ixN_seq hj
  have hl := r.length
  have hn := line63
  have I' : Inv X pins σ (upd H p (.lst (xs.set j v))) { s with heap := s.heap.update p (Obj.mapSeq (·.setIfInBounds j u)) } :=
    I.lstUpd hp ho (mapSeq_set its n j u) (r.set rv j) (by rw [List.length_set]; exact hz) s.toks
  by_cases h0 : 0 ≤ k
  · have hk : k.toNat = j := by
      rw [seqIndex_of h0 h4] at h1
      exact Option.some.inj h1
    exact PySem.W.ki_setAt ho h0 (by omega) (by rw [List.size_toArray, ← hl]; exact h4) (by rw [hk]; exact ⟨_, I', q⟩)
  · have hk : (k + (its.toArray.size : Int)).toNat = j := by
      rw [seqIndex_neg (by omega) h3] at h1
      rw [List.size_toArray, ← hl]
      exact Option.some.inj h1
    exact PySem.W.ki_setBack ho (by omega) (by rw [List.size_toArray, ← hl]; exact h3) (by omega) (by rw [hk]; exact ⟨_, I', q⟩)

/-! ### slices -/
theorem slice_bounds (lo hi : Option Int) (n : Nat) : (sliceBounds lo hi none n).1 = ((HT.sIx n 0 lo : Nat) : Int) ∧ (sliceBounds lo hi none n).2.1 = ((HT.sIx n n hi : Nat) : Int) ∧ (sliceBounds lo hi none n).2.2 = 1 := by
  refine ⟨?_, ?_, rfl⟩
  · cases lo with
    | none => simp [sliceBounds, HT.sIx]
    | some i =>
      simp only [sliceBounds, HT.sIx, Option.getD_none, show (1 : Int) > 0 by decide, if_true]
      by_cases h : i < 0
      · simp only [h, if_true] <;> omega
      · simp only [h, if_false] <;> omega
  · cases hi with
    | none => simp [sliceBounds, HT.sIx]
    | some i =>
      simp only [sliceBounds, HT.sIx, Option.getD_none, show (1 : Int) > 0 by decide, if_true]
      by_cases h : i < 0
      · simp only [h, if_true] <;> omega
      · simp only [h, if_false] <;> omega
theorem slicePick_cut (its : List Value) (lo hi : Option Int) : slicePick its.toArray lo hi none = ((its.drop (HT.sIx its.length 0 lo)).take (HT.sIx its.length its.length hi - HT.sIx its.length 0 lo)).toArray := by
  obtain ⟨h1, h2, h3⟩ := slice_bounds lo hi its.toArray.size
  unfold slicePick
  rw [h1, h2, h3]
  simp only [sliceRange_one, pick_run, List.size_toArray] <;> rfl
/-- xs[lo:hi] of a list: a new list -/
def rSlL (K : PySem.W.Frag) : V → Option Int → Option Int → Hp → VK → Prop := fun x lo hi H Q => ∃ a xs, x = .ref a ∧ SqL K H a xs ∧ ∀ p, H p = none → Q (.ref p) (upd H p (.lst (cutV xs lo hi)))
theorem sl_list : SlR X (rSlL X.K) := by
  intro pins s σ H x v vl vu lo hi sl Q I rx hs pl pu h
  obtain ⟨a, xs, rfl, hx, q⟩ := h
  cases rx
  obtain ⟨its, r, ht, hz⟩ := I.list hx
  have hlen := r.length
  refine ⟨"list", _, slot_list_getitem.lookup, ht.isList.typeIs, ?_⟩
  refine wpAny_getItem_list_slice ht.isList hs pl pu .none (by simp) ?_ (by rw [List.size_toArray] <;> omega)
  rw [slicePick_cut, ← hlen]
  refine ⟨.ref s.heap.objs.size, _, I.laid (t' := s.toks) (o := .lst (cutV xs lo hi)) (fun b ob q => Heap.get?_push_of_some _ q) (Nat.le_refl _) ?_, rfl, q _ (I.hok.fresh (Nat.le_refl _))⟩
  exact ⟨Nat.le_trans (cutV_length xs lo hi) hz, _, 0, (r.drop (HT.sIx xs.length 0 lo)).take (HT.sIx xs.length xs.length hi - HT.sIx xs.length 0 lo), Heap.get?_push_size _ rfl⟩

/-! ### in, not in: flat items -/
def flatV : V → Bool
  | .non => true
  | .bl _ => true
  | .int _ => true
  | .str _ => true
  | _ => false
/-- == of flat values -/
def eqV : V → V → Bool
  | .non, .non => true
  | .bl a, .bl b => a == b
  | .bl a, .int b => (if a then 1 else 0) == b
  | .int a, .bl b => a == (if b then 1 else 0)
  | .int a, .int b => a == b
  | .str a, .str b => a == b
  | _, _ => false
theorem eqAt_V {A : Around} {s : Shared} {y x : V} {u v : Value} (ry : RelV y u) (rx : RelV x v) (fy : flatV y = true) (fx : flatV x = true) : SeqAt.EqAt A s u v (eqV y x) := by
  cases y with
  | non =>
    cases ry
    cases x with
    | non => cases rx; exact SeqAt.EqAt.same _
    | bl b => cases rx; exact SeqAt.EqAt.none_bool b
    | int b => obtain ⟨t, rfl⟩ := rx; exact SeqAt.EqAt.none_int b t
    | str b => obtain ⟨t, rfl⟩ := rx; exact SeqAt.EqAt.none_str b t
    | _ => exact absurd (show false = true from fx) Bool.false_ne_true
  | bl a =>
    cases ry
    cases x with
    | non => cases rx; exact SeqAt.EqAt.bool_none a
    | bl b => cases rx; exact SeqAt.EqAt.bool_bool a b
    | int b => obtain ⟨t, rfl⟩ := rx; exact SeqAt.EqAt.bool_int a b t
    | str b => obtain ⟨t, rfl⟩ := rx; exact SeqAt.EqAt.bool_str a b t
    | _ => exact absurd (show false = true from fx) Bool.false_ne_true
  | int a =>
    obtain ⟨t', rfl⟩ := ry
    cases x with
    | non => cases rx; exact SeqAt.EqAt.int_none a t'
    | bl b => cases rx; exact SeqAt.EqAt.int_bool a t' b
    | int b => obtain ⟨t, rfl⟩ := rx; exact SeqAt.EqAt.int_int a t' b t
    | str b => obtain ⟨t, rfl⟩ := rx; exact SeqAt.EqAt.int_str a t' b t
    | _ => exact absurd (show false = true from fx) Bool.false_ne_true
  | str a =>
    obtain ⟨t', rfl⟩ := ry
    cases x with
    | non => cases rx; exact SeqAt.EqAt.str_none a t'
    | bl b => cases rx; exact SeqAt.EqAt.str_bool a t' b
    | int b => obtain ⟨t, rfl⟩ := rx; exact SeqAt.EqAt.str_int a t' b t
    | str b => obtain ⟨t, rfl⟩ := rx; exact SeqAt.EqAt.str_str a t' b t
    | _ => exact absurd (show false = true from fx) Bool.false_ne_true
  | _ => exact absurd (show false = true from fy) Bool.false_ne_true
/-- the items' answers, read off the values (a value's own answer does not lean on its token) -/
def eqU (x : V) (u : Value) : Bool := match u with
  | .none => eqV .non x
  | .bool b => eqV (.bl b) x
  | .int i _ => eqV (.int i) x
  | .str z _ => eqV (.str z) x
  | _ => false
theorem eqU_of {x y : V} {u : Value} (r : RelV y u) (f : flatV y = true) : eqU x u = eqV y x := by
  cases y with
  | non => cases r; rfl
  | bl b => cases r; rfl
  | int i => obtain ⟨t, rfl⟩ := r; rfl
  | str z => obtain ⟨t, rfl⟩ := r; rfl
  | _ => exact absurd (show false = true from f) Bool.false_ne_true
theorem any_eqU {x : V} : ∀ {xs : List V} {us : List Value}, Vals xs us → xs.all flatV = true → us.any (eqU x) = xs.any fun y => eqV y x
  | _, _, .nil, _ => rfl
  | y :: xs, u :: us, .cons r t, f => by
    rw [List.all_cons, Bool.and_eq_true] at f
    rw [List.any_cons, List.any_cons, eqU_of r f.1, any_eqU t f.2]
theorem mem_eqAt {A : Around} {s : Shared} {x : V} {v : Value} (rx : RelV x v) (fx : flatV x = true) : ∀ {xs : List V} {us : List Value}, Vals xs us → xs.all flatV = true → ∀ u ∈ us, SeqAt.EqAt A s u v (eqU x u)
  | _, _, .nil, _ => fun u hu => by cases hu
  | y :: xs, u :: us, .cons r t, f => fun u' hu => by
    rw [List.all_cons, Bool.and_eq_true] at f
    rcases List.mem_cons.mp hu with rfl | hu
    · rw [eqU_of r f.1]; exact eqAt_V r rx f.1 fx
    · exact mem_eqAt rx fx t f.2 u' hu
def inV (x : V) (xs : List V) : Bool := xs.any fun y => eqV y x
/-- x in a list or tuple of flat items -/
def rIn (K : PySem.W.Frag) (neg : Bool) : R2 := fun x y H Q => ∃ p xs, y = .ref p ∧ (SqL K H p xs ∨ SqT K H p xs) ∧ flatV x = true ∧ xs.all flatV = true ∧ Q (.bl (if neg then !inV x xs else inV x xs)) H
theorem op_in_seq : OpR X (compareOp .In) (rIn X.K false) := by
  intro pins s σ H x y v u Q I rx ry h
  obtain ⟨p, xs, rfl, hq, fx, fs, q⟩ := h
  cases ry
  rcases hq with hq | hq
  · obtain ⟨its, r, pl, hz⟩ := I.list hq
    refine SeqAt.in_listAt (eqU x) pl.isList (fun w hw => mem_eqAt rx fx r fs w (by simpa using hw)) ⟨.bl _, H, I, rfl, ?_⟩
    rw [show its.toArray.any (eqU x) = its.any (eqU x) by simp, any_eqU r fs]
    exact q
  · obtain ⟨its, r, pl, hz⟩ := I.tuple hq
    refine SeqAt.in_tupleAt (eqU x) pl (fun w hw => mem_eqAt rx fx r fs w (by simpa using hw)) ⟨.bl _, H, I, rfl, ?_⟩
    rw [show its.toArray.any (eqU x) = its.any (eqU x) by simp, any_eqU r fs]
    exact q
theorem op_notIn_seq : OpR X (compareOp .NotIn) (rIn X.K true) := by
  intro pins s σ H x y v u Q I rx ry h
  obtain ⟨p, xs, rfl, hq, fx, fs, q⟩ := h
  cases ry
  rcases hq with hq | hq
  · obtain ⟨its, r, pl, hz⟩ := I.list hq
    refine SeqAt.notIn_listAt (eqU x) pl.isList (fun w hw => mem_eqAt rx fx r fs w (by simpa using hw)) ⟨.bl _, H, I, rfl, ?_⟩
    rw [show its.toArray.any (eqU x) = its.any (eqU x) by simp, any_eqU r fs]
    exact q
  · obtain ⟨its, r, pl, hz⟩ := I.tuple hq
    refine SeqAt.notIn_tupleAt (eqU x) pl (fun w hw => mem_eqAt rx fx r fs w (by simpa using hw)) ⟨.bl _, H, I, rfl, ?_⟩
    rw [show its.toArray.any (eqU x) = its.any (eqU x) by simp, any_eqU r fs]
    exact q

/-! ### len, list(x), tuple(x) of any list or tuple that is read -/
theorem call_len_seq : CallR X (.builtin "len") (fun xs H Q => ∃ p ys, xs = [.ref p] ∧ (SqL X.K H p ys ∨ SqT X.K H p ys) ∧ Q (.int ys.length) H) := by
  intro pins s σ H xs us Q I r h
  obtain ⟨p, ys, rfl, hq, q⟩ := h
  obtain ⟨u, rfl, rx⟩ := vals1 r
  cases rx
  have hn := line63
  rcases hq with hq | hq
  · obtain ⟨its, r', pl, hz⟩ := I.list hq
    have hlen := r'.length
    exact Calls.call_len_list pl.isList (by simp only [List.size_toArray] <;> omega) ⟨.int ys.length, H, I.tok _, ⟨s.toks + 1, by rw [List.size_toArray, hlen]⟩, q⟩
  · obtain ⟨its, r', pl, hz⟩ := I.tuple hq
    have hlen := r'.length
    exact len_tuple pl (by simp only [List.size_toArray] <;> omega) ⟨.int ys.length, H, I.tok _, ⟨s.toks + 1, by rw [List.size_toArray, hlen]⟩, q⟩

/-! ### the call of a builtin's method: o.m(..) -/
/-- the value is of that builtin type -/
def tyV (K : PySem.W.Frag) (T : String) (x : V) (H : Hp) : Prop := match x with
  | .str _ => T = "str"
  | .int _ => T = "int"
  | .ref p => (T = "list" ∧ ∃ xs, SqL K H p xs) ∨ (T = "tuple" ∧ ∃ o, K.lookup p = some o ∧ o.cls = .type "tuple" ∧ o.dict = none) ∨
      (T = "dict" ∧ ((∃ kvs, H p = some (.dK kvs)) ∨ ∃ kvs, H p = some (.dT kvs))) ∨ (T = "set" ∧ ∃ S n, H p = some (.set S n))
  | _ => False
theorem tyV_is {pins : List (Addr × Obj)} {σ : St} {H : Hp} {s : Shared} {T : String} {x : V} {v : Value} (I : Inv X pins σ H s) (r : RelV x v) (ty : tyV X.K T x H) :
    s.TypeIs v T ∧ ∀ a, v = .ref a → ∃ ob, s.heap.get? a = some ob ∧ ob.dict = none := by
  cases x with
  | str z =>
    obtain ⟨t, rfl⟩ := r
    cases (show T = "str" from ty)
    exact ⟨typeIs_str s z t, fun _ e => nomatch e⟩
  | int i =>
    obtain ⟨t, rfl⟩ := r
    cases (show T = "int" from ty)
    exact ⟨typeIs_int s i t, fun _ e => nomatch e⟩
  | ref p =>
    cases r
    rcases ty with ⟨rfl, xs, hq⟩ | ⟨rfl, o, hk, hc, hd⟩ | ⟨rfl, hk⟩ | ⟨rfl, S, n, hk⟩
    · obtain ⟨its, _, pl, _⟩ := I.list hq
      refine ⟨pl.isList.typeIs, fun a e => ?_⟩
      cases e
      obtain ⟨o, n, e, c, hd, _⟩ := pl
      exact ⟨o, e, hd⟩
    · refine ⟨⟨o, I.kIn p o hk, hc⟩, fun a e => ?_⟩
      cases e
      exact ⟨o, I.kIn _ o hk, hd⟩
    · have z : ∃ o, s.heap.get? p = some o ∧ o.ExactDict := by
        rcases hk with ⟨kvs, hk⟩ | ⟨kvs, hk⟩
        · obtain ⟨_, _, _, _, o, _, _, e, ex, _⟩ := I.hok p _ hk
          exact ⟨o, e, ex⟩
        · obtain ⟨_, _, _, _, o, _, _, e, ex, _⟩ := I.hok p _ hk
          exact ⟨o, e, ex⟩
      obtain ⟨o, e, ex⟩ := z
      refine ⟨⟨o, e, ex.1⟩, fun a e2 => ?_⟩
      cases e2
      exact ⟨o, e, ex.2.1⟩
    · obtain ⟨o, _, _, _, e, ex, _⟩ := I.hok p _ hk
      refine ⟨⟨o, e, ex.1⟩, fun a e2 => ?_⟩
      cases e2
      exact ⟨o, e, ex.2.1⟩
  | _ => exact False.elim ty
def tBM0 (K : PySem.W.Frag) (T : String) (r : V → List V → Hp → VK → Prop) (to : TE) : TE := fun σ H Q => to σ H fun x H1 => tyV K T x H1 ∧ r x [] H1 Q
def tBM (K : PySem.W.Frag) (T : String) (r : V → List V → Hp → VK → Prop) (to : TE) (t : TA) : TE := fun σ H Q => to σ H fun x H1 => tyV K T x H1 ∧ t σ H1 fun xs H2 => r x xs H2 Q
variable {o e : Expr} {es : List Expr} {to : TE} {t : TA} {name : Str} {apos cpos : Pos} {T id : String} {r : V → List V → Hp → VK → Prop}
theorem pe_bm0 (pa : PlainAttrs T) (slot : Slot T name id) (hty : typeOf (.builtin id) = pure (.type "method_descriptor")) (hm : MtR X id r) (ho : PE X o to)
    (hbase : attributeBase o name X.env (eval o X.env) = eval o X.env := by rfl) (hline : (apos.endLine == cpos.line) = true := by rfl) : PE X (.Call (.Attribute o name apos) [] [] cpos) (tBM0 X.K T r to) := by
  intro pins s σ H Q I h
  refine wpAny_Call_method0_late hbase hline (thn (ho pins s σ H _ I h) fun v s1 hq0 => ?_)
  obtain ⟨x, H1, I1, r1, ty, q1⟩ := hq0
  obtain ⟨h1, h2⟩ := tyV_is I1 r1 ty
  exact ⟨T, id, pa, slot, hty, h1, h2, Calls.callWith_builtin rfl (PySem.evalArgs_none (hm pins s1 σ H1 x [] v [] Q I1 r1 .nil q1))⟩
theorem pe_bm (pa : PlainAttrs T) (slot : Slot T name id) (hty : typeOf (.builtin id) = pure (.type "method_descriptor")) (hm : MtR X id r) (ho : PE X o to) (ha : PA X (e :: es) t)
    (hbase : attributeBase o name X.env (eval o X.env) = eval o X.env := by rfl)
    (hfew : ((backTo cpos (starEach (e :: es) X.env)).all (fun x => !x.1) && (backToKw cpos (keywordEach [] X.env)).all (fun x => x.1.isSome)
      && decide ((e :: es).length + ([] : List Keyword).length + (if ([] : List Keyword).isEmpty then 0 else 1) < 30)) = true := by rfl)
    (hline : (apos.endLine == cpos.line) = true := by rfl) (hs : starEach (e :: es) X.env = (false, eval e X.env) :: starEach es X.env := by rfl) (hplain : (backTo cpos (starEach es X.env)).any (·.1) = false := by rfl) :
    PE X (.Call (.Attribute o name apos) (e :: es) [] cpos) (tBM X.K T r to t) := by
  intro pins s σ H Q I h
  refine wpAny_Call_method_late hbase hfew hline rfl (thn (ho pins s σ H _ I h) fun v s1 hq0 => ?_)
  obtain ⟨x, H1, I1, r1, ty, q1⟩ := hq0
  obtain ⟨h1, h2⟩ := tyV_is I1 r1 ty
  refine ⟨T, id, pa, slot, hty, h1, h2, ?_⟩
  have hA := ha cpos pins s1 σ H1 _ I1 q1
  rw [hs] at hA ⊢
  refine Calls.callWith_builtin (by show (false || (backTo cpos (starEach es X.env)).any (·.1)) = false; rw [hplain] <;> rfl) (Calls.evalArgs_plain ?_)
  exact thn hA fun us s2 ⟨vs, H2, I2, r2, q2⟩ => hm pins s2 σ H2 x vs v us Q I2 r1 r2 q2
/- xs.append(e), list.index on a module's tuple .. are MtR facts of 06m -/
end
end L2

namespace L2
open PySem PySem.Spec PyProof.Rows

def MtM (X : Cx) (id : String) (r : V → List V → Hp → VK → Prop) : Prop :=
  ∀ (pins : List (Addr × Obj)) (s : Shared) (σ : St) (H : Hp) (x : V) (xs : List V) (v : Value) (us : List Value) (Q : VK), Inv X pins σ H s → RelV x v → Vals xs us → r x xs H Q →
    wpAny (model X.prog X.w) X.A (call (.builtin id) (v :: us)) (EP X pins σ Q) X.xe s

/-! ### lists of values -/
theorem Vals.one : ∀ {x : V} {us : List Value}, Vals [x] us → ∃ u, us = [u] ∧ RelV x u
  | _, _, .cons r .nil => ⟨_, rfl, r⟩
theorem Vals.eraseIdx : ∀ {xs : List V} {us : List Value} (i : Nat), Vals xs us → Vals (xs.eraseIdx i) (us.eraseIdx i)
  | _, _, _, .nil => .nil
  | _, _, 0, .cons _ t => t
  | _, _, i + 1, .cons r t => .cons r (Vals.eraseIdx i t)
theorem len_erase {α : Type} : ∀ (l : List α) (i : Nat), (l.eraseIdx i).length ≤ l.length
  | [], _ => Nat.le_refl _
  | _ :: _, 0 => Nat.le_succ _
  | _ :: r, i + 1 => Nat.succ_le_succ (len_erase r i)

section
variable {X : Cx} {pins : List (Addr × Obj)} {σ : St} {H : Hp} {s : Shared} {l b : Addr} {xs ys zs : List V}

/-! ### the two steps: a tracked list is rewritten, a new list is laid -/
theorem Inv.lset {its its' : List Value} {n : Nat} {f : Array Value → Array Value} {t' : Nat} (I : Inv X pins σ H s) (hH : H l = some (.lst xs))
    (e : s.heap.get? l = some { cls := .type "list", data := .seq its.toArray n }) (hf : f its.toArray = its'.toArray) (hv : Vals ys its') (hz : ys.length ≤ sizeLine) :
    Inv X pins σ (upd H l (.lst ys)) { s with heap := s.heap.update l (Obj.mapSeq f), toks := t' } := by
  have q := PySem.IsL.update e f
  rw [hf] at q
  refine I.write (x := l) (e := l) (by rw [hH]; exact trivial) (.inl rfl) (fun b' u hb hu => (Heap.get?_update_other s.heap (Obj.mapSeq f) (Ne.symm hb)).trans hu) ⟨_, q⟩ ?_
  exact ⟨hz, its', _, hv, q⟩
theorem Inv.lnew {its : List Value} {t' : Nat} (I : Inv X pins σ H s) (hv : Vals ys its) (hz : ys.length ≤ sizeLine) :
    Inv X pins σ (upd H s.heap.objs.size (.lst ys)) { s with heap := s.heap.push { cls := .type "list", data := .seq its.toArray }, toks := t' } :=
  I.laid (fun _ _ q => Heap.get?_push_of_some _ q) (Nat.le_refl _) ⟨hz, its, 0, hv, Heap.get?_push_size _ rfl⟩
theorem Inv.fresh (I : Inv X pins σ H s) : H s.heap.objs.size = none := I.hok.fresh (Nat.le_refl _)
theorem Inv.lstM (I : Inv X pins σ H s) (hH : H l = some (.lst xs)) : xs.length ≤ sizeLine ∧ ∃ (its : List Value) (n : Nat), Vals xs its ∧ xs.length = its.length ∧ s.heap.get? l = some { cls := .type "list", data := .seq its.toArray n } := by
  obtain ⟨z, its, n, r, e⟩ := I.hok l _ hH
  exact ⟨z, its, n, r, r.length, e⟩

theorem notLongL {n : Nat} (h : n ≤ sizeLine) : Builtin.List.listTooLong n = false := by
  unfold Builtin.List.listTooLong
  exact decide_eq_false (by omega)
end

section
variable {X : Cx}

/-! ### methods -/
def rAppend : V → List V → Hp → VK → Prop := fun x vs H Q => ∃ l xs y, x = .ref l ∧ vs = [y] ∧ H l = some (.lst xs) ∧ xs.length < sizeLine ∧ Q .non (upd H l (.lst (xs ++ [y])))
theorem mt_append : MtM X "list.append" rAppend := by
  intro pins s σ H x vs v us Q I rx rv h
  obtain ⟨l, xs, y, rfl, rfl, hH, hz, q⟩ := h
  cases rx
  obtain ⟨u, rfl, ru⟩ := rv.one
  obtain ⟨z, its, n, r, hl, e⟩ := I.lstM hH
  refine call_meets F.slot_list_append ⟨_, e, rfl⟩ F.entry_list_append (F.args_list_append_2 _ _) (PySem.list_append l its.toArray n u (by rw [List.size_toArray]; omega)) ⟨e, ?_⟩
  refine ⟨.non, _, I.lset (its' := its ++ [u]) hH e (by simp) (r.append (.cons ru .nil)) ?_, rfl, q⟩
  rw [List.length_append, List.length_singleton]
  omega



def rPopAt : V → List V → Hp → VK → Prop := fun x vs H Q => ∃ l xs i k y, x = .ref l ∧ vs = [.int i] ∧ H l = some (.lst xs) ∧ -(2 ^ 63) ≤ i ∧ i < 2 ^ 63 ∧ seqIndex? i xs.length = some k ∧ xs[k]? = some y ∧ Q y (upd H l (.lst (xs.eraseIdx k)))
theorem mt_popAt : MtM X "list.pop" rPopAt := by
  intro pins s σ H x vs v us Q I rx rv h
  obtain ⟨l, xs, i, k, y, rfl, rfl, hH, h1, h2, hk, hy, q⟩ := h
  cases rx
  obtain ⟨u, rfl, ru⟩ := rv.one
  obtain ⟨t, rfl⟩ := ru
  obtain ⟨z, its, n, r, hl, e⟩ := I.lstM hH
  obtain ⟨w, hw, rw'⟩ := r.get hy
  refine call_meets F.slot_list_pop ⟨_, e, rfl⟩ F.entry_list_pop (F.args_list_pop_2 _ _)
    (MeetsSeq.list_pop_at l its.toArray n i t k w (fitsIndex_both h1 h2) (by rw [List.size_toArray, ← hl]; exact hk) (by rw [← Array.getElem?_toList]; exact hw) (by rw [List.size_toArray]; omega)) ⟨e, ?_⟩
  refine ⟨y, _, I.lset (its' := its.eraseIdx k) hH e ?_ (r.eraseIdx k) ?_, rw', q⟩
  · show its.toArray.eraseIdxIfInBounds k = (its.eraseIdx k).toArray
    rw [List.eraseIdxIfInBounds_toArray]
  · have := len_erase xs k
    omega



/-! ### list + list, list += list, list * int -/
def rCat : R2 := fun x y H Q => ∃ l b xs zs, x = .ref l ∧ y = .ref b ∧ H l = some (.lst xs) ∧ H b = some (.lst zs) ∧ xs.length + zs.length ≤ sizeLine ∧ ∀ p, H p = none → Q (.ref p) (upd H p (.lst (xs ++ zs)))
theorem op_cat : OpR X (binaryOp .Add) rCat := by
  intro pins s σ H x y v u Q I rx ry h
  obtain ⟨l, b, xs, zs, rfl, rfl, hH, hB, hz, q⟩ := h
  cases rx
  cases ry
  obtain ⟨z, its, n, r, hl, e⟩ := I.lstM hH
  obtain ⟨z2, its2, n2, r2, hl2, e2⟩ := I.lstM hB
  refine PySem.P.add_list e e2 ?_ (by rw [List.size_toArray, List.size_toArray]; omega)
  have ea : its.toArray ++ its2.toArray = (its ++ its2).toArray := by simp
  rw [ea]
  exact ⟨.ref _, _, I.lnew (t' := s.toks) (r.append r2) (by rw [List.length_append]; omega), rfl, q _ I.fresh⟩

/-! ### del xs[i] -/
end

/-! ### xs[a:b] = ys -/
section
variable {prog : Program} {w : World} {A : Around} {E : Value → Shared → Prop} {s : Shared}
end

section
variable {X : Cx}
end
end L2

namespace L2
open PySem PySem.Spec PyProof.Rows

/-! ### lists of pairs as tables -/
section
variable {κ : Type} [DecidableEq κ]
def valV (kvs : List (κ × V)) (k : κ) : Option V := (kvs.find? fun kv => decide (kv.1 = k)).map (·.2)
/-- in its place, or at the end -/
def putK (kvs : List (κ × V)) (k : κ) (v : V) : List (κ × V) :=
  if (kvs.any fun kv => decide (kv.1 = k)) = true then kvs.map (fun kv => if kv.1 = k then (kv.1, v) else kv) else kvs ++ [(k, v)]
def dropK (kvs : List (κ × V)) (k : κ) : List (κ × V) := kvs.filter fun kv => decide (kv.1 ≠ k)

theorem valV_pos {p : κ × V} {r : List (κ × V)} {k : κ} (e : p.1 = k) : valV (p :: r) k = some p.2 := by simp [valV, List.find?_cons, e]
theorem valV_neg {p : κ × V} {r : List (κ × V)} {k : κ} (e : ¬ p.1 = k) : valV (p :: r) k = valV r k := by simp [valV, List.find?_cons, e]
theorem valV_any (k : κ) : ∀ kvs : List (κ × V), (kvs.any fun kv => decide (kv.1 = k)) = (valV kvs k).isSome
  | [] => rfl
  | p :: r => by
    rw [List.any_cons]
    by_cases e : p.1 = k
    · simp only [valV_pos e, decide_eq_true e, Bool.true_or, Option.isSome_some]
    · rw [valV_neg e, decide_eq_false e, Bool.false_or]; exact valV_any k r
theorem length_putK (kvs : List (κ × V)) (k : κ) (v : V) : (putK kvs k v).length ≤ kvs.length + 1 := by
  unfold putK
  split
  · rw [List.length_map]; omega
  · rw [List.length_append, List.length_cons, List.length_nil]; omega
theorem putK_new {kvs : List (κ × V)} {k : κ} (v : V) (h : valV kvs k = none) : putK kvs k v = kvs ++ [(k, v)] := by
  unfold putK
  rw [valV_any, h]
  exact if_neg (by decide)

theorem RelO.isSome_eq {o : Option V} {u : Option Value} (r : RelO o u) : o.isSome = u.isSome := by
  cases o with
  | none => cases u with
    | none => rfl
    | some _ => exact (show False from r).elim
  | some _ => cases u with
    | none => exact (show False from r).elim
    | some _ => rfl

/-- raw tables of the same keys -/
theorem KV.val {kvs : List (κ × V)} {vs : List (κ × Value)} (r : KV kvs vs) (k : κ) : RelO (valV kvs k) (valueAt vs k) := by
  unfold KV at r
  induction r with
  | nil => exact True.intro
  | @cons p q ps qs h t ih =>
    obtain ⟨h1, h2⟩ := h
    by_cases e : p.1 = k
    · have e' : q.1 = k := h1.symm.trans e
      have b : valueAt (q :: qs) k = some q.2 := by simp [valueAt, List.find?_cons, e']
      rw [valV_pos e, b]; exact h2
    · have e' : ¬ q.1 = k := fun z => e (h1.trans z)
      have b : valueAt (q :: qs) k = valueAt qs k := by simp [valueAt, List.find?_cons, e']
      rw [valV_neg e, b]; exact ih
theorem KV.any {kvs : List (κ × V)} {vs : List (κ × Value)} (r : KV kvs vs) (k : κ) : (kvs.any fun kv => decide (kv.1 = k)) = vs.any fun kv => decide (kv.1 = k) := by
  unfold KV at r
  induction r with
  | nil => rfl
  | cons h t ih => rw [List.any_cons, List.any_cons, ih, h.1]
theorem KV.repl {kvs : List (κ × V)} {vs : List (κ × Value)} (r : KV kvs vs) (k : κ) {y : V} {u : Value} (ry : RelV y u) :
    KV (kvs.map fun kv => if kv.1 = k then (kv.1, y) else kv) (vs.map fun kv => if kv.1 = k then (kv.1, u) else kv) := by
  unfold KV at r ⊢
  induction r with
  | nil => exact .nil
  | @cons p q ps qs h t ih =>
    rw [List.map_cons, List.map_cons]
    refine .cons ?_ ih
    obtain ⟨h1, h2⟩ := h
    by_cases e : p.1 = k
    · rw [if_pos e, if_pos (h1.symm.trans e)]; exact ⟨h1, ry⟩
    · rw [if_neg e, if_neg (fun z => e (h1.trans z))]; exact ⟨h1, h2⟩
theorem KV.put {kvs : List (κ × V)} {vs : List (κ × Value)} (r : KV kvs vs) (k : κ) {y : V} {u : Value} (ry : RelV y u) : KV (putK kvs k y) (stored vs k u) := by
  unfold putK stored
  rw [r.any k]
  by_cases e : (vs.any fun kv => decide (kv.1 = k)) = true
  · rw [if_pos e, if_pos e]; exact r.repl k ry
  · rw [if_neg e, if_neg e]; exact Paired.snoc r ⟨rfl, ry⟩
theorem KV.drop {kvs : List (κ × V)} {vs : List (κ × Value)} (r : KV kvs vs) (k : κ) : KV (dropK kvs k) (without vs k) := by
  unfold KV at r ⊢
  unfold dropK without
  induction r with
  | nil => exact .nil
  | @cons p q ps qs h t ih =>
    obtain ⟨h1, h2⟩ := h
    rw [List.filter_cons, List.filter_cons]
    by_cases e : p.1 = k
    · have a : ¬ decide (p.1 ≠ k) = true := by simp [e]
      have b : ¬ decide (q.1 ≠ k) = true := by simp [h1.symm.trans e]
      rw [if_neg a, if_neg b]; exact ih
    · have e' : ¬ q.1 = k := fun z => e (h1.trans z)
      have a : decide (p.1 ≠ k) = true := by simp [e]
      have b : decide (q.1 ≠ k) = true := by simp [e']
      rw [if_pos a, if_pos b]; exact .cons ⟨h1, h2⟩ ih
theorem KV.length {kvs : List (κ × V)} {vs : List (κ × Value)} (r : KV kvs vs) : kvs.length = vs.length := Paired.length r
theorem dropK_le (kvs : List (κ × V)) (k : κ) : (dropK kvs k).length ≤ kvs.length := List.length_filter_le _ _
end


/-! ### a tracked dict, its keys ints and texts or tuples of these -/
theorem kV_is {P : Program} {w : World} {k : Key} {u : Value} (r : RelV (kV k) u) : (mixKind P w).is k u = true := by
  cases k with
  | inl i => obtain ⟨t, e⟩ := (show ∃ t, u = Value.int i t from r); subst e; exact mixKind_int P w i t
  | inr x => obtain ⟨t, e⟩ := (show ∃ t, u = Value.str x t from r); subst e; exact mixKind_str P w x t
theorem items_are {P : Program} {w : World} : ∀ {ks : List Key} {us : List Value}, Vals (ks.map kV) us → ItemsAre (mixKind P w) ks us
  | [], _, r => by rw [List.map_nil] at r; cases r; exact .nil
  | k :: ks, _, r => by
    rw [List.map_cons] at r
    cases r with
    | cons h t => exact .cons (kV_is h) (items_are t)

/-- raw entries of a dict with tuple keys -/
abbrev KT (H : Hp) : List (List Key × V) → List (List Key × Addr × Value) → Prop := Paired fun p q => p.1 = q.1 ∧ H q.2.1 = some (.tup (p.1.map kV)) ∧ RelV p.2 q.2.2
theorem KT.val {H : Hp} {kvs : List (List Key × V)} {xs : List (List Key × Addr × Value)} (r : KT H kvs xs) (k : List Key) : RelO (valV kvs k) ((atKey xs k).map (·.2)) := by
  induction r with
  | nil => exact True.intro
  | @cons p q ps qs h t ih =>
    obtain ⟨h1, _, h2⟩ := h
    by_cases e : p.1 = k
    · have e' : q.1 = k := h1.symm.trans e
      have b : atKey (q :: qs) k = some q.2 := by simp [atKey, List.find?_cons, e']
      rw [valV_pos e, b]; exact h2
    · have e' : ¬ q.1 = k := fun z => e (h1.trans z)
      have b : atKey (q :: qs) k = atKey qs k := by simp [atKey, List.find?_cons, e']
      rw [valV_neg e, b]; exact ih
theorem KT.repl {H : Hp} {kvs : List (List Key × V)} {xs : List (List Key × Addr × Value)} (r : KT H kvs xs) (k : List Key) {y : V} {u : Value} (ry : RelV y u) :
    KT H (kvs.map fun kv => if kv.1 = k then (kv.1, y) else kv) (xs.map (putAt k u)) := by
  induction r with
  | nil => exact .nil
  | @cons p q ps qs h t ih =>
    rw [List.map_cons, List.map_cons]
    refine .cons ?_ ih
    obtain ⟨h1, h2, h3⟩ := h
    unfold putAt
    by_cases e : p.1 = k
    · rw [if_pos e, if_pos (h1.symm.trans e)]; exact ⟨h1, h2, ry⟩
    · rw [if_neg e, if_neg (fun z => e (h1.trans z))]; exact ⟨h1, h2, h3⟩
theorem KT.put {H : Hp} {kvs : List (List Key × V)} {xs : List (List Key × Addr × Value)} (r : KT H kvs xs) (k : List Key) {b : Addr} {y : V} {u : Value} (hb : H b = some (.tup (k.map kV))) (ry : RelV y u) :
    KT H (putK kvs k y) (storedH xs k b u) := by
  have e : (kvs.any fun kv => decide (kv.1 = k)) = (atKey xs k).isSome := by
    rw [valV_any, (r.val k).isSome_eq, Option.isSome_map]
  unfold putK storedH
  rw [e]
  by_cases q : (atKey xs k).isSome = true
  · rw [if_pos q, if_pos q]; exact r.repl k ry
  · rw [if_neg q, if_neg q]; exact Paired.snoc r ⟨rfl, hb, ry⟩
theorem KT.keeps {H H' : Hp} {kvs : List (List Key × V)} {xs : List (List Key × Addr × Value)} (r : KT H kvs xs) (ht : ∀ b ys, H b = some (.tup ys) → H' b = some (.tup ys)) : KT H' kvs xs :=
  Paired.mapP r fun _ _ z => ⟨z.1, ht _ _ z.2.1, z.2.2⟩

section
variable {P : Program} {w : World} {H : Hp} {h : Heap} {a : Addr}
theorem rd_of {u : HO} (ok : HOk P w H h) (e : Rd H a u) : ObjOk P w H h a u := e.ok ok
theorem dk_rd {kvs : List (Key × V)} (ok : HOk P w H h) (e : Rd H a (.dK kvs)) : kvs.length ≤ sizeLine ∧ (a == sysModules) = false ∧ ∃ vs, KV kvs vs ∧ h.DictOf (mixKind P w) a vs :=
  show ObjOk P w H h a (.dK kvs) from rd_of ok e
theorem dk_of {kvs : List (Key × V)} (ok : HOk P w H h) (e : H a = some (.dK kvs)) : kvs.length ≤ sizeLine ∧ (a == sysModules) = false ∧ ∃ vs, KV kvs vs ∧ h.DictOf (mixKind P w) a vs := dk_rd ok (.inl e)
/-- a tracked tuple of ints and texts is a key -/
theorem key_of {ks : List Key} (ok : HOk P w H h) (e : H a = some (.tup (ks.map kV))) : (tupleKind (mixKind P w)).is h ks a := by
  obtain ⟨_, its, r, o, h1, h2, n, h3⟩ := (show ObjOk P w H h a (.tup (ks.map kV)) from ok a _ e)
  exact ⟨o, its.toArray, n, h1, h2, h3, by simpa using items_are r⟩
theorem dt_rd {kvs : List (List Key × V)} (ok : HOk P w H h) (e : Rd H a (.dT kvs)) : kvs.length ≤ sizeLine ∧ (a == sysModules) = false ∧
    ∃ xs, KT H kvs xs ∧ h.DictOfH (tupleKind (mixKind P w)) a xs := by
  obtain ⟨z, y, xs, r, o, es, ep, h1, h2, h3, h4, h5⟩ := (show ObjOk P w H h a (.dT kvs) from rd_of ok e)
  refine ⟨z, y, xs, r, o, es, ep, h1, h2, h3, h4, fun x hx => ?_, h5⟩
  have all : ∀ {l : List (List Key × V)} {m : List (List Key × Addr × Value)}, KT H l m → ∀ x ∈ m, (tupleKind (mixKind P w)).is h x.1 x.2.1 := by
    intro l m q
    induction q with
    | nil => intro x hx; exact nomatch hx
    | @cons p q ps qs hq t ih =>
      intro x hx
      rcases List.mem_cons.mp hx with e | hx
      · subst e
        exact key_of ok (by rw [← hq.1]; exact hq.2.1)
      · exact ih x hx
  exact all r x hx
theorem dt_of {kvs : List (List Key × V)} (ok : HOk P w H h) (e : H a = some (.dT kvs)) : kvs.length ≤ sizeLine ∧ (a == sysModules) = false ∧
    ∃ xs, KT H kvs xs ∧ h.DictOfH (tupleKind (mixKind P w)) a xs := dt_rd ok (.inl e)
end

/-- what the dict at a holds at the key y -/
def DGet (H : Hp) (a : Addr) (y : V) (r : Option V) : Prop :=
  (∃ kvs k, Rd H a (.dK kvs) ∧ y = kV k ∧ r = valV kvs k) ∨ ∃ kvs k b, Rd H a (.dT kvs) ∧ y = .ref b ∧ H b = some (.tup (k.map kV)) ∧ r = valV kvs k
/-- the heap behind a[y] = v -/
def DPut (H : Hp) (a : Addr) (y v : V) (H' : Hp) : Prop :=
  (∃ kvs k, H a = some (.dK kvs) ∧ y = kV k ∧ kvs.length < sizeLine ∧ H' = upd H a (.dK (putK kvs k v))) ∨
  ∃ kvs k b, H a = some (.dT kvs) ∧ y = .ref b ∧ H b = some (.tup (k.map kV)) ∧ kvs.length < sizeLine ∧ H' = upd H a (.dT (putK kvs k v))
theorem DGet.k {H : Hp} {a : Addr} {kvs : List (Key × V)} {k : Key} (e : H a = some (.dK kvs)) : DGet H a (kV k) (valV kvs k) := .inl ⟨kvs, k, .inl e, rfl, rfl⟩
theorem DGet.t {H : Hp} {a b : Addr} {kvs : List (List Key × V)} {k : List Key} (e : H a = some (.dT kvs)) (eb : H b = some (.tup (k.map kV))) : DGet H a (.ref b) (valV kvs k) := .inr ⟨kvs, k, b, .inl e, rfl, eb, rfl⟩
theorem DPut.k {H : Hp} {a : Addr} {kvs : List (Key × V)} {k : Key} {v : V} (e : H a = some (.dK kvs)) (hl : kvs.length < sizeLine) : DPut H a (kV k) v (upd H a (.dK (putK kvs k v))) := .inl ⟨kvs, k, e, rfl, hl, rfl⟩
theorem DPut.t {H : Hp} {a b : Addr} {kvs : List (List Key × V)} {k : List Key} {v : V} (e : H a = some (.dT kvs)) (eb : H b = some (.tup (k.map kV))) (hl : kvs.length < sizeLine) :
    DPut H a (.ref b) v (upd H a (.dT (putK kvs k v))) := .inr ⟨kvs, k, b, e, rfl, eb, hl, rfl⟩


section
variable {X : Cx} {pins : List (Addr × Obj)} {σ : St} {H : Hp} {s : Shared} {a : Addr} {y v : V} {u r : Value} {o : Option V} {A : Around} {E : Value → Shared → Prop}

theorem Inv.big (I : Inv X pins σ H s) : sysModules < s.heap.objs.size := by
  have h : mainGlobals < s.heap.objs.size := (I.mod.glob.keeps I.bk).lt
  exact Nat.lt_trans (by decide) h

/-- d[y], there -/
theorem d_getItem {Q : Value → Shared → Prop} (hu : A.units + 1 < cLine) (I : Inv X pins σ H s) (g : DGet H a y (some v)) (ry : RelV y u) (h : ∀ w' s', Inv X pins σ H s' → RelV v w' → Q w' s') :
    wpAny (model X.prog X.w) A (getItem (.ref a) u) Q E s := by
  rcases g with ⟨kvs, k, e, ey, l⟩ | ⟨kvs, k, b, e, ey, eb, l⟩
  · subst ey
    obtain ⟨z, hd, vs, rel, dd⟩ := dk_rd I.hok e
    obtain ⟨w', hw, rw'⟩ := RelO.some_of (v := v) (o := valueAt vs k) (by rw [l]; exact rel.val k)
    exact wpAny_getItem_of (kV_is ry) dd.mapOf hw (h w' _ (I.tok _) rw')
  · subst ey
    cases (show u = Value.ref b from ry)
    obtain ⟨z, hd, xs, rel, dd⟩ := dt_rd I.hok e
    obtain ⟨w', hw, rw'⟩ := RelO.some_of (v := v) (o := (atKey xs k).map (·.2)) (by rw [l]; exact rel.val k)
    obtain ⟨p, hp, hp2⟩ := Option.map_eq_some_iff.mp hw
    refine wpAny_getItem_heap (tupleKind_room_in1 hu) (key_of I.hok eb) dd hp ?_
    rw [hp2]
    exact h w' _ (I.tok _) rw'
/-- y in d -/
theorem d_in {Q : Value → Shared → Prop} (hu : A.units + 1 < cLine) (I : Inv X pins σ H s) (g : DGet H a y o) (ry : RelV y u) (h : ∀ s', Inv X pins σ H s' → Q (.bool o.isSome) s') :
    wpAny (model X.prog X.w) A (compareOp .In u (.ref a)) Q E s := by
  rcases g with ⟨kvs, k, e, ey, l⟩ | ⟨kvs, k, b, e, ey, eb, l⟩
  · subst ey
    obtain ⟨z, hd, vs, rel, dd⟩ := dk_rd I.hok e
    refine wpAny_in_of (kV_is ry) hd dd.mapOf ?_
    rw [← (rel.val k).isSome_eq, ← l]
    exact h _ (I.tok _)
  · subst ey
    cases (show u = Value.ref b from ry)
    obtain ⟨z, hd, xs, rel, dd⟩ := dt_rd I.hok e
    refine wpAny_in_heap (tupleKind_room_in1 hu) (key_of I.hok eb) hd dd ?_
    have q := (rel.val k).isSome_eq
    rw [Option.isSome_map] at q
    rw [← q, ← l]
    exact h _ (I.tok _)
theorem d_notIn {Q : Value → Shared → Prop} (hu : A.units + 1 < cLine) (I : Inv X pins σ H s) (g : DGet H a y o) (ry : RelV y u) (h : ∀ s', Inv X pins σ H s' → Q (.bool (!o.isSome)) s') :
    wpAny (model X.prog X.w) A (compareOp .NotIn u (.ref a)) Q E s := by
  rcases g with ⟨kvs, k, e, ey, l⟩ | ⟨kvs, k, b, e, ey, eb, l⟩
  · subst ey
    obtain ⟨z, hd, vs, rel, dd⟩ := dk_rd I.hok e
    refine wpAny_notIn_of (kV_is ry) hd dd.mapOf ?_
    rw [← (rel.val k).isSome_eq, ← l]
    exact h _ (I.tok _)
  · subst ey
    cases (show u = Value.ref b from ry)
    obtain ⟨z, hd, xs, rel, dd⟩ := dt_rd I.hok e
    refine wpAny_notIn_heap (tupleKind_room_in1 hu) (key_of I.hok eb) hd dd ?_
    have q := (rel.val k).isSome_eq
    rw [Option.isSome_map] at q
    rw [← q, ← l]
    exact h _ (I.tok _)
/-- a dict's object is replaced -/
theorem d_write {h' : Heap} {t' : Nat} {ob : HO} (I : Inv X pins σ H s) (mu : Mut (H a)) (hs : Heap.SameBut a s.heap h') (he : ∃ q, h'.get? a = some q) (new : ObjOk X.prog X.w (upd H a ob) h' a ob) :
    Inv X pins σ (upd H a ob) { s with heap := h', toks := t' } :=
  I.write (x := a) (e := a) mu (.inl rfl) (fun b q hb z => (hs.2 b hb).trans z) he new
theorem dk_new {P : Program} {w : World} {H' : Hp} {h' : Heap} {kvs : List (Key × V)} {vs : List (Key × Value)} (z : kvs.length ≤ sizeLine) (hd : (a == sysModules) = false) (rel : KV kvs vs) (dd : h'.DictOf (mixKind P w) a vs) :
    ObjOk P w H' h' a (.dK kvs) := ⟨z, hd, vs, rel, dd⟩
/-- d[y] = v -/
theorem d_setItem {H' : Hp} {Q : Unit → Shared → Prop} (hu : A.units + 1 < cLine) (I : Inv X pins σ H s) (g : DPut H a y v H') (ry : RelV y u) (rv : RelV v r) (h : ∀ s', Inv X pins σ H' s' → Q () s') :
    wpAny (model X.prog X.w) A (setItem (.ref a) u r) Q E s := by
  rcases g with ⟨kvs, k, e, ey, l, eH⟩ | ⟨kvs, k, b, e, ey, eb, l, eH⟩
  · subst ey eH
    obtain ⟨z, hd, vs, rel, dd⟩ := dk_of I.hok e
    have hz : vs.length ≤ sizeLine := by rw [← rel.length]; exact z
    have hl : (putK kvs k v).length ≤ sizeLine := by have := length_putK kvs k v; omega
    refine wpAny_setItem_pairs (hsz := hz) (kV_is ry) dd fun h' dd' hs => h _ ?_
    have he : ∃ q, h'.get? a = some q := let ⟨q, _, _, hq, _⟩ := dd'; ⟨q, hq⟩
    exact d_write I (by rw [e]; exact True.intro) hs he (dk_new hl hd (rel.put k rv) dd')
  · subst ey eH
    cases (show u = Value.ref b from ry)
    obtain ⟨z, hd, xs, rel, dd⟩ := dt_of I.hok e
    have hz : xs.length ≤ sizeLine := by rw [← Paired.length rel]; exact z
    have hl : (putK kvs k v).length ≤ sizeLine := by have := length_putK kvs k v; omega
    refine wpAny_setItem_heap (hsz := hz) (tupleKind_room_in1 hu) (key_of I.hok eb) dd fun h' dd' hs => h _ ?_
    obtain ⟨q, es, ep, hq, h2, h3, h4, _, h5⟩ := dd'
    refine d_write I (by rw [e]; exact True.intro) hs ⟨q, hq⟩ ⟨hl, hd, _, (rel.put k eb rv).keeps fun c ys ec => ?_, q, es, ep, hq, h2, h3, h4, h5⟩
    rw [upd_ne (ne_of ec e (fun z => nomatch z))]
    exact ec
end

section
variable {X : Cx} {pins : List (Addr × Obj)} {σ : St} {H : Hp} {s : Shared} {a : Addr} {kvs : List (Key × V)} {k : Key} {u : Value} {A : Around} {E : Value → Shared → Prop}
/-- del d[k] -/
theorem d_delItem {Q : Unit → Shared → Prop} (I : Inv X pins σ H s) (e : H a = some (.dK kvs)) (ry : RelV (kV k) u) (l : (valV kvs k).isSome = true) (h : ∀ s', Inv X pins σ (upd H a (.dK (dropK kvs k))) s' → Q () s') :
    wpAny (model X.prog X.w) A (delItem (.ref a) u) Q E s := by
  obtain ⟨z, hd, vs, rel, dd⟩ := dk_of I.hok e
  refine wpAny_delItem_slot dd.typeIs (by decide) PySem.F.slot_dict_delitem
    (call_meetsIn PySem.F.slot_dict_delitem dd.typeIs PySem.F.entry_dict_delitem (PySem.F.args_dict_delitem_2 _ _) (meets_dict_delitem_pairs (mixKind X.prog X.w) a (kV_is ry)) ⟨vs, dd, by rw [← rel.length]; exact z, by rw [← (rel.val k).isSome_eq]; exact l, fun h' dd' hs => h _ ?_⟩)
  have he : ∃ q, h'.get? a = some q := let ⟨q, _, _, hq, _⟩ := dd'; ⟨q, hq⟩
  exact d_write I (by rw [e]; exact True.intro) hs he (dk_new (Nat.le_trans (dropK_le kvs k) z) hd (rel.drop k) dd')
/-- d.pop(k[, x]), there -/
theorem d_pop {v : V} {more : List Value} {Q : Value → Shared → Prop} (I : Inv X pins σ H s) (e : H a = some (.dK kvs)) (ry : RelV (kV k) u) (l : valV kvs k = some v) (hm : more = [] ∨ ∃ x, more = [x])
    (h : ∀ w' s', Inv X pins σ (upd H a (.dK (dropK kvs k))) s' → RelV v w' → Q w' s') : wpAny (model X.prog X.w) A (call (.builtin "dict.pop") (.ref a :: u :: more)) Q E s := by
  obtain ⟨z, hd, vs, rel, dd⟩ := dk_of I.hok e
  obtain ⟨w', hw, rw'⟩ := RelO.some_of (v := v) (o := valueAt vs k) (by rw [← l]; exact rel.val k)
  have hp : (keyPart u).isSome = true := by
    cases k with
    | inl i => obtain ⟨t, q⟩ := (show ∃ t, u = Value.int i t from ry); subst q; rfl
    | inr x => obtain ⟨t, q⟩ := (show ∃ t, u = Value.str x t from ry); subst q; rfl
  have ha : argsOk "dict.pop" ⟨.ref a :: u :: more, []⟩ := by
    rcases hm with q | ⟨x, q⟩
    · subst q; exact PySem.F.args_dict_pop_2 _ _
    · subst q; exact PySem.F.args_dict_pop_3 _ _ _
  refine call_meetsIn PySem.F.slot_dict_pop dd.typeIs PySem.F.entry_dict_pop ha (meets_dict_pop_there (mixKind X.prog X.w) a (kV_is ry) more hm hp)
    ⟨vs, w', dd, by rw [← rel.length]; exact z, hw, fun h' dd' hs => h w' _ ?_ rw'⟩
  have he : ∃ q, h'.get? a = some q := let ⟨q, _, _, hq, _⟩ := dd'; ⟨q, hq⟩
  exact d_write I (by rw [e]; exact True.intro) hs he (dk_new (Nat.le_trans (dropK_le kvs k) z) hd (rel.drop k) dd')
end


/-! ### readings and rules -/
/-- the element of a subscription, not a slice -/
def NoSl (i : Expr) : Prop := ∀ ov iv, subscripted i false ov iv = operate [ov, iv] (getItem ov iv)
theorem subD_of {prog : Program} {w : World} {A : Around} {E : Value → Shared → Prop} {s : Shared} {env : Env} {value slice : Expr} {pos : Pos} {T id : String} {Q : Value → Shared → Prop}
    (hl : typeLookup (.type T) "__getitem__" = pure (some (.builtin id))) (hs : NoSl slice)
    (h : wpAny (model prog w) A (eval value env) (fun o s₁ => wpAny (model prog w) A (eval slice env) (fun i s₂ => s₂.TypeIs o T ∧ wpAny (model prog w) A (getItem o i) Q E s₂) E s₁) E s) :
    wpAny (model prog w) A (eval (.Subscript value slice pos) env) Q E s := by
  refine Subscript_ (wpAny_mono h (fun o s₁ h₁ => wpAny_mono h₁ (fun i s₂ h₂ => ?_) fun _ _ x => x) fun _ _ x => x)
  obtain ⟨hT, h₂⟩ := h₂
  unfold subscriptTail
  refine wpAny_bind ?_
  rw [getitemInPython_of_ne hT.not_modules]
  refine wpAny_bind (wpAny_specialOf hT hl ?_)
  have fin : wpAny (model prog w) A (subscripted slice false o i) (fun r s₃ => wpAny (model prog w) A (letTemporaryGo value o r >>= fun _ => pure r) Q E s₃) E s₂ := by
    rw [hs o i]
    exact wpAny_operating (wpAny_mono h₂ (fun r s₃ h₃ => wpAny_bind (wpAny_letTemporaryGo (wpAny_pure h₃))) fun _ _ x => x)
  first
    | exact wpAny_pure (wpAny_bind fin)
    | exact wpAny_bind (wpAny_pure (wpAny_bind fin))
    | exact wpAny_bind fin

theorem dict_typeIs {X : Cx} {pins : List (Addr × Obj)} {σ : St} {H : Hp} {s : Shared} {a : Addr} {y : V} {o : Option V} (I : Inv X pins σ H s) (g : DGet H a y o) : s.TypeIs (.ref a) "dict" := by
  rcases g with ⟨kvs, k, e, _, _⟩ | ⟨kvs, k, b, e, _, _, _⟩
  · obtain ⟨_, _, vs, _, dd⟩ := dk_rd I.hok e
    exact dd.typeIs
  · obtain ⟨_, _, xs, _, dd⟩ := dt_rd I.hok e
    exact dd.typeIs

/-- d[y] -/
def tDGet (td ty : TE) : TE := fun σ H Q => td σ H fun x H1 => ty σ H1 fun y H2 => ∃ a v, x = .ref a ∧ DGet H2 a y (some v) ∧ Q v H2
/-- y in d, y not in d -/
def tDIn (ty td : TE) : TE := fun σ H Q => ty σ H fun y H1 => td σ H1 fun x H2 => ∃ a o, x = .ref a ∧ DGet H2 a y o ∧ Q (.bl o.isSome) H2
def tDNotIn (ty td : TE) : TE := fun σ H Q => ty σ H fun y H1 => td σ H1 fun x H2 => ∃ a o, x = .ref a ∧ DGet H2 a y o ∧ Q (.bl (!o.isSome)) H2
/-- d[y] = v -/
def sDPut (td ty tv : TE) : TS := fun D σ H => tv σ H fun v H1 => td σ H1 fun x H2 => ty σ H2 fun y H3 => ∃ a H4, x = .ref a ∧ DPut H3 a y v H4 ∧ D.nx σ H4

section
variable {X : Cx} {o i e value : Expr} {pos pos' tpos : Pos} {td ty tv : TE}
theorem pe_dget (hu : X.A.units + 1 < cLine) (ho : PE X o td) (hi : PE X i ty) (hs : NoSl i) : PE X (.Subscript o i pos) (tDGet td ty) := by
  intro pins s σ H Q I h
  refine subD_of PySem.F.slot_dict_getitem.lookup hs (thn (ho pins s σ H _ I h) fun u s1 ⟨x, H1, I1, rx, q1⟩ => thn (hi pins s1 σ H1 _ I1 q1) fun iv s2 hq0 => ?_)
  obtain ⟨y, H2, I2, ry, a, v, ex, g, q2⟩ := hq0
  subst ex
  obtain rfl : u = Value.ref a := rx
  exact ⟨dict_typeIs I2 g, d_getItem hu I2 g ry fun w' s3 I3 rw' => ⟨v, H2, I3, rw', q2⟩⟩
theorem pc_din (hu : X.A.units + 1 < cLine) (hi : PE X i ty) (ho : PE X o td) : PC X .In i o (tDIn ty td) := by
  intro pins s σ H Q I h
  refine thn (hi pins s σ H _ I h) fun iv s1 ⟨y, H1, I1, ry, q1⟩ => thn (ho pins s1 σ H1 _ I1 q1) fun u s2 hq0 => ?_
  obtain ⟨x, H2, I2, rx, a, ov, ex, g, q2⟩ := hq0
  subst ex
  obtain rfl : u = Value.ref a := rx
  exact d_in hu I2 g ry fun s3 I3 => ⟨.bl ov.isSome, H2, I3, rfl, q2⟩
theorem pc_dnotin (hu : X.A.units + 1 < cLine) (hi : PE X i ty) (ho : PE X o td) : PC X .NotIn i o (tDNotIn ty td) := by
  intro pins s σ H Q I h
  refine thn (hi pins s σ H _ I h) fun iv s1 ⟨y, H1, I1, ry, q1⟩ => thn (ho pins s1 σ H1 _ I1 q1) fun u s2 hq0 => ?_
  obtain ⟨x, H2, I2, rx, a, ov, ex, g, q2⟩ := hq0
  subst ex
  obtain rfl : u = Value.ref a := rx
  exact d_notIn hu I2 g ry fun s3 I3 => ⟨.bl (!ov.isSome), H2, I3, rfl, q2⟩
theorem ps_dput (hu : X.A.units + 1 < cLine) (ho : PE X o td) (hi : PE X i ty) (hv : PE X value tv) (hs : swapsWith value (some (.Subscript o i pos')) pos.line X.env = pure false) :
    PS X (.Assign [.Subscript o i pos'] value pos) (sDPut td ty tv) := by
  intro pins s σ H D I h
  refine wpAny_Assign_Subscript (thn (hv pins s σ H _ I h) fun r s1 ⟨v, H1, I1, rv, q1⟩ => thn (ho pins s1 σ H1 _ I1 q1) fun u s2 ⟨x, H2, I2, rx, q2⟩ => thn (hi pins s2 σ H2 _ I2 q2) fun iv s3 hq0 => ?_) hs
  obtain ⟨y, H3, I3, ry, a, H4, ex, g, q3⟩ := hq0
  subst ex
  obtain rfl : u = Value.ref a := rx
  exact d_setItem hu I3 g ry rv fun s4 I4 => ⟨σ, H4, I4, q3⟩
end


/-! ### displays -/
theorem dk_empty {P : Program} {w : World} {H : Hp} (h : Heap) (hb : sysModules < h.objs.size) : ObjOk P w H (h.push { cls := .type "dict", data := .dict #[] }) h.objs.size (.dK []) :=
  ⟨Nat.zero_le _, beq_eq_false_iff_ne.mpr (Ne.symm (Nat.ne_of_lt hb)), [], .nil, Heap.DictOf.new h⟩
theorem dt_empty {P : Program} {w : World} {H : Hp} (h : Heap) (hb : sysModules < h.objs.size) : ObjOk P w H (h.push { cls := .type "dict", data := .dict #[] }) h.objs.size (.dT []) :=
  ⟨Nat.zero_le _, beq_eq_false_iff_ne.mpr (Ne.symm (Nat.ne_of_lt hb)), [], .nil, _, #[], 0, Heap.get?_push_size _ rfl, ⟨rfl, rfl, rfl⟩, rfl, rfl, List.nodup_nil⟩
/-- {}, to be a dict of the kind that is wanted -/
def tDNewK : TE := fun _ H Q => ∀ p, H p = none → Q (.ref p) (upd H p (.dK []))
def tDNewT : TE := fun _ H Q => ∀ p, H p = none → Q (.ref p) (upd H p (.dT []))
section
variable {X : Cx} {pos : Pos}
theorem pe_dnewK : PE X (.Dict [] [] pos) tDNewK := fun pins s σ H Q I h =>
  wpAny_Dict_empty ⟨.ref s.heap.objs.size, _, I.laid (a := s.heap.objs.size) (o := .dK []) (t' := s.toks) (fun _ _ q => Heap.get?_push_of_some _ q) (Nat.le_refl _) (dk_empty s.heap I.big), rfl, h _ (I.hok.fresh (Nat.le_refl _))⟩
theorem pe_dnewT : PE X (.Dict [] [] pos) tDNewT := fun pins s σ H Q I h =>
  wpAny_Dict_empty ⟨.ref s.heap.objs.size, _, I.laid (a := s.heap.objs.size) (o := .dT []) (t' := s.toks) (fun _ _ q => Heap.get?_push_of_some _ q) (Nat.le_refl _) (dt_empty s.heap I.big), rfl, h _ (I.hok.fresh (Nat.le_refl _))⟩
end




/-! ### methods -/
/-- a method call o.m(e) of a built-in, with one argument: what must be seen of the text -/
structure M1 (X : Cx) (o : Expr) (m : Str) (apos : Pos) (e : Expr) (cpos : Pos) : Prop where
  base : attributeBase o m X.env (eval o X.env) = eval o X.env
  few : ((backTo cpos (starEach [e] X.env)).all (fun x => !x.1) && (backToKw cpos (keywordEach [] X.env)).all (fun x => x.1.isSome)
    && decide (([e] : List Expr).length + ([] : List Keyword).length + (if ([] : List Keyword).isEmpty then 0 else 1) < 30)) = true
  line : (apos.endLine == cpos.line) = true
  trees : backTo cpos (starEach [e] X.env) = [(false, eval e X.env)]

/-- a is a dict, whatever its keys -/
def IsD (H : Hp) (a : Addr) : Prop := (∃ kvs, Rd H a (.dK kvs)) ∨ ∃ kvs, Rd H a (.dT kvs)
theorem isD_at {X : Cx} {pins : List (Addr × Obj)} {σ : St} {H : Hp} {s : Shared} {a : Addr} (I : Inv X pins σ H s) (d : IsD H a) :
    s.TypeIs (.ref a) "dict" ∧ (∀ b, Value.ref a = .ref b → ∃ ob, s.heap.get? b = some ob ∧ ob.dict = none) ∧ (a == sysModules) = false := by
  rcases d with ⟨kvs, e⟩ | ⟨kvs, e⟩
  · obtain ⟨_, hd, vs, _, dd⟩ := dk_rd I.hok e
    refine ⟨dd.typeIs, fun b q => ?_, hd⟩
    cases q
    obtain ⟨ob, _, _, h1, h2, _⟩ := dd
    exact ⟨ob, h1, h2.2.1⟩
  · obtain ⟨_, hd, xs, _, dd⟩ := dt_rd I.hok e
    refine ⟨dd.typeIs, fun b q => ?_, hd⟩
    cases q
    obtain ⟨ob, _, _, h1, h2, _⟩ := dd
    exact ⟨ob, h1, h2.2.1⟩

section
variable {X : Cx} {pins : List (Addr × Obj)} {σ : St} {H : Hp} {s : Shared} {a : Addr} {y d : V} {u r : Value} {o : Option V} {A : Around} {E : Value → Shared → Prop}
end

/-- d.pop(k): there; d.pop(k, x): there or not -/
def tDPop1 (td ty : TE) : TE := fun σ H Q => td σ H fun x H1 => ∃ a, x = .ref a ∧ IsD H1 a ∧ ty σ H1 fun y H2 => ∃ kvs k v, H2 a = some (.dK kvs) ∧ y = kV k ∧ valV kvs k = some v ∧ Q v (upd H2 a (.dK (dropK kvs k)))
section
variable {X : Cx} {o e f : Expr} {apos cpos : Pos} {td ty tx : TE}
theorem pe_dpop1 (ho : PE X o td) (he : PE X e ty) (m : M1 X o "pop" apos e cpos) : PE X (.Call (.Attribute o "pop" apos) [e] [] cpos) (tDPop1 td ty) := by
  intro pins s σ H Q I h
  refine wpAny_Call_method m.base m.few m.line PySem.F.plainAttrs_dict PySem.F.slot_dict_pop PySem.F.type_dict_pop (thn (ho pins s σ H _ I h) fun u s1 hq0 => ?_)
  obtain ⟨x, H1, I1, rx, a, ex, d, q1⟩ := hq0
  subst ex
  obtain rfl : u = Value.ref a := rx
  obtain ⟨t1, t2, _⟩ := isD_at I1 d
  refine ⟨t1, t2, ?_⟩
  rw [m.trees]
  refine Calls.callWith_builtin rfl (Calls.evalArgs_plain (Calls.spliced_cons (thn (he pins s1 σ H1 _ I1 q1) fun iv s2 ⟨y, H2, I2, ry, kvs, k, v, ea, ey, l, q2⟩ => Calls.spliced_nil ?_)))
  subst ey
  exact d_pop I2 ea ry l (.inl rfl) fun w' s3 I3 rw' => ⟨v, _, I3, rw', q2⟩
end

/-! ### dict(d): a copy -/
section
variable {X : Cx} {pins : List (Addr × Obj)} {σ : St} {H : Hp} {s : Shared} {a : Addr} {kvs : List (Key × V)} {A : Around} {E : Value → Shared → Prop}
end


section
variable {X : Cx} {pins : List (Addr × Obj)} {σ : St} {H : Hp} {s : Shared} {a : Addr} {y : V} {u : Value} {A : Around} {E : Value → Shared → Prop}
end
end L2

namespace Att
open PySem PySem.W PySem.Calls PyProof.Rows

/-! ### the script -/
theorem ints_of_wellAll {P : Params} {h : Heap} : ∀ (ns : List Int) (vs : List Value), WellAll P h vs (ns.map WData.int) → IntsAre vs ns := by
  intro ns
  induction ns with
  | nil =>
    intro vs w
    rw [List.map_nil] at w
    cases w
    exact .nil
  | cons n ns ih =>
    intro vs w
    rw [List.map_cons] at w
    cases w with
    | cons a b =>
      cases a
      exact .cons _ _ (ih _ b)

theorem script_of {l : OpenLaw} {n : Nat} (hn : l.most = some n) {P : Params} {h : Heap} {args : List WData} {vals : List Value}
    (hpre : l.row.toRowW.claim.pre args = true) (hwl : WellAll P h vals args) :
    ∃ a vs ns, vals = [Value.ref a] ∧ args = [WData.list (ns.map WData.int)] ∧ h.get? a = some { cls := .type "list", data := .seq vs.toArray } ∧ IntsAre vs ns ∧ ns.length ≤ n := by
  have hsh : WShape.hasAll [] args [.list .int] = true := (pre_splitW hpre).1
  have hc : l.pre.holds [] { args := args } = true := (pre_splitW hpre).2
  obtain ⟨d, r, rfl, h1, h2⟩ := hasAllW_cons hsh
  obtain rfl := hasAllW_nil h2
  obtain ⟨xs, rfl, h3⟩ := hasW_list h1
  obtain ⟨ns, rfl⟩ := items_int h3
  have hlen : ns.length ≤ n := by
    unfold OpenLaw.pre at hc
    have h4 : (WTm.not (.lt (.lit (.int (n : Int))) (.len (.arg 0)))).holds [] { args := [.list (ns.map .int)] } = true := by
      have h4 := (holds_andW hc).1
      rw [hn] at h4
      exact h4
    have h5 := condW_of h4 (w_not (w_lt w_lit (w_len_list (w_arg rfl))))
    rw [List.length_map] at h5
    refine Nat.le_of_not_lt fun q => ?_
    have q' : (n : Int) < ((ns.length : Nat) : Int) := by omega
    first
      | (rw [decide_eq_true q'] at h5; exact absurd h5 (by decide))
      | (simp at h5; omega)
  cases hwl with
  | cons w1 w2 =>
    cases w2
    cases w1 with
    | list ho hall => exact ⟨_, _, ns, rfl, rfl, ho, ints_of_wellAll ns _ hall, hlen⟩

theorem post_true (l : OpenLaw) (args : List WData) : l.row.toRowW.claim.post args (.bool true) args = true :=
  postW_of (r := l.row.toRowW) (X := (true == true))
    (show WShape.has [] (.bool true) .bool = true by first | rfl | decide | simp [WShape.has, WShape.arms, WShape.armsAll])
    (show (WTm.eq .res (.lit (.bool true))).value [] { args := args, res := some (.bool true), after := args } = some (.bool (true == true)) from w_eq_bool (w_res rfl) w_lit) rfl

/-! ### the attachment: holds_open's last premise (the goal 'hc' behind k_head) from a wpAny of the law's body -/

/-- the same from a codeAny of the CALL (for a layer whose function contracts speak of calls) -/
theorem attach_call {l : OpenLaw} {n : Nat} {q : Program} {loose : List Str} {XP : (Str → Option Value) → Heap → Prop} {YP : World → Heap → Prop} {d : DefRec}
    (hn : l.most = some n) (hdf : d.params.defaults = [])
    (call : ∀ (w : World) (s₀ s₁ : Shared) (mg mb : Str → Option Value) (fa : Addr) (o : Obj) (pm cd doc : Value) (a : Addr) (vs : List Value) (ns : List Int),
      Ground q loose [] XP w s₀ mg mb s₁.heap → YP w s₁.heap →
      s₁.heap.get? fa = some o → o.data = .func (docDef d.name d.params d.body d.scope pm cd doc) → s₁.heap.CodeRec cd d.name → mg d.name = some (.ref fa) →
      s₁.heap.get? a = some { cls := .type "list", data := .seq vs.toArray } → IntsAre vs ns → ns.length ≤ n → s₁.gens = #[] →
      codeAny (model l.prog w) callerA (.call (.ref fa) ⟨[.ref a], []⟩) (fun r s' => r = .ok (.ret (.bool true)) ∧ OldK s₁.heap s'.heap ∧ s'.os = s₁.os ∧ AllBare s'.gens) s₁) :
    WalkO q loose XP YP l.row.toRowW d [] (fun f vs => PySem.call f vs) := by
  intro w s₀ s₁ mg mb G Y fa o pm cd doc dV kV ho hd hcd hD hmg hg args vals as hpre hlay hrd hwl hlo
  obtain rfl : dV = .none := Dflts.none hD hdf
  obtain rfl : kV = .none := Dflts.noKw hD
  obtain ⟨a, vs, ns, rfl, rfl, hobj, hints, hlen⟩ := script_of hn hpre hwl
  refine enter_call (codeAny_mono (call w s₀ s₁ mg mb fa o pm cd doc a vs ns G Y ho (fd_plain hd) hcd hmg hobj hints hlen hg) fun r s' hq => ?_)
  obtain ⟨rfl, h2, h3, h4⟩ := hq
  exact ⟨.inl ⟨.bool true, .bool true, [], rfl, fun _ => rfl, .bool true, post_true l _, fun _ => ⟨List.Pairwise.nil, fun _ hm => (nomatch hm)⟩⟩, h2, h3, h4⟩


/-! ### rules over ANY heap (no ledger) from facts about the written part K: the library's own take a ledger (News) for what they write -/
section
variable {prog : Program} {w : World} {A : Around} {E : Value → Shared → Prop} {s : Shared} {K : Frag}





/-! the whole heap as the ledger: makes every rule that writes through a ledger a rule over any heap -/

end
end Att

namespace L2
open PySem PySem.Spec PyProof.Rows

theorem vals_ints : ∀ {vs : List Value} {ns : List Int}, IntsAre vs ns → Vals (ns.map V.int) vs
  | _, _, .nil => .nil
  | _, _, .cons n t h => .cons ⟨t, rfl⟩ (vals_ints h)

/-- nothing is tracked but the script, known to the object (or it is an object of the module) -/
def Only (H : Hp) : Prop := ∀ b, H b = none ∨ ∃ o xs, H b = some (.frz o (.lst xs))

/-- THE HEAD: the law's promise, at the heap behind the top. F, the promise of the law's def, may use that base is part of the heap (so K.In base, base.Ns mainGlobals mg stand in Mod) -/
theorem law_call {P : Program} {w : World} {K : PySem.W.Frag} {mg mb : Str → Option Value} {CX : CXT} {k : Nat} {fa a : Addr} {fd : FuncData} {x : Str} {sp : Sp} {s₁ : Shared} {vs : List Value} {ns : List Int}
    (KX : K.In s₁.heap) (hns : s₁.heap.Ns mainGlobals mg) (hb : s₁.heap.Ns builtinsNs mb) (hbb : ∀ x : Str, x ≠ "__name__" → mb x = bootBuiltins x) (hlim : s₁.heap.NoLimit) (hg : s₁.gens = #[])
    (ha : s₁.heap.get? a = some { cls := .type "list", data := .seq vs.toArray }) (hi : IntsAre vs ns) (hl : ns.length ≤ sizeLine) (hr : Room k callerA)
    (F : ∀ base : Heap, K.In base → base.Ns mainGlobals mg → FnOk P w K mg base CX k fa fd [x] sp) (hbind : ∀ (s : Shared) (u : Value), BindsTo s fd ⟨[u], []⟩ [(x, u)])
    (hsp : ∀ H : Hp, Only H → SqL K H a (ns.map V.int) → sp [.ref a] H (fun v _ => v = .bl true) fun _ _ _ => False)
    (hCX : ∀ H e s', CX [] H s₁ (fun _ _ _ => False) e s' → False) :
    codeAny (model P w) callerA (.call (.ref fa) ⟨[.ref a], []⟩) (fun r s' => r = .ok (.ret (.bool true)) ∧ OldK s₁.heap s'.heap ∧ s'.os = s₁.os ∧ AllBare s'.gens) s₁ := by
  have rv := vals_ints hi
  have lenV := hi.length
  -- from an abstract heap in which nothing but the script may be tracked
  have core : ∀ H : Hp, Only H → SqL K H a (ns.map V.int) → HOk P w H s₁.heap → (∀ b, H b ≠ none → b = a) → (H a ≠ none → K.lookup a = none) →
      codeAny (model P w) callerA (.call (.ref fa) ⟨[.ref a], []⟩) (fun r s' => r = .ok (.ret (.bool true)) ∧ OldK s₁.heap s'.heap ∧ s'.os = s₁.os ∧ AllBare s'.gens) s₁ := by
    intro H hO hS hok hA hK
    have base_of : ∀ {b : Addr} {o : Obj}, s₁.heap.get? b = some o → H b = none → (hidT s₁.heap H).get? b = some o := fun e n => hidT_get e n
    have noA : ∀ {b : Addr} {o : Obj} {es : Array DictEntry} {ep : Nat}, s₁.heap.get? b = some o → o.data = .dict es ep → H b = none := fun {b o es ep} e d => by
      cases q : H b with
      | none => rfl
      | some u =>
        have e' : b = a := hA b (by rw [q]; simp)
        subst e'
        rw [ha] at e; cases e
        have d' : Data.seq vs.toArray _ = Data.dict es ep := d
        cases d'
    have nsK : ∀ {b : Addr} {m : Str → Option Value}, s₁.heap.Ns b m → (hidT s₁.heap H).Ns b m := fun {b m} ⟨o, es, ep, e, d, r⟩ => ⟨o, es, ep, base_of e (noA e d), d, r⟩
    have hKb : K.In (hidT s₁.heap H) := fun b o e => base_of (KX b o e) (by
      cases q : H b with
      | none => rfl
      | some u =>
        have e' : b = a := hA b (by rw [q]; simp)
        subst e'
        rw [hK (by rw [q]; simp)] at e; cases e)
    have hM : Mod K mg (hidT s₁.heap H) := ⟨hKb, nsK hns, ⟨mb, nsK hb, hbb⟩, let ⟨mc, h1, h2⟩ := hlim; ⟨mc, nsK h1, h2⟩⟩
    have e0 : Env0 P w K mg (hidT s₁.heap H) callerA [] s₁ H := ⟨rfl, hM, fun b o e => of_hidT e, Nat.le_of_eq (hidT_size _ _), trivial, fun b hb => absurd (show b ∈ ([] : List Addr) from hb) (by simp), hok, .of_eq hg⟩
    refine codeAny_mono ((F _ hKb (nsK hns)).run callerA [] s₁ H ⟨[.ref a], []⟩ [.ref a] [.ref a] _ _ hr e0 (hbind s₁ (.ref a)) (.cons rfl .nil) (hsp H hO hS)) fun r s' h => ?_
    cases r with
    | error e => exact (hCX H e s' h).elim
    | ok fl =>
      cases fl with
      | next => exact False.elim h
      | brk => exact False.elim h
      | cont => exact False.elim h
      | ret u =>
        obtain ⟨v, H', os, bare, un, hok', r', q⟩ := h
        have q' : v = .bl true := q
        subst q'
        obtain rfl : u = Value.bool true := r'
        refine ⟨rfl, OldK.of_keep fun b o e => ?_, os, bare⟩
        cases q : H b with
        | none => exact un.keep b o e q (by intro z; exact absurd (show b ∈ ([] : List Addr) from z) (by simp)) (by simp)
        | some u =>
          rcases hO b with z | ⟨ob, xs, z⟩
          · rw [q] at z; cases z
          · have z2 := un.frzs b ob _ z
            obtain ⟨e1, _⟩ := hok b _ z
            obtain ⟨e2, _⟩ := hok' b _ z2
            rw [e] at e1; cases e1
            exact e2
  cases hk : K.lookup a with
  | some o =>
    -- the script is one of the module's own objects
    have e := KX a o hk
    rw [ha] at e
    cases e
    refine core (fun _ => none) (fun _ => .inl rfl) (.inr ⟨_, vs.toArray, _, hk, rfl, rfl, rfl, by rw [List.size_toArray, lenV]; exact hl, by simpa using rv⟩) (fun b u z => by have z' : (none : Option HO) = some u := z; cases z') (fun b z => absurd rfl z) fun z => absurd rfl z
  | none =>
    refine core (fun b => if b = a then some (.frz { cls := .type "list", data := .seq vs.toArray } (.lst (ns.map V.int))) else none) (fun b => ?_) (.inl (.inr ⟨{ cls := .type "list", data := .seq vs.toArray }, if_pos rfl⟩)) (fun b u z => ?_) (fun b z => ?_) fun _ => hk
    · by_cases hb : b = a
      · exact .inr ⟨_, _, if_pos hb⟩
      · exact .inl (if_neg hb)
    · by_cases hb : b = a
      · have z' := (if_pos hb).symm.trans z
        cases z'
        subst hb
        exact ⟨ha, by rw [List.length_map]; exact hl, vs, _, rv, ha⟩
      · have z' := (if_neg hb).symm.trans z
        cases z'
    · by_cases hb : b = a
      · exact hb
      · exact absurd (if_neg hb) z
end L2

namespace L2
open PySem PySem.Spec PyProof.Rows

abbrev KOf {K : PySem.W.Frag} {h : Heap} (_ : K.In h) : PySem.W.Frag := K

/-- the goal that k_head leaves (case hc), from the law's promise. F gives the function object fd (K's own) once, then the promise over every base -/
theorem walk_of {l : PySem.W.OpenLaw} {n k : Nat} {q : Program} {loose : List Str} {XP : (Str → Option Value) → Heap → Prop} {YP : World → Heap → Prop} {d : DefRec} {K : Params → PySem.W.Frag} {CX : World → CXT} {sp : World → Sp} {x : Str}
    (hn : l.most = some n) (hn2 : n ≤ sizeLine) (hdf : d.params.defaults = []) (hr : Room k callerA)
    (hY : ∀ (w : World) (h : Heap), YP w h → (K w.params).In h)
    (F : ∀ (w : World) (mg : Str → Option Value) (fa : Addr) (h : Heap), (K w.params).In h → h.Ns mainGlobals mg → mg d.name = some (.ref fa) →
      ∃ fd : FuncData, (∀ (s : Shared) (u : Value), BindsTo s fd ⟨[u], []⟩ [(x, u)]) ∧
        ∀ base : Heap, (K w.params).In base → base.Ns mainGlobals mg → FnOk l.prog w (K w.params) mg base (CX w) k fa fd [x] (sp w))
    (hsp : ∀ (w : World) (H : Hp) (a : Addr) (ns : List Int), ns.length ≤ n → Only H → SqL (K w.params) H a (ns.map V.int) → sp w [.ref a] H (fun v _ => v = .bl true) fun _ _ _ => False)
    (hCX : ∀ (w : World) (H : Hp) (s : Shared) (e : Value) (s' : Shared), CX w [] H s (fun _ _ _ => False) e s' → False) :
    PySem.W.WalkO q loose XP YP l.row.toRowW d [] (fun f vs => PySem.call f vs) := by
  refine Att.attach_call hn hdf fun w s₀ s₁ mg mb fa o pm cd doc a vs ns G Y ho hd hcd hmg hobj hints hlen hg => ?_
  have KX := hY w _ Y
  obtain ⟨fd, hb, hF⟩ := F w mg fa _ KX G.T.g hmg
  exact law_call KX G.T.g G.T.b G.T.builtins G.T.nolimit hg hobj hints (Nat.le_trans hlen hn2) hr hF hb (fun H hO hS => hsp w H a ns hlen hO hS) fun H e s' => hCX w H s₁ e s'
/-- the same where the promise hangs on the written part alone: (sp := My.sp_law), no hole under a binder -/
theorem walk_ofK {l : PySem.W.OpenLaw} {n k : Nat} {q : Program} {loose : List Str} {XP : (Str → Option Value) → Heap → Prop} {YP : World → Heap → Prop} {d : DefRec} {K : Params → PySem.W.Frag} {CX : CXT} {sp : PySem.W.Frag → Sp} {x : Str}
    (hn : l.most = some n) (hn2 : n ≤ sizeLine) (hdf : d.params.defaults = []) (hr : Room k callerA)
    (hY : ∀ (w : World) (h : Heap), YP w h → (K w.params).In h)
    (F : ∀ (w : World) (mg : Str → Option Value) (fa : Addr) (h : Heap), (K w.params).In h → h.Ns mainGlobals mg → mg d.name = some (.ref fa) →
      ∃ fd : FuncData, (∀ (s : Shared) (u : Value), BindsTo s fd ⟨[u], []⟩ [(x, u)]) ∧
        ∀ base : Heap, (K w.params).In base → base.Ns mainGlobals mg → FnOk l.prog w (K w.params) mg base CX k fa fd [x] (sp (K w.params)))
    (hsp : ∀ (K : PySem.W.Frag) (H : Hp) (a : Addr) (ns : List Int), ns.length ≤ n → Only H → SqL K H a (ns.map V.int) → sp K [.ref a] H (fun v _ => v = .bl true) fun _ _ _ => False)
    (hCX : ∀ (H : Hp) (s : Shared) (e : Value) (s' : Shared), CX [] H s (fun _ _ _ => False) e s' → False) :
    PySem.W.WalkO q loose XP YP l.row.toRowW d [] (fun f vs => PySem.call f vs) :=
  walk_of (K := K) (CX := fun _ => CX) (sp := fun w => sp (K w.params)) hn hn2 hdf hr hY F (fun w H a ns h1 h2 h3 => hsp (K w.params) H a ns h1 h2 h3) fun _ H s e s' => hCX H s e s'
end L2

/- THE LAST THEOREM (shape; LID, My.* are yours):
   My.Adr: a structure of the addresses that your layer names (classes, functions); My.Txt K t: a structure (Prop) of the equations over K;
   My.txt_mk : {K} {implicit addresses ..} (e1 : nsIn K mainGlobals "law" = some (some (.ref f))) (e2 : K.lookup f = some ⟨oc, od, .func (fnOf "law" "law" params body scope dV kV doc pm an cdv ct), sl⟩) (e3 : codeIn K cdv "law" = true) .. : ∃ t, My.Txt K t

set_option maxRecDepth 100000 in
set_option maxHeartbeats 0 in
theorem PySem.Challenge.cw_LID_holds : PySem.Challenge.rw_LID.Holds := by
  w_on; o_law; k_head; (case hw => w_witness2)
  k_fill
  refine L2.walk_of (l := PySem.Challenge.rw_LID) (n := 63) (k := 40) (x := "script") (CX := fun w => ..) (sp := fun _ => My.sp_law) rfl (by decide) rfl ⟨rfl, by decide, by decide⟩ (fun w h Y => PySem.W.kIn_of Y) ?F ?S ?C
  case F =>
    intro w mg fa h KX G hmg
    have T : ∃ t, My.Txt (L2.KOf KX) t := by
      dsimp only [L2.KOf]                          -- K must stand as «<heap const> w.params» for k_is
      refine' My.txt_mk ?e1 ?e2 ?e3 ..
      (case e1 => PySem.W.k_is)                    -- in the order: a name -> its address -> its object -> its parts
      (case e2 => PySem.W.k_is)
      ..
    obtain ⟨t, T⟩ := T
    have e0 := hmg.symm.trans (PySem.W.mg_of KX G T.law)
    cases e0                                       -- fa is the law's own address
    exact ⟨_, fun s u => .of_eq rfl, fun base kb nb => My.law_fn T kb nb⟩     -- if «.of_eq rfl» comes too early: refine' ⟨_, ?b, fun base kb nb => My.law_fn T kb nb⟩; exact fun s u => .of_eq rfl
  case S => exact fun w H a ns hl hO hS => ..
  case C => exact ..
(the tactic k_is has no namespace: write k_is) -/

/-! SHORT WORDS over the layer: a def of the text, its body, what a loop and a test want. -/
namespace L2
open PySem PySem.Spec PyProof.Rows

/-! ### the text by places -/
/-- the j-th statement of a class's body -/
def inClass (s : Stmt) (j : Nat) : Stmt := match s with
  | .ClassDef _ _ _ body _ _ _ _ _ _ _ => body.getD j (.Pass ⟨0, 0, 0, 0⟩)
  | _ => .Pass ⟨0, 0, 0, 0⟩
def defArgs (s : Stmt) : Arguments := match s with
  | .FunctionDef _ a _ _ _ _ _ _ _ _ => a
  | _ => { posonlyargs := [], args := [], vararg := none, kwonlyargs := [], kw_defaults := [], kwarg := none, defaults := [] }
def defBody (s : Stmt) : List Stmt := match s with
  | .FunctionDef _ _ b _ _ _ _ _ _ _ => b
  | _ => []
def defScope (s : Stmt) : Scope := match s with
  | .FunctionDef _ _ _ _ _ _ sc _ _ _ => sc
  | _ => { kind := .function, names := [], isGenerator := false, isCoroutine := false }

/-! ### no exception leaves a def -/
abbrev CX0 : CXT := fun _ _ _ _ _ _ => False
abbrev E0 : XK := fun _ _ _ => False
theorem pass0 {X : Cx} : Passes CX0 X E0 := fun _ _ _ _ _ _ _ h => h.elim

/-! ### a def (or method) of the text as it stands behind the top -/
structure Fun (K : PySem.W.Frag) (x qual : Str) (st : Stmt) (f : Addr) (fd : FuncData) : Prop where
  ex : ∃ (oc : Value) (od : Option Addr) (kV doc pm : Value) (an : Option Addr) (cdv ct : Value) (osl : Array (Option Value)),
    fd = PySem.W.fnOf x qual (defArgs st) (defBody st) (defScope st) .none kV doc pm an cdv ct ∧ K.lookup f = some ⟨oc, od, .func fd, osl⟩ ∧ PySem.W.codeIn K cdv qual = true
  kp : PySem.W.keepIn K (.ref f) = true
section
variable {P : Program} {w : World} {K : PySem.W.Frag} {mg : Str → Option Value} {base : Heap}
/-- THE RULE for a def: its body as a term of rules, and the reading of that term -/
theorem Fun.ok {x qual : Str} {st : Stmt} {f : Addr} {fd : FuncData} {N ps : List Str} {k : Nat} {sp : Sp} (F : Fun K x qual st f fd) (S : FnScope N ps (defScope st)) (len : ∀ vs H Q E, sp vs H Q E → vs.length = ps.length)
    (hbody : ∀ (cdv : Value) (A : Around) (outer : List Env) (s : Shared) (H : Hp) (vs : List V) (Q : VK) (E : XK), Room k (A.deeper (envOfC qual (defScope st) s.heap.objs.size f cdv)) → sp vs H Q E →
      ∃ t, PSs (cxOf CX0 P w K mg base N qual (defScope st) f cdv A outer s H E).nox (defBody st) t ∧ t { nx := fun _ H' => Q .non H', rt := Q } (start N vs) H) : FnOk P w K mg base CX0 (k + 1) f fd ps sp := by
  obtain ⟨oc, od, kV, doc, pm, an, cdv, ct, osl, rfl, lk, hcd⟩ := F.ex
  refine fn_of lk hcd S len fun A outer s H vs Q E hr hsp => ?_
  obtain ⟨t, h, q⟩ := hbody cdv A outer s H vs Q E hr hsp
  exact ⟨t, h.nox, q⟩
theorem fun_mk {x qual : Str} {st : Stmt} {f : Addr} {oc : Value} {od an : Option Addr} {osl : Array (Option Value)} {kV doc pm cdv ct : Value} (l : K.lookup f = some ⟨oc, od, .func (PySem.W.fnOf x qual (defArgs st) (defBody st) (defScope st) .none kV doc pm an cdv ct), osl⟩)
    (c : PySem.W.codeIn K cdv qual = true) (k : PySem.W.keepIn K (.ref f) = true) : Fun K x qual st f (PySem.W.fnOf x qual (defArgs st) (defBody st) (defScope st) .none kV doc pm an cdv ct) := ⟨⟨oc, od, kV, doc, pm, an, cdv, ct, osl, rfl, l, c⟩, k⟩
end
theorem hu_of {A : Around} {k : Nat} (hr : Room k A) : A.units + 1 < cLine := Nat.lt_of_le_of_lt (Nat.add_le_add_left (by decide : 1 ≤ 64) _) hr.units
theorem small1000 {n : Nat} (h : n ≤ 1000) : n < sizeLine := Nat.lt_of_le_of_lt h (by decide)

/-! ### expressions in short: the name that stands in the i-th slot -/
section
variable {X : Cx}
theorem pv (i : Nat) {x : Str} {pos : Pos} (hN : X.N[i]? = some x := by rfl) (hv : Vis X.env.scope x := by first | exact Or.inl rfl | exact Or.inr (Or.inl rfl) | exact Or.inr (Or.inr rfl)) (hd : (x == ("__debug__" : Str)) = false := by decide)
    (hcd : (x == ("__classdict__" : Str)) = false := by decide) : PE X (.Name x pos) (tVar i) := pe_var hN hv hd hcd
end

/-! ### tests -/
theorem iteF {A B : Prop} (h : B) : if false = true then A else B := by
  rw [if_neg Bool.false_ne_true]
  exact h
theorem iteT {A B : Prop} (h : A) : if true = true then A else B := by
  rw [if_pos rfl]
  exact h
theorem ite2 {c A B : Prop} [Decidable c] (h1 : c → A) (h2 : ¬ c → B) : if c then A else B := by
  by_cases h : c
  · rw [if_pos h]
    exact h1 h
  · rw [if_neg h]
    exact h2 h

/-! ### heaps -/
/-- all that was tracked is as it was -/
def Same (H H' : Hp) : Prop := ∀ b o, H b = some o → H' b = some o
theorem Same.refl (H : Hp) : Same H H := fun _ _ h => h
theorem Same.trans {H H1 H2 : Hp} (a : Same H H1) (b : Same H1 H2) : Same H H2 := fun c o h => b c o (a c o h)
theorem Same.free {H H' : Hp} (e : Same H H') {l : Addr} (h : H' l = Option.none) : H l = Option.none := by
  cases q : H l with
  | none => rfl
  | some o =>
    rw [e l o q] at h
    cases h
theorem Same.seq {K : PySem.W.Frag} {H H' : Hp} {a : Addr} {xs : List V} (e : Same H H') (h : SqL K H a xs) : SqL K H' a xs := by
  rcases h with (h | ⟨o, h⟩) | h
  · exact .inl (.inl (e _ _ h))
  · exact .inl (.inr ⟨o, e _ _ h⟩)
  · exact .inr h

section
variable {X : Cx}
end
/-! ### a dict's pairs: keys that differ -/
section
variable {κ : Type} [DecidableEq κ]
end
end L2


/-! OVER THE HAND LAYER: list comprehensions, walks over texts, and some of Python's own calls, by their readings. -/
namespace L2
open PySem PySem.Spec PyProof.Rows

/-! ### the closure of a comprehension -/
def freeCl (cells : List (Str × Addr)) : List (Str × NameKind) → List (Str × Addr) → List (Str × Addr)
  | [], cs => cs
  | (n, k) :: r, cs => freeCl cells r (if (k == NameKind.free) = true then (match cells.lookup n with | some c => (n, c) :: cs | none => cs) else cs)

theorem closureFor_cells {scope : Scope} {env : Env} (h : ∀ x ∈ scope.names, x.2 = .free → ∃ c, env.cells.lookup x.1 = some c) : closureFor scope env = pure (freeCl env.cells scope.names []) := by
  unfold closureFor
  have go : ∀ (names : List (Str × NameKind)) (cs : List (Str × Addr)), (∀ x ∈ names, x.2 = .free → ∃ c, env.cells.lookup x.1 = some c) →
      (forIn names cs (fun (x : Str × NameKind) (r : List (Str × Addr)) => if (x.2 == NameKind.free) = true then (do let a ← cellOf env x.1; pure (ForInStep.yield ((x.1, a) :: r))) else pure (ForInStep.yield r)) : Sem (List (Str × Addr))) = pure (freeCl env.cells names cs) := by
    intro names
    induction names with
    | nil => intro cs _; rfl
    | cons x r ih =>
      intro cs hc
      obtain ⟨n, k⟩ := x
      have hr : ∀ y ∈ r, y.2 = .free → ∃ c, env.cells.lookup y.1 = some c := fun y hy => hc y (List.mem_cons_of_mem _ hy)
      rw [List.forIn_cons]
      cases e : (k == NameKind.free) with
      | true =>
        obtain ⟨c, hl⟩ := hc (n, k) List.mem_cons_self (by simpa using e)
        have hl' : env.cells.lookup n = some c := hl
        have ec : cellOf env n = pure c := by unfold cellOf; rw [hl']
        show (_ >>= _) = pure (freeCl env.cells r (if (k == NameKind.free) = true then _ else _))
        rw [e, hl']
        simp only [if_true, ec, pure_bind]
        exact ih _ hr
      | false =>
        show (_ >>= _) = pure (freeCl env.cells r (if (k == NameKind.free) = true then _ else _))
        rw [e]
        simp only [Bool.false_eq_true, if_false, pure_bind]
        exact ih _ hr
  exact (congrArg (· >>= fun r => pure r) (go scope.names [] h)).trans (pure_bind _ _)

theorem lookup_cons_eq {α : Type} {y n : Str} {c : α} {r : List (Str × α)} (h : y = n) : ((n, c) :: r).lookup y = some c := by
  subst h; simp
theorem lookup_cons_ne {α : Type} {y n : Str} {c : α} {r : List (Str × α)} (h : ¬ y = n) : ((n, c) :: r).lookup y = r.lookup y := by
  rw [List.lookup_cons, beq_eq_false_iff_ne.mpr h]

theorem freeCl_step {cells : List (Str × Addr)} {n : Str} {k : NameKind} {cs : List (Str × Addr)} (hs : ∀ y d, cs.lookup y = some d → cells.lookup y = some d) :
    ∀ y d, (if (k == NameKind.free) = true then (match cells.lookup n with | some c => (n, c) :: cs | none => cs) else cs).lookup y = some d → cells.lookup y = some d := by
  intro y d h
  split at h
  · split at h
    · rename_i c hc
      by_cases hy : y = n
      · rw [lookup_cons_eq hy] at h
        rw [hy, hc]; exact h
      · rw [lookup_cons_ne hy] at h
        exact hs y d h
    · exact hs y d h
  · exact hs y d h
theorem freeCl_sub (cells : List (Str × Addr)) : ∀ (names : List (Str × NameKind)) (cs : List (Str × Addr)), (∀ y d, cs.lookup y = some d → cells.lookup y = some d) →
    ∀ y d, (freeCl cells names cs).lookup y = some d → cells.lookup y = some d
  | [], _, hs, y, d, h => hs y d h
  | (n, k) :: r, cs, hs, y, d, h => freeCl_sub cells r _ (freeCl_step hs) y d h
theorem freeCl_has (cells : List (Str × Addr)) {x : Str} {c : Addr} (hc : cells.lookup x = some c) : ∀ (names : List (Str × NameKind)) (cs : List (Str × Addr)), (∀ y d, cs.lookup y = some d → cells.lookup y = some d) →
    ((x, NameKind.free) ∈ names ∨ cs.lookup x = some c) → (freeCl cells names cs).lookup x = some c
  | [], _, _, h => by
    rcases h with h | h
    · cases h
    · exact h
  | (n, k) :: r, cs, hs, h => by
    refine freeCl_has cells hc r _ (freeCl_step hs) ?_
    by_cases hx : (x, NameKind.free) = (n, k)
    · cases hx
      right
      rw [if_pos (by rfl), hc]
      exact lookup_cons_eq rfl
    · rcases h with h | h
      · rcases List.mem_cons.mp h with h | h
        · exact absurd h hx
        · exact .inl h
      · right
        split
        · split
          · rename_i c' hc'
            by_cases hn : x = n
            · rw [lookup_cons_eq hn]
              rw [hn, hc'] at hc
              exact hc
            · rw [lookup_cons_ne hn]; exact h
          · exact h
        · exact h

theorem lookup_relabel (env : Env) (x : Str) : ∀ names : List (Str × NameKind),
    (names.map fun (n, k) => if (k == NameKind.free && env.scope.kind == .function && env.kindOf n == some .cell) then (n, NameKind.cell) else (n, k)).lookup x =
      (names.lookup x).map fun k => if (k == NameKind.free && env.scope.kind == .function && env.kindOf x == some .cell) then NameKind.cell else k
  | [] => rfl
  | (n, k) :: r => by
    have ih := lookup_relabel env x r
    rw [List.map_cons]
    by_cases hx : x = n
    · subst hx
      rw [lookup_cons_eq rfl]
      show List.lookup x ((if (k == NameKind.free && env.scope.kind == .function && env.kindOf x == some .cell) = true then (x, NameKind.cell) else (x, k)) :: _) = some (if (k == NameKind.free && env.scope.kind == .function && env.kindOf x == some .cell) = true then NameKind.cell else k)
      by_cases hc : (k == NameKind.free && env.scope.kind == .function && env.kindOf x == some .cell) = true
      · rw [if_pos hc, if_pos hc]; exact lookup_cons_eq rfl
      · rw [if_neg hc, if_neg hc]; exact lookup_cons_eq rfl
    · rw [lookup_cons_ne hx, ← ih]
      show List.lookup x ((if (k == NameKind.free && env.scope.kind == .function && env.kindOf n == some .cell) = true then (n, NameKind.cell) else (n, k)) :: _) = _
      by_cases hc : (k == NameKind.free && env.scope.kind == .function && env.kindOf n == some .cell) = true
      · rw [if_pos hc]; exact lookup_cons_ne hx
      · rw [if_neg hc]; exact lookup_cons_ne hx
theorem relabel_free {scope : Scope} {env : Env} {x : Str} (h : scope.names.lookup x = some .free) : (relabel scope env).names.lookup x = some .cell ∨ (relabel scope env).names.lookup x = some .free := by
  have e := lookup_relabel env x scope.names
  rw [h] at e
  have e' : (relabel scope env).names.lookup x = some (if (NameKind.free == NameKind.free && env.scope.kind == .function && env.kindOf x == some .cell) = true then NameKind.cell else NameKind.free) := e
  rw [e']
  split
  · exact .inl rfl
  · exact .inr rfl
theorem free_relabel {scope : Scope} {env : Env} {x : Str} (nc : ∀ y ∈ scope.names, y.2 ≠ .cell) (h : (relabel scope env).names.lookup x = some .cell ∨ (relabel scope env).names.lookup x = some .free) : (x, NameKind.free) ∈ scope.names := by
  have e := lookup_relabel env x scope.names
  have e' : (relabel scope env).names.lookup x = _ := e
  cases q : scope.names.lookup x with
  | none =>
    rw [q] at e'
    rw [e'] at h
    rcases h with h | h <;> cases h
  | some k =>
    rw [q] at e'
    have m := PySem.mem_of_lookup q
    cases k with
    | free => exact m
    | cell => exact absurd rfl (nc _ m)
    | _ =>
      rw [e'] at h
      rcases h with h | h <;> cases h

/-! ### the context of a comprehension's block -/
structure CompScope (scope osc : Scope) (cap : List Str) : Prop where
  kind : scope.kind = .function
  nocell : ∀ y ∈ scope.names, y.2 ≠ .cell
  loc : ∀ y ∈ scope.names, y.2 = .local → scope.names.lookup y.1 = some .local
  free : ∀ y ∈ scope.names, y.2 = .free → osc.names.lookup y.1 = some .cell ∨ osc.names.lookup y.1 = some .free
  cap : ∀ x ∈ cap, scope.names.lookup x = some .free

def cxC (X : Cx) (N : List Str) (scope : Scope) (C : Addr) (s : Shared) (H : Hp) (ex : List Addr) : Cx where
  prog := X.prog
  w := X.w
  K := X.K
  mg := X.mg
  base := X.base
  A := X.A
  N := N
  s₀ := s
  H₀ := H
  env := compEnvC scope (freeCl X.env.cells scope.names []) C X.env
  outer := X.stack
  stack := X.stack
  ex := ex
  fn := fun _ => false
  calm := X.calm
  pn := []
  xe := fun _ _ => False

/-- the block's names at its start: its own, and those of the outer names at ix that it captures -/
def st0 (own : List Str) (ix : List Nat) (σ : St) : St := own.map (fun _ => none) ++ ix.map fun i => (σ[i]?).join

theorem closure_of {X : Cx} {pins : List (Addr × Obj)} {σ : St} {H : Hp} {s : Shared} {scope : Scope} {cap : List Str} (I : Inv X pins σ H s) (S : CompScope scope X.env.scope cap) :
    closureFor scope X.env = pure (freeCl X.env.cells scope.names []) :=
  closureFor_cells fun x hx hf => I.ok.has x.1 (S.free x hx hf)

theorem inv_comp {X : Cx} {pins : List (Addr × Obj)} {σ : St} {H : Hp} {s : Shared} {scope : Scope} {own cap : List Str} {ix : List Nat} {fp : List Addr} {h₁ : Heap} {m : Str → Option Value} {tk : Nat}
    (I : Inv X pins σ H s) (S : CompScope scope X.env.scope cap) (hix : ix.map (fun i => X.N[i]?) = cap.map some) (hf : ∀ b ∈ fp, FpOk X pins H b) (hlt : ∀ b ∈ fp, b < s.heap.objs.size)
    (hn : h₁.Ns s.heap.objs.size m) (hk : ∀ b o, s.heap.get? b = some o → h₁.get? b = some o) :
    Inv (cxC X (own ++ cap) scope s.heap.objs.size s H fp) [] (st0 own ix σ) H { s with heap := h₁, toks := tk } := by
  have sub : ∀ y d, (freeCl X.env.cells scope.names []).lookup y = some d → X.env.cells.lookup y = some d := freeCl_sub _ _ _ (fun y d h => by cases h)
  have has : ∀ y c, (y, NameKind.free) ∈ scope.names → X.env.cells.lookup y = some c → (freeCl X.env.cells scope.names []).lookup y = some c := fun y c hy hc => freeCl_has _ hc _ _ (fun y d h => by cases h) (.inl hy)
  have hlen : ix.length = cap.length := by
    have := congrArg List.length hix
    simpa using this
  refine ⟨⟨I.mod, S.kind, I.ok.glob, I.ok.blt, Nat.le_refl _, fun x y c e1 e2 => I.ok.inj x y c (sub _ _ e1) (sub _ _ e2), fun x hx => ?_, fun x c z => (by cases z), I.ok.hd, I.ok.frames, .inl rfl, fun b hb => ⟨Nat.ne_of_lt (hlt b hb), fun x c e => (hf b hb).2.2.2.2.1 x c (sub _ _ e)⟩, I.bs,
      Nat.le_trans I.ok.bsz I.sz, fun b o e hb => ?_, fun b hb z => ?_, I.stack, I.stkFree⟩, rfl, I.bare, Un.kept hk, ⟨m, hn, fun i x v e1 e2 e3 => ?_⟩, fun x c e => ?_, I.hok.fresh (Nat.le_refl _), fun x c e => I.freeC x c (sub _ _ e), fun p hp => absurd (show p ∈ ([] : List (Addr × Obj)) from hp) (by simp), I.hok.kept hk, ?_⟩
  · have m' := free_relabel (env := X.env) S.nocell hx
    obtain ⟨c, hc⟩ := I.ok.has x (S.free _ m' rfl)
    exact ⟨c, has x c m' hc⟩
  · obtain ⟨f0, f1, f2, f3, f4, f5⟩ := hf b hb
    rcases f3 with z | z
    · exact I.ok.noex b o e z
    · exact absurd (Nat.lt_of_lt_of_le (Nat.lt_of_lt_of_le (Heap.lt_size e) I.ok.bsz) z) (Nat.lt_irrefl _)
  · obtain ⟨f0, f1, f2, f3, f4, f5⟩ := hf b hb
    rcases List.mem_cons.mp (I.stkSub b z) with z | z
    · exact f1 z
    · exact f2 z
  · have e1 : (own ++ cap)[i]? = some x := e1
    unfold st0 at e2
    by_cases hi : i < own.length
    · rw [List.getElem?_append_left (by simpa using hi), List.getElem?_map] at e2
      cases q : own[i]? with
      | none => rw [q] at e2; cases e2
      | some y => rw [q] at e2; cases e2
    · rw [List.getElem?_append_right (by simpa using hi)] at e1
      rw [List.getElem?_append_right (by simpa using hi), List.length_map, List.getElem?_map] at e2
      generalize i - own.length = j at e1 e2
      cases q : ix[j]? with
      | none => rw [q] at e2; cases e2
      | some k =>
        rw [q] at e2
        have e2 : (σ[k]?).join = some v := Option.some.inj e2
        have eσ : σ[k]? = some (some v) := by
          cases q2 : σ[k]? with
          | none => rw [q2] at e2; cases e2
          | some o => rw [q2] at e2; exact congrArg some e2
        have eN : X.N[k]? = some x := by
          have := congrArg (fun l => l[j]?) hix
          simp only [List.getElem?_map, q, e1, Option.map_some] at this
          exact Option.some.inj this
        have hfr := S.cap x (List.mem_of_getElem? e1)
        have hmem := PySem.mem_of_lookup hfr
        have hout := S.free _ hmem rfl
        obtain ⟨m0, hn0, hl⟩ := I.loc
        obtain ⟨u, r, l⟩ := hl k x v eN eσ (.inr hout)
        rcases l with ⟨kd, _⟩ | ⟨kd, c, e, z⟩
        · have kd : X.env.scope.names.lookup x = some .local := kd
          rcases hout with ho | ho <;> (have ho : X.env.scope.names.lookup x = _ := ho; rw [kd] at ho; cases ho)
        · exact ⟨u, r, .inr ⟨relabel_free hfr, c, has x c hmem e, z.keeps hk⟩⟩
  · obtain ⟨v, q⟩ := I.cell x c (sub _ _ e)
    exact ⟨v, q.keeps hk⟩
  · show (st0 own ix σ).length = (own ++ cap).length
    unfold st0
    simp [hlen]

/-- behind the block: its namespace at C forgotten -/
theorem inv_back {X : Cx} {pins : List (Addr × Obj)} {σ σ' : St} {H H' : Hp} {s s' : Shared} {scope : Scope} {N : List Str} {fp : List Addr} {h' : Heap}
    (I : Inv X pins σ H s) (hf : ∀ b ∈ fp, FpOk X pins H b) (J : Inv (cxC X N scope s.heap.objs.size s H fp) [] σ' H' s') (hs : Heap.SameBut s.heap.objs.size s'.heap h') : Inv X pins σ H' { s' with heap := h' } := by
  have ne : ∀ b o, s.heap.get? b = some o → b ≠ s.heap.objs.size := fun b o e => Nat.ne_of_lt (Heap.lt_size e)
  have B : Un (frs X.stack) fp H H' s.heap s'.heap := J.base
  refine I.call' (s' := { s' with heap := h' }) (ch := fp) J.os ⟨fun b o e n hb hx => ?_, fun b o e n hb hx => ?_, B.free, fun b o e hx => ?_, B.tups, B.frzs, B.tbls⟩ (fun b ob e => ?_) J.bare fun b hb => ?_
  · exact (hs.2 b (ne b o e)).trans (B.keep b o e n hb hx)
  · obtain ⟨sl, e1⟩ := B.slot b o e n hb hx
    exact ⟨sl, (hs.2 b (ne b o e)).trans e1⟩
  · obtain ⟨o', e1⟩ := B.there b o e hx
    exact ⟨o', (hs.2 b (ne b o e)).trans e1⟩
  · have fr : H' s.heap.objs.size = none := J.free
    refine (J.hok b ob e).stay (fun c w' hc q => (hs.2 c ?_).trans q) (fun _ q => q) fun _ _ q => q
    rintro rfl
    rcases hc with hc | hc
    · rw [← hc, fr] at e; cases e
    · rw [fr] at hc; cases hc
  · obtain ⟨f0, f1, f2, f3, f4, f5⟩ := hf b hb
    exact ⟨f3, f1, f4, f5⟩

/-! ### the tests of a comprehension -/
def PIf (X : Cx) (ifs : List Expr) (t : TT) : Prop :=
  ∀ (pins : List (Addr × Obj)) (s : Shared) (σ : St) (H : Hp) (Q : Bool → Hp → Prop), Inv X pins σ H s → t σ H Q →
    wpAny (model X.prog X.w) X.A (forIn ifs true fun c r => if r = true then do let ok ← isTrue c X.env (eval c X.env); pure (ForInStep.yield ok) else pure (ForInStep.yield r)) (TP X pins σ Q) X.xe s
def tYes : TT := fun _ H Q => Q true H
theorem pif_nil {X : Cx} : PIf X [] tYes := fun _ s σ H Q I h => wpAny_tests_nil ⟨H, I, h⟩
theorem pif_one {X : Cx} {c : Expr} {t : TT} (h : PT X c t) : PIf X [c] t := fun pins s σ H Q I hw => wpAny_tests_one (h pins s σ H Q I hw)

theorem codeAny_compLoop_all {prog : Program} {w : World} {A : Around} {R : Result → Shared → Prop} {s : Shared} {elt target iter : Expr} {ifs : List Expr} {scope : Scope} {pos : Pos} {it acc : Value} {env : Env} (I : Nat → Shared → Prop)
    (turn : ∀ n s, I n s → wpAny (model prog w) A (pyNext it) (fun r s₁ => match r with
      | none => R (.ok .next) s₁
      | some v => wpAny (model prog w) A (letOwnedTupleGo target it v) (fun _ s₁' => wpAny (model prog w) A (assign target env v) (fun _ s₂ =>
          wpAny (model prog w) A (forIn ifs true fun c r => if r = true then do let ok ← isTrue c env (eval c env); pure (ForInStep.yield ok) else pure (ForInStep.yield r)) (fun ok s₃ =>
            if ok = true then wpAny (model prog w) A (eval elt env) (fun x s₄ =>
              wpAny (model prog w) A (call (.builtin "list.append") [acc, x]) (fun _ s₅ => ∃ m, m < n ∧ I m s₅) (notedBy (model prog w) A env fun e s' => R (.error e) s') s₄) (notedBy (model prog w) A env fun e s' => R (.error e) s') s₃
            else ∃ m, m < n ∧ I m s₃) (notedBy (model prog w) A env fun e s' => R (.error e) s') s₂) (notedBy (model prog w) A env fun e s' => R (.error e) s') s₁') (notedBy (model prog w) A env fun e s' => R (.error e) s') s₁) (notedBy (model prog w) A env fun e s' => R (.error e) s') s)
    (n : Nat) (h : I n s) : codeAny (model prog w) A (.compLoop (.ListComp elt [⟨target, iter, ifs, 0⟩] scope pos) 0 it acc env) R s := by
  refine codeAny_loop rfl I (fun n s hI => ?_) n h
  show wpAny _ A ((compTurn (.ListComp elt [⟨target, iter, ifs, 0⟩] scope pos) 0 it acc env).onRaise (fun x => do noteFrame x env; theTreesLotGoes x)) _ _ s
  refine wpAny_noted ?_
  rw [compTurn_list]
  refine wpAny_bind (wpAny_standAt (wpAny_bind (wpAny_mono (turn n s hI) (fun r s₁ h₁ => ?_) fun _ _ h' => h')))
  cases r with
  | none => exact wpAny_pure h₁
  | some v =>
    refine wpAny_bind (wpAny_mono h₁ (fun _ s₁' h₁' => ?_) fun _ _ h' => h')
    refine wpAny_bind (wpAny_mono h₁' (fun _ s₂ h₂ => wpAny_bind (wpAny_mono h₂ (fun ok s₃ h₃ => ?_) fun _ _ h' => h')) fun _ _ h' => h')
    cases ok with
    | false => exact wpAny_pure ⟨rfl, h₃⟩
    | true =>
      exact wpAny_bind (wpAny_bind (wpAny_mono h₃ (fun x s₄ h₄ => wpAny_bind (wpAny_mono h₄ (fun _ s₅ h₅ => wpAny_pure (wpAny_pure ⟨rfl, h₅⟩)) fun _ _ h' => h')) fun _ _ h' => h'))

/-! ### [e for x in it if c] -/
/-- what the walk over J from the heap H1 wants, the list standing at D -/
def CompW (own : List Str) (ix : List Nat) (J : It) (g : TG) (tc : TT) (te : TE) (σ : St) (H1 : Hp) (D : Addr) (Q : VK) : Prop :=
  ∃ W : Nat → Nat → St → List V → Hp → Prop, (∃ m, W 0 m (st0 own ix σ) [] (upd H1 D (.lst []))) ∧ ∀ i m σ' ys H', W i m σ' ys H' → H' D = some (.lst ys) ∧
    ((J.stop i H' ∧ Q (.ref D) H') ∨ (J.go i H' ∧ ys.length < sizeLine ∧ ∀ x H2, J.yld i H' x H2 → g x σ' H2 fun σ3 H3 => tc σ3 H3 fun b H4 =>
      if b = true then te σ3 H4 fun y H5 => H5 D = some (.lst ys) ∧ ∃ m', m' < m ∧ W (i + 1) m' σ3 (ys ++ [y]) (upd H5 D (.lst (ys ++ [y]))) else H4 D = some (.lst ys) ∧ ∃ m', m' < m ∧ W (i + 1) m' σ3 ys H4))
def tComp (own : List Str) (ix : List Nat) (wi : TI) (g : TG) (tc : TT) (te : TE) : TE := fun σ H Q => wi σ H fun J H1 => ∀ D, H1 D = none → CompW own ix J g tc te σ H1 D Q

section
variable {X : Cx} {tg iter elt : Expr} {ifs : List Expr} {scope : Scope} {pos : Pos} {own cap : List Str} {ix : List Nat} {wi : TI} {g : TG} {tc : TT} {te : TE}

/-- the block runs: what holds behind it is RR -/
theorem comp_run {pins : List (Addr × Obj)} {σ : St} {s : Shared} {E : Value → Shared → Prop} {RR : Value → Addr → Result → Shared → Prop} {Q : VK}
    (hc : X.calm = true) (S : CompScope scope X.env.scope cap) (hix : ix.map (fun i => X.N[i]?) = cap.map some)
    (hg : ∀ C s H ex, PG (cxC X (own ++ cap) scope C s H ex) tg g) (ht : ∀ C s H ex, PIf (cxC X (own ++ cap) scope C s H ex) ifs tc) (he : ∀ C s H ex, PE (cxC X (own ++ cap) scope C s H ex) elt te)
    {itv : Value} (h : PIE X pins σ tg (fun J H1 => ∀ D, H1 D = none → CompW own ix J g tc te σ H1 D Q) itv s)
    (hR : ∀ (D C : Addr) (s' : Shared) (H' : Hp) (m : Str → Option Value), s'.heap.Ns C m → FpOk X pins H' C → (∀ h', Heap.SameBut C s'.heap h' → Inv X pins σ H' { s' with heap := h' }) → Q (.ref D) H' → RR (.ref D) C (.ok .next) s') :
    wpAny (model X.prog X.w) X.A (newList []) (fun acc s₃ => wpAny (model X.prog X.w) X.A (newFunctionEnv scope X.env.globals (freeCl X.env.cells scope.names []) [] X.env.qual none .none (some X.env)) (fun cenv s₄ =>
      codeAny (model X.prog X.w) X.A (.compStart (.ListComp elt [⟨tg, iter, ifs, 0⟩] scope pos) 0 itv acc { cenv with scope := relabel scope X.env }) (RR acc cenv.locals) s₄) E s₃) E s := by
  obtain ⟨it, fp, tn, J, H2, rfl, I2, T, st2, f2, q2⟩ := h
  refine wpAny_newObj_type (wpAny_newFunctionEnv S.nocell (by intro y hy; simp at hy) (fun h₁ hns₁ hsb₁ => ?_) S.kind)
  dsimp only at hns₁ hsb₁ ⊢
  have hD : H2 s.heap.objs.size = none := I2.hok.fresh (Nat.le_refl _)
  obtain ⟨W, ⟨m0, w0⟩, turn⟩ := q2 s.heap.objs.size hD
  have I3 : Inv X pins σ (upd H2 s.heap.objs.size (.lst [])) { s with heap := s.heap.push { cls := .type "list", data := .seq ([] : List Value).toArray } } := I2.lnew (t' := s.toks) (its := []) .nil (Nat.zero_le _)
  have ltD : ∀ b ∈ fp, b < s.heap.objs.size := fun b hb => by
    obtain ⟨o, e, _⟩ := T.obj 0 _ st2 b hb
    exact Heap.lt_size e
  have f3 : ∀ b ∈ fp, FpOk X pins (upd H2 s.heap.objs.size (.lst [])) b := fun b hb => ⟨by rw [upd_ne (Nat.ne_of_lt (ltD b hb))]; exact (f2 b hb).1, (f2 b hb).2⟩
  generalize hH : s.heap.push { cls := .type "list", data := .seq ([] : List Value).toArray } = H3 at I3 hns₁ hsb₁ ⊢
  have sz : H3.objs.size = s.heap.objs.size + 1 := by rw [← hH, Heap.size_push]
  have up : ∀ b o, H3.get? b = some o → h₁.get? b = some o := fun b o e => hsb₁.extBut b o (Nat.ne_of_lt (Heap.lt_size e)) (Heap.get?_push_of_some _ e)
  have old : ∀ b o, s.heap.get? b = some o → h₁.get? b = some o := fun b o e => up b o (by rw [← hH]; exact Heap.get?_push_of_some _ e)
  have lt3 : ∀ b ∈ fp, b < ({ s with heap := H3 } : Shared).heap.objs.size := fun b hb => by show b < H3.objs.size; rw [sz]; exact Nat.lt_succ_of_lt (ltD b hb)
  have st4 : tn 0 h₁ := T.keep _ _ _ st2 fun b _ o e => old b o e
  have stat : ∀ {H' : Hp}, (∀ b ∈ fp, H' b = none) → ∀ b ∈ fp, FpOk (cxC X (own ++ cap) scope H3.objs.size { s with heap := H3 } (upd H2 s.heap.objs.size (.lst [])) fp) [] H' b := fun hn b hb =>
    ⟨hn b hb, Nat.ne_of_lt (lt3 b hb), fun z => (List.mem_cons.mp (I3.stkSub b z)).elim (f2 b hb).2.1 (f2 b hb).2.2.1, .inl hb, fun x c e => (f2 b hb).2.2.2.2.1 x c (freeCl_sub _ _ _ (fun y d h => by cases h) _ _ e), fun p hp => absurd (show p ∈ ([] : List (Addr × Obj)) from hp) (by simp)⟩
  have loop : ∀ s₄ : Shared, s₄ = { s with heap := h₁, toks := s.toks + ([] : List (Str × Value)).length } →
      codeAny (model X.prog X.w) X.A (.compLoop (.ListComp elt [⟨tg, iter, ifs, 0⟩] scope pos) 0 (.ref it) (.ref s.heap.objs.size) (compEnvC scope (freeCl X.env.cells scope.names []) H3.objs.size X.env))
        (RR (.ref s.heap.objs.size) H3.objs.size) s₄ := by
    rintro s₄ rfl
    have I4 := inv_comp (own := own) (fp := fp) (tk := s.toks + ([] : List (Str × Value)).length) I3 S hix f3 lt3 hns₁ up
    refine codeAny_compLoop_all (fun n s' => ∃ i σ' ys H', Inv (cxC X (own ++ cap) scope H3.objs.size { s with heap := H3 } (upd H2 s.heap.objs.size (.lst [])) fp) [] σ' H' s' ∧ tn i s'.heap ∧ (∀ b ∈ fp, H' b = none) ∧ W i n σ' ys H') ?_ m0
      ⟨0, _, [], _, I4, st4, fun b hb => (f3 b hb).1, w0⟩
    rintro n s5 ⟨i, σ5, ys, H5, I5, st5, fr5, w5⟩
    obtain ⟨hD5, turn5⟩ := turn i n σ5 ys H5 w5
    rcases turn5 with ⟨stop, q⟩ | ⟨go, hz, step⟩
    · refine thn (T.done (cxC X (own ++ cap) scope H3.objs.size { s with heap := H3 } (upd H2 s.heap.objs.size (.lst [])) fp) rfl rfl rfl hc i [] s5 σ5 H5 _ I5 (stat fr5) st5 stop) fun r s6 hq0 => ?_
      obtain ⟨hr, I6⟩ := hq0
      subst hr
      obtain ⟨m6, hn6, _⟩ := I6.loc
      exact hR _ _ s6 H5 m6 hn6 (I3.fpOk (Nat.le_refl _) I6.free) (fun h' hs => inv_back I3 f3 I6 hs) q
    · refine thn (T.item (cxC X (own ++ cap) scope H3.objs.size { s with heap := H3 } (upd H2 s.heap.objs.size (.lst [])) fp) rfl rfl rfl hc i [] s5 σ5 H5 _ I5 (stat fr5) st5 go) fun r s6 hq0 => ?_
      obtain ⟨u, hr, h6⟩ := hq0
      subst hr
      refine thn h6 fun _ s7 hq0 => ?_
      obtain ⟨x, H7, I7, r7, y7, st7, fr7⟩ := hq0
      have I7' := I7.pinned (stat fr7) (T.obj _ _ st7)
      refine wpAny_mono (hg _ _ _ _ _ s7 σ5 H7 x u _ I7' r7 (step x H7 y7)) (fun _ s8 hq0 => ?_) fun _ _ z => False.elim z
      obtain ⟨σ8, H8, I8, q8⟩ := hq0
      refine wpAny_mono (ht _ _ _ _ _ s8 σ8 H8 _ I8 q8) (fun ok s9 hq0 => ?_) fun _ _ z => False.elim z
      obtain ⟨H9, I9, q9⟩ := hq0
      have again : ∀ {s' : Shared} {σ' : St} {H' : Hp} {ys' : List V} {m' : Nat}, Inv (cxC X (own ++ cap) scope H3.objs.size { s with heap := H3 } (upd H2 s.heap.objs.size (.lst [])) fp) ([] ++ pinsAt fp s7.heap) σ' H' s' → m' < n → W (i + 1) m' σ' ys' H' →
          ∃ m, m < n ∧ ∃ i σ' ys H', Inv (cxC X (own ++ cap) scope H3.objs.size { s with heap := H3 } (upd H2 s.heap.objs.size (.lst [])) fp) [] σ' H' s' ∧ tn i s'.heap ∧ (∀ b ∈ fp, H' b = none) ∧ W i m σ' ys H' := fun {s' σ' H' ys' m'} I' hm w' => by
        refine ⟨m', hm, i + 1, σ', ys', H', I'.unpinned, T.keep _ _ _ st7 fun b hb o e => (I'.pin (b, o) (List.mem_append_right _ (List.mem_append_right _ (mem_pinsAt hb e)))).1, fun b hb => ?_, w'⟩
        obtain ⟨o, e, d⟩ := T.obj _ _ st7 b hb
        exact (I'.pin (b, o) (List.mem_append_right _ (List.mem_append_right _ (mem_pinsAt hb e)))).2.1
      cases ok with
      | false =>
        rw [if_neg Bool.false_ne_true] at q9 ⊢
        obtain ⟨_, m', hm, w'⟩ := q9
        exact again I9 hm w'
      | true =>
        rw [if_pos rfl] at q9 ⊢
        refine wpAny_mono (he _ _ _ _ _ s9 σ8 H9 _ I9 q9) (fun v s10 hq0 => ?_) fun _ _ z => False.elim z
        obtain ⟨y, H10, I10, r10, hD10, m', hm, w'⟩ := hq0
        refine wpAny_mono (mt_append (X := cxC X (own ++ cap) scope H3.objs.size { s with heap := H3 } (upd H2 s.heap.objs.size (.lst [])) fp) _ s10 σ8 H10 (.ref s.heap.objs.size) [y] (.ref s.heap.objs.size) [v] (fun _ H' => H' = upd H10 s.heap.objs.size (.lst (ys ++ [y]))) I10 rfl (.cons r10 .nil) ⟨_, ys, y, rfl, rfl, hD10, hz, rfl⟩)
          (fun _ s11 ⟨_, H11, I11, _, e11⟩ => ?_) fun _ _ z => False.elim z
        subst e11
        exact again I11 hm w'
  exact codeAny_compStart_list (loop _ rfl) (T.self _ 0 _ _ _ st4 (loop _ rfl))

theorem pe_comp {osc : Scope} (hc : X.calm = true) (S' : CompScope scope osc cap) (hix : ix.map (fun i => X.N[i]?) = cap.map some) (hi : PI X tg iter wi)
    (hg : ∀ C s H ex, PG (cxC X (own ++ cap) scope C s H ex) tg g) (ht : ∀ C s H ex, PIf (cxC X (own ++ cap) scope C s H ex) ifs tc) (he : ∀ C s H ex, PE (cxC X (own ++ cap) scope C s H ex) elt te)
    (hs : ∀ x, foldedSetIterable iter X.env x = pure x := by intro _; rfl) (ho : X.env.scope = osc := by rfl) : PE X (.ListComp elt [⟨tg, iter, ifs, 0⟩] scope pos) (tComp own ix wi g tc te) := by
  have S : CompScope scope X.env.scope cap := ho ▸ S'
  intro pins s σ H Q I h
  rw [eval_ListComp]
  refine wpAny_comprehension_free (use := none) rfl hs (closure_of I S) S.kind S.loc (thn (hi pins s σ H _ I h) fun xv s₁ h₁ => thn h₁ fun itv s₂ h₂ => ?_)
  refine comp_run (RR := fun acc C => compPost (model X.prog X.w) X.A X.xe none (EP X pins σ Q) acc C) hc S hix hg ht he h₂ fun D C s' H' m hn _ hI q => ?_
  exact ⟨m, hn, fun h' hs' => ⟨.ref D, H', hI h' hs', rfl, q⟩⟩
/-- name = [e for ..], on one line: the name is stored ahead of the block's end -/
theorem ps_setC {osc : Scope} {i : Nat} {y : Str} {py spos : Pos} (hc : X.calm = true) (hN : X.N.Nodup) (hi' : X.N[i]? = some y) (hy : X.env.scope.names.lookup y = some .local)
    (hsw : swapsWith (.ListComp elt [⟨tg, iter, ifs, 0⟩] scope pos) (some (.Name y py)) spos.line X.env = pure true) (S' : CompScope scope osc cap) (hix : ix.map (fun i => X.N[i]?) = cap.map some) (hi : PI X tg iter wi)
    (hg : ∀ C s H ex, PG (cxC X (own ++ cap) scope C s H ex) tg g) (ht : ∀ C s H ex, PIf (cxC X (own ++ cap) scope C s H ex) ifs tc) (he : ∀ C s H ex, PE (cxC X (own ++ cap) scope C s H ex) elt te)
    (hs : ∀ x, foldedSetIterable iter X.env x = pure x := by intro _; rfl) (ho : X.env.scope = osc := by rfl) : PS X (.Assign [.Name y py] (.ListComp elt [⟨tg, iter, ifs, 0⟩] scope pos) spos) (tAsg (tComp own ix wi g tc te) (gName i)) := by
  have S : CompScope scope X.env.scope cap := ho ▸ S'
  intro pins s σ H D I h
  rw [exec_Assign_Name_used _ _ _ _ hsw]
  refine wpAny_bind (wpAny_standAt (wpAny_bind ?_))
  show wpAny _ X.A (do let _ ← comprehension (.ListComp elt [⟨tg, iter, ifs, 0⟩] scope pos) scope X.env _ (newList []) false (eval iter X.env) (some (assign (.Name y py) X.env))) _ _ s
  refine wpAny_bind (wpAny_mono (wpAny_comprehension_free (use := some (assign (.Name y py) X.env)) (Q := fun _ s' => SP X pins D .next s') rfl hs (closure_of I S) S.kind S.loc
    (thn (hi pins s σ H _ I h) fun xv s₁ h₁ => thn h₁ fun itv s₂ h₂ => ?_)) (fun _ s' hq => wpAny_pure (wpAny_pure hq)) fun _ _ e => e)
  refine comp_run (RR := fun acc C => compPost (model X.prog X.w) X.A X.xe (some (assign (.Name y py) X.env)) (fun _ s' => SP X pins D .next s') acc C) hc S hix hg ht he h₂ fun D' C s' H' m hn hF hI q => ?_
  show wpAny _ X.A (assign (.Name y py) X.env (.ref D')) _ _ _
  have I' : Inv X pins σ H' s' := hI s'.heap (Heap.SameBut.refl ..)
  refine wpAny_assign_Name (store_ok2 I' hN hi' (.inl hy) (v := .ref D') rfl (fun s'' I'' hq0 => ?_) (.inr hy))
  obtain ⟨a, hs'', ha⟩ := hq0
  obtain ⟨f0, f1, f2, f3, f4, f5⟩ := hF
  have hCa : C ≠ a := by
    rcases ha with ha | ha
    · rw [ha]; exact f1
    · exact fun z => f4 _ _ ha z.symm
  exact ⟨m, hn.sameBut hs'' hCa, fun h' hs' => ⟨_, H', I''.turned (t' := s''.toks) (fun b o hb e => (hs'.2 b hb).trans e) f0 f1 f3 f4 f5, q⟩⟩
end

/-! ### walks over values that stay as they are -/
/-- J gives xs one by one and leaves the heap, where P holds -/
structure Fix (J : It) (xs : List V) (P : Hp → Prop) : Prop where
  go : ∀ i H, P H → i < xs.length → J.go i H
  yld : ∀ i H x H', P H → J.yld i H x H' → H' = H ∧ (i < xs.length → xs[i]? = some x)
  stop : ∀ i H, P H → xs.length ≤ i → J.stop i H
theorem fix_list {K : PySem.W.Frag} {a : Addr} {xs : List V} : Fix (Itl K a) xs (fun H => SqL K H a xs) :=
  ⟨fun i H h hi => ⟨xs, xs[i], h, by simp [hi]⟩, fun i H x H' h y => ⟨y.1, fun _ => y.2 xs h⟩, fun i H h hi => ⟨xs, h, hi⟩⟩
theorem fix_rng {lo : Int} {n : Nat} : Fix (Itr lo n) ((List.range n).map fun i => V.int (lo + (i : Nat))) (fun _ => True) :=
  ⟨fun i H h hi => by show i < n; simpa using hi, fun i H x H' h y => ⟨y.1, fun hi => by
    have hi' : i < n := by simpa using hi
    rw [List.getElem?_map, List.getElem?_range hi', y.2]; rfl⟩, fun i H h hi => by show n ≤ i; simpa using hi⟩


/-- a comprehension with one name over such values whose test and element change nothing -/
theorem comp_pure {J : It} {xs : List V} {P : Hp → Prop} {own : List Str} {ix : List Nat} {tc : TT} {te : TE} {σ : St} {H1 : Hp} {D : Addr} {Q : VK} (F : Fix J xs P) (p : V → Bool) (f : V → V)
    (hP : ∀ ys, P (upd H1 D (.lst ys))) (hz : xs.length ≤ sizeLine)
    (ht : ∀ x ∈ xs, ∀ ys (Q' : Bool → Hp → Prop), Q' (p x) (upd H1 D (.lst ys)) → tc ((st0 own ix σ).set 0 (some x)) (upd H1 D (.lst ys)) Q')
    (he : ∀ x ∈ xs, p x = true → ∀ ys (Q' : VK), Q' (f x) (upd H1 D (.lst ys)) → te ((st0 own ix σ).set 0 (some x)) (upd H1 D (.lst ys)) Q')
    (hQ : Q (.ref D) (upd H1 D (.lst ((xs.filter p).map f)))) : CompW own ix J (gName 0) tc te σ H1 D Q := by
  refine ⟨fun i m σ' ys H' => m = xs.length - i ∧ i ≤ xs.length ∧ (∀ z, σ'.set 0 z = (st0 own ix σ).set 0 z) ∧ ys = ((xs.take i).filter p).map f ∧ H' = upd H1 D (.lst ys),
    ⟨xs.length, by simp, Nat.zero_le _, fun _ => rfl, by simp, rfl⟩, ?_⟩
  rintro i m σ' ys H' ⟨rfl, hi, hσ, rfl, rfl⟩
  refine ⟨upd_same, ?_⟩
  by_cases hlt : i < xs.length
  · refine .inr ⟨F.go i _ (hP _) hlt, ?_, fun x H2 y => ?_⟩
    · rw [List.length_map]
      have h1 : ((xs.take i).filter p).length ≤ (xs.take i).length := List.length_filter_le _ _
      rw [List.length_take] at h1
      omega
    · obtain ⟨e, y'⟩ := F.yld i _ x H2 (hP _) y
      subst e
      have hx := y' hlt
      have hm : x ∈ xs := List.mem_of_getElem? hx
      have tk := take_succ_filter p xs i x hx
      show tc (σ'.set 0 (some x)) _ _
      rw [hσ]
      refine ht x hm _ _ ?_
      have σσ : ∀ z, ((st0 own ix σ).set 0 (some x)).set 0 z = (st0 own ix σ).set 0 z := fun z => List.set_set ..
      cases hp : p x with
      | true =>
        rw [if_pos rfl]
        refine he x hm hp _ _ ⟨upd_same, xs.length - (i + 1), by omega, rfl, hlt, σσ, ?_, ?_⟩
        · rw [tk, hp]; simp
        · rw [upd_upd]
      | false =>
        rw [if_neg Bool.false_ne_true]
        refine ⟨upd_same, xs.length - (i + 1), by omega, rfl, hlt, σσ, ?_, ?_⟩
        · rw [tk, hp]; simp
        · rfl
  · have e : i = xs.length := by omega
    subst e
    refine .inl ⟨F.stop _ _ (hP _) (Nat.le_refl _), ?_⟩
    rw [List.take_length]
    exact hQ

/-! ### for c in text -/
def sg (c : Nat) : V := .str ⟨#[c]⟩

/-! ### some of Python's own -/
section
variable {X : Cx}
theorem boolsAre_of : ∀ {bs : List Bool} {us : List Value}, Vals (bs.map V.bl) us → us = bs.map Value.bool
  | [], _, r => by cases r; rfl
  | b :: bs, _, r => by
    cases r with
    | cons r1 r2 => rw [show _ = Value.bool b from r1, boolsAre_of r2]; rfl
def rSlS : V → Option Int → Option Int → Hp → VK → Prop := fun x lo hi H Q => ∃ z, x = .str z ∧ z.length ≤ sizeLine ∧ Q (.str (Txt.slice z lo hi)) H
theorem sl_str : SlR X rSlS := by
  intro pins s σ H x v vl vu lo hi sl Q I rx hs pl pu h
  obtain ⟨z, rfl, hz, q⟩ := h
  obtain ⟨t, rfl⟩ := rx
  refine ⟨"str", _, F.slot_str_getitem.lookup, typeIs_str _ _ _, ?_⟩
  have fin : ∀ (t' : Tok) (k : Nat), EP X pins σ Q (.str (Txt.slice z lo hi) t') { s with toks := k } := fun t' k => ⟨.str _, H, I.tok k, ⟨_, rfl⟩, q⟩
  obtain ⟨o, ho, hcl, hd⟩ := hs
  cases pl <;> cases pu
  · exact wpAny_getItem_str_slice (l := none) (u := none) (st := none) ⟨o, ho, hcl, hd⟩ rfl (post_val_or_str ⟨Nat.le_trans (Txt.slice_le z _ _) hz, fin⟩)
  · exact wpAny_getItem_str_slice (l := none) (u := some (_, _)) (st := none) ⟨o, ho, hcl, hd⟩ rfl (post_val_or_str ⟨Nat.le_trans (Txt.slice_le z _ _) hz, fin⟩)
  · exact wpAny_getItem_str_slice (l := some (_, _)) (u := none) (st := none) ⟨o, ho, hcl, hd⟩ rfl (post_val_or_str ⟨Nat.le_trans (Txt.slice_le z _ _) hz, fin⟩)
  · exact wpAny_getItem_str_slice (l := some (_, _)) (u := some (_, _)) (st := none) ⟨o, ho, hcl, hd⟩ rfl (post_val_or_str ⟨Nat.le_trans (Txt.slice_le z _ _) hz, fin⟩)
/-- isinstance(x, T), T one of Python's own -/
theorem call_isi : CallR X (.builtin "isinstance") (fun xs H Q => ∃ x t n b, xs = [x, V.ty n] ∧ TyOf X.K H x t ∧ PySem.W.kitOne X.K t (.type n) = some b ∧ Q (.bl b) H) := by
  intro pins s σ H xs us Q I r h
  obtain ⟨x, t, n, b, rfl, ty, e, q⟩ := h
  obtain ⟨u, w', rfl, ru, rw'⟩ := vals2 r
  cases rw'
  exact isinst_ok I ru ty e fun tk => ⟨.bl b, H, I.tok tk, rfl, q⟩
end
end L2

/-! SHORT WORDS: a def of the text by its name, its promise, a call of it. -/
namespace L2
open PySem PySem.Spec PyProof.Rows
/-! lists of a length that is known: no matcher is laid -/
theorem len1 {Pl : List Value → Prop} (h : ∀ a, Pl [a]) : ∀ us : List Value, us.length = 1 → Pl us
  | [a], _ => h a
theorem len2 {Pl : List Value → Prop} (h : ∀ a b, Pl [a, b]) : ∀ us : List Value, us.length = 2 → Pl us
  | [a, b], _ => h a b
theorem len3 {Pl : List Value → Prop} (h : ∀ a b c, Pl [a, b, c]) : ∀ us : List Value, us.length = 3 → Pl us
  | [a, b, c], _ => h a b c
theorem len5 {Pl : List Value → Prop} (h : ∀ a b c d e, Pl [a, b, c, d, e]) : ∀ us : List Value, us.length = 5 → Pl us
  | [a, b, c, d, e], _ => h a b c d e

/-- the def x of the text, as the top has left it -/
def Df (K : PySem.W.Frag) (mg : Str → Option Value) (x : Str) (st : Stmt) (ps : List Str) : Prop :=
  ∃ (f : Addr) (fd : FuncData), Fun K x x st f fd ∧ mg x = some (.ref f) ∧ ∀ us : List Value, us.length = ps.length → bindArgs fd ⟨us, []⟩ = pure (ps.zip us)
theorem df_mk {K : PySem.W.Frag} {h : Heap} {mg : Str → Option Value} (X : K.In h) (G : h.Ns mainGlobals mg) {x : Str} {st : Stmt} {ps : List Str} {f : Addr} {oc kV dc pm cd ct : Value} {od an : Option Addr} {sl : Array (Option Value)}
    (hb : ∀ (kV doc pm : Value) (an : Option Addr) (cdv ct : Value) (us : List Value), us.length = ps.length → bindArgs (PySem.W.fnOf x x (defArgs st) (defBody st) (defScope st) .none kV doc pm an cdv ct) ⟨us, []⟩ = pure (ps.zip us))
    (a : PySem.W.nsIn K mainGlobals x = some (some (.ref f))) (l : K.lookup f = some ⟨oc, od, .func (PySem.W.fnOf x x (defArgs st) (defBody st) (defScope st) .none kV dc pm an cd ct), sl⟩) (c : PySem.W.codeIn K cd x = true) (k : PySem.W.keepIn K (.ref f) = true) : Df K mg x st ps :=
  ⟨f, _, fun_mk l c k, PySem.W.mg_of X G a, fun us hl => hb kV dc pm an cd ct us hl⟩
theorem const_mk {K : PySem.W.Frag} {h : Heap} {mg : Str → Option Value} (X : K.In h) (G : h.Ns mainGlobals mg) {x : Str} {u : Value} (a : PySem.W.nsIn K mainGlobals x = some (some u)) : mg x = some u := PySem.W.mg_of X G a
theorem blt_mk {K : PySem.W.Frag} {h : Heap} {mg : Str → Option Value} (X : K.In h) (G : h.Ns mainGlobals mg) {x : Str} (a : PySem.W.nsIn K mainGlobals x = some none) : mg x = none := PySem.W.mg_none_of X G a
/-- what a def promises -/
def Has (P : Program) (w : World) (K : PySem.W.Frag) (mg : Str → Option Value) (base : Heap) (x : Str) (ps : List Str) (k : Nat) (sp : Sp) : Prop :=
  ∃ (f : Addr) (fd : FuncData), mg x = some (.ref f) ∧ PySem.W.keepIn K (.ref f) = true ∧ (∃ oc od osl, K.lookup f = some ⟨oc, od, .func fd, osl⟩) ∧ (∀ us : List Value, us.length = ps.length → bindArgs fd ⟨us, []⟩ = pure (ps.zip us)) ∧ FnOk P w K mg base CX0 k f fd ps sp
section
variable {P : Program} {w : World} {K : PySem.W.Frag} {mg : Str → Option Value} {base : Heap}
/-- THE RULE: a def keeps its promise, by its body -/
theorem Df.has {x : Str} {st : Stmt} {N ps : List Str} {k : Nat} {sp : Sp} (D : Df K mg x st ps) (S : FnScope N ps (defScope st)) (len : ∀ vs H Q E, sp vs H Q E → vs.length = ps.length)
    (hbody : ∀ (f : Addr) (cdv : Value) (A : Around) (outer : List Env) (s : Shared) (H : Hp) (vs : List V) (Q : VK) (E : XK), Room k (A.deeper (envOfC x (defScope st) s.heap.objs.size f cdv)) → sp vs H Q E →
      ∃ t, PSs (cxOf CX0 P w K mg base N x (defScope st) f cdv A outer s H E).nox (defBody st) t ∧ t { nx := fun _ H' => Q .non H', rt := Q } (start N vs) H) : Has P w K mg base x ps (k + 1) sp := by
  obtain ⟨f, fd, F, a, b⟩ := D
  obtain ⟨oc, od, kV, doc, pm, an, cdv, ct, osl, e, lk, hcd⟩ := id F.ex
  exact ⟨f, fd, a, F.kp, ⟨oc, od, osl, lk⟩, b, F.ok S len (hbody f)⟩
end
section
variable {X : Cx} {k : Nat} {ps : List Str} {sp : Sp} {x : Str} {p pos : Pos} {e : Expr} {es : List Expr} {t : TA}
/-- f(e, ..) of a def that has promised -/
theorem pe_fn (F : Has X.prog X.w X.K X.mg X.base x ps k sp) (hr : Room k X.A) (hg : Gl X x) (ha : PA X (e :: es) t) (hdb : (x == ("__debug__" : Str)) = false := by decide)
    (he : starEach (e :: es) X.env = (false, eval e X.env) :: starEach es X.env := by rfl) (hpl : (backTo pos (starEach es X.env)).any (·.1) = false := by rfl) : PE X (.Call (.Name x p) (e :: es) [] pos) (tCall sp [] E0 t) := by
  obtain ⟨f, fd, a, kp, lk, b, G⟩ := F
  exact pe_call G hr hg a kp (.all b) .nil pass0 ha hdb he hpl
end
/-- THE HEAD of a law of one script of at most 63 ints -/
theorem law_walk {l : PySem.W.OpenLaw} {q : Program} {loose : List Str} {XP : (Str → Option Value) → Heap → Prop} {YP : World → Heap → Prop} {d : DefRec} {K : Params → PySem.W.Frag} {k : Nat} {x : Str} {sp : PySem.W.Frag → Sp}
    (hn : l.most = some 63) (hdf : d.params.defaults = []) (hr : Room k callerA) (hY : ∀ (w : World) (h : Heap), YP w h → (K w.params).In h)
    (hsp : ∀ (K : PySem.W.Frag) (H : Hp) (a : Addr) (ns : List Int), ns.length ≤ 63 → SqL K H a (ns.map V.int) → sp K [.ref a] H (fun v _ => v = .bl true) fun _ _ _ => False)
    (F : ∀ (w : World) (mg : Str → Option Value) (h : Heap), (K w.params).In h → h.Ns mainGlobals mg → ∀ base : Heap, (K w.params).In base → base.Ns mainGlobals mg → Has l.prog w (K w.params) mg base d.name [x] k (sp (K w.params))) :
    PySem.W.WalkO q loose XP YP l.row.toRowW d [] (fun f vs => PySem.call f vs) := by
  refine L2.walk_ofK (n := 63) (k := k) (x := x) (CX := CX0) (sp := sp) hn (by decide) hdf hr hY (fun w mg fa h KX G hmg => ?_) (fun K H a ns hl _ hS => hsp K H a ns hl hS) fun _ _ _ _ z => z
  obtain ⟨f, fd, a, kp, ⟨oc, od, osl, lk⟩, b, _⟩ := F w mg h KX G h KX G
  have ef : fa = f := by
    rw [hmg] at a
    cases a; rfl
  subst ef
  refine ⟨fd, fun s u => .of_eq (b [u] rfl), fun base kb nb => ?_⟩
  obtain ⟨f', fd', a', kp', ⟨oc', od', osl', lk'⟩, b', G'⟩ := F w mg h KX G base kb nb
  have ef : f' = fa := by
    rw [hmg] at a'
    cases a'; rfl
  subst ef
  rw [lk] at lk'
  cases lk'
  exact G'
end L2

/-! == of lists and tuples at any depth; in, not in over such items; sorted of two ints; str of a word. -/
namespace L2
open PySem PySem.Spec PyProof.Rows
/-- x == y comes out as b, at most n levels deep -/
inductive DEq (K : PySem.W.Frag) (H : Hp) : Nat → V → V → Bool → Prop where
  | flat {n : Nat} {x y : V} (fx : flatV x = true) (fy : flatV y = true) : DEq K H n x y (eqV x y)
  | lst {n : Nat} {a b : Addr} {xs ys : List V} (e : Nat → Bool) (hx : SqL K H a xs) (hy : SqL K H b ys) (hl : xs.length = ys.length) (he : ∀ (i : Nat) x y, xs[i]? = some x → ys[i]? = some y → DEq K H n x y (e i)) :
      DEq K H (n + 1) (.ref a) (.ref b) ((List.range xs.length).all e)
  | lstN {n : Nat} {a b : Addr} {xs ys : List V} (hx : SqL K H a xs) (hy : SqL K H b ys) (hl : xs.length ≠ ys.length) : DEq K H (n + 1) (.ref a) (.ref b) false
  | tup {n : Nat} {a b : Addr} {xs ys : List V} (e : Nat → Bool) (hx : SqT K H a xs) (hy : SqT K H b ys) (he : ∀ (i : Nat) x y, xs[i]? = some x → ys[i]? = some y → DEq K H n x y (e i)) :
      DEq K H (n + 1) (.ref a) (.ref b) ((List.range (min xs.length ys.length)).all e && xs.length == ys.length)
  | lt {n : Nat} {a b : Addr} {xs ys : List V} (hx : SqL K H a xs) (hy : SqT K H b ys) : DEq K H (n + 1) (.ref a) (.ref b) false
  | tl {n : Nat} {a b : Addr} {xs ys : List V} (hx : SqT K H a xs) (hy : SqL K H b ys) : DEq K H (n + 1) (.ref a) (.ref b) false
theorem eqV_refl {x : V} (h : flatV x = true) : eqV x x = true := by
  cases x <;> first | rfl | (simp [flatV] at h; done) | (simp [eqV]; done)
section
variable {X : Cx} {pins : List (Addr × Obj)} {σ : St} {H : Hp} {s : Shared}
theorem notBoth (I : Inv X pins σ H s) {a : Addr} {xs ys : List V} (hx : SqL X.K H a xs) (hy : SqT X.K H a ys) : False := by
  obtain ⟨its, _, ⟨o, n, e, c, _, _⟩, _⟩ := I.list hx
  obtain ⟨its', _, ⟨o', e', c', _⟩, _⟩ := I.tuple hy
  rw [e] at e'
  cases e'
  rw [c] at c'
  injection c' with c'
  exact absurd c' (by decide)
theorem DEq.refl (I : Inv X pins σ H s) {n : Nat} {x y : V} {b : Bool} (h : DEq X.K H n x y b) : x = y → b = true := by
  induction h with
  | flat fx fy => intro e; subst e; exact eqV_refl fx
  | lst e hx hy hl he ih =>
    intro q
    cases q
    have := I.list_inj hx hy
    subst this
    rw [List.all_eq_true]
    intro i hi
    have hi := List.mem_range.mp hi
    exact ih i _ _ (List.getElem?_eq_getElem hi) (List.getElem?_eq_getElem hi) rfl
  | lstN hx hy hl =>
    intro q
    cases q
    exact absurd (congrArg List.length (I.list_inj hx hy)) hl
  | tup e hx hy he ih =>
    intro q
    cases q
    have := I.tuple_inj hx hy
    subst this
    rw [Nat.min_self, beq_self_eq_true, Bool.and_true, List.all_eq_true]
    intro i hi
    have hi := List.mem_range.mp hi
    exact ih i _ _ (List.getElem?_eq_getElem hi) (List.getElem?_eq_getElem hi) rfl
  | lt hx hy => intro q; cases q; exact (notBoth I hx hy).elim
  | tl hx hy => intro q; cases q; exact (notBoth I hy hx).elim
theorem in1_units (A : Around) : A.in1.units ≤ A.units + 1 := by
  first
    | exact Nat.le_refl _
    | exact Nat.le_succ _
    | (unfold Around.in1; simp)
/-- of the objects themselves; as an item -/
theorem DEq.at (I : Inv X pins σ H s) {n : Nat} {x y : V} {b : Bool} (h : DEq X.K H n x y b) : ∀ {u v : Value} {A : Around}, RelV x u → RelV y v → A.units + n < cLine →
    SeqAt.EqAt A s u v b ∧ ((∃ p q, x = .ref p ∧ y = .ref q) → SeqAt.RcAt A s u v b) := by
  induction h with
  | flat fx fy =>
    intro u v A ru rv hu
    refine ⟨eqAt_V ru rv fx fy, fun hq0 => ?_⟩
    obtain ⟨p, q, e, _⟩ := hq0
    subst e
    cases fx
  | @lst n a b xs ys e hx hy hl he ih =>
    intro u v A ru rv hu
    cases ru
    cases rv
    obtain ⟨its, r1, p1, _⟩ := I.list hx
    obtain ⟨its2, r2, p2, _⟩ := I.list hy
    have l1 := r1.length
    have l2 := r2.length
    have h1 := in1_units A
    have rc : SeqAt.RcAt A s (.ref a) (.ref b) ((List.range xs.length).all e) := by
      have := SeqAt.RcAt.lists (A := A) (e := e) p1.isList p2.isList (by simp; omega) (by omega) (fun j j1 j2 => by
        have g1 : xs[j]? = some (xs[j]'(by simp at j1; omega)) := List.getElem?_eq_getElem _
        have g2 : ys[j]? = some (ys[j]'(by simp at j2; omega)) := List.getElem?_eq_getElem _
        obtain ⟨w1, q1, t1⟩ := r1.get g1
        obtain ⟨w2, q2, t2⟩ := r2.get g2
        have := (ih j _ _ g1 g2 t1 t2 (A := A.in1) (by omega)).1
        have z1 : its.toArray[j] = w1 := by
          have := List.getElem?_eq_some_iff.mp q1
          obtain ⟨_, z⟩ := this
          simpa using z
        have z2 : its2.toArray[j] = w2 := by
          have := List.getElem?_eq_some_iff.mp q2
          obtain ⟨_, z⟩ := this
          simpa using z
        rw [z1, z2]
        exact this)
      have es : its.toArray.size = xs.length := by simp; omega
      rw [es] at this
      exact this
    refine ⟨?_, fun _ => rc⟩
    by_cases hab : a = b
    · subst hab
      have := (DEq.lst e hx hy hl he).refl I rfl
      rw [this]
      exact .same _
    · exact .of_refs hab rc
  | @lstN n a b xs ys hx hy hl =>
    intro u v A ru rv hu
    cases ru
    cases rv
    obtain ⟨its, r1, p1, _⟩ := I.list hx
    obtain ⟨its2, r2, p2, _⟩ := I.list hy
    have l1 := r1.length
    have l2 := r2.length
    have rc : SeqAt.RcAt A s (.ref a) (.ref b) false := SeqAt.RcAt.lists_lengths p1.isList p2.isList (by simp; omega) (by omega)
    refine ⟨?_, fun _ => rc⟩
    by_cases hab : a = b
    · subst hab
      exact absurd (congrArg List.length (I.list_inj hx hy)) hl
    · exact .of_refs hab rc
  | @tup n a b xs ys e hx hy he ih =>
    intro u v A ru rv hu
    cases ru
    cases rv
    obtain ⟨its, r1, p1, _⟩ := I.tuple hx
    obtain ⟨its2, r2, p2, _⟩ := I.tuple hy
    have l1 := r1.length
    have l2 := r2.length
    have h1 := in1_units A
    have rc : SeqAt.RcAt A s (.ref a) (.ref b) ((List.range (min xs.length ys.length)).all e && xs.length == ys.length) := by
      have := SeqAt.RcAt.tuples (A := A) (e := e) (show s.heap.IsTuple a its.toArray from p1) (show s.heap.IsTuple b its2.toArray from p2) (by omega) (fun j j1 j2 => by
        have g1 : xs[j]? = some (xs[j]'(by simp at j1; omega)) := List.getElem?_eq_getElem _
        have g2 : ys[j]? = some (ys[j]'(by simp at j2; omega)) := List.getElem?_eq_getElem _
        obtain ⟨w1, q1, t1⟩ := r1.get g1
        obtain ⟨w2, q2, t2⟩ := r2.get g2
        have := (ih j _ _ g1 g2 t1 t2 (A := A.in1) (by omega)).1
        have z1 : its.toArray[j] = w1 := by
          have := List.getElem?_eq_some_iff.mp q1
          obtain ⟨_, z⟩ := this
          simpa using z
        have z2 : its2.toArray[j] = w2 := by
          have := List.getElem?_eq_some_iff.mp q2
          obtain ⟨_, z⟩ := this
          simpa using z
        rw [z1, z2]
        exact this)
      have es : its.toArray.size = xs.length := by simp; omega
      have es2 : its2.toArray.size = ys.length := by simp; omega
      rw [es, es2] at this
      exact this
    refine ⟨?_, fun _ => rc⟩
    by_cases hab : a = b
    · subst hab
      have := (DEq.tup e hx hy he).refl I rfl
      rw [this]
      exact .same _
    · exact .of_refs hab rc
  | @lt n a b xs ys hx hy =>
    intro u v A ru rv hu
    cases ru
    cases rv
    obtain ⟨its, r1, p1, _⟩ := I.list hx
    obtain ⟨its2, r2, p2, _⟩ := I.tuple hy
    exact ⟨SeqAt.EqAt.list_tuple p1.isList (show s.heap.IsTuple b its2.toArray from p2) (by omega), fun _ => SeqAt.RcAt.list_tuple p1.isList (show s.heap.IsTuple b its2.toArray from p2) (by omega)⟩
  | @tl n a b xs ys hx hy =>
    intro u v A ru rv hu
    cases ru
    cases rv
    obtain ⟨its, r1, p1, _⟩ := I.tuple hx
    obtain ⟨its2, r2, p2, _⟩ := I.list hy
    exact ⟨SeqAt.EqAt.tuple_list (show s.heap.IsTuple a its.toArray from p1) p2.isList (by omega), fun _ => SeqAt.RcAt.tuple_list (show s.heap.IsTuple a its.toArray from p1) p2.isList (by omega)⟩
end
section
variable {X : Cx} {pins : List (Addr × Obj)} {σ : St} {H : Hp} {s : Shared}
theorem items_at (I : Inv X pins σ H s) {n : Nat} {xs ys : List V} {its its2 : List Value} {e : Nat → Bool} (r1 : Vals xs its) (r2 : Vals ys its2) (he : ∀ (i : Nat) x y, xs[i]? = some x → ys[i]? = some y → DEq X.K H n x y (e i)) {A : Around} (hu : A.units + n < cLine) :
    ∀ (j : Nat) (h1 : j < its.toArray.size) (h2 : j < its2.toArray.size), SeqAt.EqAt A s its.toArray[j] its2.toArray[j] (e j) := fun j j1 j2 => by
  have l1 := r1.length
  have l2 := r2.length
  have g1 : xs[j]? = some (xs[j]'(by simp at j1; omega)) := List.getElem?_eq_getElem _
  have g2 : ys[j]? = some (ys[j]'(by simp at j2; omega)) := List.getElem?_eq_getElem _
  obtain ⟨w1, q1, t1⟩ := r1.get g1
  obtain ⟨w2, q2, t2⟩ := r2.get g2
  have := ((he j _ _ g1 g2).at I t1 t2 (A := A) hu).1
  have z1 : its.toArray[j] = w1 := by
    obtain ⟨_, z⟩ := List.getElem?_eq_some_iff.mp q1
    simpa using z
  have z2 : its2.toArray[j] = w2 := by
    obtain ⟨_, z⟩ := List.getElem?_eq_some_iff.mp q2
    simpa using z
  rw [z1, z2]
  exact this
theorem DEq.ne (I : Inv X pins σ H s) {n : Nat} {p q : Addr} {b : Bool} (h : DEq X.K H n (.ref p) (.ref q) b) {A : Around} (hu : A.units + n < cLine) : SeqAt.RcNeAt A s (.ref p) (.ref q) (!b) := by
  have h1 := in1_units A
  cases h with
  | flat fx fy => cases fx
  | lst e hx hy hl he =>
    obtain ⟨its, r1, p1, _⟩ := I.list hx
    obtain ⟨its2, r2, p2, _⟩ := I.list hy
    have l1 := r1.length
    have l2 := r2.length
    have := SeqAt.RcNeAt.lists (A := A) (e := e) p1.isList p2.isList (by simp; omega) (by omega) (items_at I r1 r2 he (A := A.in1) (by omega))
    rw [List.size_toArray, ← l1] at this
    exact this
  | lstN hx hy hl =>
    obtain ⟨its, r1, p1, _⟩ := I.list hx
    obtain ⟨its2, r2, p2, _⟩ := I.list hy
    have l1 := r1.length
    have l2 := r2.length
    exact SeqAt.RcNeAt.lists_lengths p1.isList p2.isList (by simp; omega) (by omega)
  | tup e hx hy he =>
    obtain ⟨its, r1, p1, _⟩ := I.tuple hx
    obtain ⟨its2, r2, p2, _⟩ := I.tuple hy
    have l1 := r1.length
    have l2 := r2.length
    have := SeqAt.RcNeAt.tuples (A := A) (e := e) (show s.heap.IsTuple p its.toArray from p1) (show s.heap.IsTuple q its2.toArray from p2) (by omega) (items_at I r1 r2 he (A := A.in1) (by omega))
    rw [List.size_toArray, List.size_toArray, ← l1, ← l2] at this
    exact this
  | lt hx hy =>
    obtain ⟨its, r1, p1, _⟩ := I.list hx
    obtain ⟨its2, r2, p2, _⟩ := I.tuple hy
    exact SeqAt.RcNeAt.list_tuple p1.isList (show s.heap.IsTuple q its2.toArray from p2) (by omega)
  | tl hx hy =>
    obtain ⟨its, r1, p1, _⟩ := I.tuple hx
    obtain ⟨its2, r2, p2, _⟩ := I.list hy
    exact SeqAt.RcNeAt.tuple_list (show s.heap.IsTuple p its.toArray from p1) p2.isList (by omega)
end
section
variable {X : Cx}
/-- == of two lists or tuples -/
def rEqD (K : PySem.W.Frag) : R2 := fun x y H Q => ∃ p q b, x = .ref p ∧ y = .ref q ∧ DEq K H 8 x y b ∧ Q (.bl b) H
theorem op_eqD (hu : X.A.units + 9 < cLine) : OpR X (compareOp .Eq) (rEqD X.K) := by
  intro pins s σ H x y v u Q I rx ry h
  obtain ⟨p, q, b, rfl, rfl, d, hq⟩ := h
  exact (d.at I rx ry (A := X.A) (by omega)).2 ⟨p, q, rfl, rfl⟩ X.prog X.w _ _ ⟨.bl b, H, I, rfl, hq⟩
def rNeD (K : PySem.W.Frag) : R2 := fun x y H Q => ∃ p q b, x = .ref p ∧ y = .ref q ∧ DEq K H 8 x y b ∧ Q (.bl (!b)) H
theorem op_neD (hu : X.A.units + 9 < cLine) : OpR X (compareOp .NotEq) (rNeD X.K) := by
  intro pins s σ H x y v u Q I rx ry h
  obtain ⟨p, q, b, rfl, rfl, d, hq⟩ := h
  cases rx
  cases ry
  exact d.ne I (A := X.A) (by omega) X.prog X.w _ _ ⟨.bl (!b), H, I, rfl, hq⟩
/-- x in a list (or tuple) whose items may be lists and tuples -/
def rInD (K : PySem.W.Frag) (neg : Bool) : R2 := fun x y H Q => ∃ (p : Addr) (xs : List V) (e : V → Bool), y = .ref p ∧ (SqL K H p xs ∨ SqT K H p xs) ∧ (∀ z ∈ xs, DEq K H 8 z x (e z)) ∧ Q (.bl (if neg then !xs.any e else xs.any e)) H
theorem valsMem : ∀ {xs : List V} {us : List Value} {u : Value}, Vals xs us → u ∈ us → ∃ x ∈ xs, RelV x u
  | _, _, _, .cons r t, h => by
    rcases List.mem_cons.mp h with h | h
    · subst h; exact ⟨_, List.mem_cons_self .., r⟩
    · obtain ⟨x, hx, q⟩ := valsMem t h
      exact ⟨x, List.mem_cons_of_mem _ hx, q⟩
def absE (e : V → Bool) (u : Value) : Bool := match absV u with
  | some x => e x
  | none => false
theorem absE_of {e : V → Bool} {x : V} {u : Value} (r : RelV x u) : absE e u = e x := by unfold absE; rw [r.abs]
theorem any_abs {e : V → Bool} : ∀ {xs : List V} {us : List Value}, Vals xs us → us.any (absE e) = xs.any e
  | _, _, .nil => rfl
  | _, _, .cons r t => by rw [List.any_cons, List.any_cons, absE_of r, any_abs t]
theorem op_notInD (hu : X.A.units + 10 < cLine) : OpR X (compareOp .NotIn) (rInD X.K true) := by
  intro pins s σ H x y v u Q I rx ry h
  obtain ⟨p, xs, e, rfl, hq, hd, q⟩ := h
  cases ry
  have h1 := in1_units X.A
  have items : ∀ {its : List Value}, Vals xs its → ∀ z, z ∈ its.toArray → SeqAt.EqAt X.A.in1 s z v (absE e z) := fun {its} r z hz => by
    obtain ⟨x', hx', rz⟩ := valsMem r (by simpa using hz)
    rw [absE_of rz]
    exact ((hd x' hx').at I rz rx (A := X.A.in1) (by omega)).1
  rcases hq with hq | hq
  · obtain ⟨its, r, pl, hz⟩ := I.list hq
    refine SeqAt.notIn_listAt (absE e) pl.isList (items r) ⟨.bl _, H, I, rfl, ?_⟩
    rw [show its.toArray.any (absE e) = its.any (absE e) by simp, any_abs r]
    exact q
  · obtain ⟨its, r, pl, hz⟩ := I.tuple hq
    refine SeqAt.notIn_tupleAt (absE e) pl (items r) ⟨.bl _, H, I, rfl, ?_⟩
    rw [show its.toArray.any (absE e) = its.any (absE e) by simp, any_abs r]
    exact q
end
end L2
namespace L2
open PySem PySem.Spec PyProof.Rows
/-! ### words, rows, sorted, comprehensions whose elements make things -/
def Wd (v : V) : Prop := (∃ x, v = .str x ∧ x.length ≤ 100) ∨ ∃ i : Int, v = .int i ∧ i.natAbs < 10 ^ 60
theorem Wd.flat {v : V} (h : Wd v) : flatV v = true := by
  rcases h with ⟨x, rfl, _⟩ | ⟨i, rfl, _⟩ <;> rfl
section
variable {X : Cx}
/-- sorted of a short list of ints -/
theorem call_sortedI : CallR X (.builtin "sorted") (fun xs H Q => ∃ (a : Addr) (ns : List Int), xs = [V.ref a] ∧ SqL X.K H a (ns.map V.int) ∧ ns.length < 64 ∧
    ∀ (p : Addr) (ms : List Int), H p = none → ms.Perm ns → ms.Pairwise (· ≤ ·) → Q (.ref p) (upd H p (.lst (ms.map V.int)))) := by
  intro pins s σ H xs us Q I r h
  obtain ⟨a, ns, rfl, ha, hn, q⟩ := h
  obtain ⟨u, rfl, ru⟩ := vals1 r
  cases ru
  obtain ⟨its, rv, pl, hz⟩ := I.list ha
  have hl := rv.length
  rw [List.length_map] at hl
  refine PyProof.Rows.sorted_ints pl.isList (intsAre_of rv) (by omega) fun out ms a1 a2 a3 => ?_
  obtain ⟨e, he⟩ := PyProof.Rows.sortedAll_at s.heap its out
  have hn' : H (s.heap.objs.size + 1) = none := I.hok.fresh (Nat.le_succ _)
  have hm : ms.length = ns.length := a2.length_eq
  have hs : sizeLine = 16777216 := sizeLine_eq
  refine ⟨.ref (s.heap.objs.size + 1), _, I.laid (t' := s.toks) (a := s.heap.objs.size + 1) (o := .lst (ms.map V.int)) (fun b o eb => PyProof.Rows.sortedAll_old eb) (Nat.le_succ _) ⟨?_, out.toList, e, vals_ints a1, ?_⟩, rfl, q _ ms hn' a2 a3⟩
  · rw [List.length_map]; omega
  · rw [he]
end
/-- two flat tuples -/
def eqL (xs ys : List V) : Bool := (List.range (min xs.length ys.length)).all (fun i => match xs[i]?, ys[i]? with | some x, some y => eqV x y | _, _ => true) && xs.length == ys.length
theorem DEq.flatT {K : PySem.W.Frag} {H : Hp} {n : Nat} {a b : Addr} {xs ys : List V} (hx : SqT K H a xs) (hy : SqT K H b ys) (fx : ∀ x ∈ xs, flatV x = true) (fy : ∀ x ∈ ys, flatV x = true) : DEq K H (n + 1) (.ref a) (.ref b) (eqL xs ys) := by
  refine DEq.tup _ hx hy fun i x y e1 e2 => ?_
  rw [e1, e2]
  exact DEq.flat (fx x (List.mem_of_getElem? e1)) (fy y (List.mem_of_getElem? e2))
theorem eqL_refl {xs : List V} (h : ∀ x ∈ xs, flatV x = true) : eqL xs xs = true := by
  unfold eqL
  rw [beq_self_eq_true, Bool.and_true, List.all_eq_true]
  intro i hi
  rw [Nat.min_self] at hi
  have hi := List.mem_range.mp hi
  rw [List.getElem?_eq_getElem hi]
  exact eqV_refl (h _ (List.getElem_mem hi))
/-- the same list, the same tuple, by contents -/
theorem DEq.sameL {K : PySem.W.Frag} {H : Hp} {n : Nat} {a b : Addr} {xs : List V} (hx : SqL K H a xs) (hy : SqL K H b xs) (h : ∀ x ∈ xs, DEq K H n x x true) : DEq K H (n + 1) (.ref a) (.ref b) true := by
  have := DEq.lst (n := n) (fun _ => true) hx hy rfl fun i x y e1 e2 => by
    rw [e1] at e2; cases e2
    exact h x (List.mem_of_getElem? e1)
  rw [show (List.range xs.length).all (fun _ => true) = true from List.all_eq_true.mpr fun _ _ => rfl] at this
  exact this
theorem DEq.sameT {K : PySem.W.Frag} {H : Hp} {n : Nat} {a b : Addr} {xs ys : List V} (hx : SqT K H a xs) (hy : SqT K H b ys) (hl : xs.length = ys.length) (h : ∀ (i : Nat) x y, xs[i]? = some x → ys[i]? = some y → DEq K H n x y true) : DEq K H (n + 1) (.ref a) (.ref b) true := by
  have := DEq.tup (n := n) (fun _ => true) hx hy h
  rw [show (List.range (min xs.length ys.length)).all (fun _ => true) = true from List.all_eq_true.mpr fun _ _ => rfl, hl, beq_self_eq_true] at this
  exact this
theorem Same.new {H : Hp} {D : Addr} {o : HO} (h : H D = none) : Same H (upd H D o) := fun b u e => by rw [upd_ne (ne_of_none e h)]; exact e
/-- what is tracked stays, but at D, which was not -/
theorem Same.upd {H H' : Hp} {D : Addr} {o : HO} (e : Same H H') (h : H D = none) : Same H (upd H' D o) := fun b u q => by
  rw [upd_ne (ne_of_none q h)]; exact e b u q
end L2

/-! The rules that lean on the written part, with that part given: within a comprehension's block nothing else fits. -/
namespace L2
open PySem PySem.Spec PyProof.Rows
section
variable {X : Cx} (K : PySem.W.Frag) (h : X.K = K)
include h
theorem ix_listK : IxR X (rIxL K) := h ▸ ix_list
theorem ix_tupK : IxR X (rIxT K) := h ▸ ix_tup
theorem sl_listK : SlR X (rSlL K) := h ▸ sl_list
theorem sl_tupK : SlR X (rSlT K) := h ▸ sl_tup
theorem op_catTK : OpR X (binaryOp .Add) (rCatT K) := h ▸ op_catT
theorem op_in_seqK : OpR X (compareOp .In) (rIn K false) := h ▸ op_in_seq
theorem op_notIn_seqK : OpR X (compareOp .NotIn) (rIn K true) := h ▸ op_notIn_seq
theorem op_eqDK (hu : X.A.units + 9 < cLine) : OpR X (compareOp .Eq) (rEqD K) := h ▸ op_eqD hu
theorem op_neDK (hu : X.A.units + 9 < cLine) : OpR X (compareOp .NotEq) (rNeD K) := h ▸ op_neD hu
theorem op_notInDK (hu : X.A.units + 10 < cLine) : OpR X (compareOp .NotIn) (rInD K true) := h ▸ op_notInD hu
theorem call_len_seqK : CallR X (.builtin "len") (fun xs H Q => ∃ p ys, xs = [.ref p] ∧ (SqL K H p ys ∨ SqT K H p ys) ∧ Q (.int ys.length) H) := h ▸ call_len_seq
theorem call_isiK : CallR X (.builtin "isinstance") (fun xs H Q => ∃ x t n b, xs = [x, V.ty n] ∧ TyOf K H x t ∧ PySem.W.kitOne K t (.type n) = some b ∧ Q (.bl b) H) := h ▸ call_isi
theorem call_sortedIK : CallR X (.builtin "sorted") (fun xs H Q => ∃ (a : Addr) (ns : List Int), xs = [V.ref a] ∧ SqL K H a (ns.map V.int) ∧ ns.length < 64 ∧
    ∀ (p : Addr) (ms : List Int), H p = none → ms.Perm ns → ms.Pairwise (· ≤ ·) → Q (.ref p) (upd H p (.lst (ms.map V.int)))) := h ▸ call_sortedI
variable {o e : Expr} {es : List Expr} {to : TE} {t : TA} {name : Str} {apos cpos : Pos} {T id : String} {r : V → List V → Hp → VK → Prop}
theorem pe_bm0K (pa : PlainAttrs T) (slot : Slot T name id) (hty : typeOf (.builtin id) = pure (.type "method_descriptor")) (hm : MtR X id r) (ho : PE X o to)
    (hbase : attributeBase o name X.env (eval o X.env) = eval o X.env := by rfl) (hline : (apos.endLine == cpos.line) = true := by rfl) : PE X (.Call (.Attribute o name apos) [] [] cpos) (tBM0 K T r to) := h ▸ pe_bm0 pa slot hty hm ho hbase hline
theorem pe_bmK (pa : PlainAttrs T) (slot : Slot T name id) (hty : typeOf (.builtin id) = pure (.type "method_descriptor")) (hm : MtR X id r) (ho : PE X o to) (ha : PA X (e :: es) t)
    (hbase : attributeBase o name X.env (eval o X.env) = eval o X.env := by rfl)
    (hfew : ((backTo cpos (starEach (e :: es) X.env)).all (fun x => !x.1) && (backToKw cpos (keywordEach [] X.env)).all (fun x => x.1.isSome)
      && decide ((e :: es).length + ([] : List Keyword).length + (if ([] : List Keyword).isEmpty then 0 else 1) < 30)) = true := by rfl)
    (hline : (apos.endLine == cpos.line) = true := by rfl) (hs : starEach (e :: es) X.env = (false, eval e X.env) :: starEach es X.env := by rfl) (hplain : (backTo cpos (starEach es X.env)).any (·.1) = false := by rfl) :
    PE X (.Call (.Attribute o name apos) (e :: es) [] cpos) (tBM K T r to t) := h ▸ pe_bm pa slot hty hm ho ha hbase hfew hline hs hplain
end
section
variable {X : Cx} {tg : Expr} (K : PySem.W.Frag) (h : X.K = K)
include h
theorem pi_listK {l : Expr} {tl : TE} (hl : PE X l tl) : PI X tg l (iList K tl) := h ▸ pi_list hl
theorem pg_tupK {es : List Expr} {k : Nat} {t : TGs} {n : Nat} {pos : Pos} (hc : X.calm = true) (h' : PGs X es t)
    (hn : (assignEach es X.env).length = n := by rfl) (hst : (assignEach es X.env).findIdx? (·.1) = none := by rfl) : PG X (.Tuple es k pos) (gTup K n t) := h ▸ pg_tup hc h' hn hst
end
theorem hu10 {A : Around} {k : Nat} (hr : Room k A) : A.units + 9 < cLine := Nat.lt_of_le_of_lt (Nat.add_le_add_left (by decide : 9 ≤ 64) _) hr.units
theorem hu11 {A : Around} {k : Nat} (hr : Room k A) : A.units + 10 < cLine := Nat.lt_of_le_of_lt (Nat.add_le_add_left (by decide : 10 ≤ 64) _) hr.units
end L2

/-! Short ways: a test whose two ways are gone once; lists compared with the empty list; what a slice is. -/
namespace L2
open PySem PySem.Spec PyProof.Rows
theorem ifS_same {c : TT} {t u : TS} {D : Ends} {σ : St} {H : Hp} (b : Bool) (ht : ∀ Q' : Bool → Hp → Prop, (∀ H', Same H H' → Q' b H') → c σ H Q') (hs : ∀ H', Same H H' → if b = true then t D σ H' else u D σ H') : tIfS c t u D σ H := ht _ hs
theorem DEq.nilL {K : PySem.W.Frag} {H : Hp} {n : Nat} {a b : Addr} {xs : List V} (hx : SqL K H a xs) (hy : SqL K H b []) : DEq K H (n + 1) (.ref a) (.ref b) (decide (xs = [])) := by
  by_cases h : xs = []
  · subst h
    exact DEq.lst (fun _ => true) hx hy rfl fun i x y e _ => by simp at e
  · rw [decide_eq_false h]
    exact DEq.lstN hx hy fun z => h (List.length_eq_zero_iff.mp z)
theorem le_line {n : Nat} (h : n ≤ 1000) : n ≤ sizeLine := Nat.le_of_lt (small1000 h)
end L2

/-! split; enumerate and zip, walked. -/
namespace L2
open PySem PySem.Spec PyProof.Rows
open Builtin Builtin.Str
section
variable {X : Cx}
end
end L2
namespace L2
open PySem PySem.Spec PyProof.Rows
section
variable {X : Cx} {pins : List (Addr × Obj)} {σ : St} {H : Hp} {s : Shared} {h' : Heap}
end
/-! ### enumerate -/
end L2


/-! zip of two sequences, each a list or a tuple. -/
namespace L2
open PySem PySem.Spec PyProof.Rows
section
variable {prog : Program} {w : World} {A : Around} {E : Value → Shared → Prop} {s : Shared}
end
end L2
namespace L2
open PySem PySem.Spec PyProof.Rows
section
variable {prog : Program} {w : World} {A : Around} {E : Value → Shared → Prop} {s : Shared} {z TI TO i1 i2 l1 l2 : Addr} {k1 k2 : Nat} {xs ys : Array Value} {x y a b : Value} {t1 t2 : Bool}
end
end L2


/-! zip and enumerate as what a loop or a comprehension walks. -/
namespace L2
open PySem PySem.Spec PyProof.Rows
section
variable {prog : Program} {w : World} {A : Around} {E : Value → Shared → Prop} {s : Shared} {z TI TO i1 i2 l1 l2 : Addr} {k1 k2 : Nat} {xs ys : Array Value} {x y a b : Value} {t1 t2 : Bool}
end
section
variable {X : Cx} {pins : List (Addr × Obj)} {σ : St} {H : Hp} {s : Shared} {a : Addr} {xs ys : List V}
end
end L2

/-! zip(..) and enumerate(.., start = n) made. -/
namespace L2
open PySem PySem.Spec PyProof.Rows
open Sem (wp)
section
variable {prog : Program} {w : World} {A : Around} {E : Value → Shared → Prop} {s : Shared}
end
/-! ### zip in a loop's head -/
section
variable {X : Cx}
end
/-! ### enumerate(.., start = n) -/
section
variable {prog : Program} {w : World} {A : Around} {E : Value → Shared → Prop} {s : Shared}
end
section
variable {X : Cx}
end
end L2

/-! a dict's keys, whatever they are, walked; list of a dict, of its values. -/
namespace L2
open PySem PySem.Spec PyProof.Rows
open Sem (wp)
/-- a dict by its very entries -/
def RawD (h : Heap) (d : Addr) (es : Array DictEntry) (ep : Nat) : Prop := ∃ o, h.get? d = some o ∧ o.ExactDict ∧ o.data = .dict es ep
theorem RawD.at {h h' : Heap} {d : Addr} {es : Array DictEntry} {ep : Nat} (q : RawD h d es ep) (k : ∀ o, h.get? d = some o → h'.get? d = some o) : RawD h' d es ep := let ⟨o, ho, r⟩ := q; ⟨o, k o ho, r⟩
theorem RawD.typeIs {s : Shared} {d : Addr} {es : Array DictEntry} {ep : Nat} (q : RawD s.heap d es ep) : s.TypeIs (.ref d) "dict" := let ⟨o, ho, c, _⟩ := q; ⟨o, ho, c.1⟩
section
variable {prog : Program} {w : World} {A : Around} {E : Value → Shared → Prop} {s : Shared}
theorem iter_raw {d : Addr} {es : Array DictEntry} {ep : Nat} {Q : Value → Shared → Prop} (hd : (d == sysModules) = false) (hm : RawD s.heap d es ep)
    (hQ : Q (.ref s.heap.objs.size) { s with heap := s.heap.push { cls := .type "dict_keyiterator", data := .fields #[.ref d, .int 0 0, .int es.size 0, .int ep 0] } }) : wpAny (model prog w) A (pyIter (.ref d)) Q E s := by
  obtain ⟨o, ho, hc, hdat⟩ := id hm
  have T : s.TypeIs (.ref d) "dict" := hm.typeIs
  refine wpAny_pyIter_slot T F.slot_dict_iter (wpAny_call_entry F.slot_dict_iter T F.entry_dict_iter ?_ (F.args_dict_iter_1 _))
  unfold Builtin.«dict.__iter__»
  refine wpAny_bind ?_
  unfold Builtin.Dict.dictSlotNone
  refine wpAny_bind (wpAny_notOrdered_dict T ?_)
  show wpAny (model prog w) _ (pure (Value.ref d)) _ _ s
  refine wpAny_pure ?_
  show wpAny (model prog w) _ (Builtin.Dict.showsAll d >>= _) _ _ s
  unfold Builtin.Dict.showsAll
  rw [if_neg (by rw [hd]; exact Bool.false_ne_true)]
  refine wpAny_bind (wpAny_pure (wpAny_bind (wpAny_dictEntries ho hdat (wpAny_bind (wpAny_dictEpoch ho hdat ?_)))))
  exact wpAny_bind (wpAny_newObj_type (wpAny_pure ⟨_, rfl, "dict_keyiterator", _, ⟨_, Heap.get?_push_size _ rfl, rfl⟩, F.slot_dict_keyiterator_next.lookup, hQ⟩))
theorem key_item {it d : Addr} {i ep : Nat} {es : Array DictEntry} {e : DictEntry} {Q : Option Value → Shared → Prop} (hit : s.heap.IsKeyIter it d i es.size ep) (hm : RawD s.heap d es ep) (hx : es[i]? = some e)
    (hQ : ∀ h1, h1.IsKeyIter it d (i + 1) es.size ep → Heap.SameBut it s.heap h1 → Q (some e.key) { s with heap := h1 }) : wpAny (model prog w) A (pyNext (.ref it)) Q E s := by
  obtain ⟨o, ho, hc, hd⟩ := id hit
  obtain ⟨od, hod, hcd, hdd⟩ := id hm
  obtain ⟨hlt, he⟩ := Array.getElem?_eq_some_iff.mp hx
  subst he
  unfold pyNext
  refine wpAny_bind (wpAny_attempt (wpAny_callSpecial?_slot (name := Str.ofString "__next__") hit.typeIs F.slot_dict_keyiterator_next (wpAny_call_entry F.slot_dict_keyiterator_next hit.typeIs F.entry_dict_keyiterator_next ?_ (F.args_dict_keyiterator_next_1 _))))
  refine wpAny_bind (wpAny_pure (wpAny_bind (wpAny_bind ?_)))
  refine wpAny_bind (wpAny_typeNameOfWhole_keyiter hit.typeIs (wpAny_pure (wpAny_bind (wpAny_fieldsOf ho hd ?_))))
  have own : Builtin.Dict_items.ownsTuple "dict_keyiterator" = false := by decide
  simp only [own, Bool.false_eq_true, if_false]
  show wpAny (model prog w) _ (if (Value.ref d == Value.none) = true then _ else _) _ _ s
  rw [if_neg (show ¬ ((Value.ref d == Value.none) = true) from Bool.false_ne_true)]
  refine wpAny_bind (wpAny_pure (wpAny_bind (wpAny_dictEntries hod hdd ?_)))
  rw [if_neg (by simp)]
  refine wpAny_bind (wpAny_pure (wpAny_bind (wpAny_dictEpoch hod hdd ?_)))
  rw [if_neg (by simp)]
  refine wpAny_pure ?_
  simp only [show ¬ ((i : Int) < 0) from by omega, if_false, Int.toNat_natCast, Array.getElem?_eq_getElem hlt]
  refine wpAny_bind (wpAny_bind (wpAny_typeNameOfWhole_keyiter hit.typeIs (wpAny_pure (wpAny_bind (wpAny_isOneOf_keyiter hit.typeIs ?_)))))
  show wpAny (model prog w) _ (setField (.ref it) 1 (rawInt ((i : Int) + 1)) >>= _) _ _ s
  refine wpAny_bind (wpAny_setField ho hd (by simp) ?_)
  have nx : (s.heap.update it (Obj.mapFields (·.setIfInBounds 1 (rawInt ((i : Int) + 1))))).IsKeyIter it d (i + 1) es.size ep :=
    ⟨_, Heap.get?_update_self _ ho (Obj.isFreed_of_fields (Obj.data_mapFields hd _)), (Obj.cls_mapFields ..).trans hc, by rw [Obj.data_mapFields hd]; simp [rawInt]⟩
  refine wpAny_bind (wpAny_holding (wpAny_bind (wpAny_isOneOf_keyiter (s := { s with heap := s.heap.update it (Obj.mapFields (·.setIfInBounds 1 (rawInt ((i : Int) + 1)))) }) nx.typeIs ?_)))
  show wpAny (model prog w) _ (pure es[i].key) _ _ _
  exact wpAny_pure (wpAny_pure ⟨_, rfl, wpAny_pure (hQ _ nx (Heap.SameBut.update ..))⟩)
theorem key_end {it d : Addr} {i ep : Nat} {es : Array DictEntry} {Q : Option Value → Shared → Prop} (hh : A.handled = none) (hit : s.heap.IsKeyIter it d i es.size ep) (hm : RawD s.heap d es ep) (hx : es.size ≤ i)
    (hQ : ∀ h1, Heap.ExtBut it s.heap h1 → Q none { s with heap := h1 }) : wpAny (model prog w) A (pyNext (.ref it)) Q E s := by
  obtain ⟨o, ho, hc, hd⟩ := id hit
  obtain ⟨od, hod, hcd, hdd⟩ := id hm
  unfold pyNext
  refine wpAny_bind (wpAny_attempt (wpAny_callSpecial?_slot (name := Str.ofString "__next__") hit.typeIs F.slot_dict_keyiterator_next (wpAny_call_entry F.slot_dict_keyiterator_next hit.typeIs F.entry_dict_keyiterator_next ?_ (F.args_dict_keyiterator_next_1 _))))
  refine wpAny_bind (wpAny_pure (wpAny_bind (wpAny_bind ?_)))
  refine wpAny_bind (wpAny_typeNameOfWhole_keyiter hit.typeIs (wpAny_pure (wpAny_bind (wpAny_fieldsOf ho hd ?_))))
  have own : Builtin.Dict_items.ownsTuple "dict_keyiterator" = false := by decide
  simp only [own, Bool.false_eq_true, if_false]
  show wpAny (model prog w) _ (if (Value.ref d == Value.none) = true then _ else _) _ _ s
  rw [if_neg (show ¬ ((Value.ref d == Value.none) = true) from Bool.false_ne_true)]
  refine wpAny_bind (wpAny_pure (wpAny_bind (wpAny_dictEntries hod hdd ?_)))
  rw [if_neg (by simp)]
  refine wpAny_bind (wpAny_pure (wpAny_bind (wpAny_dictEpoch hod hdd ?_)))
  rw [if_neg (by simp)]
  refine wpAny_pure ?_
  simp only [show ¬ ((i : Int) < 0) from by omega, if_false, Int.toNat_natCast, Array.getElem?_eq_none hx]
  refine wpAny_bind (wpAny_bind (wpAny_typeNameOfWhole_keyiter hit.typeIs (wpAny_pure ?_)))
  show wpAny (model prog w) _ (setField (.ref it) 0 .none >>= _) _ _ s
  refine wpAny_bind (wpAny_setField ho hd (by simp) ?_)
  show wpAny (model prog w) _ (newExc (.type "StopIteration") [] >>= _) _ _ _
  refine wpAny_bind ?_
  simp only [newExc, newTuple]
  refine wpAny_bind (wpAny_newObj_type (wpAny_bind (m := firstArgMember _ _) (wpAny_of_eq (a := Value.none) (by first | rfl | (simp only [firstArgMember]; rfl)) (wpAny_newObj_type ?_ (by size_fits)))) (by size_fits))
  simp only [raiseNew]
  refine wpAny_bind (wpAny_handled ?_)
  rw [show A.in1.handled = none from hh]
  refine wpAny_bind (wpAny_pure (wpAny_throw ?_))
  exact wpAny_bind (wpAny_isInstance (T := "StopIteration") (b := true) ⟨_, Heap.get?_push_size _ rfl, rfl⟩ isSubtype_stop (wpAny_pure (hQ _ (((Heap.SameBut.update ..).extBut.push _).push _))))
theorem walks_raw (hh : A.handled = none) (I d : Addr) (hne : d ≠ I) (es : Array DictEntry) (ep : Nat) :
    Walks prog w A I [I, d] [I] es.size (fun i v => ∃ e, es[i]? = some e ∧ v = e.key) (fun i h => h.IsKeyIter I d i es.size ep ∧ RawD h d es ep) where
  sub := fun b hb => by simp at hb; simp [hb]
  frame := fun _ _ _ st hk => ⟨st.1.at fun o e => hk I (by simp) o e, st.2.at fun o e => hk d (by simp) o e⟩
  item := fun i s Q E hi st hQ => by
    have hx : es[i]? = some es[i] := Array.getElem?_eq_getElem hi
    exact key_item st.1 st.2 hx fun h1 it' hs => hQ _ h1 s.toks ⟨_, hx, rfl⟩ ⟨it', st.2.at fun o e => (hs.2 d hne).trans e⟩ fun b o hb e => (hs.2 b (fun h => hb (by simp [h]))).trans e
  done := fun s Q E st hQ => key_end hh st.1 st.2 (Nat.le_refl _) fun h1 he => hQ h1 s.toks fun b o hb e => he b o (fun h => hb (by simp [h])) e
  self := fun _ _ _ _ st hQ => wpAny_pyIter_keyiter st.1 hQ
theorem hint_dict {d : Addr} {Q : Bool → Shared → Prop} (T : s.TypeIs (.ref d) "dict") (hq : Q false s) : wpAny (model prog w) A (Builtin.List.listLengthHint (.ref d)) Q E s := by
  unfold Builtin.List.listLengthHint
  refine wpAny_bind (wpAny_specialOf T F.slot_dict_len.lookup ?_)
  have e : splitId "dict.__len__" = some ("dict", "__len__") := by kernel_rfl
  simp only [e]
  have sub : isSubtype (.type "dict") (.type "dict") = pure true := by rw [isSubtype_type]; kernel_rfl
  exact wpAny_bind (wpAny_isInstance (T := "dict") (b := true) T sub (wpAny_bind (wpAny_typeOf T (wpAny_pure hq))))
theorem hint_vals {d : Addr} {Q : Bool → Shared → Prop} (T : s.TypeIs (.ref d) "dict_values") (hq : Q false s) : wpAny (model prog w) A (Builtin.List.listLengthHint (.ref d)) Q E s := by
  unfold Builtin.List.listLengthHint
  refine wpAny_bind (wpAny_specialOf T F.slot_dict_values_len.lookup ?_)
  have e : splitId "dict_values.__len__" = some ("dict_values", "__len__") := by kernel_rfl
  simp only [e]
  have sub : isSubtype (.type "dict_values") (.type "dict_values") = pure true := by rw [isSubtype_type]; kernel_rfl
  exact wpAny_bind (wpAny_isInstance (T := "dict_values") (b := true) T sub (wpAny_bind (wpAny_typeOf T (wpAny_pure hq))))
end
section
variable {prog : Program} {w : World} {A : Around} {s : Shared} {R : Result → Shared → Prop} {I : Addr} {fp wr : List Addr} {n : Nat} {P : Nat → Value → Prop} {St : Nat → Heap → Prop}
/-- the rest of list's making, where an iterator has come -/
theorem list_rest (W : Walks prog w A.in1 I fp wr n P St) (hn : n ≤ sizeLine) (S : Addr) (c : Nat) (hst : St 0 s.heap) (hS : S ∉ fp) (hl : s.heap.get? S = some { cls := .type "list", data := .seq #[] c })
    (hR : ∀ s1 acc c1, Moved (S :: wr) (fun a b => b = a) s s1 → s1.heap.get? S = some { cls := .type "list", dict := none, data := .seq acc c1, slots := #[] } → ItemsOf P acc n → R (.ok (.ret .none)) s1) :
    wpAny (model prog w) A.in1 (rule "list.extend.makes-room" >>= fun _ => Builtin.List.listTouch (.ref S) >>= fun _ => again (.builtin "list.extend.loop" ⟨[.ref S, .ref I, .none], []⟩))
      (fun fin s1 => match fin with | .done f => R (.ok f) s1 | .again c1 => c1.quiet = true ∧ codeAny (model prog w) A c1 R s1) (fun e s1 => R (.error e) s1) s := by
  refine wpAny_bind (wpAny_rule (wpAny_bind ?_))
  show wpAny (model prog w) A.in1 (updateSeq S (·.push .none) >>= fun _ => updateSeq S (·.pop)) _ _ _
  refine wpAny_bind (wpAny_updateSeq hl rfl ?_)
  have l2 := Heap.get?_update_self (Obj.mapSeq (·.push Value.none)) hl rfl
  refine wpAny_updateSeq (hz := by seq_fits) l2 rfl ?_
  have l3 := Heap.get?_update_self (Obj.mapSeq (·.pop)) l2 rfl
  have oth : ∀ b o, b ≠ S → s.heap.get? b = some o → ((s.heap.update S (Obj.mapSeq (·.push Value.none))).update S (Obj.mapSeq (·.pop))).get? b = some o := fun b o hb e => (Heap.get?_update_other _ _ (Ne.symm hb)).trans ((Heap.get?_update_other _ _ (Ne.symm hb)).trans e)
  refine wpAny_pure ⟨plainId_quiet F.plain_extend_loop _, codeAny_extend_loopS W.toS hn _ hS _ n 0 _ _ _ rfl (Nat.zero_le _) (W.toS.frame 0 s _ s.toks hst (Nat.le_refl _) fun b hb o e => oth b o (fun h => hS (h ▸ hb)) e) l3 (ItemsOf.nil P) fun s1 acc c1 hm h1 h2 => ?_⟩
  have m0 : Moved (S :: wr) (fun (a b : Array GenState) => b = a) s { s with heap := (s.heap.update S (Obj.mapSeq (·.push Value.none))).update S (Obj.mapSeq (·.pop)) } := ⟨fun b o hb e => oth b o (fun h => hb (by simp [h])) e, rfl, rfl, rfl, Nat.le_refl _⟩
  exact hR s1 acc c1 (Moved.trans (fun _ _ _ h1 h2 => h2.trans h1) m0 hm) h1 h2
end
section
variable {prog : Program} {w : World} {A : Around} {s : Shared} {R : Result → Shared → Prop}
/-- list's init: the new list is emptied, then it takes what comes -/
theorem list_init {S : Addr} {x : Value} (hl : s.heap.get? S = some { cls := .type "list", data := .seq #[] })
    (h : wpAny (model prog w) A.in1 (Builtin.List.listExtendWith (.ref S) x .none) (fun fin s1 => match fin with | .done f => R (.ok f) s1 | .again c1 => c1.quiet = true ∧ codeAny (model prog w) A c1 R s1) (fun e s1 => R (.error e) s1)
      { s with heap := s.heap.update S (Obj.mapSeq (fun _ => (#[] : Array Value))) }) :
    wpAny (model prog w) A.in1 (Builtin.«list.__init__» ⟨[.ref S, x], []⟩) (fun fin s1 => match fin with | .done f => R (.ok f) s1 | .again c1 => c1.quiet = true ∧ codeAny (model prog w) A c1 R s1) (fun e s1 => R (.error e) s1) s := by
  show wpAny (model prog w) A.in1 (do let was ← Builtin.List.listItems (.ref S); Builtin.List.listUpdate (.ref S) (fun _ => #[]); letGo was.toList.reverse; Builtin.List.listExtendWith (.ref S) x .none) _ _ s
  refine wpAny_bind ?_
  unfold Builtin.List.listItems
  refine wpAny_bind (wpAny_seqItems hl rfl (wpAny_pure ?_))
  show wpAny (model prog w) A.in1 (updateSeq S (fun _ => #[]) >>= fun _ => letGo (#[] : Array Value).toList.reverse >>= fun _ => Builtin.List.listExtendWith (.ref S) x .none) _ _ s
  exact wpAny_bind (wpAny_updateSeq hl rfl (wpAny_bind (wpAny_letGo h)))
end
section
variable {prog : Program} {w : World} {A : Around} {E : Value → Shared → Prop} {s : Shared}
theorem list_of_dict {d : Addr} {es : Array DictEntry} {ep : Nat} {Q : Value → Shared → Prop} (hh : A.handled = none) (hd : (d == sysModules) = false) (hm : RawD s.heap d es ep) (hn : es.size ≤ sizeLine)
    (hQ : ∀ h1 acc c tk, (∀ b o, s.heap.get? b = some o → h1.get? b = some o) → h1.get? s.heap.objs.size = some { cls := .type "list", dict := none, data := .seq acc c, slots := #[] } → ItemsOf (fun i v => ∃ e, es[i]? = some e ∧ v = e.key) acc es.size →
      Q (.ref s.heap.objs.size) { s with heap := h1, toks := tk }) : wpAny (model prog w) A (call (.type "list") [.ref d]) Q E s := by
  have dl : d < s.heap.objs.size := by obtain ⟨o, ho, _⟩ := hm; exact Heap.lt_size ho
  refine callType_codes (Q₁ := fun obj s1 => obj = .ref s.heap.objs.size ∧ s1 = { s with heap := s.heap.push { cls := .type "list", data := .seq #[] } }) F.called_list (F.typeCall_list_1 _) F.entry_list_init (code_list_new _ ⟨rfl, rfl⟩) fun obj s1 h1 => ?_
  obtain ⟨rfl, rfl⟩ := h1
  have hS : (s.heap.push { cls := .type "list", data := .seq #[] }).get? s.heap.objs.size = some { cls := .type "list", data := .seq #[] } := Heap.get?_push_size _ rfl
  refine ⟨⟨_, hS, rfl⟩, F.args_list_init_2 _ _, list_init hS ?_⟩
  have l2 := Heap.get?_update_self (Obj.mapSeq (fun _ => (#[] : Array Value))) hS rfl
  have old : ∀ b o, s.heap.get? b = some o → ((s.heap.push { cls := .type "list", data := .seq #[] }).update s.heap.objs.size (Obj.mapSeq (fun _ => (#[] : Array Value)))).get? b = some o := fun b o e =>
    (Heap.get?_update_other _ _ (fun z => Nat.lt_irrefl _ (z ▸ Heap.lt_size e))).trans (Heap.get?_push_of_some _ e)
  have hm2 := hm.at (h' := (s.heap.push { cls := .type "list", data := .seq #[] }).update s.heap.objs.size (Obj.mapSeq (fun _ => (#[] : Array Value)))) fun o e => old d o e
  have zu : ((s.heap.push { cls := .type "list", data := .seq #[] }).update s.heap.objs.size (Obj.mapSeq (fun _ => (#[] : Array Value)))).objs.size = s.heap.objs.size + 1 := by rw [Heap.size_update, Heap.size_push]
  generalize (s.heap.push { cls := .type "list", data := .seq #[] }).update s.heap.objs.size (Obj.mapSeq (fun _ => (#[] : Array Value))) = g at l2 old hm2 zu
  have T : ({ s with heap := g } : Shared).TypeIs (.ref d) "dict" := hm2.typeIs
  unfold Builtin.List.listExtendWith
  refine wpAny_bind (wpAny_typeOf T ?_)
  have sr : Builtin.List.listSameRef (.ref s.heap.objs.size) (.ref d) = false := by
    have : s.heap.objs.size ≠ d := Ne.symm (Nat.ne_of_lt dl)
    simp [Builtin.List.listSameRef, this]
  have t1 : (Value.type "dict" == Value.type "list") = false := by decide
  have t2 : (Value.type "dict" == Value.type "tuple") = false := by decide
  simp only [sr, t1, t2, Bool.or_false, Bool.false_eq_true, if_false]
  refine wpAny_bind (iter_raw (s := { s with heap := g }) hd hm2 ?_)
  have hm3 := hm2.at (h' := g.push { cls := .type "dict_keyiterator", data := .fields #[.ref d, .int 0 0, .int es.size 0, .int ep 0] }) fun o e => Heap.get?_push_of_some _ e
  refine wpAny_bind (wpAny_holding (hint_dict (s := { s with heap := g.push { cls := .type "dict_keyiterator", data := .fields #[.ref d, .int 0 0, .int es.size 0, .int ep 0] } }) hm3.typeIs ?_))
  have dI : d ≠ g.objs.size := by rw [zu]; exact Nat.ne_of_lt (Nat.lt_succ_of_lt dl)
  have SI : s.heap.objs.size ∉ [g.objs.size, d] := by
    rw [zu]
    intro z
    simp only [List.mem_cons, List.not_mem_nil, or_false] at z
    rcases z with z | z
    · exact absurd z (Nat.ne_of_lt (Nat.lt_succ_self _))
    · exact absurd z (Ne.symm (Nat.ne_of_lt dl))
  refine list_rest (A := A.in1) (s := { s with heap := g.push { cls := .type "dict_keyiterator", data := .fields #[.ref d, .int 0 0, .int es.size 0, .int ep 0] } }) (walks_raw (A := A.in1.in1) hh g.objs.size d dI es ep) hn _ _ ⟨⟨_, Heap.get?_push_size _ rfl, rfl, rfl⟩, hm3⟩ SI (Heap.get?_push_of_some _ l2) fun s2 acc c hmv h2 h3 => ?_
  obtain ⟨hp, ge, dr, tk, os⟩ := s2
  obtain ⟨m1, m2, m3, m4, m5⟩ := hmv
  obtain rfl : ge = s.gens := m2
  obtain rfl : dr = s.drawn := m3
  obtain rfl : os = s.os := m4
  refine ⟨rfl, hQ hp acc c tk (fun b o e => m1 b o ?_ (Heap.get?_push_of_some _ (old b o e))) h2 h3⟩
  intro z
  have bl := Heap.lt_size e
  simp only [List.mem_cons, List.not_mem_nil, or_false] at z
  rcases z with z | z
  · exact absurd bl (by rw [z]; exact Nat.lt_irrefl _)
  · have z : b = g.objs.size := z
    rw [z, zu] at bl
    exact absurd bl (Nat.not_lt_of_le (Nat.le_succ _))
theorem list_of_vals {κ : Type} [DecidableEq κ] {knd : KeyKind prog w κ} {d v : Addr} {kvs : List (κ × Value)} {Q : Value → Shared → Prop} (hh : A.handled = none) (hv : s.heap.IsValuesView v d) (hm : s.heap.DictOf knd d kvs) (hn : kvs.length ≤ sizeLine)
    (hQ : ∀ h1 acc c tk, (∀ b o, s.heap.get? b = some o → h1.get? b = some o) → h1.get? s.heap.objs.size = some { cls := .type "list", dict := none, data := .seq acc c, slots := #[] } → ItemsOf (fun i v => ∃ k, kvs[i]? = some (k, v)) acc kvs.length →
      Q (.ref s.heap.objs.size) { s with heap := h1, toks := tk }) : wpAny (model prog w) A (call (.type "list") [.ref v]) Q E s := by
  obtain ⟨ep, hm⟩ := hm.dictAt
  have dl : d < s.heap.objs.size := hm.lt_size
  have vl : v < s.heap.objs.size := by obtain ⟨o, ho, _⟩ := hv; exact Heap.lt_size ho
  refine callType_codes (Q₁ := fun obj s1 => obj = .ref s.heap.objs.size ∧ s1 = { s with heap := s.heap.push { cls := .type "list", data := .seq #[] } }) F.called_list (F.typeCall_list_1 _) F.entry_list_init (code_list_new _ ⟨rfl, rfl⟩) fun obj s1 h1 => ?_
  obtain ⟨rfl, rfl⟩ := h1
  have hS : (s.heap.push { cls := .type "list", data := .seq #[] }).get? s.heap.objs.size = some { cls := .type "list", data := .seq #[] } := Heap.get?_push_size _ rfl
  refine ⟨⟨_, hS, rfl⟩, F.args_list_init_2 _ _, list_init hS ?_⟩
  have l2 := Heap.get?_update_self (Obj.mapSeq (fun _ => (#[] : Array Value))) hS rfl
  have old : ∀ b o, s.heap.get? b = some o → ((s.heap.push { cls := .type "list", data := .seq #[] }).update s.heap.objs.size (Obj.mapSeq (fun _ => (#[] : Array Value)))).get? b = some o := fun b o e =>
    (Heap.get?_update_other _ _ (fun z => Nat.lt_irrefl _ (z ▸ Heap.lt_size e))).trans (Heap.get?_push_of_some _ e)
  have hm2 := hm.keep old
  have hv2 : ((s.heap.push { cls := .type "list", data := .seq #[] }).update s.heap.objs.size (Obj.mapSeq (fun _ => (#[] : Array Value)))).IsValuesView v d := let ⟨o, ho, r⟩ := hv; ⟨o, old v o ho, r⟩
  have zu : ((s.heap.push { cls := .type "list", data := .seq #[] }).update s.heap.objs.size (Obj.mapSeq (fun _ => (#[] : Array Value)))).objs.size = s.heap.objs.size + 1 := by rw [Heap.size_update, Heap.size_push]
  generalize (s.heap.push { cls := .type "list", data := .seq #[] }).update s.heap.objs.size (Obj.mapSeq (fun _ => (#[] : Array Value))) = g at l2 old hm2 hv2 zu
  have T : ({ s with heap := g } : Shared).TypeIs (.ref v) "dict_values" := hv2.typeIs
  unfold Builtin.List.listExtendWith
  refine wpAny_bind (wpAny_typeOf T ?_)
  have sr : Builtin.List.listSameRef (.ref s.heap.objs.size) (.ref v) = false := by
    have : s.heap.objs.size ≠ v := Ne.symm (Nat.ne_of_lt vl)
    simp [Builtin.List.listSameRef, this]
  have t1 : (Value.type "dict_values" == Value.type "list") = false := by decide
  have t2 : (Value.type "dict_values" == Value.type "tuple") = false := by decide
  simp only [sr, t1, t2, Bool.or_false, Bool.false_eq_true, if_false]
  refine wpAny_bind (wpAny_pyIter_values (s := { s with heap := g }) hv2 hm2 ?_)
  have hm3 := hm2.push { cls := .type "dict_valueiterator", data := .fields #[.ref d, .int 0 0, .int kvs.length 0, .int ep 0] }
  have hv3 : (g.push { cls := .type "dict_valueiterator", data := .fields #[.ref d, .int 0 0, .int kvs.length 0, .int ep 0] }).IsValuesView v d := let ⟨o, ho, r⟩ := hv2; ⟨o, Heap.get?_push_of_some _ ho, r⟩
  refine wpAny_bind (wpAny_holding (hint_vals (s := { s with heap := g.push { cls := .type "dict_valueiterator", data := .fields #[.ref d, .int 0 0, .int kvs.length 0, .int ep 0] } }) hv3.typeIs ?_))
  have dI : d ≠ g.objs.size := by rw [zu]; exact Nat.ne_of_lt (Nat.lt_succ_of_lt dl)
  have SI : s.heap.objs.size ∉ [g.objs.size, d] := by
    rw [zu]
    intro z
    simp only [List.mem_cons, List.not_mem_nil, or_false] at z
    rcases z with z | z
    · exact absurd z (Nat.ne_of_lt (Nat.lt_succ_self _))
    · exact absurd z (Ne.symm (Nat.ne_of_lt dl))
  refine list_rest (A := A.in1) (s := { s with heap := g.push { cls := .type "dict_valueiterator", data := .fields #[.ref d, .int 0 0, .int kvs.length 0, .int ep 0] } }) (Walks.dictValues (A := A.in1.in1) hh g.objs.size d dI kvs ep) hn _ _ ⟨⟨_, Heap.get?_push_size _ rfl, rfl, rfl⟩, hm3⟩ SI (Heap.get?_push_of_some _ l2) fun s2 acc c hmv h2 h3 => ?_
  obtain ⟨hp, ge, dr, tk, os⟩ := s2
  obtain ⟨m1, m2, m3, m4, m5⟩ := hmv
  obtain rfl : ge = s.gens := m2
  obtain rfl : dr = s.drawn := m3
  obtain rfl : os = s.os := m4
  refine ⟨rfl, hQ hp acc c tk (fun b o e => m1 b o ?_ (Heap.get?_push_of_some _ (old b o e))) h2 h3⟩
  intro z
  have bl := Heap.lt_size e
  simp only [List.mem_cons, List.not_mem_nil, or_false] at z
  rcases z with z | z
  · exact absurd bl (by rw [z]; exact Nat.lt_irrefl _)
  · have z : b = g.objs.size := z
    rw [z, zu] at bl
    exact absurd bl (Nat.not_lt_of_le (Nat.le_succ _))
end
end L2

/-! list(d), list(d.values()) as rules. -/
namespace L2
open PySem PySem.Spec PyProof.Rows
theorem Vals.of_get : ∀ {xs : List V} {us : List Value}, xs.length = us.length → (∀ (i : Nat) x u, xs[i]? = some x → us[i]? = some u → RelV x u) → Vals xs us
  | [], [], _, _ => .nil
  | x :: xs, u :: us, hl, h => .cons (h 0 x u rfl rfl) (Vals.of_get (by simpa using hl) fun i y v e1 e2 => h (i + 1) y v (by simpa using e1) (by simpa using e2))
  | [], _ :: _, hl, _ => by simp at hl
  | _ :: _, [], hl, _ => by simp at hl
theorem key_rel {k : Key} {v : Value} (h : keyIs k v = true) : RelV (kV k) v := by
  rcases keyIs_shape h with ⟨i, t, rfl, rfl⟩ | ⟨x, t, rfl, rfl⟩
  · exact ⟨t, rfl⟩
  · exact ⟨t, rfl⟩
theorem Paired.get' {α β : Type} {F : α → β → Prop} : ∀ {l₁ : List α} {l₂ : List β} {i : Nat} {a : α}, Paired F l₁ l₂ → l₁[i]? = some a → ∃ b, l₂[i]? = some b ∧ F a b
  | _, _, _, _, .nil, e => by simp at e
  | _, _, 0, _, .cons r _, e => by simp at e; subst e; exact ⟨_, rfl, r⟩
  | _, _, i + 1, a, .cons _ t, e => by
    obtain ⟨u, h1, h2⟩ := Paired.get' (i := i) (a := a) t (by simpa using e)
    exact ⟨u, by simpa using h1, h2⟩
section
variable {X : Cx}
/-- a list just made out of what was walked -/
theorem list_fin {pins : List (Addr × Obj)} {σ : St} {H : Hp} {s : Shared} {Q : VK} {ys : List V} {h1 : Heap} {acc : Array Value} {c tk : Nat} (I : Inv X pins σ H s) (kp : ∀ b o, s.heap.get? b = some o → h1.get? b = some o)
    (e : h1.get? s.heap.objs.size = some { cls := .type "list", dict := none, data := .seq acc c, slots := #[] }) (r : Vals ys acc.toList) (hz : ys.length ≤ sizeLine) (q : ∀ l, H l = none → Q (.ref l) (upd H l (.lst ys))) : EP X pins σ Q (.ref s.heap.objs.size) { s with heap := h1, toks := tk } :=
  ⟨.ref s.heap.objs.size, _, I.laid (t' := tk) (o := .lst ys) kp (Nat.le_refl _) ⟨hz, acc.toList, c, r, by simpa using e⟩, rfl, q _ (I.hok.fresh (Nat.le_refl _))⟩
theorem call_list_dK (hc : X.calm = true) : CallR X (.type "list") (fun xs H Q => ∃ p kvs, xs = [V.ref p] ∧ H p = some (.dK kvs) ∧ ∀ l, H l = none → Q (.ref l) (upd H l (.lst (kvs.map fun kv => kV kv.1)))) := by
  intro pins s σ H xs us Q I r h
  obtain ⟨p, kvs, rfl, hp, q⟩ := h
  obtain ⟨u, rfl, ru⟩ := vals1 r
  cases ru
  obtain ⟨z, hd, vs, rel, o, es, ep, e, ex, dt, kk, pr, nd⟩ := I.hok p _ hp
  have l1 : kvs.length = vs.length := Paired.length rel
  have l2 : es.size = vs.length := by rw [← pr.length]; simp
  refine list_of_dict (I.ok.hd hc) hd ⟨o, e, ex, dt⟩ (by omega) fun h1 acc c tk kp el it => list_fin I kp el (Vals.of_get ?_ fun i x v ex ev => ?_) (by rw [List.length_map]; exact z) q
  · have := it.1
    simp only [List.length_map, Array.length_toList]
    omega
  · rw [List.getElem?_map] at ex
    cases ek : kvs[i]? with
    | none => rw [ek] at ex; cases ex
    | some kv =>
      rw [ek] at ex
      cases ex
      obtain ⟨en, hen, rfl⟩ := it.2 i v (by simpa using ev)
      obtain ⟨w', hw, rw'⟩ := Paired.get' rel ek
      have := (pr.get? (e := en) (k := w'.1) (v := w'.2) (by simpa using hen) (by rw [hw])).1
      have e1 : kv.1 = w'.1 := rw'.1
      show RelV (kV kv.1) en.key
      rw [e1]
      exact key_rel this
/-- the tuples that are a dict's keys -/
abbrev KeyTups (H : Hp) : List Addr → List (List Key × V) → Prop := Paired fun a kv => H a = some (.tup (kv.1.map kV))
theorem keyTups_of {H : Hp} : ∀ {kvs : List (List Key × V)} {ys : List (List Key × Addr × Value)}, Paired (fun (p : List Key × V) (q : List Key × Addr × Value) => p.1 = q.1 ∧ H q.2.1 = some (.tup (p.1.map kV)) ∧ RelV p.2 q.2.2) kvs ys → KeyTups H (ys.map fun y => y.2.1) kvs
  | _, _, .nil => .nil
  | _, _, .cons r t => .cons r.2.1 (keyTups_of t)
theorem call_list_dT (hc : X.calm = true) : CallR X (.type "list") (fun xs H Q => ∃ p kvs, xs = [V.ref p] ∧ H p = some (.dT kvs) ∧ ∀ l as, KeyTups H as kvs → H l = none → Q (.ref l) (upd H l (.lst (as.map V.ref)))) := by
  intro pins s σ H xs us Q I r h
  obtain ⟨p, kvs, rfl, hp, q⟩ := h
  obtain ⟨u, rfl, ru⟩ := vals1 r
  cases ru
  obtain ⟨z, hd, ys, rel, o, es, ep, e, ex, dt, he, nd⟩ := I.hok p _ hp
  have l1 : kvs.length = ys.length := Paired.length rel
  have l2 : es.size = ys.length := by
    have := congrArg List.length he
    simpa using this
  have kt : KeyTups H (ys.map fun y => y.2.1) kvs := keyTups_of rel
  refine list_of_dict (I.ok.hd hc) hd ⟨o, e, ex, dt⟩ (by omega) fun h1 acc c tk kp el it => list_fin (ys := (ys.map fun y => y.2.1).map V.ref) I kp el (Vals.of_get ?_ fun i x v ex ev => ?_) (by simp only [List.length_map]; omega) fun l hl => q l _ kt hl
  · have := it.1
    simp only [List.length_map, Array.length_toList]
    omega
  · obtain ⟨en, hen, rfl⟩ := it.2 i v (by simpa using ev)
    have hen : es.toList[i]? = some en := by simpa using hen
    rw [he, List.getElem?_map] at hen
    rw [List.map_map, List.getElem?_map] at ex
    cases ek : ys[i]? with
    | none => rw [ek] at ex; cases ex
    | some y =>
      rw [ek] at ex hen
      cases ex
      cases hen
      exact rfl
/-- a view of a dict's values -/
def vwO (p d : Addr) : HO := .ext fun h => h.IsValuesView p d
theorem mt_values : MtR X "dict.values" (fun x xs H Q => ∃ d kvs, x = V.ref d ∧ xs = [] ∧ H d = some (.dK kvs) ∧ ∀ p, H p = none → Q (.ref p) (upd H p (vwO p d))) := by
  intro pins s σ H x xs v us Q I rx rs h
  obtain ⟨d, kvs, rfl, rfl, hd, q⟩ := h
  cases rx
  cases rs
  obtain ⟨z, hs, vs, rel, dd⟩ := I.hok d _ hd
  refine call_meetsIn PySem.F.slot_dict_values dd.typeIs PySem.F.entry_dict_values (PySem.F.args_dict_values_1 _) (meets_dict_values (mixKind X.prog X.w) d hs) ⟨⟨vs, dd⟩, ?_⟩
  refine ⟨.ref s.heap.objs.size, _, I.laid (t' := s.toks) (a := s.heap.objs.size) (o := vwO s.heap.objs.size d) (fun b u e => Heap.get?_push_of_some _ e) (Nat.le_refl _) ⟨⟨_, Heap.get?_push_size _ rfl, rfl, rfl⟩, ⟨_, Heap.get?_push_size _ rfl⟩, fun h1 h2 ⟨o, ho, r⟩ k => ⟨o, k o ho, r⟩⟩, rfl, q _ (I.hok.fresh (Nat.le_refl _))⟩
theorem call_list_vw (hc : X.calm = true) : CallR X (.type "list") (fun xs H Q => ∃ p d kvs, xs = [V.ref p] ∧ H p = some (vwO p d) ∧ H d = some (.dK kvs) ∧ ∀ l, H l = none → Q (.ref l) (upd H l (.lst (kvs.map (·.2))))) := by
  intro pins s σ H xs us Q I r h
  obtain ⟨p, d, kvs, rfl, hp, hd, q⟩ := h
  obtain ⟨u, rfl, ru⟩ := vals1 r
  cases ru
  obtain ⟨z, hs, vs, rel, dd⟩ := I.hok d _ hd
  obtain ⟨hv, _, _⟩ := I.hok p _ hp
  have l1 : kvs.length = vs.length := Paired.length rel
  refine list_of_vals (I.ok.hd hc) hv dd (by omega) fun h1 acc c tk kp el it => list_fin I kp el (Vals.of_get ?_ fun i x v ex ev => ?_) (by rw [List.length_map]; exact z) q
  · have := it.1
    simp only [List.length_map, Array.length_toList]
    omega
  · rw [List.getElem?_map] at ex
    cases ek : kvs[i]? with
    | none => rw [ek] at ex; cases ex
    | some kv =>
      rw [ek] at ex
      cases ex
      obtain ⟨k, hk⟩ := it.2 i v (by simpa using ev)
      obtain ⟨w', hw, rw'⟩ := Paired.get' rel ek
      rw [hk] at hw
      cases hw
      exact rw'.2
end
end L2

/-! a dict of the module's, its values tuples of texts; methods by promise; a comprehension over zip. -/
namespace L2
open PySem PySem.Spec PyProof.Rows
section
variable {X : Cx} {pins : List (Addr × Obj)} {σ : St} {H : Hp} {s : Shared}
end
/-! ### x in, not in, D[x] for it -/
section
variable {X : Cx} {a : Addr} {l : List (Str × List V)} {g : Str} {e : Expr} {ty : TE} {p pos : Pos}
end
/-! ### methods by promise -/
/-- the method m of the class at C, as the top has left it -/
def DfM (K : PySem.W.Frag) (C : Addr) (qual m : Str) (st : Stmt) (ps : List Str) : Prop :=
  ∃ (f : Addr) (fd : FuncData), Fun K m qual st f fd ∧ Meth K C m f ∧ ∀ us : List Value, us.length = ps.length → bindArgs fd ⟨us, []⟩ = pure (ps.zip us)
theorem dfm_mk {K : PySem.W.Frag} {C : Addr} {qual m : Str} {st : Stmt} {ps : List Str} {f : Addr} {oc kV dc pm cd ct : Value} {od an : Option Addr} {sl : Array (Option Value)}
    (hb : ∀ (kV doc pm : Value) (an : Option Addr) (cdv ct : Value) (us : List Value), us.length = ps.length → bindArgs (PySem.W.fnOf m qual (defArgs st) (defBody st) (defScope st) .none kV doc pm an cdv ct) ⟨us, []⟩ = pure (ps.zip us))
    (a : PySem.W.findIn K (.ref C) m = some (some (.ref f))) (l : K.lookup f = some ⟨oc, od, .func (PySem.W.fnOf m qual (defArgs st) (defBody st) (defScope st) .none kV dc pm an cd ct), sl⟩) (c : PySem.W.codeIn K cd qual = true) (k : PySem.W.keepIn K (.ref f) = true)
    (i : PySem.W.isFn K (.ref f) = true) : DfM K C qual m st ps := ⟨f, _, fun_mk l c k, ⟨a, i, k⟩, fun us hl => hb kV dc pm an cd ct us hl⟩
def HasM (P : Program) (w : World) (K : PySem.W.Frag) (mg : Str → Option Value) (base : Heap) (C : Addr) (m : Str) (ps : List Str) (k : Nat) (sp : Sp) : Prop :=
  ∃ (f : Addr) (fd : FuncData), Meth K C m f ∧ (∀ us : List Value, us.length = ps.length → bindArgs fd ⟨us, []⟩ = pure (ps.zip us)) ∧ FnOk P w K mg base CX0 k f fd ps sp
section
variable {P : Program} {w : World} {K : PySem.W.Frag} {mg : Str → Option Value} {base : Heap}
theorem DfM.has {C : Addr} {qual m : Str} {st : Stmt} {N ps : List Str} {k : Nat} {sp : Sp} (D : DfM K C qual m st ps) (S : FnScope N ps (defScope st)) (len : ∀ vs H Q E, sp vs H Q E → vs.length = ps.length)
    (hbody : ∀ (f : Addr) (cdv : Value) (A : Around) (outer : List Env) (s : Shared) (H : Hp) (vs : List V) (Q : VK) (E : XK), Room k (A.deeper (envOfC qual (defScope st) s.heap.objs.size f cdv)) → sp vs H Q E →
      ∃ t, PSs (cxOf CX0 P w K mg base N qual (defScope st) f cdv A outer s H E).nox (defBody st) t ∧ t { nx := fun _ H' => Q .non H', rt := Q } (start N vs) H) : HasM P w K mg base C m ps (k + 1) sp := by
  obtain ⟨f, fd, F, a, b⟩ := D
  obtain ⟨oc, od, kV, doc, pm, an, cdv, ct, osl, e, lk, hcd⟩ := id F.ex
  exact ⟨f, fd, a, b, F.ok S len (hbody f)⟩
end
section
variable {X : Cx} {k : Nat} {ps : List Str} {sp : Sp} {C : Addr} {m x : Str} {p pos apos : Pos} {o e : Expr} {es : List Expr} {t : TA} {ta : TE}
theorem pe_mth {pl : Sem Bool} (F : HasM X.prog X.w X.K X.mg X.base C m ps k sp) (c : Cls X.K C) (hr : Room k X.A) (he : PE X o ta) (ha : PA X (e :: es) t)
    (hst : starEach (e :: es) X.env = (false, eval e X.env) :: starEach es X.env := by rfl) (hpl : (backTo pos (starEach es X.env)).any (·.1) = false := by rfl)
    (ht : eval (.Call (.Attribute o m apos) (e :: es) [] pos) X.env = (do
      let ov ← eval o X.env
      standAt apos.atName
      let (f, first) ← holding [ov] (getMethod ov m pl)
      callWith pos f first (backTo pos (starEach (e :: es) X.env)) (backToKw pos (keywordEach [] X.env))) := by rfl) :
    PE X (.Call (.Attribute o m apos) (e :: es) [] pos) (tMeth C m sp [] E0 ta t) := by
  obtain ⟨f, fd, a, b, G⟩ := F
  exact pe_meth he c a G hr (.all b) .nil pass0 ha hst hpl ht
theorem pe_mth0 {pl : Sem Bool} (F : HasM X.prog X.w X.K X.mg X.base C m ps k sp) (c : Cls X.K C) (hr : Room k X.A) (he : PE X o ta)
    (ht : eval (.Call (.Attribute o m apos) [] [] pos) X.env = (do
      let ov ← eval o X.env
      standAt apos.atName
      let (f, first) ← holding [ov] (getMethod ov m pl)
      callWith pos f first (backTo pos (starEach [] X.env)) (backToKw pos (keywordEach [] X.env))) := by rfl) :
    PE X (.Call (.Attribute o m apos) [] [] pos) (tMeth C m sp [] E0 ta tNil) := by
  obtain ⟨f, fd, a, b, G⟩ := F
  exact pe_meth0 he c a G hr (.all b) .nil pass0 ht
end
/-! ### [e for x, y in zip(..)] -/
end L2
namespace L2
open PySem PySem.Spec PyProof.Rows
section
variable {X : Cx} (K : PySem.W.Frag) (h : X.K = K)
include h
end
end L2


namespace L2
open PySem PySem.Spec PyProof.Rows
end L2

/-! blanks: a text times an int. -/
namespace L2
open PySem PySem.Spec PyProof.Rows
section
variable {X : Cx}
end
end L2

/-! A comprehension with any target; a op b op c op d; a sign times an int. -/
namespace L2
open PySem PySem.Spec PyProof.Rows
/-- one turn more of n -/
def CStep (n i : Nat) (p : Prop) : Prop := ∃ m', m' < n - i ∧ m' = n - (i + 1) ∧ i + 1 ≤ n ∧ p
theorem cstep {n i : Nat} {p : Prop} (h : i < n) (q : p) : CStep n i p := ⟨n - (i + 1), by omega, rfl, h, q⟩
theorem get_lt {α : Type} {xs : List α} {i : Nat} {x : α} (h : xs[i]? = some x) : i < xs.length := (List.getElem?_eq_some_iff.mp h).1
theorem comp_gen {J : It} {xs : List V} {P : Hp → Prop} {own : List Str} {ix : List Nat} {g : TG} {tc : TT} {te : TE} {σ : St} {H1 : Hp} {D : Addr} {Q : VK} (F : Fix J xs P)
    (R : Nat → St → List V → Hp → Prop) (h0 : R 0 (st0 own ix σ) [] (upd H1 D (.lst [])))
    (hP : ∀ i σ' ys H', R i σ' ys H' → P H' ∧ H' D = some (.lst ys) ∧ ys.length ≤ i) (hz : xs.length ≤ sizeLine)
    (hs : ∀ i x σ' ys H', xs[i]? = some x → R i σ' ys H' → g x σ' H' fun σ3 H3 => tc σ3 H3 fun b H4 =>
      if b = true then te σ3 H4 fun y H5 => H5 D = some (.lst ys) ∧ CStep xs.length i (R (i + 1) σ3 (ys ++ [y]) (upd H5 D (.lst (ys ++ [y])))) else H4 D = some (.lst ys) ∧ CStep xs.length i (R (i + 1) σ3 ys H4))
    (hQ : ∀ σ' ys H', R xs.length σ' ys H' → Q (.ref D) H') : CompW own ix J g tc te σ H1 D Q := by
  refine ⟨fun i m σ' ys H' => m = xs.length - i ∧ i ≤ xs.length ∧ R i σ' ys H', ⟨xs.length, by simp, Nat.zero_le _, h0⟩, ?_⟩
  rintro i m σ' ys H' ⟨rfl, hi, r⟩
  obtain ⟨p1, p2, p3⟩ := hP i σ' ys H' r
  refine ⟨p2, ?_⟩
  by_cases hlt : i < xs.length
  · refine .inr ⟨F.go i _ p1 hlt, by omega, fun x H2 y => ?_⟩
    obtain ⟨e, y'⟩ := F.yld i _ x H2 p1 y
    subst e
    exact hs i x σ' ys _ (y' hlt) r
  · have e : i = xs.length := by omega
    subst e
    exact .inl ⟨F.stop _ _ p1 (Nat.le_refl _), hQ σ' ys H' r⟩
section
variable {X : Cx} {a b c d : Expr} {ta tb tc td : TE} {pos : Pos}
end
end L2

/-! MATHEMATICS of names and numbers: texts by their codes. -/
namespace Dm
open PySem PySem.NumText
abbrev co (x : Str) : List Nat := x.cps.toList
theorem co_len (x : Str) : (co x).length = x.length := by simp [Str.length]
theorem ext_co {x y : Str} (h : co x = co y) : x = y := by
  cases x with
  | mk a => cases y with
    | mk b =>
      have : a = b := by
        have h : a.toList = b.toList := h
        exact Array.toList_inj.mp h
      rw [this]
theorem co_mk (l : List Nat) : co ⟨l.toArray⟩ = l := by simp [co]
def sIx' (n d : Nat) : Option Int → Nat
  | none => d
  | some i => if i < 0 then (max (i + (n : Int)) 0).toNat else min i.toNat n
theorem pickN (l : List Nat) (i k : Nat) : ((List.range k).map fun m => i + m).filterMap (fun j => l[j]?) = (l.drop i).take k := by
  induction k generalizing i with
  | zero => simp
  | succ k ih =>
    rw [List.range_succ_eq_map, List.map_cons, List.map_map]
    have e : ((List.range k).map ((fun m => i + m) ∘ Nat.succ)) = (List.range k).map fun m => (i + 1) + m := by
      apply List.map_congr_left
      intro a _
      simp only [Function.comp, Nat.succ_eq_add_one]; omega
    rw [e, List.filterMap_cons]
    simp only [Nat.add_zero]
    rw [ih (i + 1)]
    cases h : l[i]? with
    | none =>
      have hl : l.length ≤ i := List.getElem?_eq_none_iff.mp h
      rw [List.drop_eq_nil_of_le hl, List.drop_eq_nil_of_le (by omega)]; simp
    | some v =>
      obtain ⟨hi, e⟩ := List.getElem?_eq_some_iff.mp h
      rw [List.drop_eq_getElem_cons hi, List.take_succ_cons, e]
def clipS (n : Nat) (d : Int) : Option Int → Int
  | none => d
  | some i => max 0 (min (if i < 0 then i + (n : Int) else i) n)
theorem clipS_eq (n d : Nat) (hd : d ≤ n) (o : Option Int) : clipS n d o = ((sIx' n d o : Nat) : Int) := by
  cases o with
  | none => rfl
  | some i => simp only [sIx', clipS]; split <;> omega
theorem sIx'_le (n d : Nat) (hd : d ≤ n) (o : Option Int) : sIx' n d o ≤ n := by
  cases o with
  | none => exact hd
  | some i => simp only [sIx']; split <;> omega
theorem indices_eq (lo hi : Option Int) (n : Nat) : Builtin.Str.strSliceIndices lo hi 1 n = (List.range (sIx' n n hi - sIx' n 0 lo)).map fun m => sIx' n 0 lo + m := by
  have : Builtin.Str.strSliceIndices lo hi 1 n = sliceRange (clipS n 0 lo) (clipS n n hi) 1 := by
    cases lo <;> cases hi <;> rfl
  rw [this, show (0 : Int) = ((0 : Nat) : Int) from rfl, clipS_eq n 0 (Nat.zero_le _), clipS_eq n n (Nat.le_refl _)]
  unfold sliceRange
  simp only [show (1 : Int) > 0 by decide, if_true, Int.one_mul, Int.ediv_one]
  have ec : (if ((sIx' n 0 lo : Nat) : Int) < ((sIx' n n hi : Nat) : Int) then ((sIx' n n hi : Nat) : Int) - ((sIx' n 0 lo : Nat) : Int) + 1 - 1 else 0).toNat = sIx' n n hi - sIx' n 0 lo := by
    split <;> omega
  rw [ec]
  apply List.map_congr_left
  intro a _
  omega
theorem slice_co (x : Str) (lo hi : Option Int) : co (Txt.slice x lo hi) = ((co x).drop (sIx' x.length 0 lo)).take (sIx' x.length x.length hi - sIx' x.length 0 lo) := by
  have key : (Builtin.Str.strSliceIndices lo hi 1 x.length).filterMap (x.cps[·]?) = ((co x).drop (sIx' x.length 0 lo)).take (sIx' x.length x.length hi - sIx' x.length 0 lo) := by
    rw [indices_eq, ← pickN (co x)]
    congr 1
    funext j
    simp [co]
  unfold Txt.slice
  split
  · rename_i h
    have hl : (Builtin.Str.strSliceIndices lo hi 1 x.length).length = x.length := by
      simpa using h
    rw [indices_eq, List.length_map, List.length_range] at hl
    have h1 := sIx'_le x.length x.length (Nat.le_refl _) hi
    have h2 : sIx' x.length 0 lo = 0 ∨ x.length = 0 := by omega
    have h3 := co_len x
    rcases h2 with h2 | h2
    · rw [hl, h2, List.drop_zero, List.take_of_length_le (by omega)]
    · have : co x = [] := List.length_eq_zero_iff.mp (by omega)
      rw [this]; simp
  · rw [co_mk]; exact key

/-! ### names -/
def NAMES : Str := "abcdefghijklmnopqrstuvwxyz0123456789-"
def mades (l : List Nat) (sg : Str) : Bool := l.all fun c => decide (c ∈ co sg)
def nameB (x : Str) : Bool := decide (1 ≤ x.length) && decide (x.length ≤ 12) && mades (co x) NAMES

/-! ### numbers -/
/-! ### str(n) -/
def dg (m : Nat) : List Nat := (Nat.toDigits 10 m).map Char.toNat
/-! ### the law's own reckoning -/
end Dm

/-! MATHEMATICS of the drawn names. -/
namespace Dm
open PySem PySem.NumText
def cellI (ns : List Int) (i : Int) : Int := ns.getD i.toNat 0
def pt (c k m : Int) : Int := (c % 99991 + 17) * (48271 + 7919 * k) % 65537 * (k + 3) % 8191 % m
theorem pt_bd (c k m : Int) (h : 0 < m) : 0 ≤ pt c k m ∧ pt c k m < m := ⟨Int.emod_nonneg _ (by omega), Int.emod_lt_of_pos _ h⟩
/-- the number of the sign at j of the k-th name -/
def nmI (one at' : Int) (k j : Nat) : Int := if (j : Int) = at' then pt one ((j : Int) + 2) 37 + k else pt one ((j : Int) + 2) 37
def nmN (one at' : Int) (k j : Nat) : Nat := (co NAMES).getD (nmI one at' k j % 37).toNat 0
def nmC (one at' : Int) (k size : Nat) : List Nat := (List.range size).map (nmN one at' k)
theorem names_len : (co NAMES).length = 37 := by decide +kernel
theorem names_nd : (co NAMES).Nodup := by decide +kernel
theorem ix37 (z : Int) : 0 ≤ z % 37 ∧ (z % 37).toNat < (co NAMES).length := by
  have h1 := Int.emod_nonneg z (show (37 : Int) ≠ 0 by decide)
  have h2 := Int.emod_lt_of_pos z (show (0 : Int) < 37 by decide)
  rw [names_len]
  omega
theorem nmN_mem (one at' : Int) (k j : Nat) : nmN one at' k j ∈ co NAMES := by
  unfold nmN
  have h := (ix37 (nmI one at' k j)).2
  rw [List.getD_eq_getElem?_getD, List.getElem?_eq_getElem h]
  exact List.getElem_mem h
theorem names_inj {i j : Nat} (hi : i < (co NAMES).length) (hj : j < (co NAMES).length) (h : (co NAMES).getD i 0 = (co NAMES).getD j 0) : i = j := by
  rw [List.getD_eq_getElem?_getD, List.getD_eq_getElem?_getD, List.getElem?_eq_getElem hi, List.getElem?_eq_getElem hj] at h
  have h : (co NAMES)[i] = (co NAMES)[j] := h
  exact (List.getElem_inj names_nd).mp h
theorem nmC_len (one at' : Int) (k size : Nat) : (nmC one at' k size).length = size := by unfold nmC; simp
theorem nmC_get {one at' : Int} {k size j : Nat} (h : j < size) : (nmC one at' k size)[j]? = some (nmN one at' k j) := by
  unfold nmC
  rw [List.getElem?_map, List.getElem?_range h]; rfl
def strOf (l : List Nat) : Str := ⟨l.toArray⟩
theorem co_strOf (l : List Nat) : co (strOf l) = l := co_mk l
theorem strOf_inj {l m : List Nat} (h : strOf l = strOf m) : l = m := by
  have := congrArg co h
  rwa [co_strOf, co_strOf] at this
theorem nameB_of {x : Str} (h1 : 1 ≤ (co x).length) (h2 : (co x).length ≤ 12) (h3 : ∀ c ∈ co x, c ∈ co NAMES) : nameB x = true := by
  rw [co_len] at h1 h2
  unfold nameB
  rw [decide_eq_true h1, decide_eq_true h2]
  show mades (co x) NAMES = true
  exact List.all_eq_true.mpr fun c hc => decide_eq_true (h3 c hc)
theorem nmC_mem {one at' : Int} {k size c : Nat} (h : c ∈ nmC one at' k size) : c ∈ co NAMES := by
  obtain ⟨j, _, rfl⟩ := List.mem_map.mp h
  exact nmN_mem ..
theorem nodup_map_range {f : Nat → Str} {n : Nat} (h : ∀ i j, i < n → j < n → f i = f j → i = j) : ((List.range n).map f).Nodup := by
  unfold List.Nodup
  rw [List.pairwise_map]
  refine List.Pairwise.imp_of_mem (R := (· ≠ ·)) (fun {a b} ha hb hab e => ?_) List.nodup_range
  exact hab (h a b (List.mem_range.mp ha) (List.mem_range.mp hb) e)
end Dm
namespace Dm
open PySem PySem.NumText
theorem emp_is : (Str.ofString "" : Str) = strOf [] := by decide +kernel
theorem app_strOf (l m : List Nat) : strOf l ++ strOf m = strOf (l ++ m) := by
  apply ext_co
  show (l.toArray ++ m.toArray).toList = (l ++ m).toArray.toList
  simp
theorem len_strOf (l : List Nat) : (strOf l).length = l.length := by show l.toArray.size = _; simp
theorem slice_take (l : List Nat) (z : Int) (h0 : 0 ≤ z) (h1 : z ≤ l.length) : Txt.slice (strOf l) none (some z) = strOf (l.take z.toNat) := by
  apply ext_co
  rw [slice_co, co_strOf, co_strOf, len_strOf]
  simp only [sIx']
  rw [if_neg (by omega), List.drop_zero, Nat.sub_zero]
  congr 1
  omega
end Dm

/-! TELLINGS as data: rows of words. -/
namespace Dm
open PySem PySem.NumText L2
def KINDS : List Str := ["over", "cuts", "fills", "same"]
def YearOk (z : Int) : Prop := z.natAbs < 10 ^ 60
/-- a tie between units of us -/
inductive TieOk (us : List Str) : List V → Prop where
  | plain {kd x y : Str} (hk : kd ∈ KINDS) (hx : x ∈ us) (hy : y ∈ us) : TieOk us [.str kd, .str x, .str y]
  | after {x y : Str} {n : Int} (hx : x ∈ us) (hy : y ∈ us) (h0 : 0 ≤ n) (h1 : YearOk n) : TieOk us [.str "after", .str x, .str y, .int n]
theorem TieOk.mono {us us' : List Str} {ws : List V} (h : TieOk us ws) (s : ∀ x ∈ us, x ∈ us') : TieOk us' ws := by
  cases h with
  | plain hk hx hy => exact .plain hk (s _ hx) (s _ hy)
  | after hx hy h0 h1 => exact .after (s _ hx) (s _ hy) h0 h1
theorem name_le {x : Str} (h : nameB x = true) : x.length ≤ 12 := by
  unfold nameB at h
  simp only [Bool.and_eq_true, decide_eq_true_eq] at h
  exact h.1.2
theorem kinds_le : ∀ k ∈ KINDS, k.length ≤ 100 := by decide +kernel
theorem TieOk.words {us : List Str} {ws : List V} (h : TieOk us ws) (hu : ∀ x ∈ us, nameB x = true) : (∀ v ∈ ws, Wd v) ∧ ws.length ≤ 5 ∧ ∃ x r, ws = .str x :: r := by
  have nm : ∀ x ∈ us, Wd (.str x) := fun x hx => .inl ⟨x, rfl, Nat.le_trans (name_le (hu x hx)) (by decide)⟩
  cases h with
  | plain hk hx hy =>
    refine ⟨fun v hv => ?_, by simp, _, _, rfl⟩
    simp only [List.mem_cons, List.not_mem_nil, or_false] at hv
    rcases hv with rfl | rfl | rfl
    · exact .inl ⟨_, rfl, kinds_le _ hk⟩
    · exact nm _ hx
    · exact nm _ hy
  | after hx hy h0 h1 =>
    refine ⟨fun v hv => ?_, by simp, _, _, rfl⟩
    simp only [List.mem_cons, List.not_mem_nil, or_false] at hv
    rcases hv with rfl | rfl | rfl | rfl
    · exact .inl ⟨_, rfl, by decide +kernel⟩
    · exact nm _ hx
    · exact nm _ hy
    · exact .inr ⟨_, rfl, h1⟩
/-- tuples lie at these addresses -/
abbrev Tups (H : Hp) : List Addr → List (List V) → Prop := Paired fun a ws => H a = some (.tup ws)
theorem Tups.same {H H' : Hp} (s : Same H H') : ∀ {as : List Addr} {wss : List (List V)}, Tups H as wss → Tups H' as wss
  | _, _, .nil => .nil
  | _, _, .cons h t => .cons (s _ _ h) (Tups.same s t)
theorem Tups.get {H : Hp} : ∀ {as : List Addr} {wss : List (List V)} {a : Addr}, Tups H as wss → a ∈ as → ∃ ws ∈ wss, H a = some (.tup ws)
  | _, _, _, .cons h t, ha => by
    rcases List.mem_cons.mp ha with ha | ha
    · subst ha; exact ⟨_, List.mem_cons_self .., h⟩
    · obtain ⟨ws, hw, e⟩ := Tups.get t ha
      exact ⟨ws, List.mem_cons_of_mem _ hw, e⟩
theorem Tups.snoc {H : Hp} {a : Addr} {ws : List V} {as : List Addr} {wss : List (List V)} (t : Tups H as wss) (h : H a = some (.tup ws)) : Tups H (as ++ [a]) (wss ++ [ws]) := Paired.snoc t h
end Dm

/-! A telling on the heap: four lists and their tuples. -/
namespace Dm
open PySem PySem.NumText L2
theorem Tups.stay {H H' : Hp} (s : ∀ b xs, H b = some (.tup xs) → H' b = some (.tup xs)) : ∀ {as : List Addr} {wss : List (List V)}, Tups H as wss → Tups H' as wss
  | _, _, .nil => .nil
  | _, _, .cons h t => .cons (s _ _ h) (Tups.stay s t)
theorem tup_stay {H : Hp} {p : Addr} {xs ys : List V} (h : H p = some (.lst xs)) : ∀ b zs, H b = some (.tup zs) → upd H p (.lst ys) b = some (.tup zs) := fun b zs e => by
  rw [upd_ne (ne_of e h (by intro z; cases z))]; exact e
section
variable {H H' : Hp} {pu pt pf pr p : Addr} {us : List Str} {ts fs rs : List (List V)} {at' af ar : List Addr} {ws : List V}
end
theorem eqV_wd {x y : V} (hx : Wd x) (hy : Wd y) : eqV x y = decide (x = y) := by
  rcases hx with ⟨a, rfl, _⟩ | ⟨a, rfl, _⟩ <;> rcases hy with ⟨b, rfl, _⟩ | ⟨b, rfl, _⟩
  · show (a == b) = _
    by_cases h : a = b
    · subst h; simp
    · rw [decide_eq_false (fun z => h (V.str.inj z))]
      exact beq_eq_false_iff_ne.mpr h
  · exact (decide_eq_false (fun z => nomatch z)).symm
  · exact (decide_eq_false (fun z => nomatch z)).symm
  · show (a == b) = _
    by_cases h : a = b
    · subst h; simp
    · rw [decide_eq_false (fun z => h (V.int.inj z))]
      exact beq_eq_false_iff_ne.mpr h
theorem eqL_wd {xs ys : List V} (hx : ∀ v ∈ xs, Wd v) (hy : ∀ v ∈ ys, Wd v) : eqL xs ys = decide (xs = ys) := by
  by_cases h : xs = ys
  · subst h
    rw [eqL_refl fun x q => (hx x q).flat, decide_eq_true rfl]
  · rw [decide_eq_false h]
    rw [← Bool.not_eq_true]
    intro q
    unfold eqL at q
    rw [Bool.and_eq_true] at q
    obtain ⟨q1, q2⟩ := q
    have q2 : xs.length = ys.length := by simpa using q2
    apply h
    apply List.ext_getElem q2
    intro i h1 h2
    have := List.all_eq_true.mp q1 i (List.mem_range.mpr (by omega))
    rw [List.getElem?_eq_getElem h1, List.getElem?_eq_getElem h2] at this
    have e : eqV xs[i] ys[i] = true := this
    rw [eqV_wd (hx _ (List.getElem_mem h1)) (hy _ (List.getElem_mem h2))] at e
    exact of_decide_eq_true e
theorem Tups.len {H : Hp} {as : List Addr} {wss : List (List V)} (t : Tups H as wss) : as.length = wss.length := Paired.length t
/-- is the tuple at p one of those? -/
theorem Tups.any {H : Hp} {as : List Addr} {wss : List (List V)} {ws : List V} (t : Tups H as wss) : ∀ (e : V → Bool), (∀ a vs, vs ∈ wss → H a = some (.tup vs) → e (.ref a) = decide (vs = ws)) → (as.map V.ref).any e = decide (ws ∈ wss) := by
  intro e he
  induction t with
  | nil => simp
  | @cons a vs as wss h t ih =>
    rw [List.map_cons, List.any_cons, he a vs (List.mem_cons_self ..) h, ih fun b us q r => he b us (List.mem_cons_of_mem _ q) r]
    by_cases q : vs = ws
    · subst q; simp
    · rw [decide_eq_false q, Bool.false_or]
      have : ws ∈ vs :: wss ↔ ws ∈ wss := by
        rw [List.mem_cons]
        constructor
        · rintro (z | z)
          · exact absurd z.symm q
          · exact z
        · exact .inr
      exact decide_eq_decide.mpr this.symm
/-- what a tuple's equality with the tuple of words at p says -/
def tupE (H : Hp) (ws : List V) : V → Bool
  | .ref a => match H a with
    | some (.tup vs) => decide (vs = ws)
    | _ => false
  | _ => false
theorem tupE_of {H : Hp} {ws vs : List V} {a : Addr} (h : H a = some (.tup vs)) : tupE H ws (.ref a) = decide (vs = ws) := by
  show (match H a with | some (.tup vs) => decide (vs = ws) | _ => false) = _
  rw [h]
theorem Tups.anyE {H : Hp} {as : List Addr} {wss : List (List V)} {ws : List V} (t : Tups H as wss) : (as.map V.ref).any (tupE H ws) = decide (ws ∈ wss) := t.any _ fun _ _ _ h => tupE_of h
theorem Tups.deq {K : PySem.W.Frag} {H : Hp} {n : Nat} {as : List Addr} {wss : List (List V)} {ws : List V} {p : Addr} (t : Tups H as wss) (hw : ∀ vs ∈ wss, ∀ v ∈ vs, Wd v) (hp : H p = some (.tup ws)) (hv : ∀ v ∈ ws, Wd v) :
    ∀ z ∈ as.map V.ref, DEq K H (n + 1) z (.ref p) (tupE H ws z) := by
  intro z hz
  obtain ⟨a, ha, rfl⟩ := List.mem_map.mp hz
  obtain ⟨vs, hvs, e⟩ := t.get ha
  rw [tupE_of e, ← eqL_wd (hw vs hvs) hv]
  exact DEq.flatT (SqT.of e) (SqT.of hp) (fun x q => (hw vs hvs x q).flat) fun x q => (hv x q).flat
end Dm

/-! LINES of words, texts of lines: by their codes. -/
namespace Dm
open PySem PySem.NumText L2
end Dm

namespace Dm
open PySem PySem.NumText L2
theorem cutV_ints (ns : List Int) (lo hi : Option Int) : ∃ cs : List Int, cutV (ns.map V.int) lo hi = cs.map V.int ∧ cs.length ≤ ns.length := by
  refine ⟨(ns.drop (HT.sIx (ns.map V.int).length 0 lo)).take (HT.sIx (ns.map V.int).length (ns.map V.int).length hi - HT.sIx (ns.map V.int).length 0 lo), ?_, ?_⟩
  · unfold cutV
    rw [List.map_take, List.map_drop]
  · rw [List.length_take, List.length_drop]
    omega
end Dm

/-! Rows at addresses; periods. -/
namespace Dm
open PySem PySem.NumText L2
theorem rows_at {α : Type} {H : Hp} {g : α → List V} {ads : List Addr} {ps : List α} {i : Nat} {x : V} (t : Tups H ads (ps.map g)) (hx : (ads.map V.ref)[i]? = some x) :
    ∃ q p, x = .ref q ∧ ps[i]? = some p ∧ ads[i]? = some q ∧ H q = some (.tup (g p)) := by
  rw [List.getElem?_map] at hx
  cases e : ads[i]? with
  | none => rw [e] at hx; cases hx
  | some q =>
    rw [e] at hx
    cases hx
    obtain ⟨ws, h1, h2⟩ := Paired.get' t e
    rw [List.getElem?_map] at h1
    cases e' : ps[i]? with
    | none => rw [e'] at h1; cases h1
    | some p =>
      rw [e'] at h1
      cases h1
      exact ⟨q, p, rfl, rfl, rfl, h2⟩
end Dm

/-! Ties as data, ones as labels, what same ties join. -/
namespace Dm
open PySem PySem.NumText L2
structure Tie where
  k : Str
  a : Str
  b : Str
  g : Option Int
def tieV (t : Tie) : List V := .str t.k :: .str t.a :: .str t.b :: (match t.g with
  | some n => [V.int n]
  | none => [])
structure TOk (us : List Str) (t : Tie) : Prop where
  ok : TieOk us (tieV t)
  a : t.a ∈ us
  b : t.b ∈ us
theorem tieV_1 (t : Tie) : atI (tieV t) 1 = some (.str t.a) := atI_nat (xs := tieV t) (j := 1) rfl
theorem tieV_2 (t : Tie) : atI (tieV t) 2 = some (.str t.b) := atI_nat (xs := tieV t) (j := 2) rfl
/-! ### the order of texts -/
/-! ### what same ties join -/
/-! ### the labels -/
/-! ### the dict of labels -/
/-! ### closed under same ties -/
end Dm

/-! Sorted lists of texts; the groups of ones; dicts with text keys. -/
namespace Dm
open PySem PySem.NumText L2
/-! ### dicts with text keys -/
def dV (ks : List Str) (f : Str → V) : List (Key × V) := ks.map fun x => (Sum.inr x, f x)
/-! ### groups -/
end Dm

/-! What the groups of ones are. -/
namespace Dm
open PySem PySem.NumText L2
section
variable {us : List Str} {ts : List Tie}
end
end Dm

/-! Eight names; where units stand. -/
namespace Dm
open PySem PySem.NumText L2
end Dm

/-! Tellings: units, ties, finds, a frame. -/
namespace Dm
open PySem PySem.NumText L2
structure Fnd where
  n : Str
  u : Str
  lo : Int
  hi : Int
def fndV (f : Fnd) : List V := [.str f.n, .str f.u, .int f.lo, .int f.hi]
structure FOk (us : List Str) (f : Fnd) : Prop where
  n : nameB f.n = true
  u : f.u ∈ us
  le : f.lo ≤ f.hi
  lo : YearOk f.lo
  hi : YearOk f.hi
theorem TOk.mono {us us' : List Str} {t : Tie} (h : TOk us t) (s : ∀ x ∈ us, x ∈ us') : TOk us' t := ⟨h.ok.mono s, s _ h.a, s _ h.b⟩
theorem tieV_inj {t u : Tie} (h : tieV t = tieV u) : t = u := by
  obtain ⟨k, a, b, g⟩ := t
  obtain ⟨k', a', b', g'⟩ := u
  unfold tieV at h
  simp only [List.cons.injEq, V.str.injEq] at h
  obtain ⟨rfl, rfl, rfl, h⟩ := h
  cases g with
  | none =>
    cases g' with
    | none => rfl
    | some n => simp at h
  | some n =>
    cases g' with
    | none => simp at h
    | some n' =>
      simp at h
      rw [h]
end Dm

/-! Texts split; words of a line; what the reading of lines makes of a telling. -/
namespace Dm
open PySem PySem.NumText L2
/-- the words of a line -/
def wordsOf (x : Str) : List Str := (Txt.split x " ").filter fun y => !decide (y = "")
def passedB : List Str → Bool
  | [] => true
  | y :: _ => Txt.startswith y ";"
/-! ### signs of words -/
/-! ### what a row may be -/
/-! ### the state of a reading -/
end Dm

/-! Keys of dicts; the reading object on the heap; a telling's lines in groups. -/
namespace Dm
open PySem PySem.NumText L2
theorem inV_strs (x : Str) (ks : List Str) : inV (.str x) (ks.map V.str) = decide (x ∈ ks) := by
  unfold inV
  induction ks with
  | nil => rfl
  | cons k r ih =>
    rw [List.map_cons, List.any_cons, ih]
    show ((k == x) || decide (x ∈ r)) = _
    by_cases h : k = x
    · subst h; simp
    · rw [beq_eq_false_iff_ne.mpr h, Bool.false_or]
      exact decide_eq_decide.mpr ⟨fun z => List.mem_cons_of_mem _ z, fun z => (List.mem_cons.mp z).resolve_left fun e => h e.symm⟩
/-- words as keys -/
def kW : V → Key
  | .str x => .inr x
  | .int i => .inl i
  | _ => .inl 0
theorem kV_kW {v : V} (h : Wd v) : kV (kW v) = v := by
  rcases h with ⟨x, rfl, _⟩ | ⟨i, rfl, _⟩ <;> rfl
theorem kV_map {ws : List V} (h : ∀ v ∈ ws, Wd v) : (ws.map kW).map kV = ws := by
  rw [List.map_map]
  refine (List.map_congr_left fun v hv => ?_).trans (List.map_id' ws)
  exact kV_kW (h v hv)
theorem kW_inj {ws vs : List V} (h1 : ∀ v ∈ ws, Wd v) (h2 : ∀ v ∈ vs, Wd v) (e : ws.map kW = vs.map kW) : ws = vs := by
  rw [← kV_map h1, ← kV_map h2, e]
theorem valV_none' {κ : Type} [DecidableEq κ] {kvs : List (κ × V)} {k : κ} (h : k ∉ kvs.map (·.1)) : valV kvs k = none := by
  unfold valV
  rw [Option.map_eq_none_iff, List.find?_eq_none]
  intro x hx e
  exact h (List.mem_map.mpr ⟨x, hx, by simpa using e⟩)
theorem valV_some' {κ : Type} [DecidableEq κ] {kvs : List (κ × V)} {k : κ} (h : k ∈ kvs.map (·.1)) : (valV kvs k).isSome = true := by
  rw [← valV_any, List.any_eq_true]
  obtain ⟨x, hx, e⟩ := List.mem_map.mp h
  exact ⟨x, hx, decide_eq_true e⟩
/-! ### the reading object -/
theorem n_fu : ¬ (("frame" : Str) = "units") := by decide +kernel
theorem n_ft : ¬ (("frame" : Str) = "ties") := by decide +kernel
theorem n_fi : ¬ (("frame" : Str) = "finds") := by decide +kernel
theorem n_ut : ¬ (("units" : Str) = "ties") := by decide +kernel
theorem n_ui : ¬ (("units" : Str) = "finds") := by decide +kernel
theorem n_ti : ¬ (("ties" : Str) = "finds") := by decide +kernel
def rfl4 (fv : V) (du dt df : Addr) : List (Str × V) := [("frame", fv), ("units", .ref du), ("ties", .ref dt), ("finds", .ref df)]
theorem rfl4_make (fv : V) (du dt df : Addr) : putF "finds" (.ref df) (putF "ties" (.ref dt) (putF "units" (.ref du) (putF "frame" fv []))) = rfl4 fv du dt df := by
  show putF "finds" (.ref df) (putF "ties" (.ref dt) (if ("frame" : Str) = "units" then _ else _)) = _
  rw [if_neg n_fu]
  show putF "finds" (.ref df) (if ("frame" : Str) = "ties" then _ else (("frame" : Str), fv) :: (if ("units" : Str) = "ties" then _ else _)) = _
  rw [if_neg n_ft, if_neg n_ut]
  show (if ("frame" : Str) = "finds" then _ else (("frame" : Str), fv) :: (if ("units" : Str) = "finds" then _ else (("units" : Str), V.ref du) :: (if ("ties" : Str) = "finds" then _ else _))) = _
  rw [if_neg n_fi, if_neg n_ui, if_neg n_ti]
  rfl
theorem look1 {k x : Str} {v : V} {r : List (Str × V)} (h : k = x) : List.lookup k ((x, v) :: r) = some v := by subst h; simp
theorem look2 {k x : Str} {v : V} {r : List (Str × V)} (h : ¬ k = x) : List.lookup k ((x, v) :: r) = List.lookup k r := by
  rw [List.lookup_cons, beq_eq_false_iff_ne.mpr h]
theorem rfl4_f (fv : V) (du dt df : Addr) : (rfl4 fv du dt df).lookup ("frame" : Str) = some fv := look1 rfl
theorem rfl4_u (fv : V) (du dt df : Addr) : (rfl4 fv du dt df).lookup ("units" : Str) = some (.ref du) := by
  unfold rfl4
  rw [look2 (fun z => n_fu z.symm), look1 rfl]
theorem rfl4_t (fv : V) (du dt df : Addr) : (rfl4 fv du dt df).lookup ("ties" : Str) = some (.ref dt) := by
  unfold rfl4
  rw [look2 (fun z => n_ft z.symm), look2 (fun z => n_ut z.symm), look1 rfl]
theorem rfl4_i (fv : V) (du dt df : Addr) : (rfl4 fv du dt df).lookup ("finds" : Str) = some (.ref df) := by
  unfold rfl4
  rw [look2 (fun z => n_fi z.symm), look2 (fun z => n_ui z.symm), look2 (fun z => n_ti z.symm), look1 rfl]
theorem rfl4_no (fv : V) (du dt df : Addr) {m : Str} (h : m ∉ (["frame", "units", "ties", "finds"] : List Str)) : (rfl4 fv du dt df).lookup m = none := by
  simp only [List.mem_cons, List.not_mem_nil, or_false, not_or] at h
  unfold rfl4
  rw [look2 h.1, look2 h.2.1, look2 h.2.2.1, look2 h.2.2.2]; rfl
/-- the dicts' pairs -/
def dU (us : List Str) : List (Key × V) := us.map fun x => (Sum.inr x, V.bl true)
def dTi (ts : List (List V)) : List (List Key × V) := ts.map fun ws => (ws.map kW, V.bl true)
theorem dU_mem {us : List Str} {x : Str} : (Sum.inr x : Key) ∈ (dU us).map (·.1) ↔ x ∈ us := by
  unfold dU
  rw [List.map_map]
  constructor
  · intro h
    obtain ⟨y, hy, e⟩ := List.mem_map.mp h
    cases e; exact hy
  · intro h
    exact List.mem_map.mpr ⟨x, h, rfl⟩
theorem dU_snoc {us : List Str} {x : Str} (h : x ∉ us) : putK (dU us) (Sum.inr x : Key) (.bl true) = dU (us ++ [x]) := by
  rw [putK_new _ (valV_none' fun z => h (dU_mem.mp z))]
  unfold dU
  rw [List.map_append]; rfl
theorem dTi_mem {ts : List (List V)} {ws : List V} (h1 : ∀ vs ∈ ts, ∀ v ∈ vs, Wd v) (h2 : ∀ v ∈ ws, Wd v) : ws.map kW ∈ (dTi ts).map (·.1) ↔ ws ∈ ts := by
  unfold dTi
  rw [List.map_map]
  constructor
  · intro h
    obtain ⟨y, hy, e⟩ := List.mem_map.mp h
    rw [← kW_inj (h1 y hy) h2 e]; exact hy
  · intro h
    exact List.mem_map.mpr ⟨ws, h, rfl⟩
theorem dTi_snoc {ts : List (List V)} {ws : List V} (h1 : ∀ vs ∈ ts, ∀ v ∈ vs, Wd v) (h2 : ∀ v ∈ ws, Wd v) (h : ws ∉ ts) : putK (dTi ts) (ws.map kW) (.bl true) = dTi (ts ++ [ws]) := by
  rw [putK_new _ (valV_none' fun z => h ((dTi_mem h1 h2).mp z))]
  unfold dTi
  rw [List.map_append]; rfl
end Dm

/-! Own exceptions whose class has an __init__ of its own (or takes one over): made. -/
namespace L2
open PySem PySem.Spec PyProof.Rows
section
variable {prog : Program} {w : World} {A : Around} {h : Heap} {g : Array GenState} {d : Drawn} {t : Nat} {os : OsState} {C : Addr} {bm : List Value}
end
end L2

/-! An own exception raised: the statement. -/
namespace L2
open PySem PySem.Spec PyProof.Rows
section
variable {prog : Program} {w : World} {A : Around} {E : Value → Shared → Prop} {s : Shared} {env : Env} {bm : List Value}
end
end L2

/-! A text with one int in it: f'.. {i}' -/
namespace L2
open PySem PySem.Spec PyProof.Rows
section
variable {X : Cx}
end
end L2

/-! An exception leaves a frame: what stays, and its own dict. -/
namespace L2
open PySem PySem.Spec PyProof.Rows
section
variable {M : Model} {A : Around} {E : Value → Shared → Prop} {s : Shared}
end
end L2

/-! How an exception lies behind a call, and how it goes on. -/
namespace L2
open PySem PySem.Spec PyProof.Rows
section
variable {X : Cx} {pins : List (Addr × Obj)} {σ : St} {H : Hp} {s : Shared} {E : XK} {e : Addr} {cls : Value} {dc : Option Addr}
end
end L2

/-! Defs that may raise: their promises, their calls. -/
namespace L2
open PySem PySem.Spec PyProof.Rows
section
variable {P : Program} {w : World} {K : PySem.W.Frag} {mg : Str → Option Value} {base : Heap}
end
section
variable {X : Cx} {k : Nat} {ps : List Str} {sp : Sp} {E : XK} {C : Addr} {m x : Str} {p pos apos : Pos} {o e : Expr} {es : List Expr} {t : TA} {ta : TE}
end
end L2

/-! ValueError's own __init__, called on an exception of ours. -/
namespace L2
open PySem PySem.Spec PyProof.Rows
section
variable {prog : Program} {w : World} {A : Around} {E : Value → Shared → Prop} {h : Heap} {g : Array GenState} {d : Drawn} {t : Nat} {os : OsState} {C : Addr} {bm : List Value}
end
end L2

/-! An attribute laid on an exception that has no dict yet. -/
namespace L2
open PySem PySem.Spec PyProof.Rows
section
variable {prog : Program} {w : World} {A : Around} {E : Value → Shared → Prop} {R : Result → Shared → Prop} {s : Shared} {K : PySem.W.Frag} {x C : Addr} {name : Str} {v : Value}
end
end L2

/-! An exception that is being made: tracked; its first attribute. -/
namespace L2
open PySem PySem.Spec PyProof.Rows
section
variable {X : Cx} {pins : List (Addr × Obj)} {σ : St} {H : Hp} {s : Shared} {a C : Addr} {dc : Option Addr} {f : Str} {A : Around} {E : Value → Shared → Prop}
end
end L2

/-! Rules: the base's __init__ called by the class's name on an exception; its first attribute laid. -/
namespace L2
open PySem PySem.Spec PyProof.Rows
section
variable {X : Cx} {o e value : Expr} {es : List Expr} {x f : Str} {p pos pos' apos : Pos} {ta tv : TE} {t : TA} {D : Addr}
end
end L2

/-! The statement raise C(a, ..), C an own class under ValueError whose __init__ is a def of the text. -/
namespace L2
open PySem PySem.Spec PyProof.Rows
def del (H : Hp) (e : Addr) : Hp := fun b => if b = e then none else H b
section
variable {X : Cx} {pins : List (Addr × Obj)} {σ : St} {H : Hp} {s : Shared}
end
section
variable {X : Cx} {CX : CXT} {k : Nat} {f C : Addr} {fd : FuncData} {ps : List Str} {sp : Sp} {dvs : List V} {ds : List Value} {E E1 : XK} {x : Str} {p pos cpos : Pos} {e : Expr} {es : List Expr} {t : TA} {bm : List Value}
end
end L2

/-! An exception of a callee, met by a try: its entry is laid, the locals stand. -/
namespace L2
open PySem PySem.Spec PyProof.Rows
section
variable {M : Model} {A : Around} {E : Value → Shared → Prop} {s : Shared}
end
section
variable {X : Cx} {pins : List (Addr × Obj)} {σ : St} {H : Hp} {s : Shared} {E : XK}
end
end L2

/-! Pieces of a handler: is the exception of the class, the name that goes, the exception taken into sight. -/
namespace L2
open PySem PySem.Spec PyProof.Rows
section
variable {M : Model} {A : Around} {E : Value → Shared → Prop} {s : Shared} {K : PySem.W.Frag} {e C D : Addr} {oe : Obj} {b : Bool}
end
section
variable {X : Cx} {pins : List (Addr × Obj)} {σ : St} {H : Hp} {s : Shared}
end
end L2

/-! The statement try .. except. -/
namespace L2
open PySem PySem.Spec PyProof.Rows
abbrev TH := Ends → St → Addr → Option Addr → Hp → Prop
section
variable {X : Cx} {pins : List (Addr × Obj)} {σ : St} {H : Hp} {s : Shared}
end
section
variable {X : Cx} {CX : CXT} {k i : Nat} {f Dc : Addr} {ps : List Str} {sp : Sp} {x n : Str} {p pos hpos : Pos} {e : Expr} {es : List Expr} {t : TA} {Es : St → XK} {b₀ : Stmt} {suite body : List Stmt} {h₀ : ExceptHandler} {rest hs : List ExceptHandler} {ts : TS} {thr th : TH} {tb : (St → XK) → TS}
end
end L2
namespace L2
end L2
namespace L2
open PySem
end L2

/-! An attribute of an exception that a handler holds. -/
namespace L2
open PySem PySem.Spec PyProof.Rows
section
variable {prog : Program} {w : World} {A : Around} {E : Value → Shared → Prop} {s : Shared} {K : PySem.W.Frag} {x C : Addr} {ox : Obj} {od : Option Obj} {name : Str} {v : Value} {expr : Bool} {Q : Value → Shared → Prop}
end
section
variable {X : Cx} {pins : List (Addr × Obj)} {σ : St} {H : Hp} {s : Shared} {a C d : Addr} {fs : List (Str × V)} {f : Str} {v : V} {A : Around} {E : Value → Shared → Prop}
end
section
variable {X : Cx} {e : Expr} {f : Str} {pos : Pos} {ta : TE}
end
end L2
namespace L2
open PySem
end L2

/-! raise C(a, ..) by the class's promise. -/
namespace L2
open PySem PySem.Spec PyProof.Rows
section
variable {X : Cx} {k : Nat} {C : Addr} {ps : List Str} {sp : Sp} {E : XK} {x : Str} {p pos cpos : Pos} {e : Expr} {es : List Expr} {t : TA}
end
end L2

/-! raise C() where C has ValueError's own __init__. -/
namespace L2
open PySem PySem.Spec PyProof.Rows
section
variable {prog : Program} {w : World} {A : Around} {E : Value → Shared → Prop} {s : Shared} {env : Env} {bm : List Value}
end
section
variable {X : Cx} {k : Nat} {C : Addr} {E : XK} {x : Str} {p pos cpos : Pos}
end
end L2

/-! isinstance(e, C) of an exception that a handler holds. -/
namespace L2
open PySem PySem.Spec PyProof.Rows
section
variable {prog : Program} {w : World} {A : Around} {E : Value → Shared → Prop} {s : Shared} {K : PySem.W.Frag} {x C : Addr} {ox : Obj} {od : Option Obj} {name : Str} {v : Value} {fill expr : Bool} {tk : Tok}
end
section
variable {X : Cx}
end
end L2

/-! min and sorted of texts; list.insert. -/
namespace L2
open PySem PySem.Spec PyProof.Rows
section
variable {X : Cx}
end
end L2

/-! t[lo:hi] where it may be the whole of t; d.setdefault(k, x). -/
namespace HT
open PySem PySem.Spec PyProof.Rows PySem.Calls
section
variable {prog : Program} {w : World} {A : Around} {E : Value → Shared → Prop} {s : Shared}
end
end HT
namespace L2
open PySem PySem.Spec PyProof.Rows
section
variable {X : Cx}
end
section
variable {X : Cx} {pins : List (Addr × Obj)} {σ : St} {H : Hp} {s : Shared} {a : Addr} {u r : Value} {A : Around} {E : Value → Shared → Prop}
end
end L2

/-! set(texts): the set is made, with its order left open. -/
namespace L2
open PySem PySem.Spec PyProof.Rows
section
variable {prog : Program} {w : World} {A : Around} {E : Value → Shared → Prop} {s : Shared}
end
end L2

namespace L2
open PySem PySem.Spec PyProof.Rows
/-- the first i, each once -/
def dd (val : Nat → Str) : Nat → List Str
  | 0 => []
  | i + 1 => if val i ∈ dd val i then dd val i else dd val i ++ [val i]
section
variable {prog : Program} {w : World} {A : Around} {R : Result → Shared → Prop} {I : Addr} {fp wr : List Addr} {G : Array GenState → Array GenState → Prop} {n : Nat} {P : Nat → Value → Prop} {St : Nat → Shared → Prop}
end
section
variable {prog : Program} {w : World} {A : Around} {E : Value → Shared → Prop} {s : Shared}
end
end L2

namespace L2
open PySem PySem.Spec PyProof.Rows
section
variable {prog : Program} {w : World} {A : Around} {E : Value → Shared → Prop} {s : Shared}
end
end L2

/-! a set of texts is walked, in any order. -/
namespace L2
open PySem PySem.Spec PyProof.Rows
section
variable {prog : Program} {w : World} {A : Around} {E : Value → Shared → Prop} {s : Shared}
end
end L2

namespace L2
open PySem PySem.Spec PyProof.Rows
section
variable {prog : Program} {w : World} {A : Around} {E : Value → Shared → Prop} {s : Shared}
end
end L2

namespace L2
open PySem PySem.Spec PyProof.Rows
section
variable {prog : Program} {w : World} {A : Around} {E : Value → Shared → Prop} {s : Shared}
end
end L2

namespace L2
open PySem PySem.Spec PyProof.Rows
section
variable {prog : Program} {w : World} {A : Around} {E : Value → Shared → Prop} {s : Shared}
end
end L2

/-! sorted(set(texts)). -/
namespace L2
open PySem PySem.Spec PyProof.Rows
section
variable {prog : Program} {w : World} {A : Around} {s : Shared} {R : Result → Shared → Prop} {I : Addr} {fp wr : List Addr} {n : Nat} {P : Nat → Value → Prop} {St : Nat → Heap → Prop}
end
section
variable {prog : Program} {w : World} {A : Around} {E : Value → Shared → Prop} {s : Shared}
end
end L2

/-! set(texts), sorted(set of texts) as rules. -/
namespace L2
open PySem PySem.Spec PyProof.Rows
section
variable {prog : Program} {w : World} {A : Around} {E : Value → Shared → Prop} {s : Shared}
end
section
variable {X : Cx}
end
end L2

/-! an if whose two ways meet again. -/
namespace L2
open PySem PySem.Spec PyProof.Rows
end L2

/-! a dict that is known to the object, walked; a dict made known. -/
namespace L2
open PySem PySem.Spec PyProof.Rows
section
variable {X : Cx} {tg : Expr}
/-- a dict is made known -/
theorem Inv.frozen {pins : List (Addr × Obj)} {σ : St} {H : Hp} {s : Shared} {a : Addr} {kvs : List (Key × V)} (I : Inv X pins σ H s) (h : H a = some (.dK kvs)) : ∃ ob, Inv X pins σ (upd H a (.frz ob (.dK kvs))) s := by
  obtain ⟨o, e⟩ : ∃ o, s.heap.get? a = some o := by
    obtain ⟨_, _, _, _, o, _, _, e, _⟩ := I.hok a _ h
    exact ⟨o, e⟩
  have ok := I.hok a _ h
  refine ⟨o, I.write (e := a) (h' := s.heap) (t' := s.toks) (by rw [h]; trivial) (.inl rfl) (fun b u _ q => q) ⟨o, e⟩ ⟨e, ?_⟩⟩
  obtain ⟨z, hd, vs, r⟩ := ok
  exact ⟨z, hd, vs, r⟩
end
end L2

/-! a known dict's values walked; sorted(dict); list.reverse; a comprehension over a known dict. -/
namespace L2
open PySem PySem.Spec PyProof.Rows
def Itv (a : Addr) (ob : Obj) (kvs : List (Key × V)) : It :=
  ⟨fun i H => H a = some (.frz ob (.dK kvs)) ∧ i < kvs.length, fun i H x H' => H' = H ∧ ∃ kv, kvs[i]? = some kv ∧ x = kv.2, fun i H => H a = some (.frz ob (.dK kvs)) ∧ kvs.length ≤ i⟩
theorem turn_vals {P : Program} {w : World} {K : PySem.W.Frag} {tg : Expr} (a it : Addr) {ob : Obj} {kvs : List (Key × V)} {es : Array DictEntry} {ep : Nat} (hd : ob.data = .dict es ep) : Turn P w K tg (Itv a ob kvs) [it] it (fun i h => h.IsValIter it a i kvs.length ep) where
  mem := by simp
  obj := fun i h st b hb => by
    have e : b = it := by simpa using hb
    subst e
    obtain ⟨o, e, c, d⟩ := st
    exact ⟨o, e, fun v z => by rw [d] at z; cases z⟩
  keep := fun i h h' st k => st.at fun o e => k it (by simp) o e
  item := by
    intro X hP hw hK hc i pins s σ H E I hf st hg
    subst hP hw hK
    obtain ⟨hq, hx⟩ := hg
    obtain ⟨e0, z, hs, vs, rel, o, es', ep', e, ex, dt, kk, pr, nd⟩ := I.hok a _ hq
    rw [e0] at e
    cases e
    rw [hd] at dt
    cases dt
    have l1 : kvs.length = vs.length := Paired.length rel
    obtain ⟨f0, f1, f2, f3, f4, f5⟩ := hf it (by simp)
    have ek : kvs[i]? = some kvs[i] := List.getElem?_eq_getElem hx
    obtain ⟨w', hw, rw'⟩ := Paired.get' rel ek
    rw [l1] at st
    refine wpAny_pyNext_values_item (k := w'.1) (v := w'.2) st (show s.heap.DictAt (mixKind X.prog X.w) a vs ep from ⟨ob, es, e0, ex, hd, kk, pr, nd⟩) (by rw [hw]) fun h' st' sb => ?_
    have I1 : Inv X pins σ H { s with heap := h' } := I.turned (t' := s.toks) (fun b o hb e => (sb.2 b hb).trans e) f0 f1 f3 f4 f5
    obtain ⟨oi, ei, ci, di⟩ := id st'
    exact ⟨_, rfl, go_of (s := { s with heap := h' }) ei ci di (by decide) ⟨kvs[i].2, H, I1, rw'.2, ⟨rfl, _, ek, rfl⟩, (by show h'.IsValIter it a (i + 1) kvs.length ep; rw [l1]; exact st'), fun b hb => (hf b hb).1⟩⟩
  done := by
    intro X hP hw hK hc i pins s σ H E I hf st hg
    subst hP hw hK
    obtain ⟨hq, hx⟩ := hg
    obtain ⟨e0, z, hs, vs, rel, o, es', ep', e, ex, dt, kk, pr, nd⟩ := I.hok a _ hq
    rw [e0] at e
    cases e
    rw [hd] at dt
    cases dt
    have l1 : kvs.length = vs.length := Paired.length rel
    obtain ⟨f0, f1, f2, f3, f4, f5⟩ := hf it (by simp)
    rw [l1] at st
    exact wpAny_pyNext_values_end (I.ok.hd hc) st (show s.heap.DictAt (mixKind X.prog X.w) a vs ep from ⟨ob, es, e0, ex, hd, kk, pr, nd⟩) (List.getElem?_eq_none (by omega)) fun h' eb => ⟨rfl, I.turned (t' := s.toks) (fun b o hb e => eb b o hb e) f0 f1 f3 f4 f5⟩
  self := fun _ _ _ _ _ st h => wpAny_pyIter_valiter st h
section
variable {X : Cx} {tg : Expr}
def iVals (tl : TE) : TI := fun σ H R => tl σ H fun x H1 => ∃ p a kvs, x = .ref p ∧ H1 p = some (vwO p a) ∧ H1 a = some (.dK kvs) ∧ ∀ ob, R (Itv a ob kvs) (upd H1 a (.frz ob (.dK kvs)))
theorem pi_vals {l : Expr} {tl : TE} (hl : PE X l tl) : PI X tg l (iVals tl) := by
  intro pins s σ H R I h
  refine thn (hl pins s σ H _ I h) fun v s1 hq0 => ?_
  obtain ⟨x, H1, I1, r1, q1⟩ := hq0
  obtain ⟨p, a, kvs, e, hv, hq, q⟩ := q1
  subst e
  cases r1
  have npa : p ≠ a := fun z => by rw [z, hq] at hv; cases hv
  obtain ⟨ob, I2⟩ := I1.frozen hq
  have q := q ob
  have hq2 : upd H1 a (.frz ob (.dK kvs)) a = some (.frz ob (.dK kvs)) := upd_same
  have hv2 : upd H1 a (.frz ob (.dK kvs)) p = some (vwO p a) := by rw [upd_ne npa]; exact hv
  generalize upd H1 a (.frz ob (.dK kvs)) = H2 at q I2 hq2 hv2
  obtain ⟨e0, z, hs, vs, rel, o, es, ep, e, ex, dt, kk, pr, nd⟩ := I2.hok a _ hq2
  rw [e0] at e
  cases e
  obtain ⟨hvw, _, _⟩ := I2.hok p _ hv2
  have l1 : kvs.length = vs.length := Paired.length rel
  refine wpAny_pyIter_values hvw (show s1.heap.DictAt (mixKind X.prog X.w) a vs ep from ⟨ob, es, e0, ex, dt, kk, pr, nd⟩) ?_
  refine ⟨s1.heap.objs.size, [s1.heap.objs.size], _, _, H2, rfl, I2.kept (t' := s1.toks) fun b o e => Heap.get?_push_of_some _ e, turn_vals a _ dt, (by rw [l1]; exact ⟨_, Heap.get?_push_size _ rfl, rfl, rfl⟩), fun b hb => ?_, q⟩
  have e : b = s1.heap.objs.size := by simpa using hb
  subst e
  exact I2.fpOk (Nat.le_refl _) (I2.hok.fresh (Nat.le_refl _))
theorem fix_vals {a : Addr} {ob : Obj} {kvs : List (Key × V)} : Fix (Itv a ob kvs) (kvs.map fun kv => kv.2) (fun H => H a = some (.frz ob (.dK kvs))) :=
  ⟨fun i H h hi => ⟨h, by simpa using hi⟩, fun i H x H' h y => ⟨y.1, fun _ => by obtain ⟨kv, h1, h2⟩ := y.2; rw [List.getElem?_map, h1, h2]; rfl⟩, fun i H h hi => ⟨h, by simpa using hi⟩⟩
end
section
variable {prog : Program} {w : World} {A : Around} {E : Value → Shared → Prop} {s : Shared}
end
section
variable {X : Cx}
end
end L2

/-! max(ints, default=d). -/
namespace L2
open PySem PySem.Spec PyProof.Rows
section
variable {prog : Program} {w : World} {A : Around} {R : Result → Shared → Prop}
end
section
variable {prog : Program} {w : World} {A : Around} {E : Value → Shared → Prop} {s : Shared}
end
section
variable {X : Cx}
end
end L2

/-! Tuples of a number and a text, compared; the greatest and the least of a list of such. -/
namespace L2
open PySem PySem.Spec PyProof.Rows
abbrev IS := Int × Str
section
variable {prog : Program} {w : World} {A : Around} {E : Value → Shared → Prop} {s : Shared}
end
section
variable {prog : Program} {w : World} {A : Around} {R : Result → Shared → Prop}
end
section
variable {prog : Program} {w : World} {A : Around} {E : Value → Shared → Prop} {s : Shared}
end
section
variable {X : Cx}
end
section
variable {prog : Program} {w : World} {A : Around} {R : Result → Shared → Prop}
end
section
variable {prog : Program} {w : World} {A : Around} {E : Value → Shared → Prop} {s : Shared}
end
section
variable {X : Cx}
end
end L2

/-! dict(list of pairs). -/
namespace L2
open PySem PySem.Spec PyProof.Rows
section
variable {prog : Program} {w : World} {A : Around} {E : Value → Shared → Prop} {s : Shared}
end
section
variable {prog : Program} {w : World} {A : Around} {R : Result → Shared → Prop}
end
section
variable {prog : Program} {w : World} {A : Around} {E : Value → Shared → Prop} {s : Shared}
end
section
variable {X : Cx}
end
end L2

/-! The kit's tree of questions of a sort, answered by an order of things that all stand apart: the end is sorted. -/
namespace L2
open PySem PySem.W PyProof.Rows
section
variable {N : Nat} {lt : Nat → Nat → Bool} {s : Shared}
end
end L2

/-! sorted(..) of things that lie on the heap and all stand apart. -/
namespace L2
open PySem PySem.W PyProof.Rows
section
variable {prog : Program} {w : World} {A : Around} {E : Value → Shared → Prop} {s : Shared}
end
/-! ### pairs of texts -/
end L2

/-! sorted(..) of pairs of texts, of a dict that has such for keys, of lists of texts. -/
namespace L2
open PySem PySem.W PyProof.Rows
section
variable {prog : Program} {w : World} {A : Around} {E : Value → Shared → Prop} {s : Shared}
end
section
variable {X : Cx}
end
end L2

/-! dict.update, any(..), many dicts made known at once, sorted(dict of pairs). -/
namespace L2
open PySem PySem.Spec PyProof.Rows
section
variable {X : Cx}
/-- any of a list of bools -/
theorem call_anyB (K : PySem.W.Frag) (hK : X.K = K) (hc : X.calm = true) : CallR X (.builtin "any") (fun xs H Q => ∃ (a : Addr) (bs : List Bool), xs = [V.ref a] ∧ SqL K H a (bs.map V.bl) ∧ Q (.bl (bs.any id)) H) := by
  subst hK
  intro pins s σ H xs us Q I r h
  obtain ⟨a, bs, rfl, ha, q⟩ := h
  obtain ⟨u, rfl, ru⟩ := vals1 r
  cases ru
  obtain ⟨its, rv, pl, hz⟩ := I.list ha
  have e : its = bs.map Value.bool := boolsAre_of rv
  subst e
  have hl := pl.isList
  have hlt : a < s.heap.objs.size := by obtain ⟨_, e, _⟩ := hl; exact Heap.lt_size e
  refine call_any_walk (wpAny_pyIter_list hl ?_)
  refine ⟨s.heap.objs.size, [s.heap.objs.size, a], [s.heap.objs.size], (bs.map Value.bool).toArray.size, _, _, fun i => (bs[i]?).getD false, rfl, Walks.list (A := X.A.in1) (I.ok.hd hc) _ a (Nat.ne_of_lt hlt) (bs.map Value.bool).toArray,
    ⟨⟨_, Heap.get?_push_size _ rfl, rfl, rfl⟩, hl.push _⟩, fun i v s' Q' E' hP hQ => ?_, fun h' tk hk => ?_⟩
  · have hP' : (bs.map Value.bool)[i]? = some v := by simpa using hP
    rw [List.getElem?_map] at hP'
    cases e : bs[i]? with
    | none => rw [e] at hP'; cases hP'
    | some b =>
      rw [e] at hP'
      cases hP'
      simp only [e, Option.getD_some] at hQ
      exact wpAny_truthy_bool hQ
  · have e : ((List.range (bs.map Value.bool).toArray.size).any fun i => (bs[i]?).getD false) = bs.any id := by
      rw [Bool.eq_iff_iff, List.any_eq_true, List.any_eq_true]
      have z : (bs.map Value.bool).toArray.size = bs.length := by simp
      rw [z]
      constructor
      · rintro ⟨i, hi, h⟩
        have hi := List.mem_range.mp hi
        rw [List.getElem?_eq_getElem hi] at h
        exact ⟨bs[i], List.getElem_mem hi, h⟩
      · rintro ⟨b, hb, h⟩
        obtain ⟨i, hi, rfl⟩ := List.mem_iff_getElem.mp hb
        refine ⟨i, List.mem_range.mpr hi, ?_⟩
        rw [List.getElem?_eq_getElem hi]
        exact h
    rw [e]
    refine ⟨.bl (bs.any id), H, I.kept fun b o q' => ?_, rfl, q⟩
    have hb := Heap.lt_size q'
    exact hk b o (fun z => absurd (List.mem_singleton.mp z) (Nat.ne_of_lt hb)) (Heap.get?_push_of_some _ q')
end
end L2

/-! reversed of a list, walked; a dict against the empty one. -/
namespace L2
open PySem PySem.Spec PyProof.Rows
open Sem (wp)
namespace Rv
end Rv
section
variable {prog : Program} {w : World} {A : Around} {E : Value → Shared → Prop} {s : Shared}
end
section
variable {prog : Program} {w : World} {A : Around} {E : Value → Shared → Prop} {s : Shared}
end
section
variable {X : Cx} {tg : Expr}
end
/-! ### a dict against the empty one -/
section
variable {X : Cx}
end
end L2

/-! sum of a list of ints. -/
namespace L2
open PySem PySem.Spec PyProof.Rows
section
variable {X : Cx}
end
end L2

/-! isinstance(e, C) of an exception without attributes. -/
namespace L2
open PySem PySem.Spec PyProof.Rows
section
variable {prog : Program} {w : World} {A : Around} {E : Value → Shared → Prop} {s : Shared} {K : PySem.W.Frag} {x C : Addr} {ox : Obj} {name : Str} {v : Value}
end
section
variable {X : Cx}
end
end L2
namespace L2
open PySem PySem.Spec PyProof.Rows
section
variable {X : Cx}
end
end L2

/-! two promises of one def; isinstance of any caught exception. -/
namespace L2
open PySem PySem.Spec PyProof.Rows
section
variable {P : Program} {w : World} {K : PySem.W.Frag} {mg : Str → Option Value} {base : Heap}
end
section
variable {X : Cx}
end
end L2

/-! A def that is called in a handler's suite. -/
namespace L2
open PySem PySem.Spec PyProof.Rows
section
variable {P : Program} {w : World} {K : PySem.W.Frag} {mg : Str → Option Value} {base : Heap}
end
section
variable {X : Cx} {k : Nat} {ps : List Str} {sp : Sp} {x : Str} {p pos : Pos} {e : Expr} {es : List Expr} {t : TA}
end
end L2

/-! list.index of a text. -/
namespace L2
open PySem PySem.Spec PyProof.Rows
section
variable {X : Cx}
theorem nodup_at {ys : List Str} (nd : ys.Nodup) {i j : Nat} {z : Str} (h1 : ys[i]? = some z) (h2 : ys[j]? = some z) : i = j := by
  obtain ⟨a, ea⟩ := List.getElem?_eq_some_iff.mp h1
  obtain ⟨b, eb⟩ := List.getElem?_eq_some_iff.mp h2
  have pw := List.pairwise_iff_getElem.mp nd
  rcases Nat.lt_trichotomy i j with c | c | c
  · exact absurd (ea.trans eb.symm) (pw i j a b c)
  · exact c
  · exact absurd (eb.trans ea.symm) (pw j i b a c)
end
end L2

/-! A range that goes down; texts with fields. -/
namespace L2
open PySem PySem.Spec PyProof.Rows
section
variable {X : Cx} {tg : Expr}

/-! ### texts with fields -/
end
end L2

/-! dict.pop where the key is a tuple; list.remove of a text. -/
theorem Dm63.erase_map {α β : Type} (f : α → β) : ∀ (l : List α) (i : Nat), (l.map f).eraseIdx i = (l.eraseIdx i).map f
  | [], _ => by simp
  | x :: r, 0 => by simp
  | x :: r, i + 1 => by
    rw [List.map_cons, List.eraseIdx_cons_succ, List.eraseIdx_cons_succ, List.map_cons, Dm63.erase_map f r i]
namespace PySem
open Sem (wp)
section
variable {prog : Program} {w : World} {K : Type} [DecidableEq K] (knd : HeapKind prog w K) (d a : Addr)
theorem erase_is {α : Type} {xs : List (K × α)} {k : K} : ∀ {j : Nat} {p : α}, (xs.map (·.1)).Nodup → xs[j]? = some (k, p) → xs.eraseIdx j = xs.filter fun x => decide (x.1 ≠ k) := by
  induction xs with
  | nil => intro j p _ h; simp at h
  | cons x r ih =>
    intro j p hn h
    rw [List.map_cons, List.nodup_cons] at hn
    cases j with
    | zero =>
      have e : x = (k, p) := by simpa using h
      subst e
      rw [List.eraseIdx_cons_zero, List.filter_cons_of_neg (by simp)]
      refine (List.filter_eq_self.mpr fun y hy => ?_).symm
      refine decide_eq_true fun z => hn.1 ?_
      exact List.mem_map.mpr ⟨y, hy, z⟩
    | succ j =>
      rw [List.getElem?_cons_succ] at h
      rw [List.eraseIdx_cons_succ, ih hn.2 h, List.filter_cons_of_pos]
      refine decide_eq_true fun z => hn.1 ?_
      rw [z]
      exact List.mem_map.mpr ⟨(k, p), List.mem_of_getElem? h, rfl⟩
theorem meetsH_dict_pop :
    MeetsIn prog w (Builtin.«dict.pop» ⟨[.ref d, .ref a], []⟩) (fun A R s => knd.room A.in1 ∧ ∃ (k : K) (xs : List (K × Addr × Value)) (j : Nat) (p : Addr × Value), knd.is s.heap k a ∧ s.heap.DictOfH knd d xs ∧ xs.length ≤ sizeLine ∧ xs[j]? = some (k, p) ∧
      ∀ h', h'.DictOfH knd d (xs.filter fun x => decide (x.1 ≠ k)) → Heap.SameBut d s.heap h' → R (.ok (.ret p.2)) { s with heap := h', toks := s.toks + knd.draws k }) :=
  .of_wp fun A R s ⟨hu, k, xs, j, p, hkey, hm, hsz, hj, h⟩ => by
    have ty := hm.typeIs
    obtain ⟨o, es, ep, ho, hc, hd, he, his, hn⟩ := hm
    have hes := size_of_entries he
    have hjl : j < xs.length := (List.getElem?_eq_some_iff.mp hj).1
    unfold Builtin.«dict.pop»
    refine wpAny_bind ?_
    unfold Builtin.Dict.keyAndDefault
    refine wpAny_bind (wpAny_notOrdered_dict ty ?_)
    show wpAny _ _ (pure (d, Value.ref a, none)) _ _ s
    refine wpAny_pure ?_
    have hne : es.isEmpty = false := by
      rw [Array.isEmpty_eq_false_iff]
      intro z
      rw [z] at hes
      simp at hes
      omega
    have hk : (keyPart (Value.ref a)).isSome = false := rfl
    simp only [hk, Bool.false_eq_true, if_false]
    refine wpAny_bind (wpAny_dictEntries ho hd ?_)
    refine wpAny_bind (wpAny_pure ?_)
    simp only [hne, Bool.false_eq_true, if_false]
    refine wpAny_bind ?_
    unfold Builtin.Dict.takeOut
    refine wpAny_holding ?_
    refine wpAny_bind (knd.pyHash hu hkey (wpAny_bind (wpAny_dictFind_heap (s := { s with toks := s.toks + knd.draws k }) hu hkey ho hd he his hn (fun z => absurd hj (z j p)) fun j' p' hj' => ?_)))
    have ej : j' = j := by
      obtain ⟨l1, e1⟩ := List.getElem?_eq_some_iff.mp hj
      obtain ⟨l2, e2⟩ := List.getElem?_eq_some_iff.mp hj'
      have m1 : (xs.map (·.1))[j]? = some k := by rw [List.getElem?_map, hj]; rfl
      have m2 : (xs.map (·.1))[j']? = some k := by rw [List.getElem?_map, hj']; rfl
      have pw := List.pairwise_iff_getElem.mp hn
      obtain ⟨a1, b1⟩ := List.getElem?_eq_some_iff.mp m1
      obtain ⟨a2, b2⟩ := List.getElem?_eq_some_iff.mp m2
      rcases Nat.lt_trichotomy j' j with c | c | c
      · exact absurd (b2.trans b1.symm) (pw j' j a2 a1 c)
      · exact c
      · exact absurd (b1.trans b2.symm) (pw j j' a1 a2 c)
    subst ej
    rw [hj] at hj'
    cases hj'
    refine wpAny_bind (wpAny_dictEntries (s := { s with toks := s.toks + knd.draws k }) ho hd ?_)
    rw [entry_at he j', hj]
    refine wpAny_bind (wpAny_updateDictKeys (hz := by omega) (s := { s with toks := s.toks + knd.draws k }) ho hd (wpAny_pure ?_))
    simp only [Option.map_some, Option.isNone_some, Bool.false_eq_true, if_false]
    refine wpAny_bind (wpAny_letGo (wpAny_pure ⟨_, rfl, h _ ⟨_, _, ep + 1, Heap.get?_update_self _ ho (Obj.isFreed_of_dict (Obj.data_mapDictKeys hd _)), hc.mapDictKeys _, Obj.data_mapDictKeys hd _, ?_, ?_, ?_⟩ (Heap.SameBut.update ..)⟩))
    · rw [← erase_is hn hj, ← Dm63.erase_map, ← he]
      obtain ⟨l⟩ := es
      simp
    · intro x hx
      exact knd.keeps (his x ((List.mem_filter.mp hx).1)) ho hd (Heap.SameBut.update ..)
    · exact hn.sublist (List.filter_sublist.map _)
end
end PySem
namespace L2
open PySem PySem.Spec PyProof.Rows
section
variable {X : Cx}
theorem KT.drop {H : Hp} {kvs : List (List Key × V)} {xs : List (List Key × Addr × Value)} (r : KT H kvs xs) (k : List Key) : KT H (dropK kvs k) (xs.filter fun x => decide (x.1 ≠ k)) := by
  unfold dropK
  induction r with
  | nil => exact .nil
  | @cons p q ps qs h t ih =>
    obtain ⟨h1, h2, h3⟩ := h
    by_cases c : p.1 = k
    · rw [List.filter_cons_of_neg (by simpa using c), List.filter_cons_of_neg (by rw [← h1]; simpa using c)]
      exact ih
    · rw [List.filter_cons_of_pos (by simpa using c), List.filter_cons_of_pos (by rw [← h1]; simpa using c)]
      exact .cons ⟨h1, h2, h3⟩ ih
theorem KT.find {H : Hp} {kvs : List (List Key × V)} {xs : List (List Key × Addr × Value)} (r : KT H kvs xs) {k : List Key} {v : V} (l : valV kvs k = some v) : ∃ (j : Nat) (p : Addr × Value), xs[j]? = some (k, p) ∧ RelV v p.2 := by
  induction r with
  | nil => cases l
  | @cons p q ps qs h t ih =>
    obtain ⟨h1, h2, h3⟩ := h
    by_cases c : p.1 = k
    · rw [valV_pos c] at l
      cases l
      refine ⟨0, q.2, ?_, h3⟩
      rw [List.getElem?_cons_zero, ← c, h1]
    · rw [valV_neg c] at l
      obtain ⟨j, p', e, r'⟩ := ih l
      exact ⟨j + 1, p', by rw [List.getElem?_cons_succ]; exact e, r'⟩
theorem d_popT {pins : List (Addr × Obj)} {s : Shared} {σ : St} {H : Hp} {a b : Addr} {kvs : List (List Key × V)} {k : List Key} {v : V} {A : Around} {E : Value → Shared → Prop} {Q : Value → Shared → Prop} (hu : A.units + 1 < cLine) (I : Inv X pins σ H s) (e : H a = some (.dT kvs)) (eb : H b = some (.tup (k.map kV))) (l : valV kvs k = some v)
    (h : ∀ w' s', Inv X pins σ (upd H a (.dT (dropK kvs k))) s' → RelV v w' → Q w' s') : wpAny (model X.prog X.w) A (call (.builtin "dict.pop") [.ref a, .ref b]) Q E s := by
  obtain ⟨z, hd, xs, rel, dd⟩ := dt_of I.hok e
  have hz : xs.length ≤ sizeLine := by rw [← Paired.length rel]; exact z
  obtain ⟨j, p, hj, rp⟩ := KT.find rel l
  refine call_meetsIn PySem.F.slot_dict_pop dd.typeIs PySem.F.entry_dict_pop (PySem.F.args_dict_pop_2 _ _) (meetsH_dict_pop (tupleKind (mixKind X.prog X.w)) a b)
    ⟨tupleKind_room_in1 hu, k, xs, j, p, key_of I.hok eb, dd, hz, hj, fun h' dd' hs => h p.2 _ ?_ rp⟩
  obtain ⟨q, es, ep, hq, h2, h3, h4, _, h5⟩ := dd'
  refine d_write I (by rw [e]; exact True.intro) hs ⟨q, hq⟩ ⟨Nat.le_trans (dropK_le kvs k) z, hd, _, (KT.drop rel k).keeps fun c ys ec => ?_, q, es, ep, hq, h2, h3, h4, h5⟩
  rw [upd_ne (ne_of ec e (fun z => nomatch z))]
  exact ec
def tDPopT (td ty : TE) : TE := fun σ H Q => td σ H fun x H1 => ∃ a, x = .ref a ∧ IsD H1 a ∧ ty σ H1 fun y H2 => ∃ kvs k b v, H2 a = some (.dT kvs) ∧ y = .ref b ∧ H2 b = some (.tup (k.map kV)) ∧ valV kvs k = some v ∧ Q v (upd H2 a (.dT (dropK kvs k)))
theorem pe_dpopT {o e : Expr} {apos cpos : Pos} {td ty : TE} (hu : X.A.units + 1 < cLine) (ho : PE X o td) (he : PE X e ty) (m : M1 X o "pop" apos e cpos) : PE X (.Call (.Attribute o "pop" apos) [e] [] cpos) (tDPopT td ty) := by
  intro pins s σ H Q I h
  refine wpAny_Call_method m.base m.few m.line PySem.F.plainAttrs_dict PySem.F.slot_dict_pop PySem.F.type_dict_pop (thn (ho pins s σ H _ I h) fun u s1 hq0 => ?_)
  obtain ⟨x, H1, I1, rx, a, ex, d, q1⟩ := hq0
  subst ex
  obtain rfl : u = Value.ref a := rx
  obtain ⟨t1, t2, _⟩ := isD_at I1 d
  refine ⟨t1, t2, ?_⟩
  rw [m.trees]
  refine Calls.callWith_builtin rfl (Calls.evalArgs_plain (Calls.spliced_cons (thn (he pins s1 σ H1 _ I1 q1) fun iv s2 ⟨y, H2, I2, ry, kvs, k, b, v, ea, ey, eb, l, q2⟩ => Calls.spliced_nil ?_)))
  subst ey
  cases (show iv = Value.ref b from ry)
  exact d_popT hu I2 ea eb l fun w' s3 I3 rw' => ⟨v, _, I3, rw', q2⟩
/-- list.remove of a text that stands there -/
theorem mt_remove : MtM X "list.remove" (fun x vs H Q => ∃ (l : Addr) (ys : List Str) (z : Str) (j : Nat), x = .ref l ∧ vs = [.str z] ∧ H l = some (.lst (ys.map V.str)) ∧ ys[j]? = some z ∧ ys.Nodup ∧ Q .non (upd H l (.lst ((ys.eraseIdx j).map V.str)))) := by
  intro pins s σ H x vs v us Q I rx rv h
  obtain ⟨l, ys, z, j, rfl, rfl, hH, hj, nd, q⟩ := h
  cases rx
  obtain ⟨u, rfl, ru⟩ := vals1 rv
  obtain ⟨t, rfl⟩ := ru
  obtain ⟨hz, its, n, r, hl, e⟩ := I.lstM hH
  have fl : (ys.map V.str).all flatV = true := by rw [List.all_map]; exact List.all_eq_true.mpr fun _ _ => rfl
  rw [List.length_map] at hl hz
  obtain ⟨jl, ej⟩ := List.getElem?_eq_some_iff.mp hj
  have val : ∀ m (hm : m < its.length), ∃ y t', ys[m]? = some y ∧ its[m] = Value.str y t' := fun m hm => by
    have h1 : (ys.map V.str)[m]? = some (.str (ys[m]'(by omega))) := by rw [List.getElem?_map, List.getElem?_eq_getElem (by omega)]; rfl
    obtain ⟨w, hw, rw'⟩ := r.get h1
    obtain ⟨_, ew⟩ := List.getElem?_eq_some_iff.mp hw
    obtain ⟨t', rfl⟩ := rw'
    exact ⟨_, t', List.getElem?_eq_getElem (by omega), ew⟩
  have key : ∀ a : Str, (a.cps.toList == z.cps.toList) = decide (a = z) := fun a => by
    by_cases c : a = z
    · subst c; simp
    · rw [decide_eq_false c]
      refine Bool.eq_false_iff.mpr fun w => c ?_
      have w : a.cps.toList = z.cps.toList := by simpa using w
      cases a; cases z
      simp at w
      simp [w]
  let E : Value → Bool := fun y => match y with | .str a _ => a.cps.toList == z.cps.toList | _ => false
  have he : ∀ y, y ∈ its.toArray → MeetsSeq.EqGives y (.str z t) (E y) := fun y hy => by
    have hy : y ∈ its := by simpa using hy
    obtain ⟨m, hm, rfl⟩ := List.getElem_of_mem hy
    obtain ⟨a, t', _, ea⟩ := val m hm
    rw [ea]
    exact SeqRoads2.EqGives.str a z t' t
  have hit : E (its.toArray[j]'(by rw [List.size_toArray]; omega)) = true := by
    obtain ⟨a, t', h1, h2⟩ := val j (by omega)
    rw [hj] at h1
    cases h1
    rw [List.getElem_toArray, h2]
    show (z.cps.toList == z.cps.toList) = true
    rw [key, decide_eq_true rfl]
  have hno : ∀ m (hm : m < its.toArray.size), m < j → E its.toArray[m] = false := fun m hm hlt => by
    rw [List.size_toArray] at hm
    obtain ⟨a, t', h1, h2⟩ := val m hm
    rw [List.getElem_toArray, h2]
    show (a.cps.toList == z.cps.toList) = false
    rw [key]
    refine decide_eq_false fun c => ?_
    rw [c] at h1
    have := nodup_at nd h1 hj
    omega
  refine call_meets F.slot_list_remove ⟨_, e, rfl⟩ F.entry_list_remove (F.args_list_remove_2 _ _) (MeetsSeq.list_remove l its.toArray n (.str z t) E he j (by rw [List.size_toArray]; omega) hit hno (by rw [List.size_toArray]; omega)) ⟨e, ?_⟩
  refine ⟨.non, _, I.lset (its' := its.eraseIdx j) hH e ?_ (r.eraseIdx j) ?_, rfl, ?_⟩
  · show its.toArray.eraseIdxIfInBounds j = (its.eraseIdx j).toArray
    rw [List.eraseIdxIfInBounds_toArray]
  · rw [List.length_eraseIdx, List.length_map]
    split <;> omega
  · rw [Dm63.erase_map]
    exact q
/-- C(a, ..) of a class of the text -/
theorem pe_newA {C : Addr} {ps : List Str} {k : Nat} {sp : Sp} {x : Str} {p pos : Pos} {e : Expr} {es : List Expr} {t : TA} (F : HasM X.prog X.w X.K X.mg X.base C "__init__" ps k sp) (hmk : PySem.W.makesIn X.K C = true) (hk : PySem.W.keepIn X.K (.ref C) = true) (hr : Room (k + 1) X.A) (hg : Gl X x) (hm : X.mg x = some (.ref C)) (ha : PA X (e :: es) t) (hdb : (x == ("__debug__" : Str)) = false := by decide)
    (he : starEach (e :: es) X.env = (false, eval e X.env) :: starEach es X.env := by rfl) (hpl : (backTo pos (starEach es X.env)).any (·.1) = false := by rfl) :
    PE X (.Call (.Name x p) (e :: es) [] pos) (tMake C sp [] E0 t) := by
  obtain ⟨f, fd, a, b, G⟩ := F
  exact pe_make ⟨hmk, a.at_, a.fn, hk⟩ G hr hg hm (.all b) .nil pass0 ha hdb he hpl
end
end L2

/-! A dict with tuples for keys, walked; a dict that was known is free again. -/
namespace L2
open PySem PySem.Spec PyProof.Rows
section
variable {X : Cx}
inductive IsDk : HO → Prop where
  | k {kvs : List (Key × V)} : IsDk (.dK kvs)
  | t {kvs : List (List Key × V)} : IsDk (.dT kvs)
theorem Inv.thaw {pins : List (Addr × Obj)} {σ : St} {H : Hp} {s : Shared} {a : Addr} {ob : Obj} {u : HO} (I : Inv X pins σ H s) (e : H a = some (.frz ob u)) (hu : IsDk u) (nb : ∀ o v, X.H₀ a ≠ some (.frz o v)) : Inv X pins σ (upd H a u) s := by
  have na : ∀ b, H b = none → b ≠ a := fun b n z => by rw [z, e] at n; cases n
  have nt : ∀ b xs, H b = some (.tup xs) → b ≠ a := fun b xs q z => by rw [z, e] at q; cases q
  have no : ∀ b c, H b = some (.own c) → b ≠ a := fun b c q z => by rw [z, e] at q; cases q
  have nl : ∀ b ps, H b = some (.tbl ps) → b ≠ a := fun b ps q z => by rw [z, e] at q; cases q
  refine ⟨I.ok, I.os, I.bare, ⟨I.base.keep, I.base.slot, fun b o q n hx => ?_, I.base.there, fun b xs q => ?_, fun b o v q => ?_, fun b ps q => ?_⟩, I.loc, I.cell, ?_, fun x c q => ?_, fun p hp => ?_, fun b w q => ?_, I.len⟩
  · have h := I.base.free b o q n hx
    rw [upd_ne (na b h)]
    exact h
  · have h := I.base.tups b xs q
    rw [upd_ne (nt b xs h)]
    exact h
  · have h := I.base.frzs b o v q
    have ne : b ≠ a := fun z => by rw [z] at q; exact nb o v q
    rw [upd_ne ne]
    exact h
  · obtain ⟨m, h⟩ := I.base.tbls b ps q
    refine ⟨m, ?_⟩
    rw [upd_ne (nl b _ h)]
    exact h
  · rw [upd_ne (na _ I.free)]
    exact I.free
  · have h := I.freeC x c q
    rw [upd_ne (na _ h)]
    exact h
  · obtain ⟨h1, h2, h3⟩ := I.pin p hp
    exact ⟨h1, by rw [upd_ne (na _ h2)]; exact h2, h3⟩
  · by_cases c : b = a
    · subst c
      rw [upd_same] at q
      cases q
      exact (I.hok b _ e).2.stay (fun c v _ r => r) (fun c r => by rw [upd_ne (no c b r)]; exact r) fun c xs r => by rw [upd_ne (nt c xs r)]; exact r
    · rw [upd_ne c] at q
      exact (I.hok b w q).stay (fun c v _ r => r) (fun c r => by rw [upd_ne (no c b r)]; exact r) fun c xs r => by rw [upd_ne (nt c xs r)]; exact r
def tThaw (te : TE) : TE := fun σ H Q => ∃ a u, H a = some u ∧ IsDk u ∧ te σ H fun v H' => ∃ ob w, H' a = some (.frz ob w) ∧ IsDk w ∧ Q v (upd H' a w)
theorem pe_thaw {e : Expr} {te : TE} (h : PE X e te) : PE X e (tThaw te) := by
  intro pins s σ H Q I q
  obtain ⟨a, u, ha, hu, q⟩ := q
  have nb : ∀ o v, X.H₀ a ≠ some (.frz o v) := fun o v z => by
    have := I.base.frzs a o v z
    rw [ha] at this
    cases this
    cases hu
  refine thn (h pins s σ H _ I q) fun v s1 hq0 => ?_
  obtain ⟨x, H1, I1, r1, ob, w, e1, hw, q1⟩ := hq0
  exact ⟨x, _, I1.thaw e1 hw nb, r1, q1⟩
theorem Inv.frozenT {pins : List (Addr × Obj)} {σ : St} {H : Hp} {s : Shared} {a : Addr} {kvs : List (List Key × V)} (I : Inv X pins σ H s) (h : H a = some (.dT kvs)) : ∃ ob, s.heap.get? a = some ob ∧ Inv X pins σ (upd H a (.frz ob (.dT kvs))) s := by
  obtain ⟨o, e⟩ : ∃ o, s.heap.get? a = some o := by
    obtain ⟨_, _, _, _, o, _, _, e, _⟩ := I.hok a _ h
    exact ⟨o, e⟩
  have ok := I.hok a _ h
  refine ⟨o, e, I.write (e := a) (h' := s.heap) (t' := s.toks) (by rw [h]; trivial) (.inl rfl) (fun b u _ q => q) ⟨o, e⟩ ⟨e, ?_⟩⟩
  obtain ⟨z, hd, xs, r, dd⟩ := ok
  refine ⟨z, hd, xs, KT.keeps r fun c ys ec => ?_, dd⟩
  rw [upd_ne (ne_of ec h (fun z => nomatch z))]
  exact ec
def ItdT (a : Addr) (ob : Obj) (kvs : List (List Key × V)) (as : List Addr) : It :=
  ⟨fun i H => H a = some (.frz ob (.dT kvs)) ∧ i < as.length, fun i H x H' => H' = H ∧ ∃ b, as[i]? = some b ∧ x = .ref b, fun i H => H a = some (.frz ob (.dT kvs)) ∧ as.length ≤ i⟩
theorem turn_dictT {P : Program} {w : World} {K : PySem.W.Frag} {tg : Expr} (a it : Addr) {ob : Obj} {kvs : List (List Key × V)} {as : List Addr} {es : Array DictEntry} {ep : Nat} (hd : ob.data = .dict es ep) (hl : es.toList.map (·.key) = as.map Value.ref) : Turn P w K tg (ItdT a ob kvs as) [it] it (fun i h => h.IsKeyIter it a i es.size ep) where
  mem := by simp
  obj := fun i h st b hb => by
    have e : b = it := by simpa using hb
    subst e
    obtain ⟨o, e, c, d⟩ := st
    exact ⟨o, e, fun v z => by rw [d] at z; cases z⟩
  keep := fun i h h' st k => st.at fun o e => k it (by simp) o e
  item := by
    intro X hP hw hK hc i pins s σ H E I hf st hg
    subst hP hw hK
    obtain ⟨hq, hx⟩ := hg
    obtain ⟨e0, z, hs, vs, rel, o, es', ep', e, ex, dt, kk, nd⟩ := I.hok a _ hq
    rw [e0] at e
    cases e
    have ls : es.size = as.length := by have := congrArg List.length hl; simpa using this
    have hi : i < es.size := by omega
    have hen : es[i]? = some es[i] := Array.getElem?_eq_getElem hi
    obtain ⟨f0, f1, f2, f3, f4, f5⟩ := hf it (by simp)
    refine key_item st ⟨ob, e0, ex, hd⟩ hen fun h' st' sb => ?_
    have I1 : Inv X pins σ H { s with heap := h' } := I.turned (t' := s.toks) (fun b o hb e => (sb.2 b hb).trans e) f0 f1 f3 f4 f5
    obtain ⟨oi, ei, ci, di⟩ := id st'
    have ek : as[i]? = some as[i] := List.getElem?_eq_getElem hx
    have ekey : es[i].key = Value.ref as[i] := by
      have h1 : (es.toList.map (·.key))[i]? = some es[i].key := by rw [List.getElem?_map, Array.getElem?_toList, hen]; rfl
      have h2 : (as.map Value.ref)[i]? = some (Value.ref as[i]) := by rw [List.getElem?_map, ek]; rfl
      rw [hl, h2] at h1
      exact (Option.some.inj h1).symm
    exact ⟨_, rfl, go_of (s := { s with heap := h' }) ei ci di (by decide) ⟨.ref as[i], H, I1, by rw [ekey]; rfl, ⟨rfl, _, ek, rfl⟩, st', fun b hb => (hf b hb).1⟩⟩
  done := by
    intro X hP hw hK hc i pins s σ H E I hf st hg
    subst hP hw hK
    obtain ⟨hq, hx⟩ := hg
    obtain ⟨e0, z, hs, vs, rel, o, es', ep', e, ex, dt, kk, nd⟩ := I.hok a _ hq
    rw [e0] at e
    cases e
    have ls : es.size = as.length := by have := congrArg List.length hl; simpa using this
    obtain ⟨f0, f1, f2, f3, f4, f5⟩ := hf it (by simp)
    exact key_end (I.ok.hd hc) st ⟨ob, e0, ex, hd⟩ (by omega) fun h' eb => ⟨rfl, I.turned (t' := s.toks) (fun b o hb e => eb b o hb e) f0 f1 f3 f4 f5⟩
  self := fun _ _ _ _ _ st h => wpAny_pyIter_keyiter st h
variable {tg : Expr}
def iDictT (tl : TE) : TI := fun σ H R => tl σ H fun x H1 => ∃ a kvs, x = .ref a ∧ H1 a = some (.dT kvs) ∧ ∀ ob as, KeyTups H1 as kvs → R (ItdT a ob kvs as) (upd H1 a (.frz ob (.dT kvs)))
theorem pi_dictT {l : Expr} {tl : TE} (hl : PE X l tl) : PI X tg l (iDictT tl) := by
  intro pins s σ H R I h
  refine thn (hl pins s σ H _ I h) fun v s1 hq0 => ?_
  obtain ⟨x, H1, I1, r1, q1⟩ := hq0
  obtain ⟨a, kvs, e, hq, q⟩ := q1
  subst e
  cases r1
  obtain ⟨z, hs, xs, rel, o, es, ep, e, ex, dt, he, nd⟩ := I1.hok a _ hq
  obtain ⟨ob, e0, I2⟩ := I1.frozenT hq
  rw [e0] at e
  have eo : ob = o := Option.some.inj e
  rw [← eo] at ex dt
  refine iter_raw hs ⟨ob, e0, ex, dt⟩ ?_
  refine ⟨s1.heap.objs.size, [s1.heap.objs.size], _, _, _, rfl, I2.kept (t' := s1.toks) fun b o e => Heap.get?_push_of_some _ e, turn_dictT a _ (as := xs.map fun x => x.2.1) dt ?_, ⟨_, Heap.get?_push_size _ rfl, rfl, rfl⟩, fun b hb => ?_, q ob _ (keyTups_of rel)⟩
  · rw [he, List.map_map, List.map_map]
    rfl
  · have e : b = s1.heap.objs.size := by simpa using hb
    subst e
    exact I2.fpOk (Nat.le_refl _) (I2.hok.fresh (Nat.le_refl _))
theorem fix_dictT {a : Addr} {ob : Obj} {kvs : List (List Key × V)} {as : List Addr} : Fix (ItdT a ob kvs as) (as.map V.ref) (fun H => H a = some (.frz ob (.dT kvs))) :=
  ⟨fun i H h hi => ⟨h, by simpa using hi⟩, fun i H x H' h y => ⟨y.1, fun hi => by
    obtain ⟨b, hb, rfl⟩ := y.2
    rw [List.getElem?_map, hb]; rfl⟩, fun i H h hi => ⟨h, by simpa using hi⟩⟩
end
end L2

/-! A dig that changes: its dicts, its state. -/
namespace Dm
open PySem PySem.NumText L2
def dFn (fs : List Fnd) (af : List Addr) : List (Key × V) := List.zipWith (fun f a => ((Sum.inr f.n : Key), V.ref a)) fs af
theorem erase_dk {κ : Type} [DecidableEq κ] {kvs : List (κ × V)} {k : κ} {v : V} {j : Nat} (hn : (kvs.map (·.1)).Nodup) (hj : kvs[j]? = some (k, v)) : dropK kvs k = kvs.eraseIdx j := (PySem.erase_is hn hj).symm
theorem dU_keys (us : List Str) : (dU us).map (·.1) = us.map (Sum.inr : Str → Key) := by unfold dU; rw [List.map_map]; rfl
theorem nodup_map' {α β : Type} {f : α → β} (inj : ∀ x y, f x = f y → x = y) {l : List α} (h : l.Nodup) : (l.map f).Nodup := by
  unfold List.Nodup at *
  rw [List.pairwise_map]
  exact h.imp fun hab e => hab (inj _ _ e)
theorem dU_drop {us : List Str} {x : Str} {j : Nat} (nd : us.Nodup) (hj : us[j]? = some x) : dropK (dU us) (Sum.inr x : Key) = dU (us.eraseIdx j) := by
  rw [erase_dk (j := j) (v := .bl true) (by rw [dU_keys]; exact nodup_map' (fun a b e => Sum.inr.inj e) nd) (by unfold dU; rw [List.getElem?_map, hj]; rfl)]
  unfold dU
  rw [Dm63.erase_map]
theorem dTi_drop {ts : List Tie} {t : Tie} {j : Nat} (hw : ∀ vs ∈ ts.map tieV, ∀ v ∈ vs, Wd v) (nd : ts.Nodup) (inj : ∀ x y : Tie, tieV x = tieV y → x = y) (hj : ts[j]? = some t) : dropK (dTi (ts.map tieV)) ((tieV t).map kW) = dTi ((ts.eraseIdx j).map tieV) := by
  have ek : (dTi (ts.map tieV)).map (·.1) = ts.map fun t => (tieV t).map kW := by unfold dTi; rw [List.map_map, List.map_map]; rfl
  rw [erase_dk (j := j) (v := .bl true) ?_ (by unfold dTi; rw [List.getElem?_map, List.getElem?_map, hj]; rfl)]
  · unfold dTi
    rw [← Dm63.erase_map, ← Dm63.erase_map]
  · rw [ek]
    unfold List.Nodup at *
    rw [List.pairwise_map]
    refine nd.imp_of_mem fun {a b} ha hb hab e => hab (inj a b ?_)
    exact kW_inj (hw _ (List.mem_map.mpr ⟨a, ha, rfl⟩)) (hw _ (List.mem_map.mpr ⟨b, hb, rfl⟩)) e
theorem dFn_keys {fs : List Fnd} {af : List Addr} (h : af.length = fs.length) : (dFn fs af).map (·.1) = fs.map fun f => (Sum.inr f.n : Key) := by
  unfold dFn
  induction fs generalizing af with
  | nil => cases af <;> rfl
  | cons f r ih =>
    cases af with
    | nil => simp at h
    | cons a r' => rw [List.zipWith_cons_cons, List.map_cons, List.map_cons, ih (by simpa using h)]
theorem dFn_vals {fs : List Fnd} {af : List Addr} (h : af.length = fs.length) : (dFn fs af).map (·.2) = af.map V.ref := by
  unfold dFn
  induction fs generalizing af with
  | nil => cases af with
    | nil => rfl
    | cons a r => simp at h
  | cons f r ih =>
    cases af with
    | nil => simp at h
    | cons a r' => rw [List.zipWith_cons_cons, List.map_cons, List.map_cons, ih (by simpa using h)]
theorem dFn_at {fs : List Fnd} {af : List Addr} {j : Nat} {f : Fnd} {a : Addr} (hf : fs[j]? = some f) (ha : af[j]? = some a) : (dFn fs af)[j]? = some (Sum.inr f.n, .ref a) := by
  unfold dFn
  rw [List.getElem?_zipWith, hf, ha]
theorem dFn_nd {fs : List Fnd} {af : List Addr} (h : af.length = fs.length) (nd : (fs.map Fnd.n).Nodup) : ((dFn fs af).map (·.1)).Nodup := by
  rw [dFn_keys h]
  have := nodup_map' (f := (Sum.inr : Str → Key)) (fun a b e => Sum.inr.inj e) nd
  rwa [List.map_map] at this
theorem dFn_mem {fs : List Fnd} {af : List Addr} (h : af.length = fs.length) {x : Str} : (Sum.inr x : Key) ∈ (dFn fs af).map (·.1) ↔ x ∈ fs.map Fnd.n := by
  rw [dFn_keys h, List.mem_map, List.mem_map]
  constructor
  · rintro ⟨f, hf, e⟩
    exact ⟨f, hf, Sum.inr.inj e⟩
  · rintro ⟨f, hf, e⟩
    exact ⟨f, hf, by rw [e]⟩
theorem valV_at {κ : Type} [DecidableEq κ] {kvs : List (κ × V)} {k : κ} {v : V} : ∀ {j : Nat}, (kvs.map (·.1)).Nodup → kvs[j]? = some (k, v) → valV kvs k = some v := by
  induction kvs with
  | nil => intro j _ h; simp at h
  | cons p r ih =>
    intro j hn h
    rw [List.map_cons, List.nodup_cons] at hn
    cases j with
    | zero =>
      have e : p = (k, v) := by simpa using h
      subst e
      exact valV_pos rfl
    | succ j =>
      rw [List.getElem?_cons_succ] at h
      have : ¬ p.1 = k := fun z => hn.1 (List.mem_map.mpr ⟨(k, v), List.mem_of_getElem? h, z.symm⟩)
      rw [valV_neg this]
      exact ih hn.2 h
theorem zip_erase {fs : List Fnd} : ∀ {af : List Addr} (j : Nat), (dFn fs af).eraseIdx j = dFn (fs.eraseIdx j) (af.eraseIdx j) := by
  induction fs with
  | nil => intro af j; simp [dFn]
  | cons f r ih =>
    intro af j
    cases af with
    | nil => simp [dFn]
    | cons a r' =>
      cases j with
      | zero => simp [dFn]
      | succ j =>
        show (_ :: dFn r r').eraseIdx (j + 1) = _ :: dFn (r.eraseIdx j) (r'.eraseIdx j)
        rw [List.eraseIdx_cons_succ, ih]
theorem dFn_drop {fs : List Fnd} {af : List Addr} {j : Nat} {f : Fnd} (h : af.length = fs.length) (nd : (fs.map Fnd.n).Nodup) (hf : fs[j]? = some f) : dropK (dFn fs af) (Sum.inr f.n : Key) = dFn (fs.eraseIdx j) (af.eraseIdx j) := by
  have hj := (List.getElem?_eq_some_iff.mp hf).1
  rw [erase_dk (j := j) (dFn_nd h nd) (dFn_at hf (List.getElem?_eq_getElem (by omega))), zip_erase]
theorem dFn_new {fs : List Fnd} {af : List Addr} {f : Fnd} {a : Addr} (h : af.length = fs.length) (hn : f.n ∉ fs.map Fnd.n) : putK (dFn fs af) (Sum.inr f.n : Key) (.ref a) = dFn (fs ++ [f]) (af ++ [a]) := by
  rw [putK_new _ (valV_none' fun z => hn ((dFn_mem h).mp z))]
  unfold dFn
  rw [List.zipWith_append (by omega)]
  rfl
theorem putK_at {κ : Type} [DecidableEq κ] {kvs : List (κ × V)} {k : κ} {v w : V} : ∀ {j : Nat}, (kvs.map (·.1)).Nodup → kvs[j]? = some (k, w) → putK kvs k v = kvs.set j (k, v) := by
  have go : ∀ (kvs : List (κ × V)) (j : Nat), (kvs.map (·.1)).Nodup → kvs[j]? = some (k, w) → kvs.map (fun kv => if kv.1 = k then (kv.1, v) else kv) = kvs.set j (k, v) := by
    intro kvs
    induction kvs with
    | nil => intro j _ h; simp at h
    | cons p r ih =>
      intro j hn h
      rw [List.map_cons, List.nodup_cons] at hn
      cases j with
      | zero =>
        have e : p = (k, w) := by simpa using h
        subst e
        rw [List.map_cons, if_pos rfl, List.set_cons_zero]
        congr 1
        refine (List.map_congr_left fun y hy => ?_).trans (List.map_id r)
        have : ¬ y.1 = k := fun z => hn.1 (List.mem_map.mpr ⟨y, hy, z⟩)
        rw [if_neg this]; rfl
      | succ j =>
        rw [List.getElem?_cons_succ] at h
        have : ¬ p.1 = k := fun z => hn.1 (List.mem_map.mpr ⟨(k, w), List.mem_of_getElem? h, z.symm⟩)
        rw [List.map_cons, if_neg this, List.set_cons_succ, ih j hn.2 h]
  intro j hn h
  unfold putK
  rw [if_pos (List.any_eq_true.mpr ⟨(k, w), List.mem_of_getElem? h, decide_eq_true rfl⟩), go kvs j hn h]
theorem zip_set {fs : List Fnd} {f : Fnd} {a : Addr} : ∀ {af : List Addr} (j : Nat), af.length = fs.length → (dFn fs af).set j (Sum.inr f.n, .ref a) = dFn (fs.set j f) (af.set j a) := by
  induction fs with
  | nil => intro af j _; simp [dFn]
  | cons g r ih =>
    intro af j h
    cases af with
    | nil => simp at h
    | cons b r' =>
      cases j with
      | zero => simp [dFn]
      | succ j =>
        show (_ :: dFn r r').set (j + 1) _ = _ :: dFn (r.set j f) (r'.set j a)
        rw [List.set_cons_succ, ih j (by simpa using h)]
theorem dFn_put {fs : List Fnd} {af : List Addr} {j : Nat} {f f' : Fnd} {a : Addr} (h : af.length = fs.length) (nd : (fs.map Fnd.n).Nodup) (hf : fs[j]? = some f) (en : f'.n = f.n) : putK (dFn fs af) (Sum.inr f.n : Key) (.ref a) = dFn (fs.set j f') (af.set j a) := by
  have hj := (List.getElem?_eq_some_iff.mp hf).1
  rw [putK_at (j := j) (dFn_nd h nd) (dFn_at hf (List.getElem?_eq_getElem (by omega))), ← en, zip_set j h]

structure DigAt (C : Addr) (H : Hp) (p pm du dt df : Addr) (lo hi : Int) (us : List Str) (ts : List Tie) (fs : List Fnd) (af : List Addr) : Prop where
  ob : ∃ dx, H p = some (.ins C dx (rfl4 (.ref pm) du dt df))
  m : H pm = some (.tup [.int lo, .int hi])
  u : H du = some (.dK (dU us))
  t : H dt = some (.dT (dTi (ts.map tieV)))
  f : H df = some (.dK (dFn fs af))
  ft : Tups H af (fs.map fndV)
  nu : du ≠ df
structure DigOk (us : List Str) (ts : List Tie) (fs : List Fnd) : Prop where
  nd : us.Nodup
  nm : ∀ x ∈ us, nameB x = true
  tok : ∀ t ∈ ts, TOk us t
  tnd : ts.Nodup
  fok : ∀ f ∈ fs, FOk us f
  fnd : (fs.map Fnd.n).Nodup
section
variable {C : Addr} {H H' : Hp} {p pm du dt df : Addr} {lo hi : Int} {us us' : List Str} {ts ts' : List Tie} {fs fs' : List Fnd} {af af' : List Addr}
theorem DigOk.tw (h : DigOk us ts fs) : ∀ vs ∈ ts.map tieV, ∀ v ∈ vs, Wd v := fun vs hv => by
  obtain ⟨u, hu, rfl⟩ := List.mem_map.mp hv
  exact ((h.tok u hu).ok.words h.nm).1
theorem DigAt.flen (h : DigAt C H p pm du dt df lo hi us ts fs af) : af.length = fs.length := by have := h.ft.len; rw [List.length_map] at this; exact this
theorem DigAt.same (h : DigAt C H p pm du dt df lo hi us ts fs af) (s : Same H H') : DigAt C H' p pm du dt df lo hi us ts fs af := by
  obtain ⟨dx, e⟩ := h.ob
  exact ⟨⟨dx, s _ _ e⟩, s _ _ h.m, s _ _ h.u, s _ _ h.t, s _ _ h.f, h.ft.same s, h.nu⟩
/-- a list is written -/
theorem DigAt.lst (h : DigAt C H p pm du dt df lo hi us ts fs af) {q : Addr} {xs ys : List V} (e : H q = some (.lst xs)) : DigAt C (upd H q (.lst ys)) p pm du dt df lo hi us ts fs af := by
  obtain ⟨dx, e1⟩ := h.ob
  have st : ∀ b o, H b = some o → o ≠ .lst xs → upd H q (.lst ys) b = some o := fun b o eb ne => by
    rw [upd_ne (fun z => ?_)]
    · exact eb
    · rw [z, e] at eb
      exact ne (Option.some.inj eb).symm
  exact ⟨⟨dx, st _ _ e1 (by intro z; cases z)⟩, st _ _ h.m (by intro z; cases z), st _ _ h.u (by intro z; cases z), st _ _ h.t (by intro z; cases z), st _ _ h.f (by intro z; cases z), h.ft.stay (fun b xs eb => st _ _ eb (by intro z; cases z)), h.nu⟩
theorem DigAt.setU (h : DigAt C H p pm du dt df lo hi us ts fs af) : DigAt C (upd H du (.dK (dU us'))) p pm du dt df lo hi us' ts fs af := by
  obtain ⟨dx, e1⟩ := h.ob
  have st : ∀ b o, H b = some o → o ≠ .dK (dU us) → upd H du (.dK (dU us')) b = some o := fun b o eb ne => by
    rw [upd_ne (fun z => ?_)]
    · exact eb
    · rw [z, h.u] at eb
      exact ne (Option.some.inj eb).symm
  exact ⟨⟨dx, st _ _ e1 (by intro z; cases z)⟩, st _ _ h.m (by intro z; cases z), upd_same, st _ _ h.t (by intro z; cases z), by rw [upd_ne h.nu.symm]; exact h.f, h.ft.stay (fun b xs eb => st _ _ eb (by intro z; cases z)), h.nu⟩
theorem DigAt.setT (h : DigAt C H p pm du dt df lo hi us ts fs af) : DigAt C (upd H dt (.dT (dTi (ts'.map tieV)))) p pm du dt df lo hi us ts' fs af := by
  obtain ⟨dx, e1⟩ := h.ob
  have st : ∀ b o, H b = some o → o ≠ .dT (dTi (ts.map tieV)) → upd H dt (.dT (dTi (ts'.map tieV))) b = some o := fun b o eb ne => by
    rw [upd_ne (fun z => ?_)]
    · exact eb
    · rw [z, h.t] at eb
      exact ne (Option.some.inj eb).symm
  exact ⟨⟨dx, st _ _ e1 (by intro z; cases z)⟩, st _ _ h.m (by intro z; cases z), st _ _ h.u (by intro z; cases z), upd_same, st _ _ h.f (by intro z; cases z), h.ft.stay (fun b xs eb => st _ _ eb (by intro z; cases z)), h.nu⟩
theorem DigAt.setF (h : DigAt C H p pm du dt df lo hi us ts fs af) (ft : Tups H af' (fs'.map fndV)) : DigAt C (upd H df (.dK (dFn fs' af'))) p pm du dt df lo hi us ts fs' af' := by
  obtain ⟨dx, e1⟩ := h.ob
  have st : ∀ b o, H b = some o → o ≠ .dK (dFn fs af) → upd H df (.dK (dFn fs' af')) b = some o := fun b o eb ne => by
    rw [upd_ne (fun z => ?_)]
    · exact eb
    · rw [z, h.f] at eb
      exact ne (Option.some.inj eb).symm
  exact ⟨⟨dx, st _ _ e1 (by intro z; cases z)⟩, st _ _ h.m (by intro z; cases z), by rw [upd_ne h.nu]; exact h.u, st _ _ h.t (by intro z; cases z), upd_same, ft.stay (fun b xs eb => st _ _ eb (by intro z; cases z)), h.nu⟩
end
end Dm

/-! Deeds, what becomes of a dig by them, and what refuses them. -/
namespace Dm
open PySem PySem.NumText L2
inductive Deed where
  | unit (x : Str)
  | drop (x : Str)
  | tie (t : Tie)
  | untie (t : Tie)
  | find (f : Fnd)
  | move (n x : Str)
  | lose (n : Str)
structure SD where
  us : List Str
  ts : List Tie
  fs : List Fnd
def byT (x : Str) (t : Tie) : Bool := inV (.str x) [.str t.a, .str t.b]
def byF (x : Str) (f : Fnd) : Bool := decide (V.str x = V.str f.u)
def usedB (ts : List Tie) (fs : List Fnd) (x : Str) : Bool := ts.any (byT x) || fs.any (byF x)
inductive After : Deed → SD → SD → Prop where
  | unit {s : SD} {x : Str} (h : x ∉ s.us) : After (.unit x) s ⟨s.us ++ [x], s.ts, s.fs⟩
  | drop {s : SD} {x : Str} {j : Nat} (h : s.us[j]? = some x) (hu : usedB s.ts s.fs x = false) : After (.drop x) s ⟨s.us.eraseIdx j, s.ts, s.fs⟩
  | tie {s : SD} {t : Tie} (h1 : t.a ∈ s.us) (h2 : t.b ∈ s.us) (h3 : t ∉ s.ts) : After (.tie t) s ⟨s.us, s.ts ++ [t], s.fs⟩
  | untie {s : SD} {t : Tie} {j : Nat} (h : s.ts[j]? = some t) : After (.untie t) s ⟨s.us, s.ts.eraseIdx j, s.fs⟩
  | find {s : SD} {f : Fnd} (h1 : f.n ∉ s.fs.map Fnd.n) (h2 : f.u ∈ s.us) : After (.find f) s ⟨s.us, s.ts, s.fs ++ [f]⟩
  | move {s : SD} {f : Fnd} {x : Str} {j : Nat} (h : s.fs[j]? = some f) (h2 : x ∈ s.us) : After (.move f.n x) s ⟨s.us, s.ts, s.fs.set j ⟨f.n, x, f.lo, f.hi⟩⟩
  | lose {s : SD} {f : Fnd} {j : Nat} (h : s.fs[j]? = some f) : After (.lose f.n) s ⟨s.us, s.ts, s.fs.eraseIdx j⟩
/-- what a deed may speak of: names out of xs and ms -/
inductive DeedOk (xs ms : List Str) : Deed → Prop where
  | unit {x : Str} (h : x ∈ xs) : DeedOk xs ms (.unit x)
  | drop {x : Str} (h : x ∈ xs) : DeedOk xs ms (.drop x)
  | tie {t : Tie} (h : TOk xs t) : DeedOk xs ms (.tie t)
  | untie {t : Tie} (h : TOk xs t) : DeedOk xs ms (.untie t)
  | find {f : Fnd} (h : FOk xs f) (hm : f.n ∈ ms) : DeedOk xs ms (.find f)
  | move {n x : Str} (hm : n ∈ ms) (h : x ∈ xs) : DeedOk xs ms (.move n x)
  | lose {n : Str} (hm : n ∈ ms) : DeedOk xs ms (.lose n)
theorem TOk.into {xs us : List Str} {t : Tie} (h : TOk xs t) (h1 : t.a ∈ us) (h2 : t.b ∈ us) : TOk us t := by
  obtain ⟨k, a, b, g⟩ := t
  refine ⟨?_, h1, h2⟩
  have := h.ok
  unfold tieV at this ⊢
  cases g with
  | none =>
    cases this with
    | plain hk _ _ => exact .plain hk h1 h2
  | some g =>
    cases this with
    | after _ _ g0 g1 => exact .after h1 h2 g0 g1
/-- the state stays good -/
theorem After.ok {xs ms : List Str} {d : Deed} {s s' : SD} (nm : ∀ x ∈ xs, nameB x = true) (h : After d s s') (hd : DeedOk xs ms d) (ok : DigOk s.us s.ts s.fs) : DigOk s'.us s'.ts s'.fs := by
  cases h with
  | @unit _ x h =>
    cases hd with
    | unit hx =>
      refine ⟨?_, fun y hy => ?_, fun t ht => (ok.tok t ht).mono fun y hy => List.mem_append_left _ hy, ok.tnd, fun f hf => ?_, ok.fnd⟩
      · rw [List.nodup_append]
        exact ⟨ok.nd, by simp, fun a ha b hb e => by simp at hb; subst hb; subst e; exact h ha⟩
      · rcases List.mem_append.mp hy with hy | hy
        · exact ok.nm y hy
        · have : y = x := by simpa using hy
          rw [this]; exact nm _ hx
      · have := ok.fok f hf
        exact ⟨this.n, List.mem_append_left _ this.u, this.le, this.lo, this.hi⟩
  | @drop _ x j h hu =>
    have sub := List.eraseIdx_sublist s.us j
    have keep : ∀ y ∈ s.us, y ≠ x → y ∈ s.us.eraseIdx j := fun y hy ne => by
      obtain ⟨i, hi, e⟩ := List.getElem_of_mem hy
      rw [List.mem_eraseIdx_iff_getElem]
      refine ⟨i, hi, fun z => ne ?_, e⟩
      subst z
      rw [List.getElem?_eq_getElem hi, e] at h
      exact Option.some.inj h
    have hno : ∀ t ∈ s.ts, t.a ≠ x ∧ t.b ≠ x := fun t ht => by
      have h1 : s.ts.any (byT x) = false := by
        unfold usedB at hu
        simp only [Bool.or_eq_false_iff] at hu
        exact hu.1
      have h2 : byT x t = false := by
        rw [List.any_eq_false] at h1
        exact Bool.eq_false_iff.mpr (h1 t ht)
      constructor
      · intro z
        rw [← z] at h2
        unfold byT inV at h2
        simp [eqV] at h2
      · intro z
        rw [← z] at h2
        unfold byT inV at h2
        simp [eqV] at h2
    have hnf : ∀ f ∈ s.fs, f.u ≠ x := fun f hf z => by
      have h1 : s.fs.any (byF x) = false := by
        unfold usedB at hu
        simp only [Bool.or_eq_false_iff] at hu
        exact hu.2
      rw [List.any_eq_false] at h1
      refine h1 f hf ?_
      unfold byF
      rw [z]
      exact decide_eq_true rfl
    refine ⟨ok.nd.sublist sub, fun y hy => ok.nm y (sub.subset hy), fun t ht => ?_, ok.tnd, fun f hf => ?_, ok.fnd⟩
    · have := ok.tok t ht
      exact this.into (keep _ this.a (hno t ht).1) (keep _ this.b (hno t ht).2)
    · have := ok.fok f hf
      exact ⟨this.n, keep _ this.u (hnf f hf), this.le, this.lo, this.hi⟩
  | @tie _ t h1 h2 h3 =>
    cases hd with
    | tie ht =>
      refine ⟨ok.nd, ok.nm, fun u hu => ?_, ?_, ok.fok, ok.fnd⟩
      · rcases List.mem_append.mp hu with hu | hu
        · exact ok.tok u hu
        · have : u = t := by simpa using hu
          rw [this]; exact ht.into h1 h2
      · rw [List.nodup_append]
        exact ⟨ok.tnd, by simp, fun a ha b hb e => by simp at hb; subst hb; subst e; exact h3 ha⟩
  | @untie _ t j h =>
    have sub := List.eraseIdx_sublist s.ts j
    exact ⟨ok.nd, ok.nm, fun u hu => ok.tok u (sub.subset hu), ok.tnd.sublist sub, ok.fok, ok.fnd⟩
  | @find _ f h1 h2 =>
    cases hd with
    | find hf =>
      refine ⟨ok.nd, ok.nm, ok.tok, ok.tnd, fun g hg => ?_, ?_⟩
      · rcases List.mem_append.mp hg with hg | hg
        · exact ok.fok g hg
        · have : g = f := by simpa using hg
          rw [this]; exact ⟨hf.n, h2, hf.le, hf.lo, hf.hi⟩
      · show ((s.fs ++ [f]).map Fnd.n).Nodup
        rw [List.map_append, List.nodup_append]
        exact ⟨ok.fnd, by simp, fun a ha b hb e => by simp at hb; subst hb; subst e; exact h1 ha⟩
  | @move _ f x j h h2 =>
    have hf := ok.fok f (List.mem_of_getElem? h)
    refine ⟨ok.nd, ok.nm, ok.tok, ok.tnd, fun g hg => ?_, ?_⟩
    · rcases List.mem_or_eq_of_mem_set hg with hg | hg
      · exact ok.fok g hg
      · rw [hg]; exact ⟨hf.n, h2, hf.le, hf.lo, hf.hi⟩
    · show ((s.fs.set j ⟨f.n, x, f.lo, f.hi⟩).map Fnd.n).Nodup
      rw [List.map_set]
      have : (s.fs.map Fnd.n).set j f.n = s.fs.map Fnd.n := by
        apply List.ext_getElem?
        intro i
        rw [List.getElem?_set]
        split
        · rename_i e
          subst e
          split
          · rw [List.getElem?_map, h]; rfl
          · rename_i hl
            rw [List.length_map] at hl
            exact absurd (List.getElem?_eq_some_iff.mp h).1 hl
        · rfl
      rw [this]
      exact ok.fnd
  | @lose _ f j h =>
    have sub := List.eraseIdx_sublist s.fs j
    exact ⟨ok.nd, ok.nm, ok.tok, ok.tnd, fun g hg => ok.fok g (sub.subset hg), ok.fnd.sublist (sub.map _)⟩
theorem After.len {d : Deed} {s s' : SD} (h : After d s s') : s'.us.length ≤ s.us.length + 1 ∧ s'.ts.length ≤ s.ts.length + 1 ∧ s'.fs.length ≤ s.fs.length + 1 := by
  have e1 : ∀ j, (s.us.eraseIdx j).length ≤ s.us.length := fun j => (List.eraseIdx_sublist _ j).length_le
  have e2 : ∀ j, (s.ts.eraseIdx j).length ≤ s.ts.length := fun j => (List.eraseIdx_sublist _ j).length_le
  have e3 : ∀ j, (s.fs.eraseIdx j).length ≤ s.fs.length := fun j => (List.eraseIdx_sublist _ j).length_le
  cases h with
  | unit h => exact ⟨by simp, by simp, by simp⟩
  | @drop _ x j h hu => exact ⟨Nat.le_succ_of_le (e1 j), by simp, by simp⟩
  | tie h1 h2 h3 => exact ⟨by simp, by simp, by simp⟩
  | @untie _ t j h => exact ⟨by simp, Nat.le_succ_of_le (e2 j), by simp⟩
  | find h1 h2 => exact ⟨by simp, by simp, by simp⟩
  | move h h2 => exact ⟨by simp, by simp, by simp⟩
  | @lose _ f j h => exact ⟨by simp, by simp, Nat.le_succ_of_le (e3 j)⟩
theorem tups_set {H : Hp} {af : List Addr} {fs : List Fnd} {f f' : Fnd} {b : Addr} (t : Tups H af (fs.map fndV)) {j : Nat} (h : fs[j]? = some f) (eb : H b = some (.tup (fndV f'))) : Tups H (af.set j b) ((fs.set j f').map fndV) := by
  induction fs generalizing af j with
  | nil => simp at h
  | cons g r ih =>
    cases t with
    | cons h1 t1 =>
      cases j with
      | zero => exact .cons eb t1
      | succ j => exact .cons h1 (ih t1 (by simpa using h))
theorem tups_erase {α : Type} {v : α → List V} {H : Hp} {af : List Addr} {fs : List α} (t : Tups H af (fs.map v)) {j : Nat} : Tups H (af.eraseIdx j) ((fs.eraseIdx j).map v) := by
  induction fs generalizing af j with
  | nil => cases t; simp; exact .nil
  | cons g r ih =>
    cases t with
    | cons h1 t1 =>
      cases j with
      | zero => exact t1
      | succ j => exact .cons h1 (ih t1)
end Dm

/-! What lies beneath what; ways down; the shortest way round. -/
namespace Dm
open PySem PySem.NumText L2
abbrev Ln := Str → List (Str × Addr)
end Dm

/-! The ways down as they grow, on the heap. -/
namespace Dm
open PySem PySem.NumText L2
section
variable {Hw H' : Hp} {pm pl : Addr} {ln : Ln} {s : Str} {keys M : List Str} {d : Nat} {ml : List Addr} {fs : List (Str × List Addr)}
end
end Dm
namespace Dm
open PySem PySem.NumText L2
end Dm

/-! Labels made by going over the same ties again and again; ones that stay when those without what lies beneath are taken out. -/
namespace Dm
open PySem PySem.NumText L2
/-! ### labels -/
/-! ### what stays -/
/-! ### ways and what stays -/
end Dm

/-! A telling on the heap, as its units and ties; links as rows. -/
namespace Dm
open PySem PySem.NumText L2
section
variable {K : PySem.W.Frag} {H H' : Hp} {p pu pt : Addr} {x y : V} {us : List Str} {ads : List Addr} {ts : List Tie}
end
end Dm
namespace Dm
open PySem PySem.NumText L2
end Dm

/-! Tellings alike; a round, tie by tie. -/
namespace Dm
open PySem PySem.NumText L2
section
variable {K : PySem.W.Frag} {H : Hp} {n : Nat}
end
end Dm

/-! The least number of steps from a one back to itself. -/
namespace Dm
open PySem PySem.NumText L2
end Dm
namespace Dm
open PySem PySem.NumText L2
end Dm

/-! One order of all ones. -/
namespace Dm
open PySem PySem.NumText L2
end Dm
namespace Dm
open PySem PySem.NumText L2
theorem strs_deqM {K : PySem.W.Frag} {H : Hp} {n : Nat} {xs : List Str} : ∀ x ∈ xs.map V.str, DEq K H n x x true := fun x hx => by
  obtain ⟨z, _, rfl⟩ := List.mem_map.mp hx
  have := DEq.flat (K := K) (H := H) (n := n) (x := .str z) (y := .str z) rfl rfl
  rwa [show eqV (.str z) (.str z) = true from by simp [eqV]] at this
end Dm
namespace Dm
open PySem PySem.NumText L2
end Dm

/-! The law's own lists of a dig. -/
namespace Dm
open PySem PySem.NumText L2
structure LsAt (K : PySem.W.Frag) (H : Hp) (pu pt pf : Addr) (s : SD) (at' ag : List Addr) : Prop where
  u : H pu = some (.lst (s.us.map V.str))
  t : H pt = some (.lst (at'.map V.ref))
  tt : Tups H at' (s.ts.map tieV)
  f : H pf = some (.lst (ag.map V.ref))
  ff : Tups H ag (s.fs.map fndV)
  n1 : pu ≠ pt
  n2 : pu ≠ pf
  n3 : pt ≠ pf
section
variable {K : PySem.W.Frag} {H H' : Hp} {pu pt pf : Addr} {s : SD} {at' ag : List Addr}
theorem LsAt.same (h : LsAt K H pu pt pf s at' ag) (e : Same H H') : LsAt K H' pu pt pf s at' ag := ⟨e _ _ h.u, e _ _ h.t, h.tt.same e, e _ _ h.f, h.ff.same e, h.n1, h.n2, h.n3⟩
theorem LsAt.keep (h : LsAt K H pu pt pf s at' ag) (k : ∀ b xs, H b = some (.lst xs) → H' b = some (.lst xs)) (kt : ∀ b xs, H b = some (.tup xs) → H' b = some (.tup xs)) : LsAt K H' pu pt pf s at' ag := ⟨k _ _ h.u, k _ _ h.t, h.tt.stay kt, k _ _ h.f, h.ff.stay kt, h.n1, h.n2, h.n3⟩
theorem LsAt.tlen (h : LsAt K H pu pt pf s at' ag) : at'.length = s.ts.length := by have := h.tt.len; rw [List.length_map] at this; exact this
theorem LsAt.flen (h : LsAt K H pu pt pf s at' ag) : ag.length = s.fs.length := by have := h.ff.len; rw [List.length_map] at this; exact this
end
theorem flat_strs {xs : List Str} : (xs.map V.str).all flatV = true := by rw [List.all_map]; exact List.all_eq_true.mpr fun _ _ => rfl
section
variable {K : PySem.W.Frag} {H : Hp} {pu pt pf : Addr} {s : SD} {at' ag : List Addr}
theorem LsAt.setU (h : LsAt K H pu pt pf s at' ag) (us : List Str) : LsAt K (upd H pu (.lst (us.map V.str))) pu pt pf ⟨us, s.ts, s.fs⟩ at' ag :=
  ⟨upd_same, by rw [upd_ne h.n1.symm]; exact h.t, h.tt.stay (tup_stay h.u), by rw [upd_ne h.n2.symm]; exact h.f, h.ff.stay (tup_stay h.u), h.n1, h.n2, h.n3⟩
theorem LsAt.setT (h : LsAt K H pu pt pf s at' ag) (ts : List Tie) (at2 : List Addr) (tt : Tups H at2 (ts.map tieV)) : LsAt K (upd H pt (.lst (at2.map V.ref))) pu pt pf ⟨s.us, ts, s.fs⟩ at2 ag :=
  ⟨by rw [upd_ne h.n1]; exact h.u, upd_same, tt.stay (tup_stay h.t), by rw [upd_ne h.n3.symm]; exact h.f, h.ff.stay (tup_stay h.t), h.n1, h.n2, h.n3⟩
theorem LsAt.setF (h : LsAt K H pu pt pf s at' ag) (fs : List Fnd) (ag2 : List Addr) (ff : Tups H ag2 (fs.map fndV)) : LsAt K (upd H pf (.lst (ag2.map V.ref))) pu pt pf ⟨s.us, s.ts, fs⟩ at' ag2 :=
  ⟨by rw [upd_ne h.n2]; exact h.u, by rw [upd_ne h.n3]; exact h.t, h.tt.stay (tup_stay h.f), upd_same, ff.stay (tup_stay h.f), h.n1, h.n2, h.n3⟩
end
theorem ixN_nat {n j : Nat} (h : j < n) : ixN n (j : Int) = some j := by
  unfold ixN
  rw [if_pos (by omega), if_pos (by omega), Int.toNat_natCast]
theorem seqI_nat {n j : Nat} (h : j < n) : seqIndex? (j : Int) n = some j := (ixN_seq (ixN_nat h)).1
theorem After.sub {xs ms : List Str} {d : Deed} {s s' : SD} (h : After d s s') (hd : DeedOk xs ms d) (sub : ∀ x ∈ s.us, x ∈ xs) : ∀ x ∈ s'.us, x ∈ xs := by
  cases h with
  | @unit _ x h =>
    intro y hy
    cases hd with
    | unit hx =>
      rcases List.mem_append.mp hy with hy | hy
      · exact sub y hy
      · have : y = x := by simpa using hy
        rw [this]; exact hx
  | @drop _ x j h hu => exact fun y hy => sub y ((List.eraseIdx_sublist _ j).subset hy)
  | tie h1 h2 h3 => exact sub
  | untie h => exact sub
  | find h1 h2 => exact sub
  | move h h2 => exact sub
  | lose h => exact sub
end Dm

/-! Levels. -/
namespace Dm
open PySem PySem.NumText L2
end Dm
namespace L2
open PySem PySem.Spec PyProof.Rows
end L2
namespace Dm
open PySem PySem.NumText L2
end Dm

/-! Levels, row after row. -/
namespace Dm
open PySem PySem.NumText L2
end Dm

/-! Frames, finds, floors and ceilings. -/
namespace Dm
open PySem PySem.NumText L2
section
variable {K : PySem.W.Frag} {H H' : Hp} {p pm pu pt pf : Addr} {lo hi : Int} {us : List Str} {ads : List Addr} {ts : List Tie} {af : List Addr} {fs : List Fnd}
end
end Dm

/-! Datings. -/
namespace Dm
open PySem PySem.NumText L2
end Dm

/-! Bounds and spans as the laws reckon them. -/
namespace Dm
open PySem PySem.NumText L2
end Dm
namespace Dm
open PySem PySem.NumText L2
end Dm

/-! A dating, told in two ways. -/
namespace Dm
open PySem PySem.NumText L2
end Dm
namespace L2
open PySem
theorem DEq.allL {K : PySem.W.Frag} {H : Hp} {n : Nat} {a b : Addr} {xs ys : List V} (hx : SqL K H a xs) (hy : SqL K H b ys) (hl : xs.length = ys.length) (h : ∀ (i : Nat) x y, xs[i]? = some x → ys[i]? = some y → DEq K H n x y true) : DEq K H (n + 1) (.ref a) (.ref b) true := by
  have := DEq.lst (n := n) (fun _ => true) hx hy hl h
  rw [List.all_eq_true.mpr fun _ _ => rfl] at this
  exact this
end L2

/-! Methods that may raise, by the one or by the other; list.remove of a tuple. -/
namespace L2
open PySem PySem.Spec PyProof.Rows
section
variable {P : Program} {w : World} {K : PySem.W.Frag} {mg : Str → Option Value} {base : Heap}
/-- as HasM, and the function is known -/
def HasML (P : Program) (w : World) (K : PySem.W.Frag) (mg : Str → Option Value) (base : Heap) (CX : CXT) (C : Addr) (m : Str) (ps : List Str) (k : Nat) (sp : Sp) : Prop :=
  ∃ (f : Addr) (fd : FuncData), Meth K C m f ∧ (∃ oc od osl, K.lookup f = some ⟨oc, od, .func fd, osl⟩) ∧ (∀ us : List Value, us.length = ps.length → bindArgs fd ⟨us, []⟩ = pure (ps.zip us)) ∧ FnOk P w K mg base CX k f fd ps sp
theorem DfM.hasL0 {C : Addr} {qual m : Str} {st : Stmt} {N ps : List Str} {k : Nat} {sp : Sp} (D : DfM K C qual m st ps) (S : FnScope N ps (defScope st)) (len : ∀ vs H Q E, sp vs H Q E → vs.length = ps.length)
    (hbody : ∀ (f : Addr) (cdv : Value) (A : Around) (outer : List Env) (s : Shared) (H : Hp) (vs : List V) (Q : VK) (E : XK), Room k (A.deeper (envOfC qual (defScope st) s.heap.objs.size f cdv)) → sp vs H Q E →
      ∃ t, PSs (cxOf CX0 P w K mg base N qual (defScope st) f cdv A outer s H E).nox (defBody st) t ∧ t { nx := fun _ H' => Q .non H', rt := Q } (start N vs) H) : HasML P w K mg base CX0 C m ps (k + 1) sp := by
  obtain ⟨f, fd, F, a, b⟩ := D
  obtain ⟨oc, od, kV, doc, pm, an, cdv, ct, osl, e, lk, hcd⟩ := id F.ex
  exact ⟨f, fd, a, ⟨oc, od, osl, e ▸ lk⟩, b, F.ok S len (hbody f)⟩
theorem HasML.m {C : Addr} {m : Str} {ps : List Str} {k : Nat} {sp : Sp} (F : HasML P w K mg base CX0 C m ps k sp) : HasM P w K mg base C m ps k sp := by
  obtain ⟨f, fd, a, _, b, F⟩ := F
  exact ⟨f, fd, a, b, F⟩
end
section
open SeqAt
end
section
variable {X : Cx}
end
end L2

/-! int of a bool. -/
namespace L2
open PySem PySem.Spec PyProof.Rows
section
variable {X : Cx}
end
end L2

/-! Comprehensions with cells of their own, and comprehensions inside of comprehensions. -/
namespace L2
open PySem PySem.Spec PyProof.Rows
structure CompScopeK (scope osc : Scope) (cap : List Str) : Prop where
  kind : scope.kind = .function
  nd : (scope.names.map (·.1)).Nodup
  loc : ∀ y ∈ scope.names, y.2 = .local → scope.names.lookup y.1 = some .local
  free : ∀ y ∈ scope.names, y.2 = .free → osc.names.lookup y.1 = some .cell ∨ osc.names.lookup y.1 = some .free
  cap : ∀ x ∈ cap, scope.names.lookup x = some .free
def newC (scope : Scope) (C : Addr) : List (Str × Addr) := cellsFrom (C + 1) scope.names []
def cxK (X : Cx) (N : List Str) (scope : Scope) (C : Addr) (s : Shared) (H : Hp) (ex : List Addr) : Cx where
  prog := X.prog
  w := X.w
  K := X.K
  mg := X.mg
  base := X.base
  A := X.A
  N := N
  s₀ := s
  H₀ := H
  env := compEnvC scope (newC scope C ++ freeCl X.env.cells scope.names []) C X.env
  outer := X.stack
  stack := X.stack
  ex := ex
  fn := fun x => scope.names.lookup x == some .cell
  calm := X.calm
  pn := []
  xe := fun _ _ => False
theorem cells_app : ∀ (names : List (Str × NameKind)) (n : Nat) (acc : List (Str × Addr)), cellsFrom n names acc = cellsFrom n names [] ++ acc
  | [], _, _ => rfl
  | (x, k) :: r, n, acc => by
    unfold cellsFrom
    split
    · rw [cells_app r (n + 1) ((x, n) :: acc), cells_app r (n + 1) [(x, n)], List.append_assoc]
      rfl
    · exact cells_app r n acc
theorem cells_mem : ∀ (names : List (Str × NameKind)) (n : Nat) (x : Str) (c : Addr), (x, c) ∈ cellsFrom n names [] → (x, NameKind.cell) ∈ names
  | [], _, _, _, h => by cases h
  | (y, k) :: r, n, x, c, h => by
    unfold cellsFrom at h
    split at h
    · rename_i hk
      rw [cells_app] at h
      rcases List.mem_append.mp h with h | h
      · exact List.mem_cons_of_mem _ (cells_mem r _ x c h)
      · have e : (x, c) = (y, n) := by simpa using h
        have hk : k = .cell := by simpa using hk
        cases e
        rw [hk]
        exact List.mem_cons_self ..
    · exact List.mem_cons_of_mem _ (cells_mem r _ x c h)
theorem look_app {α : Type} {l m : List (Str × α)} {x : Str} {c : α} (h : (l ++ m).lookup x = some c) : l.lookup x = some c ∨ (l.lookup x = none ∧ m.lookup x = some c) := by
  induction l with
  | nil => exact .inr ⟨rfl, h⟩
  | cons p r ih =>
    obtain ⟨y, d⟩ := p
    by_cases e : x = y
    · subst e
      left
      rw [List.cons_append] at h
      simpa using h
    · rw [List.cons_append, lookup_cons_ne e] at h
      rw [lookup_cons_ne e]
      exact ih h
theorem look_none {α : Type} {l m : List (Str × α)} {x : Str} (h : l.lookup x = none) : (l ++ m).lookup x = m.lookup x := by
  induction l with
  | nil => rfl
  | cons p r ih =>
    obtain ⟨y, d⟩ := p
    by_cases e : x = y
    · subst e; simp at h
    · rw [lookup_cons_ne e] at h
      rw [List.cons_append, lookup_cons_ne e]
      exact ih h
theorem look_some {α : Type} {l m : List (Str × α)} {x : Str} {c : α} (h : l.lookup x = some c) : (l ++ m).lookup x = some c := by
  induction l with
  | nil => cases h
  | cons p r ih =>
    obtain ⟨y, d⟩ := p
    by_cases e : x = y
    · subst e
      rw [List.cons_append]
      simpa using h
    · rw [lookup_cons_ne e] at h
      rw [List.cons_append, lookup_cons_ne e]
      exact ih h
theorem nodup_kind {names : List (Str × NameKind)} (nd : (names.map (·.1)).Nodup) {x : Str} {k k' : NameKind} (h : (x, k) ∈ names) (h' : (x, k') ∈ names) : k = k' := by
  induction names with
  | nil => cases h
  | cons p r ih =>
    rw [List.map_cons, List.nodup_cons] at nd
    rcases List.mem_cons.mp h with e | h
    · rcases List.mem_cons.mp h' with e' | h'
      · rw [← e] at e'
        exact ((Prod.mk.injEq .. ▸ e').2).symm
      · exact absurd (List.mem_map.mpr ⟨_, h', by rw [← e]⟩) nd.1
    · rcases List.mem_cons.mp h' with e' | h'
      · exact absurd (List.mem_map.mpr ⟨_, h, by rw [← e']⟩) nd.1
      · exact ih nd.2 h h'
theorem closure_ofK {X : Cx} {pins : List (Addr × Obj)} {σ : St} {H : Hp} {s : Shared} {scope : Scope} {cap : List Str} (I : Inv X pins σ H s) (S : CompScopeK scope X.env.scope cap) :
    closureFor scope X.env = pure (freeCl X.env.cells scope.names []) :=
  closureFor_cells fun x hx hf => I.ok.has x.1 (S.free x hx hf)
theorem inv_compK {X : Cx} {pins : List (Addr × Obj)} {σ : St} {H : Hp} {s : Shared} {scope : Scope} {own cap : List Str} {ix : List Nat} {fp : List Addr} {h₁ : Heap} {m : Str → Option Value} {tk : Nat}
    (I : Inv X pins σ H s) (S : CompScopeK scope X.env.scope cap) (hix : ix.map (fun i => X.N[i]?) = cap.map some) (hf : ∀ b ∈ fp, FpOk X pins H b) (hlt : ∀ b ∈ fp, b < s.heap.objs.size)
    (hn : h₁.Ns s.heap.objs.size m) (hk : ∀ b o, s.heap.get? b = some o → h₁.get? b = some o) (hc : CellsOk h₁ (s.heap.objs.size + 1) (newC scope s.heap.objs.size)) :
    Inv (cxK X (own ++ cap) scope s.heap.objs.size s H fp) [] (st0 own ix σ) H { s with heap := h₁, toks := tk } := by
  have sub : ∀ y d, (freeCl X.env.cells scope.names []).lookup y = some d → X.env.cells.lookup y = some d := freeCl_sub _ _ _ (fun y d h => by cases h)
  have has : ∀ y c, (y, NameKind.free) ∈ scope.names → X.env.cells.lookup y = some c → (freeCl X.env.cells scope.names []).lookup y = some c := fun y c hy hc => freeCl_has _ hc _ _ (fun y d h => by cases h) (.inl hy)
  have two : ∀ y d, (newC scope s.heap.objs.size ++ freeCl X.env.cells scope.names []).lookup y = some d → ((y, d) ∈ newC scope s.heap.objs.size ∧ s.heap.objs.size < d) ∨ (X.env.cells.lookup y = some d ∧ d < s.heap.objs.size) := fun y d h => by
    rcases look_app h with h | ⟨_, h⟩
    · have hm := PySem.mem_of_lookup h
      exact .inl ⟨hm, (hc.empty _ _ hm).2⟩
    · have h := sub _ _ h
      obtain ⟨v, o, ho, _⟩ := I.cell y d h
      exact .inr ⟨h, Heap.lt_size ho⟩
  have hlen : ix.length = cap.length := by
    have := congrArg List.length hix
    simpa using this
  refine ⟨⟨I.mod, S.kind, I.ok.glob, I.ok.blt, Nat.le_refl _, fun x y c e1 e2 => ?_, fun x hx => ?_, fun x c z e => ?_, I.ok.hd, I.ok.frames, .inl rfl, fun b hb => ⟨Nat.ne_of_lt (hlt b hb), fun x c e => ?_⟩, I.bs,
      Nat.le_trans I.ok.bsz I.sz, fun b o e hb => ?_, fun b hb z => ?_, I.stack, I.stkFree⟩, rfl, I.bare, Un.kept hk, ⟨m, hn, fun i x v e1 e2 e3 => ?_⟩, fun x c e => ?_, I.hok.fresh (Nat.le_refl _), fun x c e => ?_, fun p hp => absurd (show p ∈ ([] : List (Addr × Obj)) from hp) (by simp), I.hok.kept hk, ?_⟩
  · rcases two _ _ e1 with ⟨m1, l1⟩ | ⟨m1, l1⟩
    · rcases two _ _ e2 with ⟨m2, l2⟩ | ⟨m2, l2⟩
      · exact name_of_addr hc.apart m1 m2
      · exact absurd l2 (Nat.lt_asymm l1)
    · rcases two _ _ e2 with ⟨m2, l2⟩ | ⟨m2, l2⟩
      · exact absurd l2 (Nat.lt_asymm l1)
      · exact I.ok.inj x y c m1 m2
  · have e := lookup_relabel X.env x scope.names
    have e' : (relabel scope X.env).names.lookup x = _ := e
    have hx' : (relabel scope X.env).names.lookup x = some .cell ∨ (relabel scope X.env).names.lookup x = some .free := hx
    show ∃ c, (newC scope s.heap.objs.size ++ freeCl X.env.cells scope.names []).lookup x = some c
    cases q : (newC scope s.heap.objs.size).lookup x with
    | some c => exact ⟨c, look_some q⟩
    | none =>
      rw [look_none q]
      cases q2 : scope.names.lookup x with
      | none =>
        rw [q2] at e'
        rw [e'] at hx'
        rcases hx' with h | h <;> cases h
      | some kd =>
        rw [q2] at e'
        have mm := PySem.mem_of_lookup q2
        cases kd with
        | free =>
          obtain ⟨c, hc⟩ := I.ok.has x (S.free _ mm rfl)
          exact ⟨c, has x c mm hc⟩
        | cell =>
          have := PySem.W.cellsFrom_some (n := s.heap.objs.size + 1) (names := scope.names) (acc := []) (x := x) (.inl q2)
          unfold newC at q
          rw [q] at this
          cases this
        | _ =>
          rw [e'] at hx'
          rcases hx' with h | h <;> cases h
  · have q2 : scope.names.lookup x = some .cell := by simpa [cxK] using z
    rcases two _ _ e with ⟨m1, l1⟩ | ⟨m1, l1⟩
    · exact Nat.le_of_lt l1
    · have hs := PySem.W.cellsFrom_some (x := x) scope.names (s.heap.objs.size + 1) [] (.inl q2)
      obtain ⟨c', hc'⟩ := Option.isSome_iff_exists.mp hs
      have e3 : (newC scope s.heap.objs.size ++ freeCl X.env.cells scope.names []).lookup x = some c' := look_some hc'
      have e4 : (newC scope s.heap.objs.size ++ freeCl X.env.cells scope.names []).lookup x = some c := e
      rw [e3] at e4
      cases e4
      have := (hc.empty _ _ (PySem.mem_of_lookup hc')).2
      exact absurd l1 (Nat.not_lt.mpr (Nat.le_of_succ_le this))
  · rcases two _ _ e with ⟨m1, l1⟩ | ⟨m1, l1⟩
    · have := hlt b hb
      exact fun z => absurd (z ▸ l1) (Nat.lt_asymm this)
    · exact (hf b hb).2.2.2.2.1 x c m1
  · obtain ⟨f0, f1, f2, f3, f4, f5⟩ := hf b hb
    rcases f3 with z | z
    · exact I.ok.noex b o e z
    · exact absurd (Nat.lt_of_lt_of_le (Nat.lt_of_lt_of_le (Heap.lt_size e) I.ok.bsz) z) (Nat.lt_irrefl _)
  · obtain ⟨f0, f1, f2, f3, f4, f5⟩ := hf b hb
    rcases List.mem_cons.mp (I.stkSub b z) with z | z
    · exact f1 z
    · exact f2 z
  · have e1 : (own ++ cap)[i]? = some x := e1
    unfold st0 at e2
    by_cases hi : i < own.length
    · rw [List.getElem?_append_left (by simpa using hi), List.getElem?_map] at e2
      cases q : own[i]? with
      | none => rw [q] at e2; cases e2
      | some y => rw [q] at e2; cases e2
    · rw [List.getElem?_append_right (by simpa using hi)] at e1
      rw [List.getElem?_append_right (by simpa using hi), List.length_map, List.getElem?_map] at e2
      generalize i - own.length = j at e1 e2
      cases q : ix[j]? with
      | none => rw [q] at e2; cases e2
      | some k =>
        rw [q] at e2
        have e2 : (σ[k]?).join = some v := Option.some.inj e2
        have eσ : σ[k]? = some (some v) := by
          cases q2 : σ[k]? with
          | none => rw [q2] at e2; cases e2
          | some o => rw [q2] at e2; exact congrArg some e2
        have eN : X.N[k]? = some x := by
          have := congrArg (fun l => l[j]?) hix
          simp only [List.getElem?_map, q, e1, Option.map_some] at this
          exact Option.some.inj this
        have hfr := S.cap x (List.mem_of_getElem? e1)
        have hmem := PySem.mem_of_lookup hfr
        have hout := S.free _ hmem rfl
        have hnew : (newC scope s.heap.objs.size).lookup x = none := by
          cases q3 : (newC scope s.heap.objs.size).lookup x with
          | none => rfl
          | some c =>
            have := nodup_kind S.nd (cells_mem _ _ _ _ (PySem.mem_of_lookup q3)) hmem
            cases this
        obtain ⟨m0, hn0, hl⟩ := I.loc
        obtain ⟨u, r, l⟩ := hl k x v eN eσ (.inr hout)
        rcases l with ⟨kd, _⟩ | ⟨kd, c, e, z⟩
        · have kd : X.env.scope.names.lookup x = some .local := kd
          rcases hout with ho | ho <;> (have ho : X.env.scope.names.lookup x = _ := ho; rw [kd] at ho; cases ho)
        · exact ⟨u, r, .inr ⟨relabel_free hfr, c, (look_none hnew).trans (has x c hmem e), z.keeps hk⟩⟩
  · rcases two _ _ e with ⟨m1, l1⟩ | ⟨m1, l1⟩
    · exact ⟨none, (hc.empty _ _ m1).1⟩
    · obtain ⟨v, q⟩ := I.cell x c m1
      exact ⟨v, q.keeps hk⟩
  · rcases two _ _ e with ⟨m1, l1⟩ | ⟨m1, l1⟩
    · exact I.hok.fresh (Nat.le_of_lt l1)
    · exact I.freeC x c m1
  · show (st0 own ix σ).length = (own ++ cap).length
    unfold st0
    simp [hlen]
theorem inv_backK {X : Cx} {pins : List (Addr × Obj)} {σ σ' : St} {H H' : Hp} {s s' : Shared} {scope : Scope} {N : List Str} {fp : List Addr} {h' : Heap}
    (I : Inv X pins σ H s) (hf : ∀ b ∈ fp, FpOk X pins H b) (J : Inv (cxK X N scope s.heap.objs.size s H fp) [] σ' H' s') (hs : Heap.SameBut s.heap.objs.size s'.heap h') : Inv X pins σ H' { s' with heap := h' } := by
  have ne : ∀ b o, s.heap.get? b = some o → b ≠ s.heap.objs.size := fun b o e => Nat.ne_of_lt (Heap.lt_size e)
  have B : Un (frs X.stack) fp H H' s.heap s'.heap := J.base
  refine I.call' (s' := { s' with heap := h' }) (ch := fp) J.os ⟨fun b o e n hb hx => ?_, fun b o e n hb hx => ?_, B.free, fun b o e hx => ?_, B.tups, B.frzs, B.tbls⟩ (fun b ob e => ?_) J.bare fun b hb => ?_
  · exact (hs.2 b (ne b o e)).trans (B.keep b o e n hb hx)
  · obtain ⟨sl, e1⟩ := B.slot b o e n hb hx
    exact ⟨sl, (hs.2 b (ne b o e)).trans e1⟩
  · obtain ⟨o', e1⟩ := B.there b o e hx
    exact ⟨o', (hs.2 b (ne b o e)).trans e1⟩
  · have fr : H' s.heap.objs.size = none := J.free
    refine (J.hok b ob e).stay (fun c w' hc q => (hs.2 c ?_).trans q) (fun _ q => q) fun _ _ q => q
    rintro rfl
    rcases hc with hc | hc
    · rw [← hc, fr] at e; cases e
    · rw [fr] at hc; cases hc
  · obtain ⟨f0, f1, f2, f3, f4, f5⟩ := hf b hb
    exact ⟨f3, f1, f4, f5⟩

theorem new_envK {M : Model} {A : Around} {E : Value → Shared → Prop} {s : Shared} {scope : Scope} {globals : Addr} {cl : List (Str × Addr)} {qual : Str} {outer : Env} {Q : Env → Shared → Prop}
    (h : Q { scope := scope, locals := s.heap.objs.size, globals := globals, cells := newC scope s.heap.objs.size ++ cl, qual := qual, func := none, code := outer.code, frame := outer.frame, builtins := outer.builtins } { s with heap := pushCells (s.heap.push { cls := .type "dict", data := .dict #[] }) scope.names }) :
    wpAny M A (newFunctionEnv scope globals cl [] qual none .none (some outer)) Q E s := by
  simp only [newFunctionEnv, Option.isSome_some, if_true]
  refine wpAny_bind (wpAny_alloc ?_)
  refine wpAny_bind (wpAny_layCells _ (fun name kind cells => by cases hkc : kind == NameKind.cell <;> simp [hkc]) _ _ _ _ ?_)
  rw [show ({ s with heap := s.heap.push { cls := .type "dict", data := .dict #[] } } : Shared).heap.objs.size = s.heap.objs.size + 1 from Heap.size_push .., cells_app]
  refine wpAny_bind ?_
  rw [List.forIn_nil]
  exact wpAny_pure (wpAny_pure h)
section
variable {X : Cx} {tg iter elt : Expr} {ifs : List Expr} {scope : Scope} {pos : Pos} {own cap : List Str} {ix : List Nat} {wi : TI} {g : TG} {tc : TT} {te : TE}
theorem comp_runK {pins : List (Addr × Obj)} {σ : St} {s : Shared} {E : Value → Shared → Prop} {RR : Value → Addr → Result → Shared → Prop} {Q : VK}
    (hc : X.calm = true) (S : CompScopeK scope X.env.scope cap) (hix : ix.map (fun i => X.N[i]?) = cap.map some)
    (hg : ∀ C s H ex, PG (cxK X (own ++ cap) scope C s H ex) tg g) (ht : ∀ C s H ex, PIf (cxK X (own ++ cap) scope C s H ex) ifs tc) (he : ∀ C s H ex, PE (cxK X (own ++ cap) scope C s H ex) elt te)
    {itv : Value} (h : PIE X pins σ tg (fun J H1 => ∀ D, H1 D = none → CompW own ix J g tc te σ H1 D Q) itv s)
    (hR : ∀ (D C : Addr) (s' : Shared) (H' : Hp) (m : Str → Option Value), s'.heap.Ns C m → FpOk X pins H' C → (∀ h', Heap.SameBut C s'.heap h' → Inv X pins σ H' { s' with heap := h' }) → Q (.ref D) H' → RR (.ref D) C (.ok .next) s') :
    wpAny (model X.prog X.w) X.A (newList []) (fun acc s₃ => wpAny (model X.prog X.w) X.A (newFunctionEnv scope X.env.globals (freeCl X.env.cells scope.names []) [] X.env.qual none .none (some X.env)) (fun cenv s₄ =>
      codeAny (model X.prog X.w) X.A (.compStart (.ListComp elt [⟨tg, iter, ifs, 0⟩] scope pos) 0 itv acc { cenv with scope := relabel scope X.env }) (RR acc cenv.locals) s₄) E s₃) E s := by
  obtain ⟨it, fp, tn, J, H2, rfl, I2, T, st2, f2, q2⟩ := h
  refine wpAny_newObj_type (new_envK ?_)
  dsimp only
  have hD : H2 s.heap.objs.size = none := I2.hok.fresh (Nat.le_refl _)
  obtain ⟨W, ⟨m0, w0⟩, turn⟩ := q2 s.heap.objs.size hD
  have I3 : Inv X pins σ (upd H2 s.heap.objs.size (.lst [])) { s with heap := s.heap.push { cls := .type "list", data := .seq ([] : List Value).toArray } } := I2.lnew (t' := s.toks) (its := []) .nil (Nat.zero_le _)
  have ltD : ∀ b ∈ fp, b < s.heap.objs.size := fun b hb => by
    obtain ⟨o, e, _⟩ := T.obj 0 _ st2 b hb
    exact Heap.lt_size e
  have f3 : ∀ b ∈ fp, FpOk X pins (upd H2 s.heap.objs.size (.lst [])) b := fun b hb => ⟨by rw [upd_ne (Nat.ne_of_lt (ltD b hb))]; exact (f2 b hb).1, (f2 b hb).2⟩
  generalize hH : s.heap.push { cls := .type "list", data := .seq ([] : List Value).toArray } = H3 at I3 ⊢
  have sz : H3.objs.size = s.heap.objs.size + 1 := by rw [← hH, Heap.size_push]
  obtain ⟨h₁, eh₁⟩ : ∃ h₁, h₁ = pushCells (H3.push { cls := .type "dict", data := .dict #[] }) scope.names := ⟨_, rfl⟩
  have hns₁ : h₁.Ns H3.objs.size (fun _ => none) := by rw [eh₁]; exact (Heap.Ns.new H3 (.type "dict")).keeps (pushCells_keeps _ _)
  have up : ∀ b o, H3.get? b = some o → h₁.get? b = some o := fun b o e => by rw [eh₁]; exact pushCells_keeps _ _ b o (Heap.get?_push_of_some _ e)
  have hcok : CellsOk h₁ (H3.objs.size + 1) (newC scope H3.objs.size) := by
    have ok := cellsFrom_ok scope.names (H3.push { cls := .type "dict", data := .dict #[] }) (H3.objs.size + 1) [] ⟨fun _ _ hm => (nomatch hm), List.Pairwise.nil⟩ (by rw [Heap.size_push]; exact Nat.le_refl _)
    rw [Heap.size_push] at ok
    rw [eh₁]
    exact ok
  rw [← eh₁]
  have old : ∀ b o, s.heap.get? b = some o → h₁.get? b = some o := fun b o e => up b o (by rw [← hH]; exact Heap.get?_push_of_some _ e)
  have lt3 : ∀ b ∈ fp, b < ({ s with heap := H3 } : Shared).heap.objs.size := fun b hb => by show b < H3.objs.size; rw [sz]; exact Nat.lt_succ_of_lt (ltD b hb)
  have cellne : ∀ b ∈ fp, ∀ x c, (newC scope H3.objs.size ++ freeCl X.env.cells scope.names []).lookup x = some c → c ≠ b := fun b hb x c e => by
    rcases look_app e with e | ⟨_, e⟩
    · have l1 := (hcok.empty _ _ (PySem.mem_of_lookup e)).2
      have l2 : b < H3.objs.size := lt3 b hb
      exact fun z => absurd (Nat.lt_of_lt_of_le (Nat.lt_succ_self _) (z ▸ l1)) (Nat.lt_asymm l2)
    · exact (f2 b hb).2.2.2.2.1 x c (freeCl_sub _ _ _ (fun y d h => by cases h) _ _ e)
  have st4 : tn 0 h₁ := T.keep _ _ _ st2 fun b _ o e => old b o e
  have stat : ∀ {H' : Hp}, (∀ b ∈ fp, H' b = none) → ∀ b ∈ fp, FpOk (cxK X (own ++ cap) scope H3.objs.size { s with heap := H3 } (upd H2 s.heap.objs.size (.lst [])) fp) [] H' b := fun hn b hb =>
    ⟨hn b hb, Nat.ne_of_lt (lt3 b hb), fun z => (List.mem_cons.mp (I3.stkSub b z)).elim (f2 b hb).2.1 (f2 b hb).2.2.1, .inl hb, fun x c e => cellne b hb x c e, fun p hp => absurd (show p ∈ ([] : List (Addr × Obj)) from hp) (by simp)⟩
  have loop : ∀ s₄ : Shared, s₄ = { s with heap := h₁, toks := s.toks + ([] : List (Str × Value)).length } →
      codeAny (model X.prog X.w) X.A (.compLoop (.ListComp elt [⟨tg, iter, ifs, 0⟩] scope pos) 0 (.ref it) (.ref s.heap.objs.size) (compEnvC scope (newC scope H3.objs.size ++ freeCl X.env.cells scope.names []) H3.objs.size X.env))
        (RR (.ref s.heap.objs.size) H3.objs.size) s₄ := by
    rintro s₄ rfl
    have I4 := inv_compK (own := own) (fp := fp) (tk := s.toks + ([] : List (Str × Value)).length) I3 S hix f3 lt3 hns₁ up hcok
    refine codeAny_compLoop_all (fun n s' => ∃ i σ' ys H', Inv (cxK X (own ++ cap) scope H3.objs.size { s with heap := H3 } (upd H2 s.heap.objs.size (.lst [])) fp) [] σ' H' s' ∧ tn i s'.heap ∧ (∀ b ∈ fp, H' b = none) ∧ W i n σ' ys H') ?_ m0
      ⟨0, _, [], _, I4, st4, fun b hb => (f3 b hb).1, w0⟩
    rintro n s5 ⟨i, σ5, ys, H5, I5, st5, fr5, w5⟩
    obtain ⟨hD5, turn5⟩ := turn i n σ5 ys H5 w5
    rcases turn5 with ⟨stop, q⟩ | ⟨go, hz, step⟩
    · refine thn (T.done (cxK X (own ++ cap) scope H3.objs.size { s with heap := H3 } (upd H2 s.heap.objs.size (.lst [])) fp) rfl rfl rfl hc i [] s5 σ5 H5 _ I5 (stat fr5) st5 stop) fun r s6 hq0 => ?_
      obtain ⟨hr, I6⟩ := hq0
      subst hr
      obtain ⟨m6, hn6, _⟩ := I6.loc
      exact hR _ _ s6 H5 m6 hn6 (I3.fpOk (Nat.le_refl _) I6.free) (fun h' hs => inv_backK I3 f3 I6 hs) q
    · refine thn (T.item (cxK X (own ++ cap) scope H3.objs.size { s with heap := H3 } (upd H2 s.heap.objs.size (.lst [])) fp) rfl rfl rfl hc i [] s5 σ5 H5 _ I5 (stat fr5) st5 go) fun r s6 hq0 => ?_
      obtain ⟨u, hr, h6⟩ := hq0
      subst hr
      refine thn h6 fun _ s7 hq0 => ?_
      obtain ⟨x, H7, I7, r7, y7, st7, fr7⟩ := hq0
      have I7' := I7.pinned (stat fr7) (T.obj _ _ st7)
      refine wpAny_mono (hg _ _ _ _ _ s7 σ5 H7 x u _ I7' r7 (step x H7 y7)) (fun _ s8 hq0 => ?_) fun _ _ z => False.elim z
      obtain ⟨σ8, H8, I8, q8⟩ := hq0
      refine wpAny_mono (ht _ _ _ _ _ s8 σ8 H8 _ I8 q8) (fun ok s9 hq0 => ?_) fun _ _ z => False.elim z
      obtain ⟨H9, I9, q9⟩ := hq0
      have again : ∀ {s' : Shared} {σ' : St} {H' : Hp} {ys' : List V} {m' : Nat}, Inv (cxK X (own ++ cap) scope H3.objs.size { s with heap := H3 } (upd H2 s.heap.objs.size (.lst [])) fp) ([] ++ pinsAt fp s7.heap) σ' H' s' → m' < n → W (i + 1) m' σ' ys' H' →
          ∃ m, m < n ∧ ∃ i σ' ys H', Inv (cxK X (own ++ cap) scope H3.objs.size { s with heap := H3 } (upd H2 s.heap.objs.size (.lst [])) fp) [] σ' H' s' ∧ tn i s'.heap ∧ (∀ b ∈ fp, H' b = none) ∧ W i m σ' ys H' := fun {s' σ' H' ys' m'} I' hm w' => by
        refine ⟨m', hm, i + 1, σ', ys', H', I'.unpinned, T.keep _ _ _ st7 fun b hb o e => (I'.pin (b, o) (List.mem_append_right _ (List.mem_append_right _ (mem_pinsAt hb e)))).1, fun b hb => ?_, w'⟩
        obtain ⟨o, e, d⟩ := T.obj _ _ st7 b hb
        exact (I'.pin (b, o) (List.mem_append_right _ (List.mem_append_right _ (mem_pinsAt hb e)))).2.1
      cases ok with
      | false =>
        rw [if_neg Bool.false_ne_true] at q9 ⊢
        obtain ⟨_, m', hm, w'⟩ := q9
        exact again I9 hm w'
      | true =>
        rw [if_pos rfl] at q9 ⊢
        refine wpAny_mono (he _ _ _ _ _ s9 σ8 H9 _ I9 q9) (fun v s10 hq0 => ?_) fun _ _ z => False.elim z
        obtain ⟨y, H10, I10, r10, hD10, m', hm, w'⟩ := hq0
        refine wpAny_mono (mt_append (X := cxK X (own ++ cap) scope H3.objs.size { s with heap := H3 } (upd H2 s.heap.objs.size (.lst [])) fp) _ s10 σ8 H10 (.ref s.heap.objs.size) [y] (.ref s.heap.objs.size) [v] (fun _ H' => H' = upd H10 s.heap.objs.size (.lst (ys ++ [y]))) I10 rfl (.cons r10 .nil) ⟨_, ys, y, rfl, rfl, hD10, hz, rfl⟩)
          (fun _ s11 ⟨_, H11, I11, _, e11⟩ => ?_) fun _ _ z => False.elim z
        subst e11
        exact again I11 hm w'
  exact codeAny_compStart_list (loop _ rfl) (T.self _ 0 _ _ _ st4 (loop _ rfl))

theorem pe_compK {osc : Scope} (hc : X.calm = true) (S' : CompScopeK scope osc cap) (hix : ix.map (fun i => X.N[i]?) = cap.map some) (hi : PI X tg iter wi)
    (hg : ∀ C s H ex, PG (cxK X (own ++ cap) scope C s H ex) tg g) (ht : ∀ C s H ex, PIf (cxK X (own ++ cap) scope C s H ex) ifs tc) (he : ∀ C s H ex, PE (cxK X (own ++ cap) scope C s H ex) elt te)
    (hs : ∀ x, foldedSetIterable iter X.env x = pure x := by intro _; rfl) (ho : X.env.scope = osc := by rfl) : PE X (.ListComp elt [⟨tg, iter, ifs, 0⟩] scope pos) (tComp own ix wi g tc te) := by
  have S : CompScopeK scope X.env.scope cap := ho ▸ S'
  intro pins s σ H Q I h
  rw [eval_ListComp]
  refine wpAny_comprehension_free (use := none) rfl hs (closure_ofK I S) S.kind S.loc (thn (hi pins s σ H _ I h) fun xv s₁ h₁ => thn h₁ fun itv s₂ h₂ => ?_)
  refine comp_runK (RR := fun acc C => compPost (model X.prog X.w) X.A X.xe none (EP X pins σ Q) acc C) hc S hix hg ht he h₂ fun D C s' H' m hn _ hI q => ?_
  exact ⟨m, hn, fun h' hs' => ⟨.ref D, H', hI h' hs', rfl, q⟩⟩
/-- the scope of the block around: relabelled -/
theorem relabel_has {osc : Scope} {env : Env} {x : Str} (h : osc.names.lookup x = some .cell ∨ osc.names.lookup x = some .free) : (relabel osc env).names.lookup x = some .cell ∨ (relabel osc env).names.lookup x = some .free := by
  rcases h with h | h
  · have e := lookup_relabel env x osc.names
    rw [h] at e
    have e' : (relabel osc env).names.lookup x = _ := e
    rw [e']
    exact .inl rfl
  · exact relabel_free h
theorem pe_compN {osc : Scope} (hc : X.calm = true) (S' : CompScopeK scope osc cap) (hix : ix.map (fun i => X.N[i]?) = cap.map some) (hi : PI X tg iter wi)
    (hg : ∀ C s H ex, PG (cxK X (own ++ cap) scope C s H ex) tg g) (ht : ∀ C s H ex, PIf (cxK X (own ++ cap) scope C s H ex) ifs tc) (he : ∀ C s H ex, PE (cxK X (own ++ cap) scope C s H ex) elt te)
    (hs : ∀ x, foldedSetIterable iter X.env x = pure x := by intro _; rfl) (ho : ∃ e, X.env.scope = relabel osc e := by exact ⟨_, rfl⟩) : PE X (.ListComp elt [⟨tg, iter, ifs, 0⟩] scope pos) (tComp own ix wi g tc te) := by
  obtain ⟨e, ho⟩ := ho
  exact pe_compK hc ⟨S'.kind, S'.nd, S'.loc, fun y hy hf => by rw [ho]; exact relabel_has (S'.free y hy hf), S'.cap⟩ hix hi hg ht he hs rfl
end
/-- the scope of the comprehension in the i-th statement of a def -/
def compSc (st : Stmt) (i : Nat) : Scope :=
  match (defBody st).getD i (.Pass ⟨0, 0, 0, 0⟩) with
  | .Return (some (.ListComp _ _ sc _)) _ => sc
  | .Assign _ (.ListComp _ _ sc _) _ => sc
  | _ => defScope st
end L2

/-! Telling and the law's lists alike; what is kept; a step of one dig. -/
namespace Dm
open PySem PySem.NumText L2
def Kp6 (H H' : Hp) (du dt df pu pt pf : Addr) : Prop := ∀ b o, H b = some o → b ≠ du → b ≠ dt → b ≠ df → b ≠ pu → b ≠ pt → b ≠ pf → H' b = some o
section
variable {K : PySem.W.Frag}
theorem tups_alike {H : Hp} {n : Nat} {A B : Addr} {as bs : List Addr} {wss : List (List V)} (hA : H A = some (.lst (as.map V.ref))) (hB : H B = some (.lst (bs.map V.ref))) (ta : Tups H as wss) (tb : Tups H bs wss) (fl : ∀ ws ∈ wss, ∀ v ∈ ws, flatV v = true) : DEq K H (n + 2) (.ref A) (.ref B) true := by
  have l1 := ta.len
  have l2 := tb.len
  refine DEq.allL (n := n + 1) (SqL.of hA) (SqL.of hB) (by rw [List.length_map, List.length_map]; omega) fun i x y ex ey => ?_
  rw [List.getElem?_map] at ex ey
  cases e1 : as[i]? with
  | none => rw [e1] at ex; cases ex
  | some u =>
    cases e2 : bs[i]? with
    | none => rw [e2] at ey; cases ey
    | some v =>
      rw [e1] at ex
      rw [e2] at ey
      cases ex
      cases ey
      obtain ⟨ws, h1, h2⟩ := Paired.get' ta e1
      obtain ⟨ws', h3, h4⟩ := Paired.get' tb e2
      rw [h1] at h3
      cases h3
      have hf := fl ws (List.mem_of_getElem? h1)
      have := DEq.flatT (K := K) (n := n) (SqT.of h2) (SqT.of h4) hf hf
      rwa [eqL_refl hf] at this
theorem tell62 {H : Hp} {tl g1 g2 pm a1 a2 a3 pu pt pf : Addr} {lo hi : Int} {s : SD} {at3 af at' ag : List Addr} (htl : H tl = some (.tup [.ref pm, .ref a1, .ref a2, .ref a3])) (hg2 : H g2 = some (.tup [.ref g1, .ref pu, .ref pt, .ref pf])) (hm : H pm = some (.tup [.int lo, .int hi])) (hg1 : H g1 = some (.tup [.int lo, .int hi]))
    (h1 : H a1 = some (.lst (s.us.map V.str))) (h2 : H a2 = some (.lst (at3.map V.ref))) (t2 : Tups H at3 (s.ts.map tieV)) (h3 : H a3 = some (.lst (af.map V.ref))) (t3 : Tups H af (s.fs.map fndV)) (L : LsAt K H pu pt pf s at' ag) (ok : DigOk s.us s.ts s.fs) : DEq K H 8 (.ref tl) (.ref g2) true := by
  refine DEq.sameT (SqT.of htl) (SqT.of hg2) rfl (fun i x y ex ey => ?_)
  match i, ex, ey with
  | 0, ex, ey =>
    cases ex; cases ey
    have fl : ∀ v ∈ [V.int lo, V.int hi], flatV v = true := fun v hv => by
      simp at hv
      rcases hv with rfl | rfl <;> rfl
    have := DEq.flatT (K := K) (n := 6) (SqT.of hm) (SqT.of hg1) fl fl
    rwa [eqL_refl fl] at this
  | 1, ex, ey =>
    cases ex; cases ey
    exact DEq.sameL (SqL.of h1) (SqL.of L.u) strs_deqM
  | 2, ex, ey =>
    cases ex; cases ey
    exact tups_alike (n := 5) h2 L.t t2 L.tt fun ws hw v hv => (ok.tw ws hw v hv).flat
  | 3, ex, ey =>
    cases ex; cases ey
    refine tups_alike (n := 5) h3 L.f t3 L.ff fun ws hw v hv => ?_
    obtain ⟨f, _, rfl⟩ := List.mem_map.mp hw
    unfold fndV at hv
    simp at hv
    rcases hv with rfl | rfl | rfl | rfl <;> rfl
  | i + 4, ex, ey => cases ex
end
structure OneAt (C : Addr) (K : PySem.W.Frag) (H : Hp) (p pm du dt df ps pu pt pf : Addr) (lo hi : Int) (xs : List Str) (s : SD) (n : Nat) : Prop where
  dig : ∃ af, DigAt C H p pm du dt df lo hi s.us s.ts s.fs af
  ls : ∃ at' ag, LsAt K H pu pt pf s at' ag
  tup : H ps = some (.tup [.ref pu, .ref pt, .ref pf])
  ok : DigOk s.us s.ts s.fs
  sub : ∀ x ∈ s.us, x ∈ xs
  len : s.us.length ≤ n ∧ s.ts.length ≤ n ∧ s.fs.length ≤ n
section
variable {C : Addr} {K : PySem.W.Frag} {H H' : Hp} {p pm du dt df ps pu pt pf : Addr} {lo hi : Int} {xs : List Str} {s s' : SD} {n : Nat}
theorem OneAt.same (h : OneAt C K H p pm du dt df ps pu pt pf lo hi xs s n) (e : Same H H') : OneAt C K H' p pm du dt df ps pu pt pf lo hi xs s n := by
  obtain ⟨af, hd⟩ := h.dig
  obtain ⟨at', ag, hl⟩ := h.ls
  exact ⟨⟨af, hd.same e⟩, ⟨at', ag, hl.same e⟩, e _ _ h.tup, h.ok, h.sub, h.len⟩
theorem OneAt.le {m : Nat} (h : OneAt C K H p pm du dt df ps pu pt pf lo hi xs s n) (e : n ≤ m) : OneAt C K H p pm du dt df ps pu pt pf lo hi xs s m :=
  ⟨h.dig, h.ls, h.tup, h.ok, h.sub, Nat.le_trans h.len.1 e, Nat.le_trans h.len.2.1 e, Nat.le_trans h.len.2.2 e⟩
theorem OneAt.next {ms : List Str} {d : Deed} (h : OneAt C K H p pm du dt df ps pu pt pf lo hi xs s n) (nm : ∀ x ∈ xs, nameB x = true) (hA : After d s s') (hd : DeedOk xs ms d) (dg : ∃ af, DigAt C H' p pm du dt df lo hi s'.us s'.ts s'.fs af) (ls : ∃ at' ag, LsAt K H' pu pt pf s' at' ag) (tp : H' ps = some (.tup [.ref pu, .ref pt, .ref pf])) :
    OneAt C K H' p pm du dt df ps pu pt pf lo hi xs s' (n + 1) := by
  obtain ⟨a1, a2, a3⟩ := hA.len
  obtain ⟨b1, b2, b3⟩ := h.len
  exact ⟨dg, ls, tp, After.ok nm hA hd h.ok, After.sub hA hd h.sub, by omega, by omega, by omega⟩
/-- a dict is written: the lists stay -/
theorem LsAt.dict {at' ag : List Addr} (h : LsAt K H pu pt pf s at' ag) {b : Addr} {u w : HO} (e : H b = some u) (hu : IsDk u) : LsAt K (upd H b w) pu pt pf s at' ag :=
  h.keep (fun c xs ec => by rw [upd_ne (ne_of ec e (fun z => by rw [← z] at hu; cases hu))]; exact ec) (fun c xs ec => by rw [upd_ne (ne_of ec e (fun z => by rw [← z] at hu; cases hu))]; exact ec)
end
end Dm

/-! Two digs side by side. -/
namespace Dm
open PySem PySem.NumText L2
structure Dg where
  p : Addr
  pm : Addr
  pg : Addr
  du : Addr
  dt : Addr
  df : Addr
  lo : Int
  hi : Int
structure Lw where
  ps : Addr
  pu : Addr
  pt : Addr
  pf : Addr
def DAp (a b : Dg) : Prop := a.du ≠ b.du ∧ a.du ≠ b.df ∧ a.df ≠ b.du ∧ a.df ≠ b.df ∧ a.dt ≠ b.dt
def LAp (a b : Lw) : Prop := (a.pu ≠ b.pu ∧ a.pu ≠ b.pt ∧ a.pu ≠ b.pf) ∧ (a.pt ≠ b.pu ∧ a.pt ≠ b.pt ∧ a.pt ≠ b.pf) ∧ (a.pf ≠ b.pu ∧ a.pf ≠ b.pt ∧ a.pf ≠ b.pf)
theorem DAp.symm {a b : Dg} (h : DAp a b) : DAp b a := ⟨h.1.symm, h.2.2.1.symm, h.2.1.symm, h.2.2.2.1.symm, h.2.2.2.2.symm⟩
theorem LAp.symm {a b : Lw} (h : LAp a b) : LAp b a := by
  obtain ⟨⟨a1, a2, a3⟩, ⟨b1, b2, b3⟩, c1, c2, c3⟩ := h
  exact ⟨⟨a1.symm, b1.symm, c1.symm⟩, ⟨a2.symm, b2.symm, c2.symm⟩, a3.symm, b3.symm, c3.symm⟩
def OneA (C : Addr) (K : PySem.W.Frag) (H : Hp) (A : Dg) (B : Lw) (xs : List Str) (s : SD) (n : Nat) : Prop := OneAt C K H A.p A.pm A.du A.dt A.df B.ps B.pu B.pt B.pf A.lo A.hi xs s n ∧ H A.pg = some (.tup [.int A.lo, .int A.hi])
theorem OneA.same {C : Addr} {K : PySem.W.Frag} {H H' : Hp} {A : Dg} {B : Lw} {xs : List Str} {s : SD} {n : Nat} (h : OneA C K H A B xs s n) (e : Same H H') : OneA C K H' A B xs s n := ⟨h.1.same e, e _ _ h.2⟩
theorem OneA.le {C : Addr} {K : PySem.W.Frag} {H : Hp} {A : Dg} {B : Lw} {xs : List Str} {s : SD} {n m : Nat} (h : OneA C K H A B xs s n) (e : n ≤ m) : OneA C K H A B xs s m := ⟨h.1.le e, h.2⟩
/-- the other one changed -/
theorem OneA.keep {C : Addr} {K : PySem.W.Frag} {H H' : Hp} {A A' : Dg} {B B' : Lw} {xs : List Str} {s s' : SD} {n n' : Nat} (h : OneA C K H A B xs s n) (h' : OneA C K H A' B' xs s' n') (da : DAp A A') (la : LAp B B') (kp : Kp6 H H' A'.du A'.dt A'.df B'.pu B'.pt B'.pf) : OneA C K H' A B xs s n := by
  obtain ⟨af, R⟩ := h.1.dig
  obtain ⟨at', ag, L⟩ := h.1.ls
  obtain ⟨af', R'⟩ := h'.1.dig
  obtain ⟨at2, ag2, L'⟩ := h'.1.ls
  obtain ⟨d1, d2, d3, d4, d5⟩ := da
  obtain ⟨⟨a1, a2, a3⟩, ⟨b1, b2, b3⟩, c1, c2, c3⟩ := la
  have lst : ∀ b ys, H b = some (.lst ys) → b ≠ B'.pu → b ≠ B'.pt → b ≠ B'.pf → H' b = some (.lst ys) := fun b ys e e1 e2 e3 => kp b _ e (ne_of e R'.u (fun z => nomatch z)) (ne_of e R'.t (fun z => nomatch z)) (ne_of e R'.f (fun z => nomatch z)) e1 e2 e3
  have tup : ∀ b ys, H b = some (.tup ys) → H' b = some (.tup ys) := fun b ys e => kp b _ e (ne_of e R'.u (fun z => nomatch z)) (ne_of e R'.t (fun z => nomatch z)) (ne_of e R'.f (fun z => nomatch z)) (ne_of e L'.u (fun z => nomatch z)) (ne_of e L'.t (fun z => nomatch z)) (ne_of e L'.f (fun z => nomatch z))
  obtain ⟨dx, e0⟩ := R.ob
  refine ⟨⟨⟨af, ⟨dx, kp _ _ e0 (ne_of e0 R'.u (fun z => nomatch z)) (ne_of e0 R'.t (fun z => nomatch z)) (ne_of e0 R'.f (fun z => nomatch z)) (ne_of e0 L'.u (fun z => nomatch z)) (ne_of e0 L'.t (fun z => nomatch z)) (ne_of e0 L'.f (fun z => nomatch z))⟩, tup _ _ R.m, ?_, ?_, ?_, R.ft.stay tup, R.nu⟩, ⟨at', ag, lst _ _ L.u a1 a2 a3, lst _ _ L.t b1 b2 b3, L.tt.stay tup, lst _ _ L.f c1 c2 c3, L.ff.stay tup, L.n1, L.n2, L.n3⟩, tup _ _ h.1.tup, h.1.ok, h.1.sub, h.1.len⟩, tup _ _ h.2⟩
  · exact kp _ _ R.u d1 (ne_of R.u R'.t (fun z => nomatch z)) d2 (ne_of R.u L'.u (fun z => nomatch z)) (ne_of R.u L'.t (fun z => nomatch z)) (ne_of R.u L'.f (fun z => nomatch z))
  · exact kp _ _ R.t (ne_of R.t R'.u (fun z => nomatch z)) d5 (ne_of R.t R'.f (fun z => nomatch z)) (ne_of R.t L'.u (fun z => nomatch z)) (ne_of R.t L'.t (fun z => nomatch z)) (ne_of R.t L'.f (fun z => nomatch z))
  · exact kp _ _ R.f d3 (ne_of R.f R'.t (fun z => nomatch z)) d4 (ne_of R.f L'.u (fun z => nomatch z)) (ne_of R.f L'.t (fun z => nomatch z)) (ne_of R.f L'.f (fun z => nomatch z))
/-- a list that is none of the changing ones -/
theorem OneA.lst {C : Addr} {K : PySem.W.Frag} {H H' : Hp} {A : Dg} {B : Lw} {xs : List Str} {s : SD} {n : Nat} (h : OneA C K H A B xs s n) (kp : Kp6 H H' A.du A.dt A.df B.pu B.pt B.pf) {b : Addr} {ys : List V} (e : H b = some (.lst ys)) (e1 : b ≠ B.pu) (e2 : b ≠ B.pt) (e3 : b ≠ B.pf) : H' b = some (.lst ys) := by
  obtain ⟨af, R⟩ := h.1.dig
  exact kp b _ e (ne_of e R.u (fun z => nomatch z)) (ne_of e R.t (fun z => nomatch z)) (ne_of e R.f (fun z => nomatch z)) e1 e2 e3
end Dm

/-! What lies beneath in any number of steps; pairs that no others tell. -/
namespace Dm
open PySem PySem.NumText L2
/-! ### sets as lists -/
/-! ### dicts of dicts -/
end Dm

/-! Pairs of texts, compared. -/
namespace Dm
open PySem PySem.NumText L2
end Dm

/-! Walks along drawn pairs. -/
namespace Dm
open PySem PySem.NumText L2
end Dm

/-! A telling with the ties of the drawn pairs alone. -/
namespace Dm
open PySem PySem.NumText L2
section
variable {ln ln' : Ln} {keys : List Str}
end
end Dm

/-! A telling's lines in groups are read. -/
namespace Dm
open PySem PySem.NumText L2
end Dm

/-! Lines with blanks put in freely; rows read in the order in which they are told. -/
namespace Dm
open PySem PySem.NumText L2
/-- a line that is passed over -/
structure PassLn (y : Str) : Prop where
  pass : passedB (wordsOf y) = true
  feed : 10 ∉ co y
  len : y.length ≤ 900
instance (y : Str) : Decidable (PassLn y) := decidable_of_iff (passedB (wordsOf y) = true ∧ 10 ∉ co y ∧ y.length ≤ 900) ⟨fun h => ⟨h.1, h.2.1, h.2.2⟩, fun h => ⟨h.pass, h.feed, h.len⟩⟩
end Dm

/-! Names, any number of them up to 37. -/
namespace Dm
open PySem PySem.NumText L2
theorem nmC_injN {one at' : Int} {k k' size : Nat} (h0 : 0 ≤ at') (h1 : at' < size) (hk : k < 37) (hk' : k' < 37) (h : nmC one at' k size = nmC one at' k' size) : k = k' := by
  have hj : at'.toNat < size := by omega
  have e1 := nmC_get (one := one) (at' := at') (k := k) hj
  have e2 := nmC_get (one := one) (at' := at') (k := k') hj
  rw [h, e2] at e1
  have e : nmN one at' k' at'.toNat = nmN one at' k at'.toNat := Option.some.inj e1
  unfold nmN at e
  have q := names_inj (ix37 _).2 (ix37 _).2 e
  have a1 := (ix37 (nmI one at' k' at'.toNat)).1
  have a2 := (ix37 (nmI one at' k at'.toNat)).1
  have q2 : nmI one at' k' at'.toNat % 37 = nmI one at' k at'.toNat % 37 := by omega
  unfold nmI at q2
  rw [if_pos (Int.toNat_of_nonneg h0), if_pos (Int.toNat_of_nonneg h0)] at q2
  omega
def names1N (n : Nat) (one at' : Int) (size : Nat) : List Str := (List.range n).map fun k => strOf (nmC one at' k size)
def names2N (n : Nat) (one at' : Int) (size : Nat) : List Str := (List.range n).map fun k => strOf ((nmC one at' 0 size).take (size - k))
theorem names1N_ok {n : Nat} {one at' : Int} {size : Nat} (hn : n ≤ 37) (h0 : 0 ≤ at') (h1 : at' < size) (h2 : 1 ≤ size) (h3 : size ≤ 12) : (names1N n one at' size).Nodup ∧ (∀ x ∈ names1N n one at' size, nameB x = true) ∧ (names1N n one at' size).length = n := by
  refine ⟨nodup_map_range fun i j hi hj e => nmC_injN h0 h1 (by omega) (by omega) (strOf_inj e), fun x hx => ?_, by unfold names1N; simp⟩
  obtain ⟨k, _, rfl⟩ := List.mem_map.mp hx
  exact nameB_of (by rw [co_strOf, nmC_len]; exact h2) (by rw [co_strOf, nmC_len]; exact h3) fun c hc => by rw [co_strOf] at hc; exact nmC_mem hc
theorem names2N_ok {n : Nat} {one at' : Int} {size : Nat} (h2 : n ≤ size) (h3 : size ≤ 12) : (names2N n one at' size).Nodup ∧ (∀ x ∈ names2N n one at' size, nameB x = true) ∧ (names2N n one at' size).length = n := by
  refine ⟨nodup_map_range fun i j hi hj e => ?_, fun x hx => ?_, by unfold names2N; simp⟩
  · have e := congrArg List.length (strOf_inj e)
    rw [List.length_take, List.length_take, nmC_len] at e
    omega
  · obtain ⟨k, hk, rfl⟩ := List.mem_map.mp hx
    have hk := List.mem_range.mp hk
    refine nameB_of ?_ ?_ fun c hc => ?_
    · rw [co_strOf, List.length_take, nmC_len]; omega
    · rw [co_strOf, List.length_take, nmC_len]; omega
    · rw [co_strOf] at hc
      exact nmC_mem (List.mem_of_mem_take hc)

/-! ### levels are told one way -/
/-! ### the matrix as text -/
end Dm

/-! Chains of ties: up from a floor, down from a ceiling. -/
namespace Dm
open PySem PySem.NumText L2
abbrev Tr := Tie × Addr
abbrev Rw := Str → List (Str × Tr)
abbrev Chn := Int × Str × List Tr
variable {R : Rw} {F G : Str → IS → Prop} {k : Str} {keys : List Str}
/-! lengths -/
/-! one tie longer, again and again -/
/-! the law's own rounds over all links -/
end Dm

/-! Chains in the heap; one tie longer, row by row. -/
namespace Dm
open PySem PySem.NumText L2
section
variable {H0 H H' : Hp} {a pd : Addr} {c : Chn}
end
section
variable {R : Rw} {M : List Str} {v : Str → Chn} {k : Str} {z : List (Str × Tr)} {has has' : Prop} {c c' : Chn} {l : Str} {b : Tr}
end
section
variable {R : Rw} {F : Str → IS → Prop} {keys done : List Str} {v : Str → Chn}
end
/-! floors and ceilings, as the law has them -/
section
variable {R : Rw} {F : Str → IS → Prop} {keys done : List Str} {v : Str → Chn} {u : Str} {c : Chn}
end
end Dm

/-! Spans: floors and ceilings are there; the first years and the last years keep the telling. -/
namespace Dm
open PySem PySem.NumText L2
section
variable {lo hi : Int} {us : List Str} {ads : List Addr} {ts : List Tie} {af : List Addr} {fs : List Fnd} {f g : Str → Int}
end
end Dm

/-! Chains as rows of ties; where they begin and end. -/
namespace Dm
open PySem PySem.NumText L2
section
variable {ts : List Tie} {z : List Tr} {s e k l : Str} {rs : List Tr} {b : Tr} {F : Str → IS → Prop}
end
section
variable {ts : List Tie} {fs : List Fnd} {af : List Addr} {lo hi : Int} {s : Str} {m : IS}
end
end Dm

/-! Links, one after another. -/
namespace Dm
open PySem PySem.NumText L2
end Dm

/-! The ties of a row, as the law asks for them. -/
namespace Dm
open PySem PySem.NumText L2
end Dm
namespace L2
open PySem PySem.Spec PyProof.Rows
end L2

namespace LK61
open PySem L2 Dm PySem.NumText
def top (i : Nat) : Stmt := PySem.Challenge.pw_digmatrix_k61_deeds.main.body.getD i (.Pass ⟨0, 0, 0, 0⟩)
/-- what the top has left -/
structure Tx (K : PySem.W.Frag) (mg : Str → Option Value) (w : World) (C_Dig : Addr) : Prop where
  mg_Dig : mg "Dig" = some (.ref C_Dig)
  cl_Dig : Cls K C_Dig
  mk_Dig : PySem.W.makesIn K C_Dig = true
  kp_Dig : PySem.W.keepIn K (.ref C_Dig) = true
  na_Dig_frame : NoAttr K C_Dig "frame"
  na_Dig_units : NoAttr K C_Dig "units"
  na_Dig_ties : NoAttr K C_Dig "ties"
  na_Dig_finds : NoAttr K C_Dig "finds"
  d_Dig___init__ : DfM K C_Dig "Dig.__init__" "__init__" (inClass (top 8) 0) ["self", "first", "last"]
  d_Dig_add_unit : DfM K C_Dig "Dig.add_unit" "add_unit" (inClass (top 8) 1) ["self", "name"]
  d_Dig_drop_unit : DfM K C_Dig "Dig.drop_unit" "drop_unit" (inClass (top 8) 2) ["self", "name"]
  d_Dig_add_tie : DfM K C_Dig "Dig.add_tie" "add_tie" (inClass (top 8) 3) ["self", "tie"]
  d_Dig_drop_tie : DfM K C_Dig "Dig.drop_tie" "drop_tie" (inClass (top 8) 4) ["self", "tie"]
  d_Dig_add_find : DfM K C_Dig "Dig.add_find" "add_find" (inClass (top 8) 5) ["self", "name", "unit", "low", "high"]
  d_Dig_move_find : DfM K C_Dig "Dig.move_find" "move_find" (inClass (top 8) 6) ["self", "name", "unit"]
  d_Dig_drop_find : DfM K C_Dig "Dig.drop_find" "drop_find" (inClass (top 8) 7) ["self", "name"]
  d_Dig_telling : DfM K C_Dig "Dig.telling" "telling" (inClass (top 8) 8) ["self"]
  d_Dig_seek_unit : DfM K C_Dig "Dig.seek_unit" "seek_unit" (inClass (top 8) 9) ["self", "name"]
  d_Dig_seek_find : DfM K C_Dig "Dig.seek_find" "seek_find" (inClass (top 8) 10) ["self", "name"]
  d_Dig_is_used : DfM K C_Dig "Dig.is_used" "is_used" (inClass (top 8) 11) ["self", "name"]
  d__law_cell_at : Df K mg "_law_cell_at" (top 10) ["_law_script", "_law_k"]
  d__law_part : Df K mg "_law_part" (top 11) ["_law_cell", "_law_k", "_law_many"]
  d__law_names : Df K mg "_law_names" (top 12) ["_law_one", "_law_other", "_law_many"]
  d__law_year : Df K mg "_law_year" (top 13) ["_law_cell", "_law_k"]
  d__law_years : Df K mg "_law_years" (top 14) ["_law_cell", "_law_k"]
  d__law_tie : Df K mg "_law_tie" (top 15) ["_law_names_here", "_law_cell"]
  d__law_free_units : Df K mg "_law_free_units" (top 16) ["_law_units", "_law_ties", "_law_finds"]
  d__law_new : Df K mg "_law_new" (top 17) ["_law_dig", "_law_stands", "_law_names_here", "_law_marks", "_law_cell"]
  d__law_gone : Df K mg "_law_gone" (top 18) ["_law_dig", "_law_stands", "_law_cell"]
  d__law_tells : Df K mg "_law_tells" (top 19) ["_law_dig", "_law_frame", "_law_stands"]
  d_law : Df K mg "law" (top 20) ["_law_script"]
  range : mg "range" = none
  sorted : mg "sorted" = none
  any : mg "any" = none
  len : mg "len" = none
  list : mg "list" = none
  isinstance : mg "isinstance" = none
  tuple : mg "tuple" = none
theorem Tx.ex {K : PySem.W.Frag} {mg : Str → Option Value} {w : World} {C_Dig : Addr} (T : Tx K mg w C_Dig) : ∃ C_Dig, Tx K mg w C_Dig := ⟨_, T⟩
theorem sc__law_cell_at : FnScope ["_law_script", "_law_k"] ["_law_script", "_law_k"] (defScope (top 10)) := ⟨rfl, rfl, rfl, by decide +kernel, rfl, by decide +kernel, by decide +kernel⟩
theorem sc__law_part : FnScope ["_law_cell", "_law_k", "_law_many"] ["_law_cell", "_law_k", "_law_many"] (defScope (top 11)) := ⟨rfl, rfl, rfl, by decide +kernel, rfl, by decide +kernel, by decide +kernel⟩
theorem sc__law_names : FnScope ["_law_one", "_law_other", "_law_many", "_law_signs", "_law_size", "_law_at", "_law_names_here", "_law_k", "_law_name", "_law_j", "_law_number"] ["_law_one", "_law_other", "_law_many"] (defScope (top 12)) := ⟨rfl, rfl, rfl, by decide +kernel, rfl, by decide +kernel, by decide +kernel⟩
theorem sc__law_year : FnScope ["_law_cell", "_law_k", "_law_some"] ["_law_cell", "_law_k"] (defScope (top 13)) := ⟨rfl, rfl, rfl, by decide +kernel, rfl, by decide +kernel, by decide +kernel⟩
theorem sc__law_years : FnScope ["_law_cell", "_law_k"] ["_law_cell", "_law_k"] (defScope (top 14)) := ⟨rfl, rfl, rfl, by decide +kernel, rfl, by decide +kernel, by decide +kernel⟩
theorem sc__law_tie : FnScope ["_law_names_here", "_law_cell", "_law_one", "_law_other", "_law_kind"] ["_law_names_here", "_law_cell"] (defScope (top 15)) := ⟨rfl, rfl, rfl, by decide +kernel, rfl, by decide +kernel, by decide +kernel⟩
theorem sc__law_free_units : FnScope ["_law_units", "_law_ties", "_law_finds"] ["_law_units", "_law_ties", "_law_finds"] (defScope (top 16)) := ⟨rfl, rfl, rfl, by decide +kernel, rfl, by decide +kernel, by decide +kernel⟩
theorem sc__law_new : FnScope ["_law_dig", "_law_stands", "_law_names_here", "_law_marks", "_law_cell", "_law_units", "_law_ties", "_law_finds", "_law_fresh", "_law_spare", "_law_way", "_law_years_here", "_law_tie_here"] ["_law_dig", "_law_stands", "_law_names_here", "_law_marks", "_law_cell"] (defScope (top 17)) := ⟨rfl, rfl, rfl, by decide +kernel, rfl, by decide +kernel, by decide +kernel⟩
theorem sc__law_gone : FnScope ["_law_dig", "_law_stands", "_law_cell", "_law_units", "_law_ties", "_law_finds", "_law_way", "_law_free", "_law_k", "_law_to", "_law_name"] ["_law_dig", "_law_stands", "_law_cell"] (defScope (top 18)) := ⟨rfl, rfl, rfl, by decide +kernel, rfl, by decide +kernel, by decide +kernel⟩
theorem sc__law_tells : FnScope ["_law_dig", "_law_frame", "_law_stands", "_law_telling"] ["_law_dig", "_law_frame", "_law_stands"] (defScope (top 19)) := ⟨rfl, rfl, rfl, by decide +kernel, rfl, by decide +kernel, by decide +kernel⟩
theorem sc_law : FnScope ["_law_script", "_law_names_here", "_law_marks", "_law_frames", "_law_digs", "_law_k", "_law_years_here", "_law_stands", "_law_cell"] ["_law_script"] (defScope (top 20)) := ⟨rfl, rfl, rfl, by decide +kernel, rfl, by decide +kernel, by decide +kernel⟩
theorem sc_Dig___init__ : FnScope ["self", "first", "last"] ["self", "first", "last"] (defScope (inClass (top 8) 0)) := ⟨rfl, rfl, rfl, by decide +kernel, rfl, by decide +kernel, by decide +kernel⟩
theorem sc_Dig_add_unit : FnScope ["self", "name"] ["self", "name"] (defScope (inClass (top 8) 1)) := ⟨rfl, rfl, rfl, by decide +kernel, rfl, by decide +kernel, by decide +kernel⟩
theorem sc_Dig_drop_unit : FnScope ["self", "name"] ["self", "name"] (defScope (inClass (top 8) 2)) := ⟨rfl, rfl, rfl, by decide +kernel, rfl, by decide +kernel, by decide +kernel⟩
theorem sc_Dig_add_tie : FnScope ["self", "tie"] ["self", "tie"] (defScope (inClass (top 8) 3)) := ⟨rfl, rfl, rfl, by decide +kernel, rfl, by decide +kernel, by decide +kernel⟩
theorem sc_Dig_drop_tie : FnScope ["self", "tie"] ["self", "tie"] (defScope (inClass (top 8) 4)) := ⟨rfl, rfl, rfl, by decide +kernel, rfl, by decide +kernel, by decide +kernel⟩
theorem sc_Dig_add_find : FnScope ["self", "name", "unit", "low", "high"] ["self", "name", "unit", "low", "high"] (defScope (inClass (top 8) 5)) := ⟨rfl, rfl, rfl, by decide +kernel, rfl, by decide +kernel, by decide +kernel⟩
theorem sc_Dig_move_find : FnScope ["self", "name", "unit"] ["self", "name", "unit"] (defScope (inClass (top 8) 6)) := ⟨rfl, rfl, rfl, by decide +kernel, rfl, by decide +kernel, by decide +kernel⟩
theorem sc_Dig_drop_find : FnScope ["self", "name"] ["self", "name"] (defScope (inClass (top 8) 7)) := ⟨rfl, rfl, rfl, by decide +kernel, rfl, by decide +kernel, by decide +kernel⟩
theorem sc_Dig_telling : FnScope ["self"] ["self"] (defScope (inClass (top 8) 8)) := ⟨rfl, rfl, rfl, by decide +kernel, rfl, by decide +kernel, by decide +kernel⟩
theorem sc_Dig_seek_unit : FnScope ["self", "name"] ["self", "name"] (defScope (inClass (top 8) 9)) := ⟨rfl, rfl, rfl, by decide +kernel, rfl, by decide +kernel, by decide +kernel⟩
theorem sc_Dig_seek_find : FnScope ["self", "name"] ["self", "name"] (defScope (inClass (top 8) 10)) := ⟨rfl, rfl, rfl, by decide +kernel, rfl, by decide +kernel, by decide +kernel⟩
theorem sc_Dig_is_used : FnScope ["self", "name", "by_tie"] ["self", "name"] (defScope (inClass (top 8) 11)) := ⟨rfl, rfl, rfl, by decide +kernel, rfl, by decide +kernel, by decide +kernel⟩
section
variable {P : Program} {w : World} {K : PySem.W.Frag} {mg : Str → Option Value} {base : Heap} {C_Dig : Addr}
local macro_rules | `(tactic| walk_at "rd") => `(tactic| repeat (first | refine ⟨_, rfl, ?_⟩ | refine ⟨_, _, rfl, rfl, ?_⟩ | refine ⟨_, _, _, rfl, ?_⟩))
local macro_rules | `(tactic| walk_at "rd") => `(tactic| repeat (first | refine ⟨_, rfl, ?_⟩ | refine ⟨_, _, rfl, rfl, ?_⟩ | refine ⟨_, _, _, rfl, ?_⟩))
/-! ### cells and parts -/
def sp_cell : Sp := fun vs H Q _ => ∃ (a : Addr) (ns : List Int) (i : Int), vs = [.ref a, .int i] ∧ SqL K H a (ns.map V.int) ∧ 0 ≤ i ∧ Q (.int (cellI ns i)) H
theorem h__law_cell_at (T : Tx K mg w C_Dig) : Has P w K mg base "_law_cell_at" ["_law_script", "_law_k"] 1 (sp_cell (K := K)) := by
  refine T.d__law_cell_at.has sc__law_cell_at (fun vs H Q E h => ?_) (fun f cdv A outer s H vs Q E hr h => ?_)
  · obtain ⟨a, ns, i, rfl, _⟩ := h; rfl
  · obtain ⟨a, ns, i, rfl, ha, h0, k⟩ := h
    refine ⟨_, (pss_cons (ps_if (pt_cmpR op_lt (pv 1) (pe_callB (call_len_seqK K rfl) (by rfl) T.len boot_len (pa_cons (pv 0) pa_nil)) (nomark _)) (pss_one (ps_ret (pe_ix (ix_listK K rfl) (pv 0) (pv 1) (fun _ _ => rfl)))) pss_nil)
      (pss_one (ps_ret pe_int))), ?_⟩
    refine ⟨_, rfl, _, rfl, a, _, rfl, .inl ha, _, _, rfl, rfl, _, rfl, ?_⟩
    refine ite2 (fun c => ?_) (fun c => ?_)
    · have c := of_decide_eq_true c
      rw [List.length_map] at c
      have hi : i.toNat < ns.length := by omega
      refine ⟨_, rfl, _, rfl, a, _, i, .int (cellI ns i), rfl, rfl, ha, ?_, k⟩
      have e : cellI ns i = ns[i.toNat] := by unfold cellI; rw [List.getD_eq_getElem?_getD, List.getElem?_eq_getElem hi]; rfl
      have := atI_nat (xs := ns.map V.int) (j := i.toNat) (v := .int (cellI ns i)) (by rw [e]; simp [hi])
      rw [Int.toNat_of_nonneg h0] at this
      exact this
    · have c : ¬ i < ((ns.map V.int).length : Int) := fun z => c (decide_eq_true z)
      rw [List.length_map] at c
      have e : cellI ns i = 0 := by unfold cellI; rw [List.getD_eq_getElem?_getD, List.getElem?_eq_none (by omega)]; rfl
      rw [e] at k
      exact k
def sp_part : Sp := fun vs H Q _ => ∃ c k m : Int, vs = [.int c, .int k, .int m] ∧ 0 < m ∧ Q (.int (pt c k m)) H
theorem h__law_part (T : Tx K mg w C_Dig) : Has P w K mg base "_law_part" ["_law_cell", "_law_k", "_law_many"] 1 sp_part := by
  refine T.d__law_part.has sc__law_part (fun vs H Q E h => ?_) (fun f cdv A outer s H vs Q E hr h => ?_)
  · obtain ⟨c, i, m, rfl, _⟩ := h; rfl
  · obtain ⟨c, i, m, rfl, hm, k⟩ := h
    refine ⟨_, (pss_one (ps_ret (pe_op op_mod (pe_op op_mod (pe_op op_mul (pe_op op_mod (pe_op op_mul (pe_op op_add (pe_op op_mod (pv 0) pe_int) pe_int) (pe_op op_add pe_int (pe_op op_mul pe_int (pv 1)))) pe_int) (pe_op op_add (pv 1) pe_int)) pe_int) (pv 2)))), ?_⟩
    have b1 := Int.emod_nonneg c (show (99991 : Int) ≠ 0 by decide)
    have b2 := Int.emod_lt_of_pos c (show (0 : Int) < 99991 by decide)
    have b3 := Int.emod_nonneg ((c % 99991 + 17) * (48271 + 7919 * i)) (show (65537 : Int) ≠ 0 by decide)
    have b4 := Int.emod_lt_of_pos ((c % 99991 + 17) * (48271 + 7919 * i)) (show (0 : Int) < 65537 by decide)
    walk_at "rd"
    refine ⟨(by decide : (0 : Int) < 99991), ?_⟩
    walk_at "rd"
    refine ⟨.inl ⟨by decide, by decide⟩, ?_⟩
    walk_at "rd"
    refine ⟨.inl ⟨by omega, by omega⟩, ?_⟩
    walk_at "rd"
    refine ⟨(by decide : (0 : Int) < 65537), ?_⟩
    walk_at "rd"
    refine ⟨.inl ⟨by omega, by omega⟩, ?_⟩
    walk_at "rd"
    refine ⟨(by decide : (0 : Int) < 8191), ?_⟩
    walk_at "rd"
    exact ⟨hm, k⟩
/-! ### names -/
theorem at37 (z : Int) (one at' : Int) (k j : Nat) (h : z = nmI one at' k j) : atI NAMES.cps.toList (z % 37) = some (nmN one at' k j) := by
  obtain ⟨h0, h1⟩ := ix37 z
  subst h
  have := atI_nat (xs := co NAMES) (j := (nmI one at' k j % 37).toNat) (v := nmN one at' k j) (by unfold nmN; rw [List.getD_eq_getElem?_getD, List.getElem?_eq_getElem h1]; rfl)
  rw [Int.toNat_of_nonneg h0] at this
  exact this
def cutF (l : List Nat) (size : Int) : V → V
  | .int z => .str (Txt.slice (strOf l) none (some (size - z)))
  | _ => .non
def sp_names : Sp := fun vs H Q _ => ∃ (one other : Int) (n : Nat), vs = [.int one, .int other, .int n] ∧ n ≤ 37 ∧ ∀ (p : Addr) (xs : List Str) (H' : Hp), xs.length = n → xs.Nodup → (∀ x ∈ xs, nameB x = true) → H p = none → H' p = some (.lst (xs.map V.str)) → Same H H' → Q (.ref p) H'
set_option maxHeartbeats 4000000 in
theorem h__law_names (T : Tx K mg w C_Dig) : Has P w K mg base "_law_names" ["_law_one", "_law_other", "_law_many"] 2 sp_names := by
  refine T.d__law_names.has sc__law_names (fun vs H Q E h => ?_) (fun f cdv A outer s H vs Q E hr h => ?_)
  · obtain ⟨one, other, n, rfl, _⟩ := h; rfl
  · obtain ⟨one, other, n, rfl, hn37, k⟩ := h
    refine ⟨_, (pss_cons (ps_set (i := 3) sc__law_names.nd rfl (Or.inl rfl) pe_str)
      (pss_cons (ps_set (i := 4) sc__law_names.nd rfl (Or.inr rfl) (pe_op op_add pe_int (pe_fn (h__law_part T) (hr.mono (by decide)) (by rfl) (pa_cons (pv 0) (pa_cons pe_int (pa_cons pe_int pa_nil))))))
      (pss_cons (ps_set (i := 5) sc__law_names.nd rfl (Or.inl rfl) (pe_fn (h__law_part T) (hr.mono (by decide)) (by rfl) (pa_cons (pv 1) (pa_cons pe_int (pa_cons (pv 4) pa_nil)))))
      (pss_cons (ps_set (i := 6) sc__law_names.nd rfl (Or.inr rfl) (pe_lst pa_nil))
      (pss_cons (ps_for PassesOwn.never rfl (pi_range1 (by rfl) T.range (pa_cons (pv 2) pa_nil)) (pg_name (i := 7) sc__law_names.nd rfl (Or.inl rfl)) (pss_cons (ps_set (i := 8) sc__law_names.nd rfl (Or.inl rfl) pe_str)
        (pss_cons (ps_for PassesOwn.never rfl (pi_range1 (by rfl) T.range (pa_cons (pv 4) pa_nil)) (pg_name (i := 9) sc__law_names.nd rfl (Or.inl rfl)) (pss_cons (ps_set (i := 10) sc__law_names.nd rfl (Or.inl rfl) (pe_fn (h__law_part T) (hr.mono (by decide)) (by rfl) (pa_cons (pv 0) (pa_cons (pe_op op_add (pv 9) pe_int) (pa_cons pe_int pa_nil)))))
          (pss_cons (ps_if (pt_cmpR op_eq (pv 9) (pv 5) (nomark _)) (pss_one (ps_set (i := 10) sc__law_names.nd rfl (Or.inl rfl) (pe_op op_add (pv 10) (pv 7)))) pss_nil)
          (pss_one (ps_set (i := 8) sc__law_names.nd rfl (Or.inl rfl) (pe_op op_add_str (pv 8) (pe_ix ix_str (pv 3) (pe_op op_mod (pv 10) pe_int) (fun _ _ => rfl))))))))
        (pss_one (ps_expr (pe_bmK K rfl PySem.F.plainAttrs_list PySem.F.slot_list_append PySem.F.type_list_append mt_append (pv 6) (pa_cons (pv 8) pa_nil)))))))
      (pss_cons (ps_if (PW.pt (pw_and (pt_cmpR op_ge (pv 4) (pv 2) (nomark _)) (pw_and1 (pt_cmpR op_eq (pe_op op_mod (pv 1) pe_int) pe_int (nomark _))))) (pss_one (ps_ret (pe_comp (own := ["_law_k"]) (cap := ["_law_names_here", "_law_size"]) (ix := [6, 4]) (osc := defScope (top 12)) rfl ⟨rfl, by decide +kernel, by decide +kernel, by decide +kernel, by decide +kernel⟩ rfl (pi_range1 (by rfl) T.range (pa_cons (pv 2) pa_nil)) (fun _ _ _ _ => pg_name (i := 0) (show List.Nodup (["_law_k", "_law_names_here", "_law_size"] : List Str) by decide +kernel) rfl (Or.inl rfl)) (fun _ _ _ _ => pif_nil) (fun _ _ _ _ => (pe_slice sl_str (pe_ix (ix_listK K rfl) (pv 1) pe_int (fun _ _ => rfl)) po_none (po_some (pe_op op_sub (pv 2) (pv 0)))))))) pss_nil)
      (pss_one (ps_ret (pv 6))))))))), ?_⟩
    walk_at "rd"
    refine ⟨by decide, ?_⟩
    walk_at "rd"
    obtain ⟨s1, s2⟩ := pt_bd one 0 12 (by decide)
    have hs : ∃ size : Nat, 1 + pt one 0 12 = (size : Int) ∧ 1 ≤ size ∧ size ≤ 12 := ⟨(1 + pt one 0 12).toNat, by omega, by omega, by omega⟩
    obtain ⟨size, es, z1, z2⟩ := hs
    rw [es]
    refine ⟨by omega, ?_⟩
    obtain ⟨a1, a2⟩ := pt_bd other 1 (size : Int) (by omega)
    generalize pt other 1 (size : Int) = at' at a1 a2
    refine ⟨by decide, fun p hp => ?_⟩
    refine ⟨_, rfl, (n : Int), rfl, by omega, by omega, for_range (lo := 0) (n := n) (fun i σ H' => ∃ v7 v8 v9 v10, σ = [some (.int one), some (.int other), some (.int n), some (.str NAMES), some (.int size), some (.int at'), some (.ref p), v7, v8, v9, v10] ∧ Same H H' ∧
      H' p = some (.lst (((List.range i).map fun k => strOf (nmC one at' k size)).map V.str))) ⟨none, none, none, none, (by rw [← es]; rfl), Same.new hp, upd_same⟩ ?_ ?_⟩
    · rintro i σ H1 hi ⟨v7, v8, v9, v10, rfl, q1, q2⟩
      simp only [Int.zero_add]
      refine ⟨_, rfl, (size : Int), rfl, by omega, by omega, for_range (lo := 0) (n := size) (fun j σ H2 => ∃ v9 v10, σ = [some (.int one), some (.int other), some (.int n), some (.str NAMES), some (.int size), some (.int at'), some (.ref p), some (.int i), some (.str (strOf ((List.range j).map (nmN one at' i)))), v9, v10] ∧ H2 = H1)
        ⟨v9, v10, by rw [emp_is]; rfl, rfl⟩ ?_ ?_⟩
      · rintro j σ H2 hj ⟨v9, v10, rfl, rfl⟩
        simp only [Int.zero_add]
        walk_at "rd"
        refine ⟨by decide, ?_⟩
        refine ⟨_, rfl, _, rfl, rfl, _, rfl, ?_⟩
        refine ite2 (fun c => ?_) (fun c => ?_)
        all_goals
          walk_at "rd"
          refine ⟨(by decide : (0 : Int) < 37), NAMES, _, nmN one at' i j, rfl, rfl, by decide, ?_, ?_⟩
        · refine at37 _ one at' i j ?_
          have c := of_decide_eq_true c
          have c : (j : Int) = at' := V.int.inj c
          unfold nmI
          rw [if_pos c]
        · refine ⟨_, _, rfl, rfl, ?_, some (.int j), some (.int (pt one ((j : Int) + 2) 37 + i)), ?_, rfl⟩
          · rw [len_strOf, List.length_map, List.length_range]
            exact Nat.le_trans (show j + 1 ≤ 100 by omega) (by decide)
          · rw [show (⟨#[nmN one at' i j]⟩ : Str) = strOf [nmN one at' i j] from rfl, app_strOf, List.range_succ, List.map_append]
            rfl
        · refine at37 _ one at' i j ?_
          have c : ¬ (j : Int) = at' := fun z => c (decide_eq_true (congrArg V.int z))
          unfold nmI
          rw [if_neg c]
        · refine ⟨_, _, rfl, rfl, ?_, some (.int j), some (.int (pt one ((j : Int) + 2) 37)), ?_, rfl⟩
          · rw [len_strOf, List.length_map, List.length_range]
            exact Nat.le_trans (show j + 1 ≤ 100 by omega) (by decide)
          · rw [show (⟨#[nmN one at' i j]⟩ : Str) = strOf [nmN one at' i j] from rfl, app_strOf, List.range_succ, List.map_append]
            rfl
      · rintro σ H2 ⟨v9, v10, rfl, rfl⟩
        refine ⟨_, rfl, .inl ⟨rfl, _, SqL.of q2⟩, _, rfl, p, _, _, rfl, rfl, q2, ?_, ?_⟩
        · rw [List.length_map, List.length_map, List.length_range]
          exact small1000 (by omega)
        · refine ⟨_, _, _, _, rfl, q1.upd hp, ?_⟩
          rw [upd_same, List.range_succ, List.map_append, List.map_append]
          rfl
    · rintro σ H1 ⟨v7, v8, v9, v10, rfl, q1, q2⟩
      obtain ⟨n1, n2, n3⟩ := names1N_ok (n := n) hn37 (one := one) a1 a2 z1 z2
      have fin : Q (.ref p) H1 := k p _ H1 n3 n1 n2 hp q2 q1
      refine ⟨_, rfl, _, rfl, _, _, rfl, rfl, _, rfl, ?_⟩
      refine ite2 (fun c => ?_) (fun c => ?_)
      · have c := of_decide_eq_true c
        walk_at "rd"
        refine ⟨(by decide : (0 : Int) < 2), ?_⟩
        refine ⟨rfl, _, rfl, ?_⟩
        refine ite2 (fun c2 => ?_) (fun c2 => ?_)
        · obtain ⟨m1, m2, m3⟩ := names2N_ok (n := n) (one := one) (at' := at') (size := size) (by omega) z2
          refine ⟨_, rfl, (n : Int), rfl, by omega, by omega, fun D hD => ?_⟩
          have npD : p ≠ D := ne_of_none q2 hD
          refine comp_pure (fix_rng (lo := 0) (n := n)) (fun _ => true) (cutF (nmC one at' 0 size) size) (fun _ => trivial) (by rw [List.length_map, List.length_range]; exact le_line (by omega)) (fun v hv ys Q' q => q) (fun v hv _ ys Q' q => ?_) ?_
          · obtain ⟨z, hz, rfl⟩ := List.mem_map.mp hv
            refine ⟨_, rfl, p, _, 0, .str (strOf (nmC one at' 0 size)), rfl, rfl, SqL.of (by rw [upd_ne npD]; exact q2), (by have hz := List.mem_range.mp hz; exact atI_nat (j := 0) (by rw [List.getElem?_map, List.getElem?_map, List.getElem?_range (by omega)]; rfl)), ?_⟩
            refine ⟨_, rfl, _, rfl, _, _, rfl, rfl, _, rfl, _, rfl, ?_, q⟩
            rw [len_strOf, nmC_len]
            exact Nat.le_trans z2 (by decide)
          · refine k D _ _ m3 m1 m2 (q1.free hD) ?_ (q1.trans (Same.new hD))
            rw [upd_same]
            congr 2
            unfold names2N
            rw [List.filter_eq_self.mpr (fun _ _ => rfl), List.map_map, List.map_map]
            apply List.map_congr_left
            intro i hi
            have hi := List.mem_range.mp hi
            show V.str (Txt.slice (strOf (nmC one at' 0 size)) none (some ((size : Int) - (0 + (i : Int))))) = V.str (strOf ((nmC one at' 0 size).take (size - i)))
            rw [slice_take _ _ (by omega) (by rw [nmC_len]; omega)]
            congr 3
            omega
        · exact ⟨_, rfl, fin⟩
      · exact iteF ⟨_, rfl, fin⟩
/-! ### years, ties, finds -/
theorem c60 : CPow 10 60 := ⟨by decide, by decide, by decide⟩
theorem c59 : CPow 10 59 := ⟨by decide, by decide, by decide⟩
theorem m60 : (0 : Int) < 10 ^ (60 : Int).toNat := by decide
theorem m59 : (0 : Int) < 10 ^ (59 : Int).toNat := by decide
def sp_year : Sp := fun vs H Q _ => ∃ c k : Int, vs = [.int c, .int k] ∧ ∀ (z : Int) (H' : Hp), YearOk z → Same H H' → Q (.int z) H'
set_option maxHeartbeats 4000000 in
theorem h__law_year (T : Tx K mg w C_Dig) : Has P w K mg base "_law_year" ["_law_cell", "_law_k"] 2 sp_year := by
  refine T.d__law_year.has sc__law_year (fun vs H Q E h => ?_) (fun f cdv A outer s H vs Q E hr h => ?_)
  · obtain ⟨c, i, rfl, _⟩ := h; rfl
  · obtain ⟨c, i, rfl, k⟩ := h
    refine ⟨_, (pss_cons (ps_set (i := 2) sc__law_year.nd rfl (Or.inl rfl) (pe_lst (pa_cons (pe_op op_sub (pe_fn (h__law_part T) (hr.mono (by decide)) (by rfl) (pa_cons (pv 0) (pa_cons (pv 1) (pa_cons pe_int pa_nil)))) pe_int) (pa_cons (pe_fn (h__law_part T) (hr.mono (by decide)) (by rfl) (pa_cons (pv 0) (pa_cons (pv 1) (pa_cons pe_int pa_nil)))) (pa_cons (pe_op op_mod (pe_op op_mul (pv 0) pe_int) (pe_op op_pow pe_int pe_int)) pa_nil)))))
      (pss_cons (ps_set (i := 2) sc__law_year.nd rfl (Or.inl rfl) (pe_op op_cat (pv 2) (pe_lst (pa_cons (pe_op op_sub (pe_un un_neg pe_int) (pe_op op_mod (pe_op op_mul (pv 0) pe_int) (pe_op op_pow pe_int pe_int))) pa_nil))))
      (pss_one (ps_ret (pe_ix (ix_listK K rfl) (pv 2) (pe_fn (h__law_part T) (hr.mono (by decide)) (by rfl) (pa_cons (pv 0) (pa_cons (pe_op op_add (pv 1) pe_int) (pa_cons pe_int pa_nil)))) (fun _ _ => rfl)))))), ?_⟩
    walk_at "rd"
    refine ⟨by decide, ?_⟩
    walk_at "rd"
    refine ⟨by decide, ?_⟩
    walk_at "rd"
    refine ⟨.inr ⟨by decide, by decide⟩, ?_⟩
    walk_at "rd"
    refine ⟨c60, ?_⟩
    walk_at "rd"
    refine ⟨m60, (by show 3 ≤ sizeLine; decide), fun p1 hp1 => ?_⟩
    walk_at "rd"
    refine ⟨.inr ⟨by decide, by decide⟩, ?_⟩
    walk_at "rd"
    refine ⟨c59, ?_⟩
    walk_at "rd"
    refine ⟨m59, ?_⟩
    walk_at "rd"
    refine ⟨(by show 1 ≤ sizeLine; decide), fun p2 hp2 => ?_⟩
    have n12 : p1 ≠ p2 := ne_of_none upd_same hp2
    refine ⟨p1, p2, _, _, rfl, rfl, by rw [upd_ne n12, upd_same], upd_same, (by show 4 ≤ sizeLine; decide), fun p3 hp3 => ?_⟩
    walk_at "rd"
    refine ⟨by decide, ?_⟩
    obtain ⟨b1, b2⟩ := pt_bd c (i + 1) 4 (by decide)
    obtain ⟨d1, d2⟩ := pt_bd c i 60 (by decide)
    obtain ⟨d3, d4⟩ := pt_bd c i 12 (by decide)
    have d5 := Int.emod_nonneg (c * 48271) (show (10 ^ (60 : Int).toNat : Int) ≠ 0 by decide)
    have d6 := Int.emod_lt_of_pos (c * 48271) m60
    have d7 := Int.emod_nonneg (c * 40692) (show (10 ^ (59 : Int).toNat : Int) ≠ 0 by decide)
    have d8 := Int.emod_lt_of_pos (c * 40692) m59
    have e60 : (10 : Int) ^ (60 : Int).toNat = 10 ^ 60 := rfl
    have e59 : (10 : Int) ^ (59 : Int).toNat = 10 ^ 59 := rfl
    rw [e60] at d5 d6
    rw [e59] at d7 d8
    have h4 : pt c (i + 1) 4 = 0 ∨ pt c (i + 1) 4 = 1 ∨ pt c (i + 1) 4 = 2 ∨ pt c (i + 1) 4 = 3 := by omega
    rcases h4 with h4 | h4 | h4 | h4
    all_goals
      rw [h4]
      refine ⟨p3, _, _, _, rfl, rfl, SqL.of upd_same, rfl, k _ _ ?_ ((Same.new hp1).trans ((Same.new hp2).trans (Same.new hp3)))⟩
    · show (pt c i 60 - 20).natAbs < 10 ^ 60
      omega
    · show (pt c i 12).natAbs < 10 ^ 60
      omega
    · show (c * 48271 % 10 ^ 60).natAbs < 10 ^ 60
      omega
    · show (-1 - c * 40692 % 10 ^ 59).natAbs < 10 ^ 60
      omega
theorem two_sorted {a b : Int} {ms : List Int} (h : ms.Perm [a, b]) (hs : ms.Pairwise (· ≤ ·)) : ∃ lo hi, ms = [lo, hi] ∧ lo ≤ hi ∧ (lo = a ∨ lo = b) ∧ (hi = a ∨ hi = b) := by
  have hl := h.length_eq
  match ms, hl with
  | [lo, hi], _ =>
    have m1 := h.mem_iff (a := lo)
    have m2 := h.mem_iff (a := hi)
    have e1 := m1.mp (by simp)
    have e2 := m2.mp (by simp)
    simp at e1 e2
    refine ⟨lo, hi, rfl, ?_, e1, e2⟩
    have := List.rel_of_pairwise_cons hs (a' := hi) (by simp)
    exact this
def sp_years : Sp := fun vs H Q _ => ∃ c k : Int, vs = [.int c, .int k] ∧ ∀ (p : Addr) (lo hi : Int) (H' : Hp), lo ≤ hi → YearOk lo → YearOk hi → H p = none → H' p = some (.lst [.int lo, .int hi]) → Same H H' → Q (.ref p) H'
set_option maxHeartbeats 4000000 in
theorem h__law_years (T : Tx K mg w C_Dig) : Has P w K mg base "_law_years" ["_law_cell", "_law_k"] 3 sp_years := by
  refine T.d__law_years.has sc__law_years (fun vs H Q E h => ?_) (fun f cdv A outer s H vs Q E hr h => ?_)
  · obtain ⟨c, i, rfl, _⟩ := h; rfl
  · obtain ⟨c, i, rfl, k⟩ := h
    refine ⟨_, (pss_one (ps_ret (pe_callB (call_sortedIK K rfl) (by rfl) T.sorted PyProof.Rows.boot_sorted (pa_cons (pe_lst (pa_cons (pe_fn (h__law_year T) (hr.mono (by decide)) (by rfl) (pa_cons (pv 0) (pa_cons (pv 1) pa_nil))) (pa_cons (pe_fn (h__law_year T) (hr.mono (by decide)) (by rfl) (pa_cons (pv 0) (pa_cons (pe_op op_add (pv 1) pe_int) pa_nil))) pa_nil))) pa_nil)))), ?_⟩
    refine ⟨_, rfl, _, rfl, c, i, rfl, fun z1 H1 y1 s1 => ?_⟩
    refine ⟨_, rfl, _, rfl, _, _, rfl, rfl, c, _, rfl, fun z2 H2 y2 s2 => ?_⟩
    refine ⟨by show 2 ≤ sizeLine; decide, fun p1 hp1 => ?_⟩
    have s3 := Same.new (o := .lst [.int z1, .int z2]) hp1
    refine ⟨p1, [z1, z2], rfl, SqL.of upd_same, by show 2 < 64; decide, fun p2 ms hp2 pm sr => ?_⟩
    obtain ⟨lo, hi, rfl, hl, e1, e2⟩ := two_sorted pm sr
    have s4 := Same.new (o := .lst ([lo, hi].map V.int)) hp2
    refine k p2 lo hi _ hl ?_ ?_ (s1.free (s2.free (s3.free hp2))) upd_same (s1.trans (s2.trans (s3.trans s4)))
    · rcases e1 with rfl | rfl <;> assumption
    · rcases e2 with rfl | rfl <;> assumption
def sp_tie62 : Sp := fun vs H Q _ => ∃ (pn : Addr) (us : List Str) (c : Int), vs = [.ref pn, .int c] ∧ SqL K H pn (us.map V.str) ∧ 1 ≤ us.length ∧ ∀ (p : Addr) (t : Tie) (H' : Hp), TOk us t → H p = none → H' p = some (.tup (tieV t)) → Same H H' → Q (.ref p) H'
theorem at_us {us : List Str} {i : Int} (h0 : 0 ≤ i) (h1 : i < (us.length : Int)) : ∃ x ∈ us, atI (us.map V.str) i = some (.str x) := by
  have hi : i.toNat < us.length := by omega
  refine ⟨us[i.toNat], List.getElem_mem hi, ?_⟩
  have := atI_nat (xs := us.map V.str) (j := i.toNat) (v := .str us[i.toNat]) (by simp [hi])
  rw [Int.toNat_of_nonneg h0] at this
  exact this
def tieKinds : List V := [.str "over", .str "cuts", .str "fills", .str "after", .str "same"]
theorem kind_at {i : Int} (h0 : 0 ≤ i) (h1 : i < 5) : ∃ kd : Str, atI tieKinds i = some (.str kd) ∧ (kd = "after" ∨ kd ∈ KINDS) := by
  have h : i = 0 ∨ i = 1 ∨ i = 2 ∨ i = 3 ∨ i = 4 := by omega
  rcases h with rfl | rfl | rfl | rfl | rfl
  · exact ⟨_, rfl, .inr (by decide +kernel)⟩
  · exact ⟨_, rfl, .inr (by decide +kernel)⟩
  · exact ⟨_, rfl, .inr (by decide +kernel)⟩
  · exact ⟨_, rfl, .inl rfl⟩
  · exact ⟨_, rfl, .inr (by decide +kernel)⟩
set_option maxHeartbeats 4000000 in
theorem h__law_tie (T : Tx K mg w C_Dig) : Has P w K mg base "_law_tie" ["_law_names_here", "_law_cell"] 2 (sp_tie62 (K := K)) := by
  refine T.d__law_tie.has sc__law_tie (fun vs H Q E h => ?_) (fun f cdv A outer s H vs Q E hr h => ?_)
  · obtain ⟨a, us, c, rfl, _⟩ := h; rfl
  · obtain ⟨a, us, c, rfl, ha, hl, k⟩ := h
    refine ⟨_, (pss_cons (ps_set (i := 2) sc__law_tie.nd rfl (Or.inl rfl) (pe_ix (ix_listK K rfl) (pv 0) (pe_fn (h__law_part T) (hr.mono (by decide)) (by rfl) (pa_cons (pv 1) (pa_cons pe_int (pa_cons (pe_callB (call_len_seqK K rfl) (by rfl) T.len boot_len (pa_cons (pv 0) pa_nil)) pa_nil)))) (fun _ _ => rfl)))
      (pss_cons (ps_set (i := 3) sc__law_tie.nd rfl (Or.inl rfl) (pe_ix (ix_listK K rfl) (pv 0) (pe_fn (h__law_part T) (hr.mono (by decide)) (by rfl) (pa_cons (pv 1) (pa_cons pe_int (pa_cons (pe_callB (call_len_seqK K rfl) (by rfl) T.len boot_len (pa_cons (pv 0) pa_nil)) pa_nil)))) (fun _ _ => rfl)))
      (pss_cons (ps_set (i := 4) sc__law_tie.nd rfl (Or.inl rfl) (pe_ix (ix_listK K rfl) (pe_lst (pa_cons pe_str (pa_cons pe_str (pa_cons pe_str (pa_cons pe_str (pa_cons pe_str pa_nil)))))) (pe_fn (h__law_part T) (hr.mono (by decide)) (by rfl) (pa_cons (pv 1) (pa_cons pe_int (pa_cons pe_int pa_nil)))) (fun _ _ => rfl)))
      (pss_cons (ps_if (pt_cmpR op_eq (pv 4) pe_str (nomark _)) (pss_one (ps_ret (pe_tup (pa_cons (pv 4) (pa_cons (pv 2) (pa_cons (pv 3) (pa_cons (pe_ix (ix_listK K rfl) (pe_lst (pa_cons (pe_fn (h__law_part T) (hr.mono (by decide)) (by rfl) (pa_cons (pv 1) (pa_cons pe_int (pa_cons pe_int pa_nil)))) (pa_cons (pe_op op_mod (pe_op op_mul (pv 1) pe_int) (pe_op op_pow pe_int pe_int)) pa_nil))) (pe_fn (h__law_part T) (hr.mono (by decide)) (by rfl) (pa_cons (pv 1) (pa_cons pe_int (pa_cons pe_int pa_nil)))) (fun _ _ => rfl)) pa_nil))))))) pss_nil)
      (pss_one (ps_ret (pe_tup (pa_cons (pv 4) (pa_cons (pv 2) (pa_cons (pv 3) pa_nil)))))))))), ?_⟩
    have hn : (0 : Int) < (us.length : Int) := by omega
    refine ⟨_, rfl, _, rfl, _, rfl, a, _, rfl, .inl ha, ?_⟩
    rw [List.length_map]
    refine ⟨_, _, _, rfl, hn, ?_⟩
    obtain ⟨x, hx, ex⟩ := at_us (pt_bd c 2 _ hn).1 (pt_bd c 2 _ hn).2
    refine ⟨a, _, _, _, rfl, rfl, ha, ex, ?_⟩
    refine ⟨_, rfl, _, rfl, _, rfl, a, _, rfl, .inl ha, ?_⟩
    rw [List.length_map]
    refine ⟨_, _, _, rfl, hn, ?_⟩
    obtain ⟨y, hy, ey⟩ := at_us (pt_bd c 3 _ hn).1 (pt_bd c 3 _ hn).2
    refine ⟨a, _, _, _, rfl, rfl, ha, ey, ?_⟩
    refine ⟨(by show 5 ≤ sizeLine; decide), fun p1 hp1 => ?_⟩
    refine ⟨_, rfl, _, _, _, rfl, by decide, ?_⟩
    obtain ⟨kd, ek, hk⟩ := kind_at (pt_bd c 4 5 (by decide)).1 (pt_bd c 4 5 (by decide)).2
    have s1 : Same H (upd H p1 (.lst tieKinds)) := Same.new hp1
    refine ⟨p1, tieKinds, _, _, rfl, rfl, SqL.of upd_same, ek, ?_⟩
    show tSeq _ _ _ _ (upd H p1 (.lst tieKinds))
    generalize upd H p1 (.lst tieKinds) = H1 at s1
    refine ⟨_, rfl, rfl, _, rfl, ?_⟩
    refine ite2 (fun c1 => ?_) (fun c1 => ?_)
    · have c1 := V.str.inj (of_decide_eq_true c1)
      subst c1
      refine ⟨_, rfl, _, rfl, _, rfl, _, rfl, _, _, _, rfl, by decide, ?_⟩
      walk_at "rd"
      refine ⟨.inr ⟨by decide, by decide⟩, ?_⟩
      walk_at "rd"
      refine ⟨c60, ?_⟩
      walk_at "rd"
      refine ⟨m60, (by show 2 ≤ sizeLine; decide), fun p2 hp2 => ?_⟩
      walk_at "rd"
      refine ⟨by decide, ?_⟩
      obtain ⟨b1, b2⟩ := pt_bd c 6 2 (by decide)
      obtain ⟨d1, d2⟩ := pt_bd c 5 3 (by decide)
      have d5 := Int.emod_nonneg (c * 48271) (show (10 ^ (60 : Int).toNat : Int) ≠ 0 by decide)
      have d6 := Int.emod_lt_of_pos (c * 48271) m60
      have e60 : (10 : Int) ^ (60 : Int).toNat = 10 ^ 60 := rfl
      rw [e60] at d5 d6
      have h2 : pt c 6 2 = 0 ∨ pt c 6 2 = 1 := by omega
      rcases h2 with h2 | h2
      · rw [h2]
        refine ⟨p2, _, _, _, rfl, rfl, SqL.of upd_same, rfl, (by show 4 ≤ sizeLine; decide), fun p3 hp3 => k p3 ⟨"after", x, y, some (pt c 5 3)⟩ _ ⟨.after hx hy d1 ?_, hx, hy⟩ (s1.free ((Same.new hp2).free hp3)) upd_same (s1.trans ((Same.new hp2).trans (Same.new hp3)))⟩
        show (pt c 5 3).natAbs < 10 ^ 60
        omega
      · rw [h2]
        refine ⟨p2, _, _, _, rfl, rfl, SqL.of upd_same, rfl, (by show 4 ≤ sizeLine; decide), fun p3 hp3 => k p3 ⟨"after", x, y, some (c * 48271 % 10 ^ 60)⟩ _ ⟨.after hx hy d5 ?_, hx, hy⟩ (s1.free ((Same.new hp2).free hp3)) upd_same (s1.trans ((Same.new hp2).trans (Same.new hp3)))⟩
        show (c * 48271 % 10 ^ 60).natAbs < 10 ^ 60
        omega
    · refine ⟨_, rfl, _, rfl, _, rfl, (by show 3 ≤ sizeLine; decide), fun p2 hp2 => ?_⟩
      have hk' : kd ∈ KINDS := by
        rcases hk with hk | hk
        · exact absurd (decide_eq_true (congrArg V.str hk)) c1
        · exact hk
      exact k p2 ⟨kd, x, y, none⟩ _ ⟨.plain hk' hx hy, hx, hy⟩ (s1.free hp2) upd_same (s1.trans (Same.new hp2))
/-! ### the dig -/
theorem keyTups_tups {H : Hp} : ∀ {as : List Addr} {ts : List (List V)}, (∀ ws ∈ ts, ∀ v ∈ ws, Wd v) → KeyTups H as (dTi ts) → Tups H as ts
  | [], [], _, _ => .nil
  | a :: as, ws :: ts, hw, .cons h t => by
    have h : H a = some (.tup ((ws.map kW).map kV)) := h
    rw [kV_map (hw ws (List.mem_cons_self ..))] at h
    exact .cons h (keyTups_tups (fun vs hv => hw vs (List.mem_cons_of_mem _ hv)) t)
def sp_seeku : Sp := fun vs H Q _ => ∃ (p pm du dt df : Addr) (lo hi : Int) (us : List Str) (ts : List Tie) (fs : List Fnd) (af : List Addr) (x : Str), vs = [.ref p, .str x] ∧ DigAt C_Dig H p pm du dt df lo hi us ts fs af ∧ x ∈ us ∧ Q .non H
theorem ml_Dig_seek_unit (T : Tx K mg w C_Dig) : HasML P w K mg base CX0 C_Dig "seek_unit" ["self", "name"] 1 (sp_seeku (C_Dig := C_Dig)) := by
  refine T.d_Dig_seek_unit.hasL0 sc_Dig_seek_unit (fun vs H Q E h => ?_) (fun f cdv A outer s H vs Q E hr h => ?_)
  · obtain ⟨p, pm, du, dt, df, lo, hi, us, ts, fs, af, x, rfl, _⟩ := h; rfl
  · obtain ⟨p, pm, du, dt, df, lo, hi, us, ts, fs, af, x, rfl, R, hx, k⟩ := h
    have hu := hu_of hr
    refine ⟨_, (pss_one (ps_if (pt_cmp (pc_dnotin hu (pv 1) (pe_fld (pv 0) rfl))) (pss_one ps_never) pss_nil)), ?_⟩
    obtain ⟨dx, h1⟩ := R.ob
    refine ⟨_, rfl, _, rfl, p, C_Dig, dx, _, _, rfl, h1, T.cl_Dig, T.na_Dig_units, rfl4_u _ _ _ _, du, _, rfl, DGet.k (k := Sum.inr x) R.u, _, rfl, ?_⟩
    rw [valV_some' (dU_mem.mpr hx)]
    exact iteF k
theorem m_Dig_seek_unit (T : Tx K mg w C_Dig) : HasM P w K mg base C_Dig "seek_unit" ["self", "name"] 1 (sp_seeku (C_Dig := C_Dig)) := (ml_Dig_seek_unit T).m
def sp_seekf : Sp := fun vs H Q _ => ∃ (p pm du dt df : Addr) (lo hi : Int) (us : List Str) (ts : List Tie) (fs : List Fnd) (af : List Addr) (x : Str), vs = [.ref p, .str x] ∧ DigAt C_Dig H p pm du dt df lo hi us ts fs af ∧ x ∈ fs.map Fnd.n ∧ Q .non H
theorem ml_Dig_seek_find (T : Tx K mg w C_Dig) : HasML P w K mg base CX0 C_Dig "seek_find" ["self", "name"] 1 (sp_seekf (C_Dig := C_Dig)) := by
  refine T.d_Dig_seek_find.hasL0 sc_Dig_seek_find (fun vs H Q E h => ?_) (fun f cdv A outer s H vs Q E hr h => ?_)
  · obtain ⟨p, pm, du, dt, df, lo, hi, us, ts, fs, af, x, rfl, _⟩ := h; rfl
  · obtain ⟨p, pm, du, dt, df, lo, hi, us, ts, fs, af, x, rfl, R, hx, k⟩ := h
    have hu := hu_of hr
    refine ⟨_, (pss_one (ps_if (pt_cmp (pc_dnotin hu (pv 1) (pe_fld (pv 0) rfl))) (pss_one ps_never) pss_nil)), ?_⟩
    obtain ⟨dx, h1⟩ := R.ob
    refine ⟨_, rfl, _, rfl, p, C_Dig, dx, _, _, rfl, h1, T.cl_Dig, T.na_Dig_finds, rfl4_i _ _ _ _, df, _, rfl, DGet.k (k := Sum.inr x) R.f, _, rfl, ?_⟩
    rw [valV_some' ((dFn_mem R.flen).mpr hx)]
    exact iteF k
theorem m_Dig_seek_find (T : Tx K mg w C_Dig) : HasM P w K mg base C_Dig "seek_find" ["self", "name"] 1 (sp_seekf (C_Dig := C_Dig)) := (ml_Dig_seek_find T).m
theorem cut13 (t : Tie) : cutV (tieV t) (some 1) (some 3) = [.str t.a, .str t.b] ∧ ¬ (HT.sIx (tieV t).length 0 (some 1) = 0 ∧ HT.sIx (tieV t).length (tieV t).length (some 3) = (tieV t).length) := by
  obtain ⟨k, a, b, g⟩ := t
  cases g with
  | none => exact ⟨rfl, fun z => absurd z.1 (show ¬ HT.sIx 3 0 (some 1) = 0 by decide)⟩
  | some g => exact ⟨rfl, fun z => absurd z.1 (show ¬ HT.sIx 4 0 (some 1) = 0 by decide)⟩
theorem any_take {α : Type} (f : α → Bool) (l : List α) : ((l.map f).any id) = l.any f := by rw [List.any_map]; rfl
def sp_used : Sp := fun vs H Q _ => ∃ (p pm du dt df : Addr) (lo hi : Int) (us : List Str) (ts : List Tie) (fs : List Fnd) (af : List Addr) (x : Str), vs = [.ref p, .str x] ∧ DigAt C_Dig H p pm du dt df lo hi us ts fs af ∧ DigOk us ts fs ∧ ts.length ≤ 900 ∧ fs.length ≤ 900 ∧ ∀ H', Same H H' → Q (.bl (usedB ts fs x)) H'
set_option maxHeartbeats 4000000 in
theorem m_Dig_is_used (T : Tx K mg w C_Dig) : HasM P w K mg base C_Dig "is_used" ["self", "name"] 1 (sp_used (C_Dig := C_Dig)) := by
  refine T.d_Dig_is_used.has sc_Dig_is_used (fun vs H Q E h => ?_) (fun f cdv A outer s H vs Q E hr h => ?_)
  · obtain ⟨p, pm, du, dt, df, lo, hi, us, ts, fs, af, x, rfl, _⟩ := h; rfl
  · obtain ⟨p, pm, du, dt, df, lo, hi, us, ts, fs, af, x, rfl, R, ok, tl, fl, k⟩ := h
    refine ⟨_, (pss_cons (ps_set (i := 2) sc_Dig_is_used.nd rfl (Or.inl rfl) (pe_thaw (pe_callB (call_anyB K rfl rfl) (by rfl) T.any PyProof.Rows.boot_any (pa_cons (pe_comp (own := ["tie"]) (cap := ["name"]) (ix := [1]) (osc := defScope (inClass (top 8) 11)) rfl ⟨rfl, by decide +kernel, by decide +kernel, by decide +kernel, by decide +kernel⟩ rfl (pi_dictT (pe_fld (pv 0) rfl)) (fun _ _ _ _ => pg_name (i := 0) (show List.Nodup (["tie", "name"] : List Str) by decide +kernel) rfl (Or.inl rfl)) (fun _ _ _ _ => pif_nil) (fun _ _ _ _ => (pe_cmpR (op_in_seqK K rfl) (pv 1) (pe_slice (sl_tupK K rfl) (pv 0) (po_some pe_int) (po_some pe_int)) (by with_unfolding_all rfl)))) pa_nil))))
      (pss_one (ps_ret (pe_or (pv 2) (pe_one (pe_thaw (pe_callB (call_anyB K rfl rfl) (by rfl) T.any PyProof.Rows.boot_any (pa_cons (pe_comp (own := ["find"]) (cap := ["name"]) (ix := [1]) (osc := defScope (inClass (top 8) 11)) rfl ⟨rfl, by decide +kernel, by decide +kernel, by decide +kernel, by decide +kernel⟩ rfl (pi_vals (pe_bm0K K rfl PySem.F.plainAttrs_dict PySem.F.slot_dict_values PySem.F.type_dict_values mt_values (pe_fld (pv 0) rfl))) (fun _ _ _ _ => pg_name (i := 0) (show List.Nodup (["find", "name"] : List Str) by decide +kernel) rfl (Or.inl rfl)) (fun _ _ _ _ => pif_nil) (fun _ _ _ _ => (pe_cmpR op_eq (pv 1) (pe_ix (ix_tupK K rfl) (pv 0) pe_int (fun _ _ => rfl)) (nomark _)))) pa_nil)))))))), ?_⟩
    obtain ⟨dx, h1⟩ := R.ob
    refine ⟨dt, _, R.t, .t, _, rfl, p, C_Dig, dx, _, _, rfl, h1, T.cl_Dig, T.na_Dig_ties, rfl4_t _ _ _ _, dt, _, rfl, R.t, fun ob as kt D hD => ?_⟩
    have tt := keyTups_tups ok.tw kt
    have lt : as.length = ts.length := by have := tt.len; rw [List.length_map] at this; exact this
    have f1 : upd H dt (.frz ob (.dT (dTi (ts.map tieV)))) dt = some (.frz ob (.dT (dTi (ts.map tieV)))) := upd_same
    have k1 : ∀ b o, H b = some o → b ≠ dt → upd H dt (.frz ob (.dT (dTi (ts.map tieV)))) b = some o := fun b o e n => by rw [upd_ne n]; exact e
    have tt1 : Tups (upd H dt (.frz ob (.dT (dTi (ts.map tieV))))) as (ts.map tieV) := tt.stay fun b xs e => k1 b _ e (ne_of e R.t (fun z => nomatch z))
    generalize upd H dt (.frz ob (.dT (dTi (ts.map tieV)))) = H1 at f1 k1 tt1 hD
    refine comp_gen (fix_dictT (a := dt) (ob := ob) (kvs := dTi (ts.map tieV)) (as := as)) (fun i σ' ys H' => ∃ w0, σ' = [w0, some (.str x)] ∧ ys = ((ts.take i).map (byT x)).map V.bl ∧ Same H1 H' ∧ H' D = some (.lst ys))
      ⟨none, rfl, by simp, Same.new hD, upd_same⟩ (fun i σ' ys H' h => ?_) (by rw [List.length_map]; exact le_line (by omega)) ?_ ?_
    · obtain ⟨_, _, rfl, q, hd⟩ := h
      refine ⟨q _ _ f1, hd, ?_⟩
      rw [List.length_map, List.length_map, List.length_take]
      omega
    · rintro i v σ' ys H' hx ⟨w0, rfl, rfl, q, hd⟩
      obtain ⟨r, t, rfl, ht, har, hr'⟩ := rows_at (tt1.same q) hx
      have hix := get_lt hx
      try dsimp only [gName]
      unfold tYes
      dsimp only
      rw [if_pos rfl]
      obtain ⟨c1, c2⟩ := cut13 t
      refine ⟨_, rfl, _, rfl, _, rfl, _, rfl, r, _, rfl, SqT.of hr', c2, fun p6 hp6 => ?_⟩
      rw [c1]
      have t6 := Same.new (o := .tup [.str t.a, .str t.b]) hp6
      have hd6 := t6 _ _ hd
      refine ⟨p6, _, rfl, .inr (SqT.of upd_same), rfl, rfl, ?_⟩
      refine ⟨hd6, cstep (by exact hix) ⟨_, rfl, ?_, (q.trans t6).upd hD, upd_same⟩⟩
      rw [List.take_add_one, ht, List.map_append, List.map_append]
      rfl
    rintro σ' ys H2 ⟨w0, rfl, rfl, q2, hd2⟩
    rw [List.length_map, lt, List.take_length] at hd2
    refine ⟨D, _, rfl, SqL.of hd2, ?_⟩
    rw [any_take]
    refine ⟨ob, _, q2 _ _ f1, .t, ?_⟩
    have s2 : Same H (upd H2 dt (.dT (dTi (ts.map tieV)))) := fun b o e => by
      by_cases c : b = dt
      · subst c
        rw [R.t] at e
        cases e
        exact upd_same
      · rw [upd_ne c]
        exact q2 _ _ (k1 b o e c)
    generalize upd H2 dt (.dT (dTi (ts.map tieV))) = H3 at s2
    have R3 := R.same s2
    try dsimp only [gName]
    refine ⟨_, rfl, _, rfl, ?_⟩
    unfold usedB at k
    cases hb : ts.any (byT x) with
    | true =>
      rw [if_pos rfl]
      rw [hb] at k
      exact k _ s2
    | false =>
      rw [hb] at k
      rw [if_neg Bool.false_ne_true]
      refine ⟨df, _, R3.f, .k, _, rfl, p, C_Dig, dx, _, _, rfl, s2 _ _ h1, T.cl_Dig, T.na_Dig_finds, rfl4_i _ _ _ _, .inr (.inr (.inl ⟨rfl, .inl ⟨_, R3.f⟩⟩)), df, _, rfl, rfl, R3.f, fun pv hpv => ?_⟩
      have t3 := Same.new (o := vwO pv df) hpv
      have R4 := R3.same t3
      refine ⟨pv, df, _, rfl, upd_same, R4.f, fun ob' D' hD' => ?_⟩
      generalize upd H3 pv (vwO pv df) = H4 at t3 R4 hD'
      have f4 : upd H4 df (.frz ob' (.dK (dFn fs af))) df = some (.frz ob' (.dK (dFn fs af))) := upd_same
      have k4 : ∀ b o, H4 b = some o → b ≠ df → upd H4 df (.frz ob' (.dK (dFn fs af))) b = some o := fun b o e n => by rw [upd_ne n]; exact e
      have tt4 : Tups (upd H4 df (.frz ob' (.dK (dFn fs af)))) af (fs.map fndV) := R4.ft.stay fun b xs e => k4 b _ e (ne_of e R4.f (fun z => nomatch z))
      generalize upd H4 df (.frz ob' (.dK (dFn fs af))) = H5 at f4 k4 tt4 hD'
      have ev := dFn_vals R.flen
      have lf := R.flen
      refine comp_gen (fix_vals (a := df) (ob := ob') (kvs := dFn fs af)) (fun i σ' ys H' => ∃ w0, σ' = [w0, some (.str x)] ∧ ys = ((fs.take i).map (byF x)).map V.bl ∧ Same H5 H' ∧ H' D' = some (.lst ys))
        ⟨none, rfl, by simp, Same.new hD', upd_same⟩ (fun i σ' ys H' h => ?_) (by rw [ev, List.length_map]; exact le_line (by omega)) ?_ ?_
      · obtain ⟨_, _, rfl, q, hd⟩ := h
        refine ⟨q _ _ f4, hd, ?_⟩
        rw [List.length_map, List.length_map, List.length_take]
        omega
      · rintro i v σ' ys H' hx ⟨w0, rfl, rfl, q, hd⟩
        have hix := get_lt hx
        rw [ev] at hx
        obtain ⟨r, f, rfl, ht, har, hr'⟩ := rows_at (tt4.same q) hx
        try dsimp only [gName]
        unfold tYes
        dsimp only
        rw [if_pos rfl]
        refine ⟨_, rfl, _, rfl, r, _, _, _, rfl, rfl, SqT.of hr', rfl, rfl, ?_⟩
        refine ⟨hd, cstep (by exact hix) ⟨_, rfl, ?_, q.upd hD', upd_same⟩⟩
        rw [List.take_add_one, ht, List.map_append, List.map_append]
        rfl
      rintro σ' ys H6 ⟨w0, rfl, rfl, q6, hd6⟩
      rw [ev, List.length_map, lf, List.take_length] at hd6
      refine ⟨D', _, rfl, SqL.of hd6, ?_⟩
      rw [any_take]
      refine ⟨ob', _, q6 _ _ f4, .k, ?_⟩
      have s6 : Same H4 (upd H6 df (.dK (dFn fs af))) := fun b o e => by
        by_cases c : b = df
        · subst c
          rw [R4.f] at e
          cases e
          exact upd_same
        · rw [upd_ne c]
          exact q6 _ _ (k4 b o e c)
      exact k _ (s2.trans (t3.trans s6))
/-! ### the dig's deeds -/
def sp_dinit : Sp := fun vs H Q _ => ∃ (p dx : Addr) (lo hi : Int), vs = [.ref p, .int lo, .int hi] ∧ H p = some (.ins C_Dig dx []) ∧ ∀ (pm du dt df : Addr) (H' : Hp), H du = none → H dt = none → H df = none → DigAt C_Dig H' p pm du dt df lo hi [] [] [] [] → (∀ b o, H b = some o → b ≠ p → H' b = some o) → Q .non H'
set_option maxHeartbeats 4000000 in
theorem m_Dig___init__ (T : Tx K mg w C_Dig) : HasM P w K mg base C_Dig "__init__" ["self", "first", "last"] 1 (sp_dinit (C_Dig := C_Dig)) := by
  refine T.d_Dig___init__.has sc_Dig___init__ (fun vs H Q E h => ?_) (fun f cdv A outer s H vs Q E hr h => ?_)
  · obtain ⟨p, dx, lo, hi, rfl, _⟩ := h; rfl
  · obtain ⟨p, dx, lo, hi, rfl, hp, k⟩ := h
    refine ⟨_, (pss_cons (ps_fld (pv 0) (pe_tup (pa_cons (pv 1) (pa_cons (pv 2) pa_nil))) rfl)
      (pss_cons (ps_fld (pv 0) pe_dnewK rfl)
      (pss_cons (ps_fld (pv 0) pe_dnewT rfl)
      (pss_one (ps_fld (pv 0) pe_dnewK rfl))))), ?_⟩
    refine ⟨_, rfl, _, rfl, (by show 2 ≤ sizeLine; decide), fun pm hpm => ?_⟩
    have n0 : p ≠ pm := ne_of_none hp hpm
    have tm := Same.new (o := .tup [.int lo, .int hi]) hpm
    have hp0 := tm _ _ hp
    have em : upd H pm (.tup [.int lo, .int hi]) pm = some (.tup [.int lo, .int hi]) := upd_same
    generalize upd H pm (.tup [.int lo, .int hi]) = G at tm hp0 em
    refine ⟨_, rfl, p, C_Dig, dx, [], rfl, hp0, T.cl_Dig, T.na_Dig_frame, (by show 0 < 1000; decide), ?_⟩
    intro du hdu
    have n1 : p ≠ du := ne_of_none upd_same hdu
    refine ⟨_, rfl, p, C_Dig, dx, _, rfl, by rw [upd_ne n1, upd_same], T.cl_Dig, T.na_Dig_units, (by show 1 < 1000; decide), ?_⟩
    intro dt hdt
    have n2 : p ≠ dt := ne_of_none upd_same hdt
    refine ⟨_, rfl, p, C_Dig, dx, _, rfl, by rw [upd_ne n2, upd_same], T.cl_Dig, T.na_Dig_ties, ?_, ?_⟩
    · exact Nat.lt_of_le_of_lt (length_putF _ _ _) (by show 1 + 1 < 1000; decide)
    intro df hdf
    have n3 : p ≠ df := ne_of_none upd_same hdf
    refine ⟨_, rfl, p, C_Dig, dx, _, rfl, by rw [upd_ne n3, upd_same], T.cl_Dig, T.na_Dig_finds, ?_, ?_⟩
    · exact Nat.lt_of_le_of_lt (length_putF _ _ _) (Nat.lt_of_le_of_lt (Nat.succ_le_succ (length_putF _ _ _)) (by show 1 + 1 + 1 < 1000; decide))
    have a0 : ∀ {b : Addr} {o : HO} {G : Hp}, upd G p o b = none → b ≠ p → G b = none := fun h n => by rwa [upd_ne n] at h
    have f1 : G du = none := a0 hdu n1.symm
    have e1 : upd (upd (upd G p (.ins C_Dig dx (putF "frame" (.ref pm) []))) du (.dK [])) p (.ins C_Dig dx (putF "units" (.ref du) (putF "frame" (.ref pm) []))) du = some (.dK []) := by rw [upd_ne n1.symm, upd_same]
    have nut : du ≠ dt := ne_of_none e1 hdt
    have f2 : G dt = none := by
      have := a0 hdt n2.symm
      rw [upd_ne nut.symm] at this
      exact a0 this n2.symm
    have e2 := ne_of_none (H := upd (upd (upd (upd (upd G p (.ins C_Dig dx (putF "frame" (.ref pm) []))) du (.dK [])) p (.ins C_Dig dx (putF "units" (.ref du) (putF "frame" (.ref pm) [])))) dt (.dT [])) p (.ins C_Dig dx (putF "ties" (.ref dt) (putF "units" (.ref du) (putF "frame" (.ref pm) []))))) (a := dt) (b := df) (o := .dT []) (by rw [upd_ne n2.symm, upd_same]) hdf
    have e3 := ne_of_none (H := upd (upd (upd (upd (upd G p (.ins C_Dig dx (putF "frame" (.ref pm) []))) du (.dK [])) p (.ins C_Dig dx (putF "units" (.ref du) (putF "frame" (.ref pm) [])))) dt (.dT [])) p (.ins C_Dig dx (putF "ties" (.ref dt) (putF "units" (.ref du) (putF "frame" (.ref pm) []))))) (a := du) (b := df) (o := .dK []) (by rw [upd_ne n1.symm, upd_ne nut, e1]) hdf
    have f3 : G df = none := by
      have := a0 hdf n3.symm
      rw [upd_ne e2.symm] at this
      have := a0 this n3.symm
      rw [upd_ne e3.symm] at this
      exact a0 this n3.symm
    have fin : ∀ b o, G b = some o → b ≠ p → upd (upd (upd (upd (upd (upd (upd G p (.ins C_Dig dx (putF "frame" (.ref pm) []))) du (.dK [])) p (.ins C_Dig dx (putF "units" (.ref du) (putF "frame" (.ref pm) [])))) dt (.dT [])) p (.ins C_Dig dx (putF "ties" (.ref dt) (putF "units" (.ref du) (putF "frame" (.ref pm) []))))) df (.dK [])) p (.ins C_Dig dx (putF "finds" (.ref df) (putF "ties" (.ref dt) (putF "units" (.ref du) (putF "frame" (.ref pm) []))))) b = some o := fun b o e hb => by
      rw [upd_ne hb, upd_ne (ne_of_none e f3), upd_ne hb, upd_ne (ne_of_none e f2), upd_ne hb, upd_ne (ne_of_none e f1), upd_ne hb]
      exact e
    refine k pm du dt df _ (tm.free f1) (tm.free f2) (tm.free f3) ⟨⟨dx, ?_⟩, ?_, ?_, ?_, ?_, .nil, e3⟩ fun b o e hb => fin b o (tm _ _ e) hb
    · rw [upd_same, rfl4_make]
    · exact fin pm _ em n0.symm
    · rw [upd_ne n1.symm, upd_ne e3, upd_ne n1.symm, upd_ne nut, e1]; rfl
    · rw [upd_ne n2.symm, upd_ne e2, upd_ne n2.symm, upd_same]; rfl
    · rw [upd_ne n3.symm, upd_same]; rfl
def sp_addu : Sp := fun vs H Q _ => ∃ (p pm du dt df : Addr) (lo hi : Int) (us : List Str) (ts : List Tie) (fs : List Fnd) (af : List Addr) (x : Str), vs = [.ref p, .str x] ∧ DigAt C_Dig H p pm du dt df lo hi us ts fs af ∧ x ∉ us ∧ us.length ≤ 900 ∧ Q .non (upd H du (.dK (dU (us ++ [x]))))
theorem ml_Dig_add_unit (T : Tx K mg w C_Dig) : HasML P w K mg base CX0 C_Dig "add_unit" ["self", "name"] 1 (sp_addu (C_Dig := C_Dig)) := by
  refine T.d_Dig_add_unit.hasL0 sc_Dig_add_unit (fun vs H Q E h => ?_) (fun f cdv A outer s H vs Q E hr h => ?_)
  · obtain ⟨p, pm, du, dt, df, lo, hi, us, ts, fs, af, x, rfl, _⟩ := h; rfl
  · obtain ⟨p, pm, du, dt, df, lo, hi, us, ts, fs, af, x, rfl, R, hn, hl, k⟩ := h
    have hu := hu_of hr
    refine ⟨_, (pss_cons (ps_if (pt_cmp (pc_din hu (pv 1) (pe_fld (pv 0) rfl))) (pss_one ps_never) pss_nil)
      (pss_one (ps_dput hu (pe_fld (pv 0) rfl) (pv 1) pe_bl rfl))), ?_⟩
    obtain ⟨dx, h1⟩ := R.ob
    refine ⟨_, rfl, _, rfl, p, C_Dig, dx, _, _, rfl, h1, T.cl_Dig, T.na_Dig_units, rfl4_u _ _ _ _, du, _, rfl, DGet.k (k := Sum.inr x) R.u, _, rfl, ?_⟩
    rw [valV_none' (fun z => hn (dU_mem.mp z))]
    refine iteF ⟨_, rfl, p, C_Dig, dx, _, _, rfl, h1, T.cl_Dig, T.na_Dig_units, rfl4_u _ _ _ _, _, rfl, du, _, rfl, DPut.k (k := Sum.inr x) R.u ?_, ?_⟩
    · unfold dU
      rw [List.length_map]
      exact small1000 (by omega)
    · rw [dU_snoc hn]
      exact k
theorem m_Dig_add_unit (T : Tx K mg w C_Dig) : HasM P w K mg base C_Dig "add_unit" ["self", "name"] 1 (sp_addu (C_Dig := C_Dig)) := (ml_Dig_add_unit T).m
def sp_dropu : Sp := fun vs H Q _ => ∃ (p pm du dt df : Addr) (lo hi : Int) (us : List Str) (ts : List Tie) (fs : List Fnd) (af : List Addr) (x : Str) (j : Nat), vs = [.ref p, .str x] ∧ DigAt C_Dig H p pm du dt df lo hi us ts fs af ∧ DigOk us ts fs ∧ ts.length ≤ 900 ∧ fs.length ≤ 900 ∧ us[j]? = some x ∧ usedB ts fs x = false ∧ ∀ H', Same H H' → Q .non (upd H' du (.dK (dU (us.eraseIdx j))))
theorem ml_Dig_drop_unit (T : Tx K mg w C_Dig) : HasML P w K mg base CX0 C_Dig "drop_unit" ["self", "name"] 2 (sp_dropu (C_Dig := C_Dig)) := by
  refine T.d_Dig_drop_unit.hasL0 sc_Dig_drop_unit (fun vs H Q E h => ?_) (fun f cdv A outer s H vs Q E hr h => ?_)
  · obtain ⟨p, pm, du, dt, df, lo, hi, us, ts, fs, af, x, j, rfl, _⟩ := h; rfl
  · obtain ⟨p, pm, du, dt, df, lo, hi, us, ts, fs, af, x, j, rfl, R, ok, tl, fl, hj, nu, k⟩ := h
    refine ⟨_, (pss_cons (ps_expr (pe_mth (m_Dig_seek_unit T) T.cl_Dig (hr.mono (by decide)) (pv 0) (pa_cons (pv 1) pa_nil)))
      (pss_cons (ps_if (pt_val (pe_mth (m_Dig_is_used T) T.cl_Dig (hr.mono (by decide)) (pv 0) (pa_cons (pv 1) pa_nil))) (pss_one ps_never) pss_nil)
      (pss_one (ps_expr (pe_dpop1 (pe_fld (pv 0) rfl) (pv 1) ⟨rfl, rfl, rfl, rfl⟩))))), ?_⟩
    obtain ⟨dx, h1⟩ := R.ob
    have hx := List.mem_of_getElem? hj
    refine ⟨_, rfl, p, dx, _, rfl, h1, rfl4_no _ _ _ _ (by decide +kernel), _, rfl, p, pm, du, dt, df, lo, hi, us, ts, fs, af, x, rfl, R, hx, ?_⟩
    try dsimp only
    refine ⟨_, rfl, p, dx, _, rfl, h1, rfl4_no _ _ _ _ (by decide +kernel), _, rfl, p, pm, du, dt, df, lo, hi, us, ts, fs, af, x, rfl, R, ok, tl, fl, fun H1 s1 => ⟨_, rfl, ?_⟩⟩
    rw [nu]
    refine iteF ?_
    have R1 := R.same s1
    refine ⟨_, rfl, p, C_Dig, dx, _, _, rfl, s1 _ _ h1, T.cl_Dig, T.na_Dig_units, rfl4_u _ _ _ _, du, rfl, .inl ⟨_, .inl R1.u⟩, _, rfl, _, Sum.inr x, .bl true, R1.u, rfl, ?_, ?_⟩
    · exact valV_at (j := j) (by rw [dU_keys]; exact nodup_map' (fun a b e => Sum.inr.inj e) ok.nd) (by unfold dU; rw [List.getElem?_map, hj]; rfl)
    · rw [dU_drop ok.nd hj]
      exact k _ s1
theorem m_Dig_drop_unit (T : Tx K mg w C_Dig) : HasM P w K mg base C_Dig "drop_unit" ["self", "name"] 2 (sp_dropu (C_Dig := C_Dig)) := (ml_Dig_drop_unit T).m
/-! ### ties and finds of the dig -/
def sp_addt : Sp := fun vs H Q _ => ∃ (p pm du dt df a : Addr) (lo hi : Int) (us : List Str) (ts : List Tie) (fs : List Fnd) (af : List Addr) (t : Tie), vs = [.ref p, .ref a] ∧ DigAt C_Dig H p pm du dt df lo hi us ts fs af ∧ DigOk us ts fs ∧ H a = some (.tup (tieV t)) ∧ TOk us t ∧ t ∉ ts ∧ ts.length ≤ 900 ∧ Q .non (upd H dt (.dT (dTi ((ts ++ [t]).map tieV))))
set_option maxHeartbeats 4000000 in
theorem ml_Dig_add_tie (T : Tx K mg w C_Dig) : HasML P w K mg base CX0 C_Dig "add_tie" ["self", "tie"] 2 (sp_addt (C_Dig := C_Dig)) := by
  refine T.d_Dig_add_tie.hasL0 sc_Dig_add_tie (fun vs H Q E h => ?_) (fun f cdv A outer s H vs Q E hr h => ?_)
  · obtain ⟨p, pm, du, dt, df, a, lo, hi, us, ts, fs, af, t, rfl, _⟩ := h; rfl
  · obtain ⟨p, pm, du, dt, df, a, lo, hi, us, ts, fs, af, t, rfl, R, ok, ha, tok, hn, hl, k⟩ := h
    have hu := hu_of hr
    refine ⟨_, (pss_cons (ps_expr (pe_mth (m_Dig_seek_unit T) T.cl_Dig (hr.mono (by decide)) (pv 0) (pa_cons (pe_ix (ix_tupK K rfl) (pv 1) pe_int (fun _ _ => rfl)) pa_nil)))
      (pss_cons (ps_expr (pe_mth (m_Dig_seek_unit T) T.cl_Dig (hr.mono (by decide)) (pv 0) (pa_cons (pe_ix (ix_tupK K rfl) (pv 1) pe_int (fun _ _ => rfl)) pa_nil)))
      (pss_cons (ps_if (pt_cmp (pc_din hu (pv 1) (pe_fld (pv 0) rfl))) (pss_one ps_never) pss_nil)
      (pss_one (ps_dput hu (pe_fld (pv 0) rfl) (pv 1) pe_bl rfl))))), ?_⟩
    obtain ⟨dx, h1⟩ := R.ob
    have hw := (tok.ok.words ok.nm).1
    have ha' : H a = some (.tup (((tieV t).map kW).map kV)) := by rw [kV_map hw]; exact ha
    refine ⟨_, rfl, p, dx, _, rfl, h1, rfl4_no _ _ _ _ (by decide +kernel), _, rfl, a, _, _, _, rfl, rfl, SqT.of ha, tieV_1 t, p, pm, du, dt, df, lo, hi, us, ts, fs, af, t.a, rfl, R, tok.a, ?_⟩
    try dsimp only
    refine ⟨_, rfl, p, dx, _, rfl, h1, rfl4_no _ _ _ _ (by decide +kernel), _, rfl, a, _, _, _, rfl, rfl, SqT.of ha, tieV_2 t, p, pm, du, dt, df, lo, hi, us, ts, fs, af, t.b, rfl, R, tok.b, ?_⟩
    try dsimp only
    have nt : tieV t ∉ ts.map tieV := fun z => by
      obtain ⟨u, hu, e⟩ := List.mem_map.mp z
      exact hn (tieV_inj e ▸ hu)
    refine ⟨_, rfl, _, rfl, p, C_Dig, dx, _, _, rfl, h1, T.cl_Dig, T.na_Dig_ties, rfl4_t _ _ _ _, dt, _, rfl, DGet.t R.t ha', _, rfl, ?_⟩
    rw [valV_none' (fun z => nt ((dTi_mem ok.tw hw).mp z))]
    refine iteF ⟨_, rfl, p, C_Dig, dx, _, _, rfl, h1, T.cl_Dig, T.na_Dig_ties, rfl4_t _ _ _ _, _, rfl, dt, _, rfl, DPut.t R.t ha' ?_, ?_⟩
    · unfold dTi
      rw [List.length_map, List.length_map]
      exact small1000 (by omega)
    · rw [dTi_snoc ok.tw hw nt, show ts.map tieV ++ [tieV t] = (ts ++ [t]).map tieV by rw [List.map_append]; rfl]
      exact k
theorem m_Dig_add_tie (T : Tx K mg w C_Dig) : HasM P w K mg base C_Dig "add_tie" ["self", "tie"] 2 (sp_addt (C_Dig := C_Dig)) := (ml_Dig_add_tie T).m
def sp_dropt : Sp := fun vs H Q _ => ∃ (p pm du dt df a : Addr) (lo hi : Int) (us : List Str) (ts : List Tie) (fs : List Fnd) (af : List Addr) (t : Tie) (j : Nat), vs = [.ref p, .ref a] ∧ DigAt C_Dig H p pm du dt df lo hi us ts fs af ∧ DigOk us ts fs ∧ H a = some (.tup (tieV t)) ∧ ts[j]? = some t ∧ Q .non (upd H dt (.dT (dTi ((ts.eraseIdx j).map tieV))))
set_option maxHeartbeats 4000000 in
theorem ml_Dig_drop_tie (T : Tx K mg w C_Dig) : HasML P w K mg base CX0 C_Dig "drop_tie" ["self", "tie"] 1 (sp_dropt (C_Dig := C_Dig)) := by
  refine T.d_Dig_drop_tie.hasL0 sc_Dig_drop_tie (fun vs H Q E h => ?_) (fun f cdv A outer s H vs Q E hr h => ?_)
  · obtain ⟨p, pm, du, dt, df, a, lo, hi, us, ts, fs, af, t, j, rfl, _⟩ := h; rfl
  · obtain ⟨p, pm, du, dt, df, a, lo, hi, us, ts, fs, af, t, j, rfl, R, ok, ha, hj, k⟩ := h
    have hu := hu_of hr
    refine ⟨_, (pss_cons (ps_if (pt_cmp (pc_dnotin hu (pv 1) (pe_fld (pv 0) rfl))) (pss_one ps_never) pss_nil)
      (pss_one (ps_expr (pe_dpopT hu (pe_fld (pv 0) rfl) (pv 1) ⟨rfl, rfl, rfl, rfl⟩)))), ?_⟩
    obtain ⟨dx, h1⟩ := R.ob
    have ht := List.mem_of_getElem? hj
    have hw := ok.tw _ (List.mem_map.mpr ⟨t, ht, rfl⟩)
    have ha' : H a = some (.tup (((tieV t).map kW).map kV)) := by rw [kV_map hw]; exact ha
    refine ⟨_, rfl, _, rfl, p, C_Dig, dx, _, _, rfl, h1, T.cl_Dig, T.na_Dig_ties, rfl4_t _ _ _ _, dt, _, rfl, DGet.t R.t ha', _, rfl, ?_⟩
    have ek : (dTi (ts.map tieV)).map (·.1) = ts.map fun t => (tieV t).map kW := by unfold dTi; rw [List.map_map, List.map_map]; rfl
    have nd : ((dTi (ts.map tieV)).map (·.1)).Nodup := by
      rw [ek]
      have := ok.tnd
      unfold List.Nodup at *
      rw [List.pairwise_map]
      refine this.imp_of_mem fun {x y} hx hy hxy e => hxy (tieV_inj ?_)
      exact kW_inj (ok.tw _ (List.mem_map.mpr ⟨x, hx, rfl⟩)) (ok.tw _ (List.mem_map.mpr ⟨y, hy, rfl⟩)) e
    rw [valV_some' ((dTi_mem ok.tw hw).mpr (List.mem_map.mpr ⟨t, ht, rfl⟩))]
    refine iteF ⟨_, rfl, p, C_Dig, dx, _, _, rfl, h1, T.cl_Dig, T.na_Dig_ties, rfl4_t _ _ _ _, dt, rfl, .inr ⟨_, .inl R.t⟩, _, rfl, _, (tieV t).map kW, a, .bl true, R.t, rfl, ha', ?_, ?_⟩
    · exact valV_at (j := j) nd (by unfold dTi; rw [List.getElem?_map, List.getElem?_map, hj]; rfl)
    · rw [dTi_drop ok.tw ok.tnd (fun x y e => tieV_inj e) hj]
      exact k
theorem m_Dig_drop_tie (T : Tx K mg w C_Dig) : HasM P w K mg base C_Dig "drop_tie" ["self", "tie"] 1 (sp_dropt (C_Dig := C_Dig)) := (ml_Dig_drop_tie T).m
def sp_addf : Sp := fun vs H Q _ => ∃ (p pm du dt df : Addr) (lo hi : Int) (us : List Str) (ts : List Tie) (fs : List Fnd) (af : List Addr) (f : Fnd), vs = [.ref p, .str f.n, .str f.u, .int f.lo, .int f.hi] ∧ DigAt C_Dig H p pm du dt df lo hi us ts fs af ∧ f.n ∉ fs.map Fnd.n ∧ f.u ∈ us ∧ fs.length ≤ 900 ∧ ∀ a, H a = none → Q .non (upd (upd H a (.tup (fndV f))) df (.dK (dFn (fs ++ [f]) (af ++ [a]))))
set_option maxHeartbeats 4000000 in
theorem ml_Dig_add_find (T : Tx K mg w C_Dig) : HasML P w K mg base CX0 C_Dig "add_find" ["self", "name", "unit", "low", "high"] 2 (sp_addf (C_Dig := C_Dig)) := by
  refine T.d_Dig_add_find.hasL0 sc_Dig_add_find (fun vs H Q E h => ?_) (fun f cdv A outer s H vs Q E hr h => ?_)
  · obtain ⟨p, pm, du, dt, df, lo, hi, us, ts, fs, af, f, rfl, _⟩ := h; rfl
  · obtain ⟨p, pm, du, dt, df, lo, hi, us, ts, fs, af, f, rfl, R, hn, hu', hl, k⟩ := h
    have hu := hu_of hr
    refine ⟨_, (pss_cons (ps_if (pt_cmp (pc_din hu (pv 1) (pe_fld (pv 0) rfl))) (pss_one ps_never) pss_nil)
      (pss_cons (ps_expr (pe_mth (m_Dig_seek_unit T) T.cl_Dig (hr.mono (by decide)) (pv 0) (pa_cons (pv 2) pa_nil)))
      (pss_one (ps_dput hu (pe_fld (pv 0) rfl) (pv 1) (pe_tup (pa_cons (pv 1) (pa_cons (pv 2) (pa_cons (pv 3) (pa_cons (pv 4) pa_nil))))) rfl)))), ?_⟩
    obtain ⟨dx, h1⟩ := R.ob
    refine ⟨_, rfl, _, rfl, p, C_Dig, dx, _, _, rfl, h1, T.cl_Dig, T.na_Dig_finds, rfl4_i _ _ _ _, df, _, rfl, DGet.k (k := Sum.inr f.n) R.f, _, rfl, ?_⟩
    rw [valV_none' (fun z => hn ((dFn_mem R.flen).mp z))]
    refine iteF ⟨_, rfl, p, dx, _, rfl, h1, rfl4_no _ _ _ _ (by decide +kernel), _, rfl, p, pm, du, dt, df, lo, hi, us, ts, fs, af, f.u, rfl, R, hu', ?_⟩
    try dsimp only
    refine ⟨_, rfl, _, rfl, _, rfl, _, rfl, (by show 4 ≤ sizeLine; decide), fun a ha => ?_⟩
    have t1 := Same.new (o := .tup (fndV f)) ha
    have R1 := R.same t1
    refine ⟨_, rfl, p, C_Dig, dx, _, _, rfl, t1 _ _ h1, T.cl_Dig, T.na_Dig_finds, rfl4_i _ _ _ _, _, rfl, df, _, rfl, DPut.k (k := Sum.inr f.n) R1.f ?_, ?_⟩
    · have := congrArg List.length (dFn_vals R.flen)
      rw [List.length_map, List.length_map] at this
      rw [this, R.flen]
      exact small1000 (by omega)
    · rw [dFn_new R.flen hn]
      exact k a ha
theorem m_Dig_add_find (T : Tx K mg w C_Dig) : HasM P w K mg base C_Dig "add_find" ["self", "name", "unit", "low", "high"] 2 (sp_addf (C_Dig := C_Dig)) := (ml_Dig_add_find T).m
def sp_movef : Sp := fun vs H Q _ => ∃ (p pm du dt df : Addr) (lo hi : Int) (us : List Str) (ts : List Tie) (fs : List Fnd) (af : List Addr) (f : Fnd) (j : Nat) (x : Str), vs = [.ref p, .str f.n, .str x] ∧ DigAt C_Dig H p pm du dt df lo hi us ts fs af ∧ DigOk us ts fs ∧ fs[j]? = some f ∧ x ∈ us ∧ fs.length ≤ 900 ∧ ∀ a H', Same H H' → H a = none → H' a = some (.tup (fndV ⟨f.n, x, f.lo, f.hi⟩)) → Q .non (upd H' df (.dK (dFn (fs.set j ⟨f.n, x, f.lo, f.hi⟩) (af.set j a))))
set_option maxHeartbeats 4000000 in
theorem ml_Dig_move_find (T : Tx K mg w C_Dig) : HasML P w K mg base CX0 C_Dig "move_find" ["self", "name", "unit"] 2 (sp_movef (C_Dig := C_Dig)) := by
  refine T.d_Dig_move_find.hasL0 sc_Dig_move_find (fun vs H Q E h => ?_) (fun f cdv A outer s H vs Q E hr h => ?_)
  · obtain ⟨p, pm, du, dt, df, lo, hi, us, ts, fs, af, f, j, x, rfl, _⟩ := h; rfl
  · obtain ⟨p, pm, du, dt, df, lo, hi, us, ts, fs, af, f, j, x, rfl, R, ok, hj, hx, hl, k⟩ := h
    have hu := hu_of hr
    refine ⟨_, (pss_cons (ps_expr (pe_mth (m_Dig_seek_find T) T.cl_Dig (hr.mono (by decide)) (pv 0) (pa_cons (pv 1) pa_nil)))
      (pss_cons (ps_expr (pe_mth (m_Dig_seek_unit T) T.cl_Dig (hr.mono (by decide)) (pv 0) (pa_cons (pv 2) pa_nil)))
      (pss_one (ps_dput hu (pe_fld (pv 0) rfl) (pv 1) (pe_op (op_catTK K rfl) (pe_tup (pa_cons (pv 1) (pa_cons (pv 2) pa_nil))) (pe_slice (sl_tupK K rfl) (pe_dget hu (pe_fld (pv 0) rfl) (pv 1) (fun _ _ => rfl)) (po_some pe_int) po_none)) rfl)))), ?_⟩
    obtain ⟨dx, h1⟩ := R.ob
    have hjl := (List.getElem?_eq_some_iff.mp hj).1
    have lf := R.flen
    have hm : f.n ∈ fs.map Fnd.n := List.mem_map.mpr ⟨f, List.mem_of_getElem? hj, rfl⟩
    refine ⟨_, rfl, p, dx, _, rfl, h1, rfl4_no _ _ _ _ (by decide +kernel), _, rfl, p, pm, du, dt, df, lo, hi, us, ts, fs, af, f.n, rfl, R, hm, ?_⟩
    try dsimp only
    refine ⟨_, rfl, p, dx, _, rfl, h1, rfl4_no _ _ _ _ (by decide +kernel), _, rfl, p, pm, du, dt, df, lo, hi, us, ts, fs, af, x, rfl, R, hx, ?_⟩
    try dsimp only
    have haj : af[j]? = some (af[j]'(by omega)) := List.getElem?_eq_getElem (by omega)
    have hr' : H (af[j]'(by omega)) = some (.tup (fndV f)) := by
      obtain ⟨ws, h2, h3⟩ := Paired.get' R.ft haj
      rw [List.getElem?_map, hj] at h2
      cases h2
      exact h3
    generalize af[j]'(by omega) = r at haj hr'
    refine ⟨_, rfl, _, rfl, (by show 2 ≤ sizeLine; decide), fun a1 ha1 => ?_⟩
    have t1 := Same.new (o := .tup [.str f.n, .str x]) ha1
    have R1 := R.same t1
    have g := DGet.k (k := Sum.inr f.n) R1.f
    rw [valV_at (j := j) (dFn_nd lf ok.fnd) (dFn_at hj haj)] at g
    refine ⟨_, rfl, p, C_Dig, dx, _, _, rfl, t1 _ _ h1, T.cl_Dig, T.na_Dig_finds, rfl4_i _ _ _ _, _, rfl, df, .ref r, rfl, g, _, rfl, r, _, rfl, SqT.of (t1 _ _ hr'), (fun z => absurd z.1 (show ¬ HT.sIx 4 0 (some 2) = 0 by decide)), fun a2 ha2 => ?_⟩
    rw [show cutV (fndV f) (some 2) none = [.int f.lo, .int f.hi] from rfl]
    have t2 := Same.new (o := .tup [.int f.lo, .int f.hi]) ha2
    refine ⟨a1, a2, _, _, rfl, rfl, SqT.of (t2 _ _ upd_same), SqT.of upd_same, (fun z => nomatch z), (by show 4 ≤ sizeLine; decide), (fun z => nomatch z), fun _ a3 ha3 => ?_⟩
    have t3 := Same.new (o := .tup (fndV ⟨f.n, x, f.lo, f.hi⟩)) ha3
    have q3 := t1.trans (t2.trans t3)
    have R3 := R.same q3
    refine ⟨_, rfl, p, C_Dig, dx, _, _, rfl, q3 _ _ h1, T.cl_Dig, T.na_Dig_finds, rfl4_i _ _ _ _, _, rfl, df, _, rfl, DPut.k (k := Sum.inr f.n) R3.f ?_, ?_⟩
    · have := congrArg List.length (dFn_vals R.flen)
      rw [List.length_map, List.length_map] at this
      rw [this, R.flen]
      exact small1000 (by omega)
    · rw [dFn_put (f' := ⟨f.n, x, f.lo, f.hi⟩) lf ok.fnd hj rfl]
      exact k a3 _ q3 (t1.free (t2.free ha3)) upd_same
theorem m_Dig_move_find (T : Tx K mg w C_Dig) : HasM P w K mg base C_Dig "move_find" ["self", "name", "unit"] 2 (sp_movef (C_Dig := C_Dig)) := (ml_Dig_move_find T).m
def sp_dropf : Sp := fun vs H Q _ => ∃ (p pm du dt df : Addr) (lo hi : Int) (us : List Str) (ts : List Tie) (fs : List Fnd) (af : List Addr) (f : Fnd) (j : Nat), vs = [.ref p, .str f.n] ∧ DigAt C_Dig H p pm du dt df lo hi us ts fs af ∧ DigOk us ts fs ∧ fs[j]? = some f ∧ Q .non (upd H df (.dK (dFn (fs.eraseIdx j) (af.eraseIdx j))))
set_option maxHeartbeats 4000000 in
theorem ml_Dig_drop_find (T : Tx K mg w C_Dig) : HasML P w K mg base CX0 C_Dig "drop_find" ["self", "name"] 2 (sp_dropf (C_Dig := C_Dig)) := by
  refine T.d_Dig_drop_find.hasL0 sc_Dig_drop_find (fun vs H Q E h => ?_) (fun f cdv A outer s H vs Q E hr h => ?_)
  · obtain ⟨p, pm, du, dt, df, lo, hi, us, ts, fs, af, f, j, rfl, _⟩ := h; rfl
  · obtain ⟨p, pm, du, dt, df, lo, hi, us, ts, fs, af, f, j, rfl, R, ok, hj, k⟩ := h
    refine ⟨_, (pss_cons (ps_expr (pe_mth (m_Dig_seek_find T) T.cl_Dig (hr.mono (by decide)) (pv 0) (pa_cons (pv 1) pa_nil)))
      (pss_one (ps_expr (pe_dpop1 (pe_fld (pv 0) rfl) (pv 1) ⟨rfl, rfl, rfl, rfl⟩)))), ?_⟩
    obtain ⟨dx, h1⟩ := R.ob
    have hjl := (List.getElem?_eq_some_iff.mp hj).1
    have lf := R.flen
    have hm : f.n ∈ fs.map Fnd.n := List.mem_map.mpr ⟨f, List.mem_of_getElem? hj, rfl⟩
    refine ⟨_, rfl, p, dx, _, rfl, h1, rfl4_no _ _ _ _ (by decide +kernel), _, rfl, p, pm, du, dt, df, lo, hi, us, ts, fs, af, f.n, rfl, R, hm, ?_⟩
    try dsimp only
    refine ⟨_, rfl, p, C_Dig, dx, _, _, rfl, h1, T.cl_Dig, T.na_Dig_finds, rfl4_i _ _ _ _, df, rfl, .inl ⟨_, .inl R.f⟩, _, rfl, _, Sum.inr f.n, .ref (af[j]'(by omega)), R.f, rfl, ?_, ?_⟩
    · exact valV_at (j := j) (dFn_nd lf ok.fnd) (dFn_at hj (List.getElem?_eq_getElem (by omega)))
    · rw [dFn_drop lf ok.fnd hj]
      exact k
theorem m_Dig_drop_find (T : Tx K mg w C_Dig) : HasM P w K mg base C_Dig "drop_find" ["self", "name"] 2 (sp_dropf (C_Dig := C_Dig)) := (ml_Dig_drop_find T).m
def sp_dtell : Sp := fun vs H Q _ => ∃ (p pm du dt df : Addr) (lo hi : Int) (us : List Str) (ts : List Tie) (fs : List Fnd) (af : List Addr), vs = [.ref p] ∧ DigAt C_Dig H p pm du dt df lo hi us ts fs af ∧ DigOk us ts fs ∧
  ∀ (tl pu pt pf : Addr) (at' : List Addr) (H' : Hp), H tl = none → H pu = none → H pt = none → H pf = none → H' tl = some (.tup [.ref pm, .ref pu, .ref pt, .ref pf]) →
    H' pu = some (.lst (us.map V.str)) → H' pt = some (.lst (at'.map V.ref)) → Tups H' at' (ts.map tieV) → H' pf = some (.lst (af.map V.ref)) → pu ≠ pt → pu ≠ pf → pt ≠ pf → Same H H' → Q (.ref tl) H'
set_option maxHeartbeats 4000000 in
theorem m_Dig_telling (T : Tx K mg w C_Dig) : HasM P w K mg base C_Dig "telling" ["self"] 1 (sp_dtell (C_Dig := C_Dig)) := by
  refine T.d_Dig_telling.has sc_Dig_telling (fun vs H Q E h => ?_) (fun f cdv A outer s H vs Q E hr h => ?_)
  · obtain ⟨p, pm, du, dt, df, lo, hi, us, ts, fs, af, rfl, _⟩ := h; rfl
  · obtain ⟨p, pm, du, dt, df, lo, hi, us, ts, fs, af, rfl, R, ok, k⟩ := h
    refine ⟨_, (pss_one (ps_ret (pe_tup (pa_cons (pe_fld (pv 0) rfl) (pa_cons (pe_callTy (call_list_dK rfl) (by rfl) T.list PyProof.Rows.boot_list (pa_cons (pe_fld (pv 0) rfl) pa_nil)) (pa_cons (pe_callTy (call_list_dT rfl) (by rfl) T.list PyProof.Rows.boot_list (pa_cons (pe_fld (pv 0) rfl) pa_nil)) (pa_cons (pe_callTy (call_list_vw rfl) (by rfl) T.list PyProof.Rows.boot_list (pa_cons (pe_bm0K K rfl PySem.F.plainAttrs_dict PySem.F.slot_dict_values PySem.F.type_dict_values mt_values (pe_fld (pv 0) rfl)) pa_nil)) pa_nil))))))), ?_⟩
    obtain ⟨dx, h1⟩ := R.ob
    refine ⟨_, rfl, p, C_Dig, dx, _, _, rfl, h1, T.cl_Dig, T.na_Dig_frame, rfl4_f _ _ _ _, ?_⟩
    refine ⟨_, rfl, p, C_Dig, dx, _, _, rfl, h1, T.cl_Dig, T.na_Dig_units, rfl4_u _ _ _ _, du, _, rfl, R.u, fun pu hpu => ?_⟩
    have s1 := Same.new (o := .lst ((dU us).map fun kv => kV kv.1)) hpu
    have e1 : upd H pu (.lst ((dU us).map fun kv => kV kv.1)) pu = some (.lst (us.map V.str)) := by
      rw [upd_same]
      unfold dU
      rw [List.map_map]; rfl
    generalize upd H pu (.lst ((dU us).map fun kv => kV kv.1)) = H1 at s1 e1
    refine ⟨_, rfl, p, C_Dig, dx, _, _, rfl, s1 _ _ h1, T.cl_Dig, T.na_Dig_ties, rfl4_t _ _ _ _, dt, _, rfl, s1 _ _ R.t, fun pt' as kt hpt => ?_⟩
    have tt := keyTups_tups ok.tw kt
    have s2 := Same.new (o := .lst (as.map V.ref)) hpt
    have q2 := s1.trans s2
    have hf := R.f
    refine ⟨_, rfl, p, C_Dig, dx, _, _, rfl, q2 _ _ h1, T.cl_Dig, T.na_Dig_finds, rfl4_i _ _ _ _, .inr (.inr (.inl ⟨rfl, .inl ⟨_, q2 _ _ hf⟩⟩)), df, _, rfl, rfl, q2 _ _ hf, fun pv hpv => ?_⟩
    have s3 := Same.new (o := vwO pv df) hpv
    refine ⟨pv, df, _, rfl, upd_same, s3 _ _ (q2 _ _ hf), fun pf hpf => ?_⟩
    rw [dFn_vals R.flen]
    have s4 := Same.new (o := .lst (af.map V.ref)) hpf
    have q4 := q2.trans (s3.trans s4)
    refine ⟨(by show 4 ≤ sizeLine; decide), fun tl htl => ?_⟩
    have s5 := Same.new (o := .tup [.ref pm, .ref pu, .ref pt', .ref pf]) htl
    have g1 := s2 _ _ e1
    have g2 : upd H1 pt' (.lst (as.map V.ref)) pt' = _ := upd_same
    have n1 : pu ≠ pt' := ne_of_none e1 hpt
    have n2 : pu ≠ pf := ne_of_none (s3 _ _ g1) hpf
    have n3 : pt' ≠ pf := ne_of_none (s3 _ _ g2) hpf
    exact k tl pu pt' pf as _ (q4.free htl) hpu (s1.free hpt) ((q2.trans s3).free hpf) upd_same (s5 _ _ (s4 _ _ (s3 _ _ g1))) (s5 _ _ (s4 _ _ (s3 _ _ g2))) (tt.same (s2.trans (s3.trans (s4.trans s5)))) (s5 _ _ upd_same) n1 n2 n3 (q4.trans s5)
/-! ### units that are free -/
def sp_free61 : Sp := fun vs H Q _ => ∃ (pu pt pf : Addr) (s : SD) (at' ag : List Addr), vs = [.ref pu, .ref pt, .ref pf] ∧ LsAt K H pu pt pf s at' ag ∧ s.us.length ≤ 400 ∧ s.ts.length ≤ 400 ∧ s.fs.length ≤ 400 ∧ ∀ (p : Addr) (H' : Hp), H p = none → H' p = some (.lst ((s.us.filter fun x => !usedB s.ts s.fs x).map V.str)) → Same H H' → Q (.ref p) H'
set_option maxHeartbeats 8000000 in
theorem h__law_free_units (T : Tx K mg w C_Dig) : Has P w K mg base "_law_free_units" ["_law_units", "_law_ties", "_law_finds"] 1 (sp_free61 (K := K)) := by
  refine T.d__law_free_units.has sc__law_free_units (fun vs H Q E h => ?_) (fun f cdv A outer s H vs Q E hr h => ?_)
  · obtain ⟨pu, pt, pf, s, at', ag, rfl, _⟩ := h; rfl
  · obtain ⟨pu, pt, pf, st, at', ag, rfl, L, lu, lt, lf, k⟩ := h
    refine ⟨_, (pss_one (ps_ret (pe_compK (own := ["_law_name"]) (cap := ["_law_ties", "_law_finds"]) (ix := [1, 2]) (osc := defScope (top 16)) rfl ⟨rfl, by decide +kernel, by decide +kernel, by decide +kernel, by decide +kernel⟩ rfl (pi_listK K rfl (pv 0)) (fun _ _ _ _ => pg_name (i := 0) (show List.Nodup (["_law_name", "_law_ties", "_law_finds"] : List Str) by decide +kernel) rfl (Or.inr rfl)) (fun _ _ _ _ => pif_one (pt_not (pt_val (pe_callB (call_anyB K rfl rfl) (by rfl) T.any PyProof.Rows.boot_any (pa_cons (pe_op op_cat (pe_compN (own := ["_law_tie_here"]) (cap := ["_law_name"]) (ix := [0]) (osc := compSc (top 16) 0) rfl ⟨rfl, by decide +kernel, by decide +kernel, by decide +kernel, by decide +kernel⟩ rfl (pi_listK K rfl (pv 1)) (fun _ _ _ _ => pg_name (i := 0) (show List.Nodup (["_law_tie_here", "_law_name"] : List Str) by decide +kernel) rfl (Or.inl rfl)) (fun _ _ _ _ => pif_nil) (fun _ _ _ _ => (pe_cmpR (op_in_seqK K rfl) (pv 1) (pe_slice (sl_tupK K rfl) (pv 0) (po_some pe_int) (po_some pe_int)) (by with_unfolding_all rfl)))) (pe_compN (own := ["_law_find"]) (cap := ["_law_name"]) (ix := [0]) (osc := compSc (top 16) 0) rfl ⟨rfl, by decide +kernel, by decide +kernel, by decide +kernel, by decide +kernel⟩ rfl (pi_listK K rfl (pv 2)) (fun _ _ _ _ => pg_name (i := 0) (show List.Nodup (["_law_find", "_law_name"] : List Str) by decide +kernel) rfl (Or.inl rfl)) (fun _ _ _ _ => pif_nil) (fun _ _ _ _ => (pe_cmpR op_eq (pv 1) (pe_ix (ix_tupK K rfl) (pv 0) pe_int (fun _ _ => rfl)) (nomark _))))) pa_nil))))) (fun _ _ _ _ => (pv 0))))), ?_⟩
    have lt' := L.tlen
    have lf' := L.flen
    refine ⟨_, rfl, pu, rfl, ⟨_, SqL.of L.u⟩, fun D hD => ?_⟩
    refine comp_gen (fix_list (K := K) (a := pu) (xs := st.us.map V.str)) (fun i σ' ys H' => ∃ w0, σ' = [w0, some (.ref pt), some (.ref pf)] ∧ ys = ((st.us.take i).filter fun x => !usedB st.ts st.fs x).map V.str ∧ Same H H' ∧ H' D = some (.lst ys))
      ⟨none, rfl, by simp, Same.new hD, upd_same⟩ (fun i σ' ys H' h => ?_) (by rw [List.length_map]; exact le_line (by omega)) ?_ ?_
    · obtain ⟨_, _, rfl, q, hd⟩ := h
      refine ⟨SqL.of (q _ _ L.u), hd, ?_⟩
      rw [List.length_map]
      exact Nat.le_trans (List.length_filter_le _ _) (by rw [List.length_take]; omega)
    · rintro i v σ' ys H1 hx ⟨w0, rfl, rfl, q1, hd⟩
      have hix := get_lt hx
      rw [List.length_map] at hix
      have ex : st.us[i]? = some st.us[i] := List.getElem?_eq_getElem hix
      rw [List.getElem?_map, ex] at hx
      cases hx
      generalize st.us[i] = x at ex
      have L1 := L.same q1
      try dsimp only [gName]
      refine ⟨_, rfl, pt, rfl, ⟨_, SqL.of L1.t⟩, fun D1 hD1 => ?_⟩
      refine comp_gen (fix_list (K := K) (a := pt) (xs := at'.map V.ref)) (fun i σ' ys H' => ∃ w0, σ' = [w0, some (.str x)] ∧ ys = ((st.ts.take i).map (byT x)).map V.bl ∧ Same H1 H' ∧ H' D1 = some (.lst ys))
        ⟨none, rfl, by simp, Same.new hD1, upd_same⟩ (fun i σ' ys H' h => ?_) (by rw [List.length_map]; exact le_line (by omega)) ?_ ?_
      · obtain ⟨_, _, rfl, q, hd⟩ := h
        refine ⟨SqL.of (q _ _ L1.t), hd, ?_⟩
        rw [List.length_map, List.length_map, List.length_take]
        omega
      · rintro i v σ' ys H' hx' ⟨w0, rfl, rfl, q', hd'⟩
        obtain ⟨r, t, rfl, ht, har, hr'⟩ := rows_at (L1.tt.same q') hx'
        have hix := get_lt hx'
        try dsimp only [gName]
        unfold tYes
        dsimp only
        rw [if_pos rfl]
        obtain ⟨c1, c2⟩ := cut13 t
        refine ⟨_, rfl, _, rfl, _, rfl, _, rfl, r, _, rfl, SqT.of hr', c2, fun p6 hp6 => ?_⟩
        rw [c1]
        have t6 := Same.new (o := .tup [.str t.a, .str t.b]) hp6
        have hd6 := t6 _ _ hd'
        refine ⟨p6, _, rfl, .inr (SqT.of upd_same), rfl, rfl, ?_⟩
        refine ⟨hd6, cstep (by exact hix) ⟨_, rfl, ?_, (q'.trans t6).upd hD1, upd_same⟩⟩
        rw [List.take_add_one, ht, List.map_append, List.map_append]
        rfl
      rintro σ' ys H2 ⟨w0', rfl, rfl, q2, hd2⟩
      rw [List.length_map, lt', List.take_length] at hd2
      have L2 := L1.same q2
      refine ⟨_, rfl, pf, rfl, ⟨_, SqL.of L2.f⟩, fun D2 hD2 => ?_⟩
      refine comp_gen (fix_list (K := K) (a := pf) (xs := ag.map V.ref)) (fun i σ' ys H' => ∃ w0, σ' = [w0, some (.str x)] ∧ ys = ((st.fs.take i).map (byF x)).map V.bl ∧ Same H2 H' ∧ H' D2 = some (.lst ys))
        ⟨none, rfl, by simp, Same.new hD2, upd_same⟩ (fun i σ' ys H' h => ?_) (by rw [List.length_map]; exact le_line (by omega)) ?_ ?_
      · obtain ⟨_, _, rfl, q, hd⟩ := h
        refine ⟨SqL.of (q _ _ L2.f), hd, ?_⟩
        rw [List.length_map, List.length_map, List.length_take]
        omega
      · rintro i v σ' ys H' hx' ⟨w0, rfl, rfl, q', hd'⟩
        obtain ⟨r, f, rfl, ht, har, hr'⟩ := rows_at (L2.ff.same q') hx'
        have hix := get_lt hx'
        try dsimp only [gName]
        unfold tYes
        dsimp only
        rw [if_pos rfl]
        refine ⟨_, rfl, _, rfl, r, _, _, _, rfl, rfl, SqT.of hr', rfl, rfl, ?_⟩
        refine ⟨hd', cstep (by exact hix) ⟨_, rfl, ?_, q'.upd hD2, upd_same⟩⟩
        rw [List.take_add_one, ht, List.map_append, List.map_append]
        rfl
      rintro σ' ys H3 ⟨w0'', rfl, rfl, q3, hd3⟩
      rw [List.length_map, lf', List.take_length] at hd3
      refine ⟨D1, D2, _, _, rfl, rfl, q3 _ _ hd2, hd3, by rw [List.length_map, List.length_map, List.length_map, List.length_map]; exact le_line (by omega), fun D3 hD3 => ?_⟩
      rw [← List.map_append]
      have t3 := Same.new (o := .lst ((st.ts.map (byT x) ++ st.fs.map (byF x)).map V.bl)) hD3
      refine ⟨D3, _, rfl, SqL.of upd_same, _, rfl, ?_⟩
      rw [show (st.ts.map (byT x) ++ st.fs.map (byF x)).any id = usedB st.ts st.fs x by rw [List.any_append, any_take, any_take]; rfl]
      have q13 := q2.trans (q3.trans t3)
      have hd3' := q13 _ _ hd
      have st1 := q1.trans q13
      have tk : (st.us.take (i + 1)).filter (fun x => !usedB st.ts st.fs x) = (st.us.take i).filter (fun x => !usedB st.ts st.fs x) ++ (if (!usedB st.ts st.fs x) = true then [x] else []) := by
        rw [List.take_add_one, ex, List.filter_append]
        cases hb : usedB st.ts st.fs x <;> simp [hb]
      refine ite2 (fun c => ?_) (fun c => ?_)
      · refine ⟨_, rfl, hd3', cstep (by rw [List.length_map]; exact hix) ⟨_, rfl, ?_, st1.upd hD, upd_same⟩⟩
        rw [tk, if_pos c, List.map_append]
        rfl
      · refine ⟨hd3', cstep (by rw [List.length_map]; exact hix) ⟨_, rfl, ?_, st1, hd3'⟩⟩
        rw [tk, if_neg c, List.append_nil]
    rintro σ' ys H1 ⟨w0, rfl, rfl, q1, hd⟩
    rw [List.length_map, List.take_length] at hd
    exact k D _ hD hd q1
/-! ### a deed that adds -/
def sp_new61 : Sp := fun vs H Q _ => ∃ (p pm du dt df ps pu pt pf pn pk : Addr) (lo hi : Int) (xs ms : List Str) (s : SD) (n : Nat) (c : Int), vs = [.ref p, .ref ps, .ref pn, .ref pk, .int c] ∧ OneAt C_Dig K H p pm du dt df ps pu pt pf lo hi xs s n ∧ n ≤ 300 ∧ SqL K H pn (xs.map V.str) ∧ SqL K H pk (ms.map V.str) ∧ xs.length = 7 ∧ ms.length = 7 ∧ (∀ x ∈ xs, nameB x = true) ∧ (∀ x ∈ ms, nameB x = true) ∧
  ∀ (H' : Hp) (s' : SD), OneAt C_Dig K H' p pm du dt df ps pu pt pf lo hi xs s' (n + 1) → Kp6 H H' du dt df pu pt pf → Q .non H'
theorem filt_step {xs : List Str} {i : Nat} {x : Str} (f : Str → Bool) (ex : xs[i]? = some x) : (xs.take (i + 1)).filter f = (xs.take i).filter f ++ (if f x = true then [x] else []) := by
  rw [List.take_add_one, ex, List.filter_append]
  cases hb : f x <;> simp [hb]
theorem at_part {zs : List Str} {c k : Int} (h : zs ≠ []) : ∃ z ∈ zs, atI (zs.map V.str) (pt c k (zs.map V.str).length) = some (.str z) := by
  have l1 := List.length_pos_iff.mpr h
  have hb := pt_bd c k ((zs.map V.str).length : Int) (by rw [List.length_map]; omega)
  rw [List.length_map] at hb ⊢
  exact at_us hb.1 hb.2
set_option maxHeartbeats 16000000 in
theorem h__law_new (T : Tx K mg w C_Dig) : Has P w K mg base "_law_new" ["_law_dig", "_law_stands", "_law_names_here", "_law_marks", "_law_cell"] 4 (sp_new61 (C_Dig := C_Dig) (K := K)) := by
  refine T.d__law_new.has sc__law_new (fun vs H Q E h => ?_) (fun f cdv A outer s H vs Q E hr h => ?_)
  · obtain ⟨p, pm, du, dt, df, ps, pu, pt', pf, pn, pk, lo, hi, xs, ms, s, n, c, rfl, _⟩ := h; rfl
  · obtain ⟨p, pm, du, dt, df, ps, pu, pt', pf, pn, pk, lo, hi, xs, ms, st, n, c, rfl, O, n3, hn, hk, x7, m7, xnm, mnm, k⟩ := h
    refine ⟨_, (pss_cons (ps_asg (pv 1) (pg_tupK K rfl rfl (pgs_cons (pg_name (i := 5) sc__law_new.nd rfl (Or.inr rfl)) (pgs_cons (pg_name (i := 6) sc__law_new.nd rfl (Or.inl rfl)) (pgs_cons (pg_name (i := 7) sc__law_new.nd rfl (Or.inr rfl)) pgs_nil)))))
      (pss_cons (ps_setC (i := 8) (own := ["_law_name"]) (cap := ["_law_units"]) (ix := [5]) (osc := defScope (top 17)) rfl sc__law_new.nd rfl rfl rfl ⟨rfl, by decide +kernel, by decide +kernel, by decide +kernel, by decide +kernel⟩ rfl (pi_listK K rfl (pv 2)) (fun _ _ _ _ => pg_name (i := 0) (show List.Nodup (["_law_name", "_law_units"] : List Str) by decide +kernel) rfl (Or.inl rfl)) (fun _ _ _ _ => pif_one (pt_cmpR (op_notIn_seqK K rfl) (pv 0) (pv 1) (by with_unfolding_all rfl))) (fun _ _ _ _ => (pv 0)))
      (pss_cons (ps_setC (i := 9) (own := ["_law_name"]) (cap := ["_law_finds"]) (ix := [7]) (osc := defScope (top 17)) rfl sc__law_new.nd rfl rfl rfl ⟨rfl, by decide +kernel, by decide +kernel, by decide +kernel, by decide +kernel⟩ rfl (pi_listK K rfl (pv 3)) (fun _ _ _ _ => pg_name (i := 0) (show List.Nodup (["_law_name", "_law_finds"] : List Str) by decide +kernel) rfl (Or.inl rfl)) (fun _ _ _ _ => pif_one (pt_cmpR (op_notIn_seqK K rfl) (pv 0) (pe_compN (own := ["_law_find"]) (cap := []) (ix := []) (osc := compSc (top 17) 2) rfl ⟨rfl, by decide +kernel, by decide +kernel, by decide +kernel, by decide +kernel⟩ rfl (pi_listK K rfl (pv 1)) (fun _ _ _ _ => pg_name (i := 0) (show List.Nodup (["_law_find"] : List Str) by decide +kernel) rfl (Or.inl rfl)) (fun _ _ _ _ => pif_nil) (fun _ _ _ _ => (pe_ix (ix_tupK K rfl) (pv 0) pe_int (fun _ _ => rfl)))) (by with_unfolding_all rfl))) (fun _ _ _ _ => (pv 0)))
      (pss_cons (ps_set (i := 10) sc__law_new.nd rfl (Or.inl rfl) (pe_fn (h__law_part T) (hr.mono (by decide)) (by rfl) (pa_cons (pv 4) (pa_cons pe_int (pa_cons pe_int pa_nil)))))
      (pss_one (ps_if (PW.pt (pw_and (PW.pt (pw_or (pt_cmpR op_eq (pv 10) pe_int (nomark _)) (pw_or1 (pt_cmpR (op_eqDK K rfl (hu10 hr)) (pv 5) (pe_lst pa_nil) (nomark _))))) (pw_and1 (pt_cmpR (op_neDK K rfl (hu10 hr)) (pv 8) (pe_lst pa_nil) (nomark _))))) (pss_cons (ps_expr (pe_bmK K rfl PySem.F.plainAttrs_list PySem.F.slot_list_append PySem.F.type_list_append mt_append (pv 5) (pa_cons (pe_ix (ix_listK K rfl) (pv 8) (pe_fn (h__law_part T) (hr.mono (by decide)) (by rfl) (pa_cons (pv 4) (pa_cons pe_int (pa_cons (pe_callB (call_len_seqK K rfl) (by rfl) T.len boot_len (pa_cons (pv 8) pa_nil)) pa_nil)))) (fun _ _ => rfl)) pa_nil)))
        (pss_one (ps_expr (pe_mth (m_Dig_add_unit T) T.cl_Dig (hr.mono (by decide)) (pv 0) (pa_cons (pe_ix (ix_listK K rfl) (pv 5) (pe_un un_neg pe_int) (fun _ _ => rfl)) pa_nil))))) (pss_one (ps_if (PW.pt (pw_and (pt_cmpR op_eq (pv 10) pe_int (nomark _)) (pw_and1 (pt_cmpR (op_neDK K rfl (hu10 hr)) (pv 9) (pe_lst pa_nil) (nomark _))))) (pss_cons (ps_set (i := 11) sc__law_new.nd rfl (Or.inl rfl) (pe_fn (h__law_years T) (hr.mono (by decide)) (by rfl) (pa_cons (pv 4) (pa_cons pe_int pa_nil))))
          (pss_cons (ps_expr (pe_bmK K rfl PySem.F.plainAttrs_list PySem.F.slot_list_append PySem.F.type_list_append mt_append (pv 7) (pa_cons (pe_tup (pa_cons (pe_ix (ix_listK K rfl) (pv 9) (pe_fn (h__law_part T) (hr.mono (by decide)) (by rfl) (pa_cons (pv 4) (pa_cons pe_int (pa_cons (pe_callB (call_len_seqK K rfl) (by rfl) T.len boot_len (pa_cons (pv 9) pa_nil)) pa_nil)))) (fun _ _ => rfl)) (pa_cons (pe_ix (ix_listK K rfl) (pv 5) (pe_fn (h__law_part T) (hr.mono (by decide)) (by rfl) (pa_cons (pv 4) (pa_cons pe_int (pa_cons (pe_callB (call_len_seqK K rfl) (by rfl) T.len boot_len (pa_cons (pv 5) pa_nil)) pa_nil)))) (fun _ _ => rfl)) (pa_cons (pe_ix (ix_listK K rfl) (pv 11) pe_int (fun _ _ => rfl)) (pa_cons (pe_ix (ix_listK K rfl) (pv 11) pe_int (fun _ _ => rfl)) pa_nil))))) pa_nil)))
          (pss_one (ps_expr (pe_mth (m_Dig_add_find T) T.cl_Dig (hr.mono (by decide)) (pv 0) (pa_cons (pe_ix (ix_tupK K rfl) (pe_ix (ix_listK K rfl) (pv 7) (pe_un un_neg pe_int) (fun _ _ => rfl)) pe_int (fun _ _ => rfl)) (pa_cons (pe_ix (ix_tupK K rfl) (pe_ix (ix_listK K rfl) (pv 7) (pe_un un_neg pe_int) (fun _ _ => rfl)) pe_int (fun _ _ => rfl)) (pa_cons (pe_ix (ix_listK K rfl) (pv 11) pe_int (fun _ _ => rfl)) (pa_cons (pe_ix (ix_listK K rfl) (pv 11) pe_int (fun _ _ => rfl)) pa_nil))))))))) (pss_one (ps_if (pt_cmpR (op_neDK K rfl (hu10 hr)) (pv 5) (pe_lst pa_nil) (nomark _)) (pss_cons (ps_set (i := 12) sc__law_new.nd rfl (Or.inl rfl) (pe_fn (h__law_tie T) (hr.mono (by decide)) (by rfl) (pa_cons (pv 5) (pa_cons (pv 4) pa_nil))))
            (pss_one (ps_if (pt_cmpR (op_notInDK K rfl (hu11 hr)) (pv 12) (pv 6) (by with_unfolding_all rfl)) (pss_cons (ps_expr (pe_bmK K rfl PySem.F.plainAttrs_list PySem.F.slot_list_append PySem.F.type_list_append mt_append (pv 6) (pa_cons (pv 12) pa_nil)))
              (pss_one (ps_expr (pe_mth (m_Dig_add_tie T) T.cl_Dig (hr.mono (by decide)) (pv 0) (pa_cons (pv 12) pa_nil))))) pss_nil))) pss_nil)))))))))), ?_⟩
    obtain ⟨af, R⟩ := O.dig
    obtain ⟨at', ag, L⟩ := O.ls
    obtain ⟨b1, b2, b3⟩ := O.len
    have lt' := L.tlen
    have lf' := L.flen
    refine ⟨_, rfl, ps, _, rfl, SqT.of O.tup, rfl, _, _, rfl, _, _, rfl, _, _, rfl, rfl, ?_⟩
    try dsimp only [gName]
    -- names that are free
    refine ⟨_, rfl, pn, rfl, ⟨_, hn⟩, fun D hD => ?_⟩
    refine comp_gen (fix_list (K := K) (a := pn) (xs := xs.map V.str)) (fun i σ' ys H' => ∃ w0, σ' = [w0, some (.ref pu)] ∧ ys = ((xs.take i).filter fun x => !decide (x ∈ st.us)).map V.str ∧ Same H H' ∧ H' D = some (.lst ys))
      ⟨none, rfl, by simp, Same.new hD, upd_same⟩ (fun i σ' ys H' h => ?_) (by rw [List.length_map]; exact le_line (by omega)) ?_ ?_
    · obtain ⟨_, _, rfl, q, hd⟩ := h
      refine ⟨q.seq hn, hd, ?_⟩
      rw [List.length_map]
      exact Nat.le_trans (List.length_filter_le _ _) (by rw [List.length_take]; omega)
    · rintro i v σ' ys H1 hx ⟨w0, rfl, rfl, q1, hd⟩
      have hix := get_lt hx
      rw [List.length_map] at hix
      have ex : xs[i]? = some xs[i] := List.getElem?_eq_getElem hix
      rw [List.getElem?_map, ex] at hx
      cases hx
      generalize xs[i] = x at ex
      try dsimp only [gName]
      refine ⟨_, rfl, _, rfl, pu, _, rfl, .inl (SqL.of (q1 _ _ L.u)), rfl, flat_strs, _, rfl, ?_⟩
      rw [if_pos rfl, inV_strs]
      refine ite2 (fun c => ?_) (fun c => ?_)
      · refine ⟨_, rfl, hd, cstep (by rw [List.length_map]; exact hix) ⟨_, rfl, ?_, q1.upd hD, upd_same⟩⟩
        rw [filt_step _ ex, if_pos c, List.map_append]
        rfl
      · refine ⟨hd, cstep (by rw [List.length_map]; exact hix) ⟨_, rfl, ?_, q1, hd⟩⟩
        rw [filt_step _ ex, if_neg c, List.append_nil]
    rintro σ' ys H1 ⟨w0, rfl, rfl, s1, hd1⟩
    rw [List.length_map, List.take_length] at hd1
    obtain ⟨fr, efr⟩ : ∃ fr, fr = xs.filter fun x => !decide (x ∈ st.us) := ⟨_, rfl⟩
    rw [← efr] at hd1
    try dsimp only [gName]
    -- marks that are free
    refine ⟨_, rfl, pk, rfl, ⟨_, s1.seq hk⟩, fun D2 hD2 => ?_⟩
    refine comp_gen (fix_list (K := K) (a := pk) (xs := ms.map V.str)) (fun i σ' ys H' => ∃ w0, σ' = [w0, some (.ref pf)] ∧ ys = ((ms.take i).filter fun x => !decide (x ∈ st.fs.map Fnd.n)).map V.str ∧ Same H1 H' ∧ H' D2 = some (.lst ys))
      ⟨none, rfl, by simp, Same.new hD2, upd_same⟩ (fun i σ' ys H' h => ?_) (by rw [List.length_map]; exact le_line (by omega)) ?_ ?_
    · obtain ⟨_, _, rfl, q, hd⟩ := h
      refine ⟨(s1.trans q).seq hk, hd, ?_⟩
      rw [List.length_map]
      exact Nat.le_trans (List.length_filter_le _ _) (by rw [List.length_take]; omega)
    · rintro i v σ' ys H2 hx ⟨w0, rfl, rfl, q2, hd⟩
      have hix := get_lt hx
      rw [List.length_map] at hix
      have ex : ms[i]? = some ms[i] := List.getElem?_eq_getElem hix
      rw [List.getElem?_map, ex] at hx
      cases hx
      generalize ms[i] = x at ex
      have L2 := L.same (s1.trans q2)
      try dsimp only [gName]
      refine ⟨_, rfl, _, rfl, pf, rfl, ⟨_, SqL.of L2.f⟩, fun D3 hD3 => ?_⟩
      refine comp_gen (fix_list (K := K) (a := pf) (xs := ag.map V.ref)) (fun i σ' ys H' => ∃ w0, σ' = [w0] ∧ ys = ((st.fs.take i).map Fnd.n).map V.str ∧ Same H2 H' ∧ H' D3 = some (.lst ys))
        ⟨none, rfl, by simp, Same.new hD3, upd_same⟩ (fun i σ' ys H' h => ?_) (by rw [List.length_map]; exact le_line (by omega)) ?_ ?_
      · obtain ⟨_, _, rfl, q, hd⟩ := h
        refine ⟨SqL.of (q _ _ L2.f), hd, ?_⟩
        rw [List.length_map, List.length_map, List.length_take]
        omega
      · rintro i v σ' ys H' hx' ⟨w0, rfl, rfl, q', hd'⟩
        obtain ⟨r, f, rfl, ht, har, hr'⟩ := rows_at (L2.ff.same q') hx'
        have hix := get_lt hx'
        try dsimp only [gName]
        unfold tYes
        dsimp only
        rw [if_pos rfl]
        refine ⟨_, rfl, r, _, _, _, rfl, rfl, SqT.of hr', rfl, ?_⟩
        refine ⟨hd', cstep (by exact hix) ⟨_, rfl, ?_, q'.upd hD3, upd_same⟩⟩
        rw [List.take_add_one, ht, List.map_append, List.map_append]
        rfl
      rintro σ' ys H3 ⟨w0', rfl, rfl, q3, hd3⟩
      rw [List.length_map, lf', List.take_length] at hd3
      have hdx := q3 _ _ hd
      refine ⟨D3, _, rfl, .inl (SqL.of hd3), rfl, flat_strs, _, rfl, ?_⟩
      rw [if_pos rfl, inV_strs]
      refine ite2 (fun c => ?_) (fun c => ?_)
      · refine ⟨_, rfl, hdx, cstep (by rw [List.length_map]; exact hix) ⟨_, rfl, ?_, (q2.trans q3).upd hD2, upd_same⟩⟩
        rw [filt_step _ ex, if_pos c, List.map_append]
        rfl
      · refine ⟨hdx, cstep (by rw [List.length_map]; exact hix) ⟨_, rfl, ?_, q2.trans q3, hdx⟩⟩
        rw [filt_step _ ex, if_neg c, List.append_nil]
    rintro σ' ys H2 ⟨w0, rfl, rfl, s2, hd2⟩
    rw [List.length_map, List.take_length] at hd2
    obtain ⟨sp, esp⟩ : ∃ sp, sp = ms.filter fun x => !decide (x ∈ st.fs.map Fnd.n) := ⟨_, rfl⟩
    rw [← esp] at hd2
    have hd1' := s2 _ _ hd1
    have q2 := s1.trans s2
    have R2 := R.same q2
    have L2 := L.same q2
    have O2 := O.same q2
    have kp2 : ∀ b o, H b = some o → H2 b = some o := fun b o e => q2 _ _ e
    clear hd1
    try dsimp only [gName]
    refine ⟨_, rfl, _, _, _, rfl, by decide, ?_⟩
    generalize pt c 0 3 = way
    try dsimp only [gName]
    obtain ⟨dx, hp2⟩ := R2.ob
    refine ifS_same ((decide (V.int way = V.int 0) || decide (st.us.map V.str = [])) && !decide (fr.map V.str = [])) (fun Q' hQ => ?_) (fun H3 s3 => ?_)
    · have fin : ∀ b (G : Hp), Same H2 G → (∀ H', Same H2 H' → Q' ((b || false) && !decide (fr.map V.str = [])) H') → b = true → True := fun _ _ _ _ _ => trivial
      refine ⟨_, rfl, rfl, _, rfl, ?_⟩
      generalize decide (V.int way = V.int 0) = w0 at hQ
      cases w0 with
      | true =>
        refine iteT ?_
        dsimp only
        refine iteT ?_
        exact ⟨_, rfl, by decide, fun e he => ⟨D, e, _, rfl, rfl, DEq.nilL (SqL.of (Same.new he _ _ hd1')) (SqL.of upd_same), _, rfl, hQ _ (Same.new he)⟩⟩
      | false =>
        refine iteF ?_
        refine ⟨_, rfl, by decide, fun e he => ⟨pu, e, _, rfl, rfl, DEq.nilL (SqL.of (Same.new he _ _ L2.u)) (SqL.of upd_same), _, rfl, ?_⟩⟩
        generalize decide (st.us.map V.str = []) = w1 at hQ
        cases w1 with
        | true =>
          refine iteT ?_
          exact ⟨_, rfl, by decide, fun e' he' => ⟨D, e', _, rfl, rfl, DEq.nilL (SqL.of (Same.new he' _ _ (Same.new he _ _ hd1'))) (SqL.of upd_same), _, rfl, hQ _ ((Same.new he).trans (Same.new he'))⟩⟩
        | false => exact iteF (hQ _ (Same.new he))
    have q3 := q2.trans s3
    have L3 := L2.same s3
    have R3 := R2.same s3
    have O3 := O2.same s3
    have hp3 := s3 _ _ hp2
    refine ite2 (fun c1 => ?_) (fun c1 => ?_)
    · have hfr : fr ≠ [] := fun z => by rw [z] at c1; simp at c1
      obtain ⟨x, hx, ex⟩ := at_part (c := c) (k := 1) hfr
      have hx' : x ∈ xs ∧ x ∉ st.us := by
        rw [efr] at hx
        have := List.mem_filter.mp hx
        exact ⟨this.1, by simpa using this.2⟩
      have hd3 := s3 _ _ hd1'
      refine ⟨_, rfl, .inl ⟨rfl, _, SqL.of L3.u⟩, _, rfl, _, rfl, _, rfl, D, _, rfl, .inl (SqL.of hd3), _, _, _, rfl, by rw [List.length_map]; have := List.length_pos_iff.mpr hfr; omega, D, _, _, _, rfl, rfl, SqL.of hd3, ex, pu, _, _, rfl, rfl, L3.u, by rw [List.length_map]; exact small1000 (by omega), ?_⟩
      rw [show st.us.map V.str ++ [V.str x] = (st.us ++ [x]).map V.str by rw [List.map_append]; rfl]
      have L4 := L3.setU (st.us ++ [x])
      have R4 := R3.lst (ys := (st.us ++ [x]).map V.str) L3.u
      obtain ⟨dx4, hp4⟩ := R4.ob
      try dsimp only
      refine ⟨_, rfl, p, dx4, _, rfl, hp4, rfl4_no _ _ _ _ (by decide +kernel), _, rfl, _, rfl, pu, _, _, _, rfl, rfl, SqL.of L4.u, by rw [List.map_append]; exact atI_last _ _, p, pm, du, dt, df, lo, hi, st.us, st.ts, st.fs, af, x, rfl, R4, hx'.2, by omega, ?_⟩
      refine k _ ⟨st.us ++ [x], st.ts, st.fs⟩ (O3.next xnm (ms := ms) (.unit hx'.2) (.unit hx'.1) ⟨af, R4.setU⟩ ⟨at', ag, L4.dict R4.u .k⟩ ?_) fun b o e b1 b2 b3 b4 b5 b6 => ?_
      · rw [upd_ne (ne_of (tup_stay L3.u _ _ O3.tup) R4.u (fun z => nomatch z))]
        exact tup_stay L3.u _ _ O3.tup
      · rw [upd_ne b1, upd_ne b4]
        exact q3 _ _ e
    refine ifS_same (decide (V.int way = V.int 1) && !decide (sp.map V.str = [])) (fun Q' hQ => ?_) (fun H4 s4 => ?_)
    · refine ⟨_, rfl, rfl, _, rfl, ?_⟩
      generalize decide (V.int way = V.int 1) = w0 at hQ
      cases w0 with
      | false => exact iteF (hQ _ (Same.refl _))
      | true =>
        refine iteT ?_
        exact ⟨_, rfl, by decide, fun e he => ⟨D2, e, _, rfl, rfl, DEq.nilL (SqL.of (Same.new he _ _ (s3 _ _ hd2))) (SqL.of upd_same), _, rfl, hQ _ (Same.new he)⟩⟩
    have q4 := q3.trans s4
    have L4 := L3.same s4
    have R4 := R3.same s4
    have O4 := O3.same s4
    refine ite2 (fun c2 => ?_) (fun c2 => ?_)
    · have hsp : sp ≠ [] := fun z => by rw [z] at c2; simp at c2
      have hus : st.us ≠ [] := fun z => by
        rw [z] at c1
        have : fr ≠ [] := by
          rw [efr, z]
          intro z2
          have : xs.filter (fun x => !decide (x ∈ ([] : List Str))) = xs := List.filter_eq_self.mpr fun _ _ => by simp
          rw [this] at z2
          rw [z2] at x7
          cases x7
        apply c1
        simp [this]
      obtain ⟨mk, hmk, emk⟩ := at_part (c := c) (k := 1) hsp
      have hmk' : mk ∈ ms ∧ mk ∉ st.fs.map Fnd.n := by
        rw [esp] at hmk
        have := List.mem_filter.mp hmk
        exact ⟨this.1, by simpa using this.2⟩
      obtain ⟨x, hx, ex⟩ := at_part (c := c) (k := 2) hus
      refine ⟨_, rfl, c, _, rfl, fun py lo' hi' H5 hl y1 y2 fpy hpy s5 => ?_⟩
      have q5 := q4.trans s5
      have L5 := L4.same s5
      have R5 := R4.same s5
      have O5 := O4.same s5
      have hd5 := s5 _ _ (s4 _ _ (s3 _ _ hd2))
      try dsimp only [gName]
      refine ⟨_, rfl, .inl ⟨rfl, _, SqL.of L5.f⟩, _, rfl, _, rfl, _, rfl, D2, _, rfl, .inl (SqL.of hd5), _, _, _, rfl, by rw [List.length_map]; have := List.length_pos_iff.mpr hsp; omega, D2, _, _, _, rfl, rfl, SqL.of hd5, emk, _, rfl, _, rfl, _, rfl, pu, _, rfl, .inl (SqL.of L5.u), _, _, _, rfl, by rw [List.length_map]; have := List.length_pos_iff.mpr hus; omega, pu, _, _, _, rfl, rfl, SqL.of L5.u, ex, _, rfl, py, _, _, _, rfl, rfl, SqL.of hpy, rfl, _, rfl, py, _, _, _, rfl, rfl, SqL.of hpy, rfl, by show 4 ≤ sizeLine; decide, fun a ha => ?_⟩
      have t6 := Same.new (o := .tup (fndV ⟨mk, x, lo', hi'⟩)) ha
      have L6 := L5.same t6
      have R6 := R5.same t6
      have O6 := O5.same t6
      have hpy6 := t6 _ _ hpy
      have ea : upd H5 a (.tup (fndV ⟨mk, x, lo', hi'⟩)) a = some (.tup (fndV ⟨mk, x, lo', hi'⟩)) := upd_same
      have q6 := q5.trans t6
      refine ⟨pf, _, _, rfl, rfl, L6.f, by rw [List.length_map]; exact small1000 (by omega), ?_⟩
      rw [show ag.map V.ref ++ [V.ref a] = (ag ++ [a]).map V.ref by rw [List.map_append]; rfl]
      have L7 := L6.setF (st.fs ++ [⟨mk, x, lo', hi'⟩]) (ag ++ [a]) (by rw [List.map_append]; exact Tups.snoc L6.ff ea)
      have R7 := R6.lst (ys := (ag ++ [a]).map V.ref) L6.f
      have npy : py ≠ pf := fun z => by
        have h1 := s4 _ _ (s3 _ _ L2.f)
        rw [← z, fpy] at h1
        cases h1
      have hpy7 : upd (upd H5 a (.tup (fndV ⟨mk, x, lo', hi'⟩))) pf (.lst ((ag ++ [a]).map V.ref)) py = some (.lst [.int lo', .int hi']) := by rw [upd_ne npy]; exact hpy6
      have ea7 := tup_stay (ys := (ag ++ [a]).map V.ref) L6.f _ _ ea
      obtain ⟨dx7, hp7⟩ := R7.ob
      try dsimp only
      have atl : atI ((ag ++ [a]).map V.ref) (-1) = some (.ref a) := by rw [List.map_append]; exact atI_last _ _
      refine ⟨_, rfl, p, dx7, _, rfl, hp7, rfl4_no _ _ _ _ (by decide +kernel), _, rfl, _, rfl, pf, _, _, _, rfl, rfl, SqL.of L7.f, atl, a, _, _, _, rfl, rfl, SqT.of ea7, rfl, _, rfl, _, rfl, pf, _, _, _, rfl, rfl, SqL.of L7.f, atl, a, _, _, _, rfl, rfl, SqT.of ea7, rfl, _, rfl, py, _, _, _, rfl, rfl, SqL.of hpy7, rfl, _, rfl, py, _, _, _, rfl, rfl, SqL.of hpy7, rfl, p, pm, du, dt, df, lo, hi, st.us, st.ts, st.fs, af, ⟨mk, x, lo', hi'⟩, rfl, R7, hmk'.2, hx, by omega, fun b hb => ?_⟩
      have t8 := Same.new (o := .tup (fndV ⟨mk, x, lo', hi'⟩)) hb
      have R8 := R7.same t8
      have t88 := Tups.snoc R8.ft (upd_same (H := upd (upd H5 a (.tup (fndV ⟨mk, x, lo', hi'⟩))) pf (.lst ((ag ++ [a]).map V.ref))) (a := b) (o := .tup (fndV ⟨mk, x, lo', hi'⟩)))
      rw [show st.fs.map fndV ++ [fndV ⟨mk, x, lo', hi'⟩] = (st.fs ++ [(⟨mk, x, lo', hi'⟩ : Fnd)]).map fndV by rw [List.map_append]; rfl] at t88
      refine k _ ⟨st.us, st.ts, st.fs ++ [⟨mk, x, lo', hi'⟩]⟩ (O6.next xnm (ms := ms) (.find hmk'.2 hx) (.find ⟨mnm _ hmk'.1, O.sub x hx, hl, y1, y2⟩ hmk'.1) ⟨af ++ [b], R8.setF t88⟩ ⟨at', ag ++ [a], (L7.same t8).dict R8.f .k⟩ ?_) fun b' o e b1 b2 b3 b4 b5 b6 => ?_
      · have h1 := t8 _ _ (tup_stay (ys := (ag ++ [a]).map V.ref) L6.f _ _ O6.tup)
        rw [upd_ne (ne_of h1 R8.f (fun z => nomatch z))]
        exact h1
      · rw [upd_ne b3]
        refine t8 _ _ ?_
        rw [upd_ne b6]
        exact q6 _ _ e
    refine ifS_same (!decide (st.us.map V.str = [])) (fun Q' hQ => ⟨_, rfl, by decide, fun e he => ⟨pu, e, _, rfl, rfl, DEq.nilL (SqL.of (Same.new he _ _ L4.u)) (SqL.of upd_same), _, rfl, hQ _ (Same.new he)⟩⟩) (fun H5 s5 => ?_)
    have q5 := q4.trans s5
    have L5 := L4.same s5
    have R5 := R4.same s5
    have O5 := O4.same s5
    have stay : ∀ (G : Hp), Same H5 G → Q .non G := fun G s => k G st ((O5.same s).le (by omega)) fun b o e _ _ _ _ _ _ => s _ _ (q5 _ _ e)
    refine ite2 (fun c3 => ?_) (fun c3 => stay _ (Same.refl _))
    have hus : st.us ≠ [] := fun z => by rw [z] at c3; simp at c3
    refine ⟨_, rfl, _, rfl, pu, st.us, c, rfl, SqL.of L5.u, List.length_pos_iff.mpr hus, fun a t H6 tok fa ha s6 => ?_⟩
    have q6 := q5.trans s6
    have L6 := L5.same s6
    have R6 := R5.same s6
    have O6 := O5.same s6
    have hw := (tok.ok.words O.ok.nm).1
    try dsimp only [gName]
    refine ⟨_, rfl, _, rfl, pt', _, _, rfl, .inl (SqL.of L6.t), L6.tt.deq (n := 7) O.ok.tw ha hw, _, rfl, ?_⟩
    rw [if_pos rfl, L6.tt.anyE]
    refine ite2 (fun c4 => ?_) (fun c4 => stay _ s6)
    have ht : t ∉ st.ts := fun z => by
      have : tieV t ∈ st.ts.map tieV := List.mem_map.mpr ⟨t, z, rfl⟩
      simp [this] at c4
    refine ⟨_, rfl, .inl ⟨rfl, _, SqL.of L6.t⟩, _, rfl, pt', _, _, rfl, rfl, L6.t, by rw [List.length_map]; exact small1000 (by omega), ?_⟩
    rw [show at'.map V.ref ++ [V.ref a] = (at' ++ [a]).map V.ref by rw [List.map_append]; rfl]
    have L7 := L6.setT (st.ts ++ [t]) (at' ++ [a]) (by rw [List.map_append]; exact Tups.snoc L6.tt ha)
    have R7 := R6.lst (ys := (at' ++ [a]).map V.ref) L6.t
    have ha7 := tup_stay (ys := (at' ++ [a]).map V.ref) L6.t _ _ ha
    obtain ⟨dx7, hp7⟩ := R7.ob
    try dsimp only
    refine ⟨_, rfl, p, dx7, _, rfl, hp7, rfl4_no _ _ _ _ (by decide +kernel), _, rfl, p, pm, du, dt, df, a, lo, hi, st.us, st.ts, st.fs, af, t, rfl, R7, O.ok, ha7, tok, ht, by omega, ?_⟩
    refine k _ ⟨st.us, st.ts ++ [t], st.fs⟩ (O6.next xnm (ms := ms) (.tie tok.a tok.b ht) (.tie (tok.mono O.sub)) ⟨af, R7.setT⟩ ⟨at' ++ [a], ag, L7.dict R7.t .t⟩ ?_) fun b o e b1 b2 b3 b4 b5 b6 => ?_
    · have h1 := tup_stay (ys := (at' ++ [a]).map V.ref) L6.t _ _ O6.tup
      rw [upd_ne (ne_of h1 R7.t (fun z => nomatch z))]
      exact h1
    · rw [upd_ne b2, upd_ne b5]
      exact q6 _ _ e
/-! ### a deed that takes away or moves -/
def sp_gone61 : Sp := fun vs H Q _ => ∃ (p pm du dt df ps pu pt pf : Addr) (lo hi : Int) (xs : List Str) (s : SD) (n : Nat) (c : Int), vs = [.ref p, .ref ps, .int c] ∧ OneAt C_Dig K H p pm du dt df ps pu pt pf lo hi xs s n ∧ n ≤ 300 ∧ (∀ x ∈ xs, nameB x = true) ∧
  ∀ (H' : Hp) (s' : SD), OneAt C_Dig K H' p pm du dt df ps pu pt pf lo hi xs s' (n + 1) → Kp6 H H' du dt df pu pt pf → Q .non H'
theorem ix_part {l : Nat} {c k : Int} (h : 0 < l) : ∃ j : Nat, pt c k (l : Int) = (j : Int) ∧ j < l := by
  have hb := pt_bd c k (l : Int) (by omega)
  exact ⟨(pt c k (l : Int)).toNat, by omega, by omega⟩
theorem f_at {H : Hp} {ag : List Addr} {fs : List Fnd} {j : Nat} (t : Tups H ag (fs.map fndV)) (hj : j < fs.length) : ∃ r f, ag[j]? = some r ∧ fs[j]? = some f ∧ H r = some (.tup (fndV f)) := by
  have l1 := t.len
  rw [List.length_map] at l1
  have e1 : ag[j]? = some (ag[j]'(by omega)) := List.getElem?_eq_getElem (by omega)
  have e2 : fs[j]? = some fs[j] := List.getElem?_eq_getElem hj
  obtain ⟨ws, h1, h2⟩ := Paired.get' t e1
  rw [List.getElem?_map, e2] at h1
  cases h1
  exact ⟨_, _, e1, e2, h2⟩
theorem t_at {H : Hp} {at' : List Addr} {ts : List Tie} {j : Nat} (t : Tups H at' (ts.map tieV)) (hj : j < ts.length) : ∃ r u, at'[j]? = some r ∧ ts[j]? = some u ∧ H r = some (.tup (tieV u)) := by
  have l1 := t.len
  rw [List.length_map] at l1
  have e1 : at'[j]? = some (at'[j]'(by omega)) := List.getElem?_eq_getElem (by omega)
  have e2 : ts[j]? = some ts[j] := List.getElem?_eq_getElem hj
  obtain ⟨ws, h1, h2⟩ := Paired.get' t e1
  rw [List.getElem?_map, e2] at h1
  cases h1
  exact ⟨_, _, e1, e2, h2⟩
set_option maxHeartbeats 16000000 in
theorem h__law_gone (T : Tx K mg w C_Dig) : Has P w K mg base "_law_gone" ["_law_dig", "_law_stands", "_law_cell"] 4 (sp_gone61 (C_Dig := C_Dig) (K := K)) := by
  refine T.d__law_gone.has sc__law_gone (fun vs H Q E h => ?_) (fun f cdv A outer s H vs Q E hr h => ?_)
  · obtain ⟨p, pm, du, dt, df, ps, pu, pt', pf, lo, hi, xs, s, n, c, rfl, _⟩ := h; rfl
  · obtain ⟨p, pm, du, dt, df, ps, pu, pt', pf, lo, hi, xs, st, n, c, rfl, O, n3, xnm, k⟩ := h
    refine ⟨_, (pss_cons (ps_asg (pv 1) (pg_tupK K rfl rfl (pgs_cons (pg_name (i := 3) sc__law_gone.nd rfl (Or.inl rfl)) (pgs_cons (pg_name (i := 4) sc__law_gone.nd rfl (Or.inl rfl)) (pgs_cons (pg_name (i := 5) sc__law_gone.nd rfl (Or.inl rfl)) pgs_nil)))))
      (pss_cons (ps_set (i := 6) sc__law_gone.nd rfl (Or.inl rfl) (pe_fn (h__law_part T) (hr.mono (by decide)) (by rfl) (pa_cons (pv 2) (pa_cons pe_int (pa_cons pe_int pa_nil)))))
      (pss_cons (ps_set (i := 7) sc__law_gone.nd rfl (Or.inl rfl) (pe_fn (h__law_free_units T) (hr.mono (by decide)) (by rfl) (pa_cons (pv 3) (pa_cons (pv 4) (pa_cons (pv 5) pa_nil)))))
      (pss_one (ps_if (PW.pt (pw_and (pt_cmpR op_eq (pv 6) pe_int (nomark _)) (pw_and1 (pt_cmpR (op_neDK K rfl (hu10 hr)) (pv 5) (pe_lst pa_nil) (nomark _))))) (pss_cons (ps_set (i := 8) sc__law_gone.nd rfl (Or.inl rfl) (pe_fn (h__law_part T) (hr.mono (by decide)) (by rfl) (pa_cons (pv 2) (pa_cons pe_int (pa_cons (pe_callB (call_len_seqK K rfl) (by rfl) T.len boot_len (pa_cons (pv 5) pa_nil)) pa_nil)))))
        (pss_cons (ps_set (i := 9) sc__law_gone.nd rfl (Or.inl rfl) (pe_ix (ix_listK K rfl) (pv 3) (pe_fn (h__law_part T) (hr.mono (by decide)) (by rfl) (pa_cons (pv 2) (pa_cons pe_int (pa_cons (pe_callB (call_len_seqK K rfl) (by rfl) T.len boot_len (pa_cons (pv 3) pa_nil)) pa_nil)))) (fun _ _ => rfl)))
        (pss_cons (ps_asg (pe_tup (pa_cons (pe_ix (ix_tupK K rfl) (pe_ix (ix_listK K rfl) (pv 5) (pv 8) (fun _ _ => rfl)) pe_int (fun _ _ => rfl)) (pa_cons (pv 9) (pa_cons (pe_ix (ix_tupK K rfl) (pe_ix (ix_listK K rfl) (pv 5) (pv 8) (fun _ _ => rfl)) pe_int (fun _ _ => rfl)) (pa_cons (pe_ix (ix_tupK K rfl) (pe_ix (ix_listK K rfl) (pv 5) (pv 8) (fun _ _ => rfl)) pe_int (fun _ _ => rfl)) pa_nil))))) (pg_sub (pv 5) (pv 8) set_list))
        (pss_one (ps_expr (pe_mth (m_Dig_move_find T) T.cl_Dig (hr.mono (by decide)) (pv 0) (pa_cons (pe_ix (ix_tupK K rfl) (pe_ix (ix_listK K rfl) (pv 5) (pv 8) (fun _ _ => rfl)) pe_int (fun _ _ => rfl)) (pa_cons (pv 9) pa_nil)))))))) (pss_one (ps_if (PW.pt (pw_and (pt_cmpR op_eq (pv 6) pe_int (nomark _)) (pw_and1 (pt_cmpR (op_neDK K rfl (hu10 hr)) (pv 5) (pe_lst pa_nil) (nomark _))))) (pss_one (ps_expr (pe_mth (m_Dig_drop_find T) T.cl_Dig (hr.mono (by decide)) (pv 0) (pa_cons (pe_ix (ix_tupK K rfl) (pe_bmK K rfl PySem.F.plainAttrs_list PySem.F.slot_list_pop PySem.F.type_list_pop mt_popAt (pv 5) (pa_cons (pe_fn (h__law_part T) (hr.mono (by decide)) (by rfl) (pa_cons (pv 2) (pa_cons pe_int (pa_cons (pe_callB (call_len_seqK K rfl) (by rfl) T.len boot_len (pa_cons (pv 5) pa_nil)) pa_nil)))) pa_nil)) pe_int (fun _ _ => rfl)) pa_nil)))) (pss_one (ps_if (PW.pt (pw_and (pt_cmpR op_eq (pv 6) pe_int (nomark _)) (pw_and1 (pt_cmpR (op_neDK K rfl (hu10 hr)) (pv 4) (pe_lst pa_nil) (nomark _))))) (pss_one (ps_expr (pe_mth (m_Dig_drop_tie T) T.cl_Dig (hr.mono (by decide)) (pv 0) (pa_cons (pe_bmK K rfl PySem.F.plainAttrs_list PySem.F.slot_list_pop PySem.F.type_list_pop mt_popAt (pv 4) (pa_cons (pe_fn (h__law_part T) (hr.mono (by decide)) (by rfl) (pa_cons (pv 2) (pa_cons pe_int (pa_cons (pe_callB (call_len_seqK K rfl) (by rfl) T.len boot_len (pa_cons (pv 4) pa_nil)) pa_nil)))) pa_nil)) pa_nil)))) (pss_one (ps_if (pt_cmpR (op_neDK K rfl (hu10 hr)) (pv 7) (pe_lst pa_nil) (nomark _)) (pss_cons (ps_set (i := 10) sc__law_gone.nd rfl (Or.inl rfl) (pe_ix (ix_listK K rfl) (pv 7) (pe_fn (h__law_part T) (hr.mono (by decide)) (by rfl) (pa_cons (pv 2) (pa_cons pe_int (pa_cons (pe_callB (call_len_seqK K rfl) (by rfl) T.len boot_len (pa_cons (pv 7) pa_nil)) pa_nil)))) (fun _ _ => rfl)))
              (pss_cons (ps_expr (pe_bmK K rfl PySem.F.plainAttrs_list PySem.F.slot_list_remove PySem.F.type_list_remove mt_remove (pv 3) (pa_cons (pv 10) pa_nil)))
              (pss_one (ps_expr (pe_mth (m_Dig_drop_unit T) T.cl_Dig (hr.mono (by decide)) (pv 0) (pa_cons (pv 10) pa_nil)))))) pss_nil))))))))))), ?_⟩
    obtain ⟨af, R⟩ := O.dig
    obtain ⟨at', ag, L⟩ := O.ls
    obtain ⟨b1, b2, b3⟩ := O.len
    have lt' := L.tlen
    have lf' := L.flen
    refine ⟨_, rfl, ps, _, rfl, SqT.of O.tup, rfl, _, _, rfl, _, _, rfl, _, _, rfl, rfl, ?_⟩
    try dsimp only [gName]
    refine ⟨_, rfl, _, _, _, rfl, by decide, ?_⟩
    generalize pt c 10 4 = way
    try dsimp only [gName]
    refine ⟨_, rfl, _, rfl, _, rfl, pu, pt', pf, st, at', ag, rfl, L, by omega, by omega, by omega, fun D H1 fD hD s1 => ?_⟩
    obtain ⟨fr, efr⟩ : ∃ fr, fr = st.us.filter fun x => !usedB st.ts st.fs x := ⟨_, rfl⟩
    rw [← efr] at hD
    have L1 := L.same s1
    have R1 := R.same s1
    have O1 := O.same s1
    try dsimp only [gName]
    refine ifS_same (decide (V.int way = V.int 0) && !decide (ag.map V.ref = [])) (fun Q' hQ => ?_) (fun H2 s2 => ?_)
    · refine ⟨_, rfl, rfl, _, rfl, ?_⟩
      generalize decide (V.int way = V.int 0) = w0 at hQ
      cases w0 with
      | false => exact iteF (hQ _ (Same.refl _))
      | true =>
        refine iteT ?_
        exact ⟨_, rfl, by decide, fun e he => ⟨pf, e, _, rfl, rfl, DEq.nilL (SqL.of (Same.new he _ _ L1.f)) (SqL.of upd_same), _, rfl, hQ _ (Same.new he)⟩⟩
    have q2 := s1.trans s2
    have L2 := L1.same s2
    have R2 := R1.same s2
    have O2 := O1.same s2
    refine ite2 (fun c1 => ?_) (fun c1 => ?_)
    · have hag : ag ≠ [] := fun z => by rw [z] at c1; simp at c1
      have lg := List.length_pos_iff.mpr hag
      obtain ⟨j, ej, hj⟩ := ix_part (l := ag.length) (c := c) (k := 1) lg
      obtain ⟨r, f, har, hfj, hr2⟩ := f_at L2.ff (j := j) (by omega)
      have hfu : f.u ∈ st.us := (O.ok.fok f (List.mem_of_getElem? hfj)).u
      have hus : st.us ≠ [] := fun z => by rw [z] at hfu; cases hfu
      obtain ⟨x, hx, ex⟩ := at_part (c := c) (k := 2) hus
      have atj : atI (ag.map V.ref) (j : Int) = some (.ref r) := atI_nat (by rw [List.getElem?_map, har]; rfl)
      refine ⟨_, rfl, _, rfl, pf, _, rfl, .inl (SqL.of L2.f), _, _, _, rfl, by rw [List.length_map]; omega, ?_⟩
      rw [List.length_map, ej]
      try dsimp only [gName]
      refine ⟨_, rfl, _, rfl, _, rfl, pu, _, rfl, .inl (SqL.of L2.u), _, _, _, rfl, by rw [List.length_map]; have := List.length_pos_iff.mpr hus; omega, pu, _, _, _, rfl, rfl, SqL.of L2.u, ex, ?_⟩
      try dsimp only [gName]
      have hf : SqT K H2 r (fndV f) := SqT.of hr2
      refine ⟨_, rfl, _, rfl, pf, _, _, _, rfl, rfl, SqL.of L2.f, atj, r, _, _, _, rfl, rfl, hf, rfl, _, rfl, _, rfl, _, rfl, pf, _, _, _, rfl, rfl, SqL.of L2.f, atj, r, _, _, _, rfl, rfl, hf, rfl, _, rfl, _, rfl, pf, _, _, _, rfl, rfl, SqL.of L2.f, atj, r, _, _, _, rfl, rfl, hf, rfl, by show 4 ≤ sizeLine; decide, fun a ha => ?_⟩
      have t3 := Same.new (o := .tup (fndV ⟨f.n, x, f.lo, f.hi⟩)) ha
      have L3 := L2.same t3
      have R3 := R2.same t3
      have O3 := O2.same t3
      have ea : upd H2 a (.tup (fndV ⟨f.n, x, f.lo, f.hi⟩)) a = some (.tup (fndV ⟨f.n, x, f.lo, f.hi⟩)) := upd_same
      refine ⟨_, rfl, _, rfl, pf, _, _, j, rfl, rfl, L3.f, ixN_nat (by rw [List.length_map]; omega), ?_⟩
      rw [show (ag.map V.ref).set j (V.ref a) = (ag.set j a).map V.ref by rw [List.map_set]]
      have L4 := L3.setF (st.fs.set j ⟨f.n, x, f.lo, f.hi⟩) (ag.set j a) (tups_set L3.ff hfj ea)
      have R4 := R3.lst (ys := (ag.set j a).map V.ref) L3.f
      have ea4 := tup_stay (ys := (ag.set j a).map V.ref) L3.f _ _ ea
      have at4 : atI ((ag.set j a).map V.ref) (j : Int) = some (.ref a) := atI_nat (by rw [List.getElem?_map, List.getElem?_set_self hj]; rfl)
      obtain ⟨dx4, hp4⟩ := R4.ob
      try dsimp only
      refine ⟨_, rfl, p, dx4, _, rfl, hp4, rfl4_no _ _ _ _ (by decide +kernel), _, rfl, _, rfl, pf, _, _, _, rfl, rfl, SqL.of L4.f, at4, a, _, _, _, rfl, rfl, SqT.of ea4, rfl, _, rfl, p, pm, du, dt, df, lo, hi, st.us, st.ts, st.fs, af, f, j, x, rfl, R4, O.ok, hfj, hx, by omega, fun b H5 s5 hb eb => ?_⟩
      have R5 := R4.same s5
      refine k _ ⟨st.us, st.ts, st.fs.set j ⟨f.n, x, f.lo, f.hi⟩⟩ (O3.next xnm (ms := [f.n]) (.move hfj hx) (.move (List.mem_singleton.mpr rfl) (O.sub x hx)) ⟨af.set j b, R5.setF (tups_set R5.ft hfj eb)⟩ ⟨at', ag.set j a, (L4.same s5).dict R5.f .k⟩ ?_) fun b' o e b1 b2 b3 b4 b5 b6 => ?_
      · have h1 := s5 _ _ (tup_stay (ys := (ag.set j a).map V.ref) L3.f _ _ O3.tup)
        rw [upd_ne (ne_of h1 R5.f (fun z => nomatch z))]
        exact h1
      · rw [upd_ne b3]
        refine s5 _ _ ?_
        rw [upd_ne b6]
        exact t3 _ _ (q2 _ _ e)
    refine ifS_same (decide (V.int way = V.int 1) && !decide (ag.map V.ref = [])) (fun Q' hQ => ?_) (fun H3 s3 => ?_)
    · refine ⟨_, rfl, rfl, _, rfl, ?_⟩
      generalize decide (V.int way = V.int 1) = w0 at hQ
      cases w0 with
      | false => exact iteF (hQ _ (Same.refl _))
      | true =>
        refine iteT ?_
        exact ⟨_, rfl, by decide, fun e he => ⟨pf, e, _, rfl, rfl, DEq.nilL (SqL.of (Same.new he _ _ L2.f)) (SqL.of upd_same), _, rfl, hQ _ (Same.new he)⟩⟩
    have q3 := q2.trans s3
    have L3 := L2.same s3
    have R3 := R2.same s3
    have O3 := O2.same s3
    refine ite2 (fun c2 => ?_) (fun c2 => ?_)
    · have hag : ag ≠ [] := fun z => by rw [z] at c2; simp at c2
      have lg := List.length_pos_iff.mpr hag
      obtain ⟨j, ej, hj⟩ := ix_part (l := ag.length) (c := c) (k := 1) lg
      obtain ⟨r, f, har, hfj, hr3⟩ := f_at L3.ff (j := j) (by omega)
      obtain ⟨dx3, hp3⟩ := R3.ob
      refine ⟨_, rfl, p, dx3, _, rfl, hp3, rfl4_no _ _ _ _ (by decide +kernel), _, rfl, .inl ⟨rfl, _, SqL.of L3.f⟩, _, rfl, _, rfl, pf, _, rfl, .inl (SqL.of L3.f), _, _, _, rfl, by rw [List.length_map]; omega, ?_⟩
      rw [List.length_map, ej]
      refine ⟨pf, _, _, j, .ref r, rfl, rfl, L3.f, by omega, by omega, seqI_nat (by rw [List.length_map]; omega), by rw [List.getElem?_map, har]; rfl, ?_⟩
      rw [Dm63.erase_map]
      have L4 := L3.setF (st.fs.eraseIdx j) (ag.eraseIdx j) (tups_erase L3.ff)
      have R4 := R3.lst (ys := (ag.eraseIdx j).map V.ref) L3.f
      have hr4 := tup_stay (ys := (ag.eraseIdx j).map V.ref) L3.f _ _ hr3
      refine ⟨r, _, _, _, rfl, rfl, SqT.of hr4, rfl, p, pm, du, dt, df, lo, hi, st.us, st.ts, st.fs, af, f, j, rfl, R4, O.ok, hfj, ?_⟩
      refine k _ ⟨st.us, st.ts, st.fs.eraseIdx j⟩ (O3.next xnm (ms := [f.n]) (.lose hfj) (.lose (List.mem_singleton.mpr rfl)) ⟨af.eraseIdx j, R4.setF (tups_erase R4.ft)⟩ ⟨at', ag.eraseIdx j, L4.dict R4.f .k⟩ ?_) fun b' o e b1 b2 b3 b4 b5 b6 => ?_
      · have h1 := tup_stay (ys := (ag.eraseIdx j).map V.ref) L3.f _ _ O3.tup
        rw [upd_ne (ne_of h1 R4.f (fun z => nomatch z))]
        exact h1
      · rw [upd_ne b3, upd_ne b6]
        exact q3 _ _ e
    refine ifS_same (decide (V.int way = V.int 2) && !decide (at'.map V.ref = [])) (fun Q' hQ => ?_) (fun H4 s4 => ?_)
    · refine ⟨_, rfl, rfl, _, rfl, ?_⟩
      generalize decide (V.int way = V.int 2) = w0 at hQ
      cases w0 with
      | false => exact iteF (hQ _ (Same.refl _))
      | true =>
        refine iteT ?_
        exact ⟨_, rfl, by decide, fun e he => ⟨pt', e, _, rfl, rfl, DEq.nilL (SqL.of (Same.new he _ _ L3.t)) (SqL.of upd_same), _, rfl, hQ _ (Same.new he)⟩⟩
    have q4 := q3.trans s4
    have L4 := L3.same s4
    have R4 := R3.same s4
    have O4 := O3.same s4
    refine ite2 (fun c3 => ?_) (fun c3 => ?_)
    · have hat : at' ≠ [] := fun z => by rw [z] at c3; simp at c3
      have lg := List.length_pos_iff.mpr hat
      obtain ⟨j, ej, hj⟩ := ix_part (l := at'.length) (c := c) (k := 1) lg
      obtain ⟨r, t, har, htj, hr4⟩ := t_at L4.tt (j := j) (by omega)
      obtain ⟨dx4, hp4⟩ := R4.ob
      refine ⟨_, rfl, p, dx4, _, rfl, hp4, rfl4_no _ _ _ _ (by decide +kernel), _, rfl, .inl ⟨rfl, _, SqL.of L4.t⟩, _, rfl, _, rfl, pt', _, rfl, .inl (SqL.of L4.t), _, _, _, rfl, by rw [List.length_map]; omega, ?_⟩
      rw [List.length_map, ej]
      refine ⟨pt', _, _, j, .ref r, rfl, rfl, L4.t, by omega, by omega, seqI_nat (by rw [List.length_map]; omega), by rw [List.getElem?_map, har]; rfl, ?_⟩
      rw [Dm63.erase_map]
      have L5 := L4.setT (st.ts.eraseIdx j) (at'.eraseIdx j) (tups_erase L4.tt)
      have R5 := R4.lst (ys := (at'.eraseIdx j).map V.ref) L4.t
      have hr5 := tup_stay (ys := (at'.eraseIdx j).map V.ref) L4.t _ _ hr4
      refine ⟨p, pm, du, dt, df, r, lo, hi, st.us, st.ts, st.fs, af, t, j, rfl, R5, O.ok, hr5, htj, ?_⟩
      refine k _ ⟨st.us, st.ts.eraseIdx j, st.fs⟩ (O4.next xnm (ms := []) (.untie htj) (.untie ((O.ok.tok t (List.mem_of_getElem? htj)).mono O.sub)) ⟨af, R5.setT⟩ ⟨at'.eraseIdx j, ag, L5.dict R5.t .t⟩ ?_) fun b' o e b1 b2 b3 b4 b5 b6 => ?_
      · have h1 := tup_stay (ys := (at'.eraseIdx j).map V.ref) L4.t _ _ O4.tup
        rw [upd_ne (ne_of h1 R5.t (fun z => nomatch z))]
        exact h1
      · rw [upd_ne b2, upd_ne b5]
        exact q4 _ _ e
    have hD4 := s4 _ _ (s3 _ _ (s2 _ _ hD))
    refine ifS_same (!decide (fr.map V.str = [])) (fun Q' hQ => ⟨_, rfl, by decide, fun e he => ⟨D, e, _, rfl, rfl, DEq.nilL (SqL.of (Same.new he _ _ hD4)) (SqL.of upd_same), _, rfl, hQ _ (Same.new he)⟩⟩) (fun H5 s5 => ?_)
    have q5 := q4.trans s5
    have L5 := L4.same s5
    have R5 := R4.same s5
    have O5 := O4.same s5
    refine ite2 (fun c4 => ?_) (fun c4 => k _ st (O5.le (by omega)) fun b o e _ _ _ _ _ _ => q5 _ _ e)
    have hfr : fr ≠ [] := fun z => by rw [z] at c4; simp at c4
    obtain ⟨x, hx, ex⟩ := at_part (c := c) (k := 1) hfr
    have hx' : x ∈ st.us ∧ usedB st.ts st.fs x = false := by
      rw [efr] at hx
      have := List.mem_filter.mp hx
      exact ⟨this.1, by simpa using this.2⟩
    have hD5 := s5 _ _ hD4
    refine ⟨_, rfl, _, rfl, _, rfl, D, _, rfl, .inl (SqL.of hD5), _, _, _, rfl, by rw [List.length_map]; have := List.length_pos_iff.mpr hfr; omega, D, _, _, _, rfl, rfl, SqL.of hD5, ex, ?_⟩
    try dsimp only [gName]
    obtain ⟨j, hj, ejx⟩ := List.getElem_of_mem hx'.1
    have hjx : st.us[j]? = some x := by rw [List.getElem?_eq_getElem hj, ejx]
    refine ⟨_, rfl, .inl ⟨rfl, _, SqL.of L5.u⟩, _, rfl, pu, st.us, x, j, rfl, rfl, L5.u, hjx, O.ok.nd, ?_⟩
    have L6 := L5.setU (st.us.eraseIdx j)
    have R6 := R5.lst (ys := (st.us.eraseIdx j).map V.str) L5.u
    obtain ⟨dx6, hp6⟩ := R6.ob
    try dsimp only
    refine ⟨_, rfl, p, dx6, _, rfl, hp6, rfl4_no _ _ _ _ (by decide +kernel), _, rfl, p, pm, du, dt, df, lo, hi, st.us, st.ts, st.fs, af, x, j, rfl, R6, O.ok, by omega, by omega, hjx, hx'.2, fun H7 s7 => ?_⟩
    have R7 := R6.same s7
    refine k _ ⟨st.us.eraseIdx j, st.ts, st.fs⟩ (O5.next xnm (ms := []) (.drop hjx hx'.2) (.drop (O.sub x hx'.1)) ⟨af, R7.setU⟩ ⟨at', ag, (L6.same s7).dict R7.u .k⟩ ?_) fun b' o e b1 b2 b3 b4 b5 b6 => ?_
    · have h1 := s7 _ _ (tup_stay (ys := (st.us.eraseIdx j).map V.str) L5.u _ _ O5.tup)
      rw [upd_ne (ne_of h1 R7.u (fun z => nomatch z))]
      exact h1
    · rw [upd_ne b1]
      refine s7 _ _ ?_
      rw [upd_ne b4]
      exact q5 _ _ e
/-! ### it tells -/
def sp_tells61 : Sp := fun vs H Q _ => ∃ (A : Dg) (B : Lw) (xs : List Str) (s : SD) (n : Nat), vs = [.ref A.p, .ref A.pg, .ref B.ps] ∧ OneA C_Dig K H A B xs s n ∧ ∀ H', Same H H' → Q (.bl true) H'
set_option maxHeartbeats 8000000 in
theorem h__law_tells (T : Tx K mg w C_Dig) : Has P w K mg base "_law_tells" ["_law_dig", "_law_frame", "_law_stands"] 2 (sp_tells61 (C_Dig := C_Dig) (K := K)) := by
  refine T.d__law_tells.has sc__law_tells (fun vs H Q E h => ?_) (fun f cdv A outer s H vs Q E hr h => ?_)
  · obtain ⟨A', B, xs, s, n, rfl, _⟩ := h; rfl
  · obtain ⟨A', B, xs, st, n, rfl, O, k⟩ := h
    refine ⟨_, (pss_cons (ps_set (i := 3) sc__law_tells.nd rfl (Or.inl rfl) (pe_mth0 (m_Dig_telling T) T.cl_Dig (hr.mono (by decide)) (pv 0)))
      (pss_cons (ps_if (PW.pt (pw_or (pt_not (pt_val (pe_callB (call_isiK K rfl) (by rfl) T.isinstance PyProof.Rows.boot_isinstance (pa_cons (pv 3) (pa_cons (pe_bltn (v := .ty "tuple") (by rfl) T.tuple PyProof.Rows.boot_tuple rfl) pa_nil))))) (pw_or (pt_cmpR op_ne (pe_callB (call_len_seqK K rfl) (by rfl) T.len boot_len (pa_cons (pv 3) pa_nil)) pe_int (nomark _)) (pw_or1 (pt_not (pt_val (pe_callB (call_isiK K rfl) (by rfl) T.isinstance PyProof.Rows.boot_isinstance (pa_cons (pe_ix (ix_tupK K rfl) (pv 3) pe_int (fun _ _ => rfl)) (pa_cons (pe_bltn (v := .ty "tuple") (by rfl) T.tuple PyProof.Rows.boot_tuple rfl) pa_nil))))))))) (pss_one (ps_ret pe_bl)) pss_nil)
      (pss_one (ps_ret (pe_cmpR (op_eqDK K rfl (hu10 hr)) (pv 3) (pe_tup (pa_cons (pv 1) (pa_cons (pe_ix (ix_tupK K rfl) (pv 2) pe_int (fun _ _ => rfl)) (pa_cons (pe_ix (ix_tupK K rfl) (pv 2) pe_int (fun _ _ => rfl)) (pa_cons (pe_ix (ix_tupK K rfl) (pv 2) pe_int (fun _ _ => rfl)) pa_nil))))) (nomark _)))))), ?_⟩
    obtain ⟨af, R⟩ := O.1.dig
    obtain ⟨at', ag, L⟩ := O.1.ls
    obtain ⟨dx, hp⟩ := R.ob
    refine ⟨_, rfl, A'.p, dx, _, rfl, hp, rfl4_no _ _ _ _ (by decide +kernel), A'.p, A'.pm, A'.du, A'.dt, A'.df, A'.lo, A'.hi, st.us, st.ts, st.fs, af, rfl, R, O.1.ok, fun tl a1 a2 a3 at3 H1 ftl f1 f2 f3 htl ha1 ha2 tt2 ha3 n1 n2 n3 s1 => ?_⟩
    have L1 := L.same s1
    have R1 := R.same s1
    have O1 := O.same s1
    try dsimp only [gName]
    refine ifS_same false (fun Q' hQ => ?_) (fun H2 s2 => iteF ?_)
    · refine ⟨_, rfl, _, _, _, true, rfl, .tup htl, rfl, _, rfl, iteF ?_⟩
      refine ⟨_, rfl, tl, _, rfl, .inr (SqT.of htl), rfl, false, congrArg V.bl (show (!decide (V.int 4 = V.int 4)) = false by decide +kernel), iteF ?_⟩
      exact ⟨_, rfl, tl, _, _, _, rfl, rfl, SqT.of htl, rfl, _, _, _, true, rfl, .tup R1.m, rfl, _, rfl, hQ _ (Same.refl _)⟩
    try unfold tNext
    try dsimp only
    have L2 := L1.same s2
    have R2 := R1.same s2
    have O2 := O1.same s2
    have hps := O2.1.tup
    refine ⟨_, rfl, _, rfl, _, rfl, B.ps, _, _, _, rfl, rfl, SqT.of hps, rfl, _, rfl, B.ps, _, _, _, rfl, rfl, SqT.of hps, rfl, _, rfl, B.ps, _, _, _, rfl, rfl, SqT.of hps, rfl, by show 4 ≤ sizeLine; decide, fun g2 hg2 => ?_⟩
    have t3 := Same.new (o := .tup [.ref A'.pg, .ref B.pu, .ref B.pt, .ref B.pf]) hg2
    have q3 := s2.trans t3
    refine ⟨tl, g2, true, rfl, rfl, tell62 (q3 _ _ htl) upd_same (q3 _ _ R1.m) (t3 _ _ O2.2) (q3 _ _ ha1) (q3 _ _ ha2) (tt2.same q3) (q3 _ _ ha3) (R2.ft.same t3) (L2.same t3) O.1.ok, ?_⟩
    exact k _ (s1.trans q3)
/-! ### the law -/
def kLaw : Nat := 6
def sp_law : Sp := fun vs H Q _ => ∃ (a : Addr) (ns : List Int), vs = [.ref a] ∧ SqL K H a (ns.map V.int) ∧ ns.length ≤ 63 ∧ ∀ H', Q (.bl true) H'
def Off (b : Addr) (B0 B1 : Lw) : Prop := b ≠ B0.pu ∧ b ≠ B0.pt ∧ b ≠ B0.pf ∧ b ≠ B1.pu ∧ b ≠ B1.pt ∧ b ≠ B1.pf
set_option maxHeartbeats 16000000 in
theorem h_law (T : Tx K mg w C_Dig) : Has P w K mg base "law" ["_law_script"] kLaw (sp_law (K := K)) := by
  refine T.d_law.has sc_law (fun vs H Q E h => ?_) (fun f cdv A outer s H vs Q E hr h => ?_)
  · obtain ⟨a, ns, rfl, _⟩ := h; rfl
  · obtain ⟨a, ns, rfl, ha, hl, k⟩ := h
    refine ⟨_, (pss_cons (ps_set (i := 1) sc_law.nd rfl (Or.inl rfl) (pe_fn (h__law_names T) (hr.mono (by decide)) (by rfl) (pa_cons (pe_fn (h__law_cell_at T) (hr.mono (by decide)) (by rfl) (pa_cons (pv 0) (pa_cons pe_int pa_nil))) (pa_cons (pe_fn (h__law_cell_at T) (hr.mono (by decide)) (by rfl) (pa_cons (pv 0) (pa_cons pe_int pa_nil))) (pa_cons pe_int pa_nil)))))
      (pss_cons (ps_set (i := 2) sc_law.nd rfl (Or.inl rfl) (pe_fn (h__law_names T) (hr.mono (by decide)) (by rfl) (pa_cons (pe_fn (h__law_cell_at T) (hr.mono (by decide)) (by rfl) (pa_cons (pv 0) (pa_cons pe_int pa_nil))) (pa_cons (pe_fn (h__law_cell_at T) (hr.mono (by decide)) (by rfl) (pa_cons (pv 0) (pa_cons pe_int pa_nil))) (pa_cons pe_int pa_nil)))))
      (pss_cons (ps_set (i := 3) sc_law.nd rfl (Or.inl rfl) (pe_lst pa_nil))
      (pss_cons (ps_set (i := 4) sc_law.nd rfl (Or.inl rfl) (pe_lst pa_nil))
      (pss_cons (ps_for PassesOwn.never rfl (pi_range1 (by rfl) T.range (pa_cons pe_int pa_nil)) (pg_name (i := 5) sc_law.nd rfl (Or.inl rfl)) (pss_cons (ps_set (i := 6) sc_law.nd rfl (Or.inl rfl) (pe_fn (h__law_years T) (hr.mono (by decide)) (by rfl) (pa_cons (pe_op op_add (pe_fn (h__law_cell_at T) (hr.mono (by decide)) (by rfl) (pa_cons (pv 0) (pa_cons pe_int pa_nil))) (pv 5)) (pa_cons pe_int pa_nil))))
        (pss_cons (ps_expr (pe_bmK K rfl PySem.F.plainAttrs_list PySem.F.slot_list_append PySem.F.type_list_append mt_append (pv 3) (pa_cons (pe_tup (pa_cons (pe_ix (ix_listK K rfl) (pv 6) pe_int (fun _ _ => rfl)) (pa_cons (pe_ix (ix_listK K rfl) (pv 6) pe_int (fun _ _ => rfl)) pa_nil))) pa_nil)))
        (pss_one (ps_expr (pe_bmK K rfl PySem.F.plainAttrs_list PySem.F.slot_list_append PySem.F.type_list_append mt_append (pv 4) (pa_cons (pe_newA (m_Dig___init__ T) T.mk_Dig T.kp_Dig (hr.mono (by decide)) (by rfl) T.mg_Dig (pa_cons (pe_ix (ix_listK K rfl) (pv 6) pe_int (fun _ _ => rfl)) (pa_cons (pe_ix (ix_listK K rfl) (pv 6) pe_int (fun _ _ => rfl)) pa_nil))) pa_nil)))))))
      (pss_cons (ps_set (i := 7) sc_law.nd rfl (Or.inl rfl) (pe_lst (pa_cons (pe_tup (pa_cons (pe_lst pa_nil) (pa_cons (pe_lst pa_nil) (pa_cons (pe_lst pa_nil) pa_nil)))) (pa_cons (pe_tup (pa_cons (pe_lst pa_nil) (pa_cons (pe_lst pa_nil) (pa_cons (pe_lst pa_nil) pa_nil)))) pa_nil))))
      (pss_cons (ps_for PassesOwn.never rfl (pi_listK K rfl (pe_slice (sl_listK K rfl) (pv 0) (po_some pe_int) (po_some pe_int))) (pg_name (i := 8) sc_law.nd rfl (Or.inl rfl)) (pss_cons (ps_set (i := 5) sc_law.nd rfl (Or.inl rfl) (pe_fn (h__law_part T) (hr.mono (by decide)) (by rfl) (pa_cons (pv 8) (pa_cons pe_int (pa_cons pe_int pa_nil)))))
        (pss_cons (ps_if (pt_cmpR op_lt (pe_fn (h__law_part T) (hr.mono (by decide)) (by rfl) (pa_cons (pv 8) (pa_cons pe_int (pa_cons pe_int pa_nil)))) pe_int (nomark _)) (pss_one (ps_expr (pe_fn (h__law_new T) (hr.mono (by decide)) (by rfl) (pa_cons (pe_ix (ix_listK K rfl) (pv 4) (pv 5) (fun _ _ => rfl)) (pa_cons (pe_ix (ix_listK K rfl) (pv 7) (pv 5) (fun _ _ => rfl)) (pa_cons (pv 1) (pa_cons (pv 2) (pa_cons (pv 8) pa_nil)))))))) (pss_one (ps_expr (pe_fn (h__law_gone T) (hr.mono (by decide)) (by rfl) (pa_cons (pe_ix (ix_listK K rfl) (pv 4) (pv 5) (fun _ _ => rfl)) (pa_cons (pe_ix (ix_listK K rfl) (pv 7) (pv 5) (fun _ _ => rfl)) (pa_cons (pv 8) pa_nil)))))))
        (pss_one (ps_if (pt_not (pt_val (pe_fn (h__law_tells T) (hr.mono (by decide)) (by rfl) (pa_cons (pe_ix (ix_listK K rfl) (pv 4) (pv 5) (fun _ _ => rfl)) (pa_cons (pe_ix (ix_listK K rfl) (pv 3) (pv 5) (fun _ _ => rfl)) (pa_cons (pe_ix (ix_listK K rfl) (pv 7) (pv 5) (fun _ _ => rfl)) pa_nil)))))) (pss_one (ps_ret pe_bl)) pss_nil)))))
      (pss_one (ps_ret (pe_and (pe_fn (h__law_tells T) (hr.mono (by decide)) (by rfl) (pa_cons (pe_ix (ix_listK K rfl) (pv 4) pe_int (fun _ _ => rfl)) (pa_cons (pe_ix (ix_listK K rfl) (pv 3) pe_int (fun _ _ => rfl)) (pa_cons (pe_ix (ix_listK K rfl) (pv 7) pe_int (fun _ _ => rfl)) pa_nil)))) (pe_one (pe_fn (h__law_tells T) (hr.mono (by decide)) (by rfl) (pa_cons (pe_ix (ix_listK K rfl) (pv 4) pe_int (fun _ _ => rfl)) (pa_cons (pe_ix (ix_listK K rfl) (pv 3) pe_int (fun _ _ => rfl)) (pa_cons (pe_ix (ix_listK K rfl) (pv 7) pe_int (fun _ _ => rfl)) pa_nil))))))))))))))), ?_⟩
    refine ⟨_, rfl, a, ns, _, rfl, ha, by decide, _, rfl, a, ns, _, rfl, ha, by decide, _, _, 7, rfl, by decide, fun pn xs H1 x7 xnd xnm fpn hn s1 => ?_⟩
    try dsimp only [gName]
    refine ⟨_, rfl, a, ns, _, rfl, s1.seq ha, by decide, _, rfl, a, ns, _, rfl, s1.seq ha, by decide, _, _, 7, rfl, by decide, fun pk ms H2 m7 mnd mnm fpk hk s2 => ?_⟩
    have q2 := s1.trans s2
    try dsimp only [gName]
    refine ⟨by decide, fun pfr hpfr => ?_⟩
    have t1 := Same.new (o := .lst []) hpfr
    try dsimp only [gName]
    refine ⟨by decide, fun pdg hpdg => ?_⟩
    have t2 := Same.new (o := .lst []) hpdg
    have nfd : pfr ≠ pdg := ne_of_none upd_same hpdg
    have fdg : H2 pdg = none := t1.free hpdg
    try dsimp only [gName]
    refine ⟨2, rfl, by decide, by decide, for_range (lo := 0) (n := 2) (fun i σ H' => ∃ (v5 v6 : Option V) (ds : List Dg), σ = [some (.ref a), some (.ref pn), some (.ref pk), some (.ref pfr), some (.ref pdg), v5, v6, none, none] ∧ ds.length = i ∧ H' pfr = some (.lst (ds.map fun d => V.ref d.pg)) ∧ H' pdg = some (.lst (ds.map fun d => V.ref d.p)) ∧
      (∀ d ∈ ds, DigAt C_Dig H' d.p d.pm d.du d.dt d.df d.lo d.hi [] [] [] [] ∧ H' d.pg = some (.tup [.int d.lo, .int d.hi])) ∧ ds.Pairwise DAp ∧ Same H2 H')
      ⟨none, none, [], rfl, rfl, t2 _ _ upd_same, upd_same, by simp, .nil, t1.trans t2⟩ ?_ ?_⟩
    · rintro i σ H3 hi ⟨v5, v6, ds, rfl, ld, hfr, hdg, hds, pw, s3⟩
      have q3 := q2.trans s3
      try dsimp only [gName]
      refine ⟨_, rfl, a, ns, _, rfl, q3.seq ha, by decide, _, rfl, _, _, rfl, rfl, _, _, rfl, fun py lo hi H4 hlh y1 y2 fpy hpy s4 => ?_⟩
      have hfr4 := s4 _ _ hfr
      have hdg4 := s4 _ _ hdg
      try dsimp only [gName]
      refine ⟨_, rfl, .inl ⟨rfl, _, SqL.of hfr4⟩, _, rfl, py, _, _, _, rfl, rfl, SqL.of hpy, rfl, _, rfl, py, _, _, _, rfl, rfl, SqL.of hpy, rfl, by show 2 ≤ sizeLine; decide, fun pg hpg => ?_⟩
      have t5 := Same.new (o := .tup [.int lo, .int hi]) hpg
      have hfr5 := t5 _ _ hfr4
      have hdg5 := t5 _ _ hdg4
      have hpy5 := t5 _ _ hpy
      have epg : upd H4 pg (.tup [.int lo, .int hi]) pg = some (.tup [.int lo, .int hi]) := upd_same
      have q5 := s4.trans t5
      generalize upd H4 pg (.tup [.int lo, .int hi]) = H5 at t5 hfr5 hdg5 hpy5 epg q5
      refine ⟨pfr, _, _, rfl, rfl, hfr5, by rw [List.length_map]; exact small1000 (by omega), ?_⟩
      have nyf : py ≠ pfr := fun z => by rw [z, hfr] at fpy; cases fpy
      have nyd : py ≠ pdg := fun z => by rw [z, hdg] at fpy; cases fpy
      have hpy6 : upd H5 pfr (.lst (ds.map (fun d => V.ref d.pg) ++ [.ref pg])) py = some (.lst [.int lo, .int hi]) := by rw [upd_ne nyf]; exact hpy5
      have hdg6 : upd H5 pfr (.lst (ds.map (fun d => V.ref d.pg) ++ [.ref pg])) pdg = some (.lst (ds.map fun d => V.ref d.p)) := by rw [upd_ne nfd.symm]; exact hdg5
      have hfr6 : upd H5 pfr (.lst (ds.map (fun d => V.ref d.pg) ++ [.ref pg])) pfr = some (.lst (ds.map (fun d => V.ref d.pg) ++ [.ref pg])) := upd_same
      have epg6 := tup_stay (ys := ds.map (fun d => V.ref d.pg) ++ [.ref pg]) hfr5 _ _ epg
      have hds6 : ∀ d ∈ ds, DigAt C_Dig (upd H5 pfr (.lst (ds.map (fun d => V.ref d.pg) ++ [.ref pg]))) d.p d.pm d.du d.dt d.df d.lo d.hi [] [] [] [] ∧ upd H5 pfr (.lst (ds.map (fun d => V.ref d.pg) ++ [.ref pg])) d.pg = some (.tup [.int d.lo, .int d.hi]) := fun d hd => by
        obtain ⟨h1, h2⟩ := hds d hd
        exact ⟨(h1.same q5).lst hfr5, tup_stay hfr5 _ _ (q5 _ _ h2)⟩
      have s6 : Same H2 (upd H5 pfr (.lst (ds.map (fun d => V.ref d.pg) ++ [.ref pg]))) := (s3.trans q5).upd hpfr
      generalize upd H5 pfr (.lst (ds.map (fun d => V.ref d.pg) ++ [.ref pg])) = H6 at hpy6 hdg6 hfr6 epg6 hds6 s6
      try dsimp only
      refine ⟨_, rfl, .inl ⟨rfl, _, SqL.of hdg6⟩, _, rfl, py, _, _, _, rfl, rfl, SqL.of hpy6, rfl, _, rfl, py, _, _, _, rfl, rfl, SqL.of hpy6, rfl, ?_⟩
      intro p dx hp0 hdx npx
      have s7 : Same H6 (upd (upd H6 dx (.own p)) p (.ins C_Dig dx [])) := fun b o e => by
        rw [upd_ne (ne_of_none e hp0), upd_ne (ne_of_none e hdx)]; exact e
      refine ⟨p, dx, lo, hi, rfl, upd_same, fun pm du dt df H7 f1 f2 f3 R7 kp => ⟨rfl, ?_⟩⟩
      have s8 : Same H6 H7 := fun b o e => kp b o (s7 b o e) (ne_of_none e hp0)
      have fu := s7.free f1
      have ft := s7.free f2
      have ff := s7.free f3
      have hdg7 := s8 _ _ hdg6
      refine ⟨pdg, _, _, rfl, rfl, hdg7, by rw [List.length_map]; exact small1000 (by omega), ?_⟩
      refine ⟨_, _, ds ++ [⟨p, pm, pg, du, dt, df, lo, hi⟩], rfl, by rw [List.length_append, ld]; rfl, ?_, ?_, fun d hd => ?_, ?_, (s6.trans s8).upd fdg⟩
      · rw [upd_ne nfd, List.map_append]
        exact s8 _ _ hfr6
      · rw [upd_same, List.map_append]
        rfl
      · rcases List.mem_append.mp hd with hd | hd
        · obtain ⟨h1, h2⟩ := hds6 d hd
          exact ⟨(h1.same s8).lst hdg7, tup_stay hdg7 _ _ (s8 _ _ h2)⟩
        · have : d = ⟨p, pm, pg, du, dt, df, lo, hi⟩ := by simpa using hd
          subst this
          exact ⟨R7.lst hdg7, tup_stay hdg7 _ _ (s8 _ _ epg6)⟩
      · rw [List.pairwise_append]
        refine ⟨pw, List.pairwise_singleton _ _, fun d hd e he => ?_⟩
        have : e = ⟨p, pm, pg, du, dt, df, lo, hi⟩ := by simpa using he
        subst this
        obtain ⟨h1, _⟩ := hds6 d hd
        exact ⟨ne_of_none h1.u fu, ne_of_none h1.u ff, ne_of_none h1.f fu, ne_of_none h1.f ff, ne_of_none h1.t ft⟩
    rintro σ H3 ⟨v5, v6, ds, rfl, ld, hfr, hdg, hds, pw, s3⟩
    obtain ⟨A0, A1, rfl⟩ : ∃ A0 A1, ds = [A0, A1] := by
      match ds, ld with
      | [x, y], _ => exact ⟨x, y, rfl⟩
    obtain ⟨R0, g0⟩ := hds A0 (by simp)
    obtain ⟨R1, g1⟩ := hds A1 (by simp)
    have dap : DAp A0 A1 := by
      have := List.rel_of_pairwise_cons pw (a' := A1) (by simp)
      exact this
    have hn3 := s3 _ _ (s2 _ _ hn)
    have hk3 := s3 _ _ hk
    have q3 := q2.trans s3
    try dsimp only [gName]
    refine ⟨by decide, fun u0 hu0 => ?_⟩
    have w1 := Same.new (o := .lst []) hu0
    refine ⟨by decide, fun t0 ht0 => ?_⟩
    have w2 := Same.new (o := .lst []) ht0
    refine ⟨by decide, fun f0 hf0 => ?_⟩
    have w3 := Same.new (o := .lst []) hf0
    refine ⟨by show 3 ≤ sizeLine; decide, fun ps0 hps0 => ?_⟩
    have w4 := Same.new (o := .tup [.ref u0, .ref t0, .ref f0]) hps0
    refine ⟨by decide, fun u1 hu1 => ?_⟩
    have w5 := Same.new (o := .lst []) hu1
    refine ⟨by decide, fun t1' ht1 => ?_⟩
    have w6 := Same.new (o := .lst []) ht1
    refine ⟨by decide, fun f1 hf1 => ?_⟩
    have w7 := Same.new (o := .lst []) hf1
    refine ⟨by show 3 ≤ sizeLine; decide, fun ps1 hps1 => ?_⟩
    have w8 := Same.new (o := .tup [.ref u1, .ref t1', .ref f1]) hps1
    refine ⟨by show 2 ≤ sizeLine; decide, fun pst hpst => ?_⟩
    have w9 := Same.new (o := .lst [.ref ps0, .ref ps1]) hpst
    have w58 := w5.trans (w6.trans (w7.trans w8))
    have w49 := w4.trans (w58.trans w9)
    have w39 := w3.trans w49
    have w29 := w2.trans w39
    have w19 := w1.trans w29
    have eu0 := w29 _ _ (upd_same (H := H3) (a := u0) (o := .lst []))
    have et0 := w39 _ _ (upd_same (H := upd H3 u0 (.lst [])) (a := t0) (o := .lst []))
    have ef0 := w49 _ _ (upd_same (H := upd (upd H3 u0 (.lst [])) t0 (.lst [])) (a := f0) (o := .lst []))
    have ep0 := (w58.trans w9) _ _ (upd_same (H := upd (upd (upd H3 u0 (.lst [])) t0 (.lst [])) f0 (.lst [])) (a := ps0) (o := .tup [.ref u0, .ref t0, .ref f0]))
    have eu1 := (w6.trans (w7.trans (w8.trans w9))) _ _ (upd_same (H := upd (upd (upd (upd H3 u0 (.lst [])) t0 (.lst [])) f0 (.lst [])) ps0 (.tup [.ref u0, .ref t0, .ref f0])) (a := u1) (o := .lst []))
    have et1 := (w7.trans (w8.trans w9)) _ _ (upd_same (H := upd (upd (upd (upd (upd H3 u0 (.lst [])) t0 (.lst [])) f0 (.lst [])) ps0 (.tup [.ref u0, .ref t0, .ref f0])) u1 (.lst [])) (a := t1') (o := .lst []))
    have ef1 := (w8.trans w9) _ _ (upd_same (H := upd (upd (upd (upd (upd (upd H3 u0 (.lst [])) t0 (.lst [])) f0 (.lst [])) ps0 (.tup [.ref u0, .ref t0, .ref f0])) u1 (.lst [])) t1' (.lst [])) (a := f1) (o := .lst []))
    have ep1 := w9 _ _ (upd_same (H := upd (upd (upd (upd (upd (upd (upd H3 u0 (.lst [])) t0 (.lst [])) f0 (.lst [])) ps0 (.tup [.ref u0, .ref t0, .ref f0])) u1 (.lst [])) t1' (.lst [])) f1 (.lst [])) (a := ps1) (o := .tup [.ref u1, .ref t1', .ref f1]))
    have n01 : u0 ≠ t0 := ne_of_none upd_same ht0
    have n02 : u0 ≠ f0 := ne_of_none (w2 _ _ upd_same) hf0
    have n03 : t0 ≠ f0 := ne_of_none upd_same hf0
    have n11 : u1 ≠ t1' := ne_of_none upd_same ht1
    have n12 : u1 ≠ f1 := ne_of_none (w6 _ _ upd_same) hf1
    have n13 : t1' ≠ f1 := ne_of_none upd_same hf1
    have fu0 : H3 u0 = none := hu0
    have ft0 : H3 t0 = none := w1.free ht0
    have ff0 : H3 f0 = none := (w1.trans w2).free hf0
    have w14 := w1.trans (w2.trans (w3.trans w4))
    have fu1 : H3 u1 = none := w14.free hu1
    have ft1 : H3 t1' = none := (w14.trans w5).free ht1
    have ff1 : H3 f1 = none := (w14.trans (w5.trans w6)).free hf1
    have c0 : ∀ b, (upd (upd (upd (upd H3 u0 (.lst [])) t0 (.lst [])) f0 (.lst [])) ps0 (.tup [.ref u0, .ref t0, .ref f0])) b = none → u0 ≠ b ∧ t0 ≠ b ∧ f0 ≠ b := fun b hb => ⟨ne_of_none ((w2.trans (w3.trans w4)) _ _ (upd_same (H := H3) (a := u0) (o := .lst []))) hb, ne_of_none ((w3.trans w4) _ _ (upd_same (H := upd H3 u0 (.lst [])) (a := t0) (o := .lst []))) hb, ne_of_none (w4 _ _ (upd_same (H := upd (upd H3 u0 (.lst [])) t0 (.lst [])) (a := f0) (o := .lst []))) hb⟩
    have k1 := c0 u1 hu1
    have k2 := c0 t1' (w5.free ht1)
    have k3 := c0 f1 ((w5.trans w6).free hf1)
    obtain ⟨B0, eB0⟩ : ∃ B : Lw, B = ⟨ps0, u0, t0, f0⟩ := ⟨_, rfl⟩
    obtain ⟨B1, eB1⟩ : ∃ B : Lw, B = ⟨ps1, u1, t1', f1⟩ := ⟨_, rfl⟩
    have lap : LAp B0 B1 := by
      rw [eB0, eB1]
      exact ⟨⟨k1.1, k2.1, k3.1⟩, ⟨k1.2.1, k2.2.1, k3.2.1⟩, k1.2.2, k2.2.2, k3.2.2⟩
    have old : ∀ b o, H3 b = some o → Off b B0 B1 := fun b o e => by
      rw [eB0, eB1]
      exact ⟨ne_of_none e fu0, ne_of_none e ft0, ne_of_none e ff0, ne_of_none e fu1, ne_of_none e ft1, ne_of_none e ff1⟩
    have nl1 := old _ _ hn3
    have nl2 := old _ _ hk3
    have nl3 := old _ _ hfr
    have nl4 := old _ _ hdg
    have est := upd_same (H := upd (upd (upd (upd (upd (upd (upd (upd H3 u0 (.lst [])) t0 (.lst [])) f0 (.lst [])) ps0 (.tup [.ref u0, .ref t0, .ref f0])) u1 (.lst [])) t1' (.lst [])) f1 (.lst [])) ps1 (.tup [.ref u1, .ref t1', .ref f1])) (a := pst) (o := .lst [.ref ps0, .ref ps1])
    have nl5 : Off pst B0 B1 := by
      rw [eB0, eB1]
      have w28 := w2.trans (w3.trans (w4.trans w58))
      have w38 := w3.trans (w4.trans w58)
      have w48 := w4.trans w58
      exact ⟨(ne_of_none (w28 _ _ (upd_same (H := H3) (a := u0) (o := .lst []))) hpst).symm, (ne_of_none (w38 _ _ (upd_same (H := upd H3 u0 (.lst [])) (a := t0) (o := .lst []))) hpst).symm, (ne_of_none (w48 _ _ (upd_same (H := upd (upd H3 u0 (.lst [])) t0 (.lst [])) (a := f0) (o := .lst []))) hpst).symm,
        (ne_of_none ((w6.trans (w7.trans w8)) _ _ upd_same) hpst).symm, (ne_of_none ((w7.trans w8) _ _ upd_same) hpst).symm, (ne_of_none (w8 _ _ upd_same) hpst).symm⟩
    have emp : DigOk [] [] [] := ⟨by simp, by simp, by simp, by simp, by simp, by simp⟩
    have O0 : OneA C_Dig K _ A0 B0 xs ⟨[], [], []⟩ 0 := ⟨⟨⟨[], R0.same w19⟩, ⟨[], [], by rw [eB0]; exact ⟨eu0, et0, .nil, ef0, .nil, n01, n02, n03⟩⟩, by rw [eB0]; exact ep0, emp, by simp, ⟨Nat.le_refl _, Nat.le_refl _, Nat.le_refl _⟩⟩, w19 _ _ g0⟩
    have O1 : OneA C_Dig K _ A1 B1 xs ⟨[], [], []⟩ 0 := ⟨⟨⟨[], R1.same w19⟩, ⟨[], [], by rw [eB1]; exact ⟨eu1, et1, .nil, ef1, .nil, n11, n12, n13⟩⟩, by rw [eB1]; exact ep1, emp, by simp, ⟨Nat.le_refl _, Nat.le_refl _, Nat.le_refl _⟩⟩, w19 _ _ g1⟩
    have hn5 := w19 _ _ hn3
    have hk5 := w19 _ _ hk3
    have hfr5 := w19 _ _ hfr
    have hdg5 := w19 _ _ hdg
    have q5 := q3.trans w19
    have est' := est.trans (show some (HO.lst [V.ref ps0, V.ref ps1]) = some (HO.lst [V.ref B0.ps, V.ref B1.ps]) by rw [eB0, eB1])
    generalize upd (upd (upd (upd (upd (upd (upd (upd (upd H3 u0 (.lst [])) t0 (.lst [])) f0 (.lst [])) ps0 (.tup [.ref u0, .ref t0, .ref f0])) u1 (.lst [])) t1' (.lst [])) f1 (.lst [])) ps1 (.tup [.ref u1, .ref t1', .ref f1])) pst (.lst [.ref ps0, .ref ps1]) = H5 at O0 O1 hn5 hk5 hfr5 hdg5 q5 est'
    clear w1 w2 w3 w4 w5 w6 w7 w8 w9 w58 w49 w39 w29 w19 w14 c0 eu0 et0 ef0 ep0 eu1 et1 ef1 ep1 est old
    try dsimp only [gName]
    obtain ⟨cs, ec, lc⟩ := cutV_ints ns (some 5) (some 63)
    refine ⟨_, rfl, _, rfl, _, rfl, a, _, rfl, q5.seq ha, fun pc hpc => ?_⟩
    rw [ec]
    have t6 := Same.new (o := .lst (cs.map V.int)) hpc
    have nl6 : Off pc B0 B1 := by
      obtain ⟨_, _, L0⟩ := O0.1.ls
      obtain ⟨_, _, L1⟩ := O1.1.ls
      exact ⟨(ne_of_none L0.u hpc).symm, (ne_of_none L0.t hpc).symm, (ne_of_none L0.f hpc).symm, (ne_of_none L1.u hpc).symm, (ne_of_none L1.t hpc).symm, (ne_of_none L1.f hpc).symm⟩
    refine ⟨pc, rfl, ⟨_, SqL.of upd_same⟩, for_list (K := K) (a := pc) (xs := cs.map V.int) (fun i σ H' => ∃ (v5 v8 : Option V) (S0 S1 : SD), σ = [some (.ref a), some (.ref pn), some (.ref pk), some (.ref pfr), some (.ref pdg), v5, v6, some (.ref pst), v8] ∧ OneA C_Dig K H' A0 B0 xs S0 i ∧ OneA C_Dig K H' A1 B1 xs S1 i ∧ H' pn = some (.lst (xs.map V.str)) ∧ H' pk = some (.lst (ms.map V.str)) ∧ H' pfr = some (.lst [.ref A0.pg, .ref A1.pg]) ∧ H' pdg = some (.lst [.ref A0.p, .ref A1.p]) ∧ H' pst = some (.lst [.ref B0.ps, .ref B1.ps]) ∧ H' pc = some (.lst (cs.map V.int)))
      ⟨_, none, _, _, rfl, O0.same t6, O1.same t6, t6 _ _ hn5, t6 _ _ hk5, t6 _ _ hfr5, t6 _ _ hdg5, t6 _ _ est', upd_same⟩ (fun i σ H' _ h => by obtain ⟨_, _, _, _, _, _, _, _, _, _, _, _, h⟩ := h; exact SqL.of h) ?_ ?_⟩
    · clear O0 O1 hn5 hk5 hfr5 hdg5 t6
      rintro i v σ H7 hx ⟨v5', v8, S0, S1, rfl, O0, O1, hn7, hk7, hfr7, hdg7, hst7, hpc7⟩
      have hi' := get_lt hx
      rw [List.length_map] at hi'
      obtain ⟨c, rfl⟩ : ∃ z, v = V.int z := by
        rw [List.getElem?_map, List.getElem?_eq_getElem hi'] at hx
        exact ⟨_, (Option.some.inj hx).symm⟩
      try dsimp only [gName]
      refine ⟨_, rfl, _, _, _, rfl, by decide, ?_⟩
      obtain ⟨b1, b2⟩ := pt_bd c 12 2 (by decide)
      have hk2 : pt c 12 2 = 0 ∨ pt c 12 2 = 1 := by omega
      try dsimp only [gName]
      rcases hk2 with hk2 | hk2
      · rw [hk2]
        refine ⟨_, rfl, _, _, _, rfl, by decide, _, _, rfl, rfl, _, rfl, ?_⟩
        have t7 : Same H7 H7 := Same.refl _
        obtain ⟨af7, R7⟩ := O0.1.dig
        obtain ⟨at7, ag7, L7⟩ := O0.1.ls
        refine ite2 (fun c1 => ?_) (fun c1 => ?_)
        · refine ⟨_, rfl, _, rfl, pdg, _, _, _, rfl, rfl, SqL.of hdg7, rfl, _, rfl, _, rfl, pst, _, _, _, rfl, rfl, SqL.of hst7, rfl, _, rfl, _, rfl, _, rfl, A0.p, A0.pm, A0.du, A0.dt, A0.df, B0.ps, B0.pu, B0.pt, B0.pf, pn, pk, A0.lo, A0.hi, xs, ms, S0, i, c, rfl, O0.1, by omega, SqL.of hn7, SqL.of hk7, x7, m7, xnm, mnm, fun H8 s' O8' kp8 => ?_⟩
          have O8 : OneA C_Dig K H8 A0 B0 xs s' (i + 1) := ⟨O8', (kp8 _ _ (t7 _ _ O0.2) (ne_of (t7 _ _ O0.2) R7.u (fun z => nomatch z)) (ne_of (t7 _ _ O0.2) R7.t (fun z => nomatch z)) (ne_of (t7 _ _ O0.2) R7.f (fun z => nomatch z)) (ne_of (t7 _ _ O0.2) L7.u (fun z => nomatch z)) (ne_of (t7 _ _ O0.2) L7.t (fun z => nomatch z)) (ne_of (t7 _ _ O0.2) L7.f (fun z => nomatch z)))⟩
          have P8 : OneA C_Dig K H8 A1 B1 xs S1 (i + 1) := ((O1.same t7).keep (O0.same t7) dap.symm lap.symm kp8).le (by omega)
          have hn8 := (O0.same t7).lst kp8 (t7 _ _ hn7) nl1.1 nl1.2.1 nl1.2.2.1
          have hk8 := (O0.same t7).lst kp8 (t7 _ _ hk7) nl2.1 nl2.2.1 nl2.2.2.1
          have hfr8 := (O0.same t7).lst kp8 (t7 _ _ hfr7) nl3.1 nl3.2.1 nl3.2.2.1
          have hdg8 := (O0.same t7).lst kp8 (t7 _ _ hdg7) nl4.1 nl4.2.1 nl4.2.2.1
          have hst8 := (O0.same t7).lst kp8 (t7 _ _ hst7) nl5.1 nl5.2.1 nl5.2.2.1
          have hpc8 := (O0.same t7).lst kp8 (t7 _ _ hpc7) nl6.1 nl6.2.1 nl6.2.2.1
          try unfold tNext
          try dsimp only
          refine ifS_same false (fun Q' hQ => ?_) (fun H9 s9 => iteF ?_)
          · refine ⟨_, rfl, _, rfl, pdg, _, _, _, rfl, rfl, SqL.of hdg8, rfl, _, rfl, _, rfl, pfr, _, _, _, rfl, rfl, SqL.of hfr8, rfl, _, rfl, _, rfl, pst, _, _, _, rfl, rfl, SqL.of hst8, rfl, A0, B0, xs, s', _, rfl, O8, fun H9 s9 => ⟨_, rfl, hQ _ s9⟩⟩
          exact ⟨_, _, s', S1, rfl, O8.same s9, P8.same s9, s9 _ _ hn8, s9 _ _ hk8, s9 _ _ hfr8, s9 _ _ hdg8, s9 _ _ hst8, s9 _ _ hpc8⟩
        · refine ⟨_, rfl, _, rfl, pdg, _, _, _, rfl, rfl, SqL.of hdg7, rfl, _, rfl, _, rfl, pst, _, _, _, rfl, rfl, SqL.of hst7, rfl, _, rfl, A0.p, A0.pm, A0.du, A0.dt, A0.df, B0.ps, B0.pu, B0.pt, B0.pf, A0.lo, A0.hi, xs, S0, i, c, rfl, O0.1, by omega, xnm, fun H8 s' O8' kp8 => ?_⟩
          have O8 : OneA C_Dig K H8 A0 B0 xs s' (i + 1) := ⟨O8', (kp8 _ _ (t7 _ _ O0.2) (ne_of (t7 _ _ O0.2) R7.u (fun z => nomatch z)) (ne_of (t7 _ _ O0.2) R7.t (fun z => nomatch z)) (ne_of (t7 _ _ O0.2) R7.f (fun z => nomatch z)) (ne_of (t7 _ _ O0.2) L7.u (fun z => nomatch z)) (ne_of (t7 _ _ O0.2) L7.t (fun z => nomatch z)) (ne_of (t7 _ _ O0.2) L7.f (fun z => nomatch z)))⟩
          have P8 : OneA C_Dig K H8 A1 B1 xs S1 (i + 1) := ((O1.same t7).keep (O0.same t7) dap.symm lap.symm kp8).le (by omega)
          have hn8 := (O0.same t7).lst kp8 (t7 _ _ hn7) nl1.1 nl1.2.1 nl1.2.2.1
          have hk8 := (O0.same t7).lst kp8 (t7 _ _ hk7) nl2.1 nl2.2.1 nl2.2.2.1
          have hfr8 := (O0.same t7).lst kp8 (t7 _ _ hfr7) nl3.1 nl3.2.1 nl3.2.2.1
          have hdg8 := (O0.same t7).lst kp8 (t7 _ _ hdg7) nl4.1 nl4.2.1 nl4.2.2.1
          have hst8 := (O0.same t7).lst kp8 (t7 _ _ hst7) nl5.1 nl5.2.1 nl5.2.2.1
          have hpc8 := (O0.same t7).lst kp8 (t7 _ _ hpc7) nl6.1 nl6.2.1 nl6.2.2.1
          try unfold tNext
          try dsimp only
          refine ifS_same false (fun Q' hQ => ?_) (fun H9 s9 => iteF ?_)
          · refine ⟨_, rfl, _, rfl, pdg, _, _, _, rfl, rfl, SqL.of hdg8, rfl, _, rfl, _, rfl, pfr, _, _, _, rfl, rfl, SqL.of hfr8, rfl, _, rfl, _, rfl, pst, _, _, _, rfl, rfl, SqL.of hst8, rfl, A0, B0, xs, s', _, rfl, O8, fun H9 s9 => ⟨_, rfl, hQ _ s9⟩⟩
          exact ⟨_, _, s', S1, rfl, O8.same s9, P8.same s9, s9 _ _ hn8, s9 _ _ hk8, s9 _ _ hfr8, s9 _ _ hdg8, s9 _ _ hst8, s9 _ _ hpc8⟩
      · rw [hk2]
        refine ⟨_, rfl, _, _, _, rfl, by decide, _, _, rfl, rfl, _, rfl, ?_⟩
        have t7 : Same H7 H7 := Same.refl _
        obtain ⟨af7, R7⟩ := O1.1.dig
        obtain ⟨at7, ag7, L7⟩ := O1.1.ls
        refine ite2 (fun c1 => ?_) (fun c1 => ?_)
        · refine ⟨_, rfl, _, rfl, pdg, _, _, _, rfl, rfl, SqL.of hdg7, rfl, _, rfl, _, rfl, pst, _, _, _, rfl, rfl, SqL.of hst7, rfl, _, rfl, _, rfl, _, rfl, A1.p, A1.pm, A1.du, A1.dt, A1.df, B1.ps, B1.pu, B1.pt, B1.pf, pn, pk, A1.lo, A1.hi, xs, ms, S1, i, c, rfl, O1.1, by omega, SqL.of hn7, SqL.of hk7, x7, m7, xnm, mnm, fun H8 s' O8' kp8 => ?_⟩
          have O8 : OneA C_Dig K H8 A1 B1 xs s' (i + 1) := ⟨O8', (kp8 _ _ (t7 _ _ O1.2) (ne_of (t7 _ _ O1.2) R7.u (fun z => nomatch z)) (ne_of (t7 _ _ O1.2) R7.t (fun z => nomatch z)) (ne_of (t7 _ _ O1.2) R7.f (fun z => nomatch z)) (ne_of (t7 _ _ O1.2) L7.u (fun z => nomatch z)) (ne_of (t7 _ _ O1.2) L7.t (fun z => nomatch z)) (ne_of (t7 _ _ O1.2) L7.f (fun z => nomatch z)))⟩
          have P8 : OneA C_Dig K H8 A0 B0 xs S0 (i + 1) := ((O0.same t7).keep (O1.same t7) dap lap kp8).le (by omega)
          have hn8 := (O1.same t7).lst kp8 (t7 _ _ hn7) nl1.2.2.2.1 nl1.2.2.2.2.1 nl1.2.2.2.2.2
          have hk8 := (O1.same t7).lst kp8 (t7 _ _ hk7) nl2.2.2.2.1 nl2.2.2.2.2.1 nl2.2.2.2.2.2
          have hfr8 := (O1.same t7).lst kp8 (t7 _ _ hfr7) nl3.2.2.2.1 nl3.2.2.2.2.1 nl3.2.2.2.2.2
          have hdg8 := (O1.same t7).lst kp8 (t7 _ _ hdg7) nl4.2.2.2.1 nl4.2.2.2.2.1 nl4.2.2.2.2.2
          have hst8 := (O1.same t7).lst kp8 (t7 _ _ hst7) nl5.2.2.2.1 nl5.2.2.2.2.1 nl5.2.2.2.2.2
          have hpc8 := (O1.same t7).lst kp8 (t7 _ _ hpc7) nl6.2.2.2.1 nl6.2.2.2.2.1 nl6.2.2.2.2.2
          try unfold tNext
          try dsimp only
          refine ifS_same false (fun Q' hQ => ?_) (fun H9 s9 => iteF ?_)
          · refine ⟨_, rfl, _, rfl, pdg, _, _, _, rfl, rfl, SqL.of hdg8, rfl, _, rfl, _, rfl, pfr, _, _, _, rfl, rfl, SqL.of hfr8, rfl, _, rfl, _, rfl, pst, _, _, _, rfl, rfl, SqL.of hst8, rfl, A1, B1, xs, s', _, rfl, O8, fun H9 s9 => ⟨_, rfl, hQ _ s9⟩⟩
          exact ⟨_, _, S0, s', rfl, P8.same s9, O8.same s9, s9 _ _ hn8, s9 _ _ hk8, s9 _ _ hfr8, s9 _ _ hdg8, s9 _ _ hst8, s9 _ _ hpc8⟩
        · refine ⟨_, rfl, _, rfl, pdg, _, _, _, rfl, rfl, SqL.of hdg7, rfl, _, rfl, _, rfl, pst, _, _, _, rfl, rfl, SqL.of hst7, rfl, _, rfl, A1.p, A1.pm, A1.du, A1.dt, A1.df, B1.ps, B1.pu, B1.pt, B1.pf, A1.lo, A1.hi, xs, S1, i, c, rfl, O1.1, by omega, xnm, fun H8 s' O8' kp8 => ?_⟩
          have O8 : OneA C_Dig K H8 A1 B1 xs s' (i + 1) := ⟨O8', (kp8 _ _ (t7 _ _ O1.2) (ne_of (t7 _ _ O1.2) R7.u (fun z => nomatch z)) (ne_of (t7 _ _ O1.2) R7.t (fun z => nomatch z)) (ne_of (t7 _ _ O1.2) R7.f (fun z => nomatch z)) (ne_of (t7 _ _ O1.2) L7.u (fun z => nomatch z)) (ne_of (t7 _ _ O1.2) L7.t (fun z => nomatch z)) (ne_of (t7 _ _ O1.2) L7.f (fun z => nomatch z)))⟩
          have P8 : OneA C_Dig K H8 A0 B0 xs S0 (i + 1) := ((O0.same t7).keep (O1.same t7) dap lap kp8).le (by omega)
          have hn8 := (O1.same t7).lst kp8 (t7 _ _ hn7) nl1.2.2.2.1 nl1.2.2.2.2.1 nl1.2.2.2.2.2
          have hk8 := (O1.same t7).lst kp8 (t7 _ _ hk7) nl2.2.2.2.1 nl2.2.2.2.2.1 nl2.2.2.2.2.2
          have hfr8 := (O1.same t7).lst kp8 (t7 _ _ hfr7) nl3.2.2.2.1 nl3.2.2.2.2.1 nl3.2.2.2.2.2
          have hdg8 := (O1.same t7).lst kp8 (t7 _ _ hdg7) nl4.2.2.2.1 nl4.2.2.2.2.1 nl4.2.2.2.2.2
          have hst8 := (O1.same t7).lst kp8 (t7 _ _ hst7) nl5.2.2.2.1 nl5.2.2.2.2.1 nl5.2.2.2.2.2
          have hpc8 := (O1.same t7).lst kp8 (t7 _ _ hpc7) nl6.2.2.2.1 nl6.2.2.2.2.1 nl6.2.2.2.2.2
          try unfold tNext
          try dsimp only
          refine ifS_same false (fun Q' hQ => ?_) (fun H9 s9 => iteF ?_)
          · refine ⟨_, rfl, _, rfl, pdg, _, _, _, rfl, rfl, SqL.of hdg8, rfl, _, rfl, _, rfl, pfr, _, _, _, rfl, rfl, SqL.of hfr8, rfl, _, rfl, _, rfl, pst, _, _, _, rfl, rfl, SqL.of hst8, rfl, A1, B1, xs, s', _, rfl, O8, fun H9 s9 => ⟨_, rfl, hQ _ s9⟩⟩
          exact ⟨_, _, S0, s', rfl, P8.same s9, O8.same s9, s9 _ _ hn8, s9 _ _ hk8, s9 _ _ hfr8, s9 _ _ hdg8, s9 _ _ hst8, s9 _ _ hpc8⟩
    · rintro σ H7 ⟨v5', v8, S0, S1, rfl, O0, O1, hn7, hk7, hfr7, hdg7, hst7, hpc7⟩
      refine ⟨_, rfl, pdg, _, _, _, rfl, rfl, SqL.of hdg7, rfl, _, rfl, pfr, _, _, _, rfl, rfl, SqL.of hfr7, rfl, _, rfl, pst, _, _, _, rfl, rfl, SqL.of hst7, rfl, A0, B0, xs, S0, _, rfl, O0, fun H8 s8 => ⟨true, rfl, ?_⟩⟩
      rw [if_pos rfl]
      exact ⟨_, rfl, pdg, _, _, _, rfl, rfl, SqL.of (s8 _ _ hdg7), rfl, _, rfl, pfr, _, _, _, rfl, rfl, SqL.of (s8 _ _ hfr7), rfl, _, rfl, pst, _, _, _, rfl, rfl, SqL.of (s8 _ _ hst7), rfl, A1, B1, xs, S1, _, rfl, O1.same s8, fun H9 s9 => k _⟩

end
end LK61
open PySem PySem.W PyProof.Rows
set_option maxRecDepth 100000 in
set_option maxHeartbeats 0 in
theorem PySem.Challenge.cw_digmatrix_k61_deeds_holds : PySem.Challenge.rw_digmatrix_k61_deeds.Holds := by
  w_on; o_law; k_head; (case hw => w_witness2)
  k_fill
  refine L2.law_walk (l := PySem.Challenge.rw_digmatrix_k61_deeds) (k := LK61.kLaw) (x := "_law_script") (sp := fun K => LK61.sp_law (K := K)) rfl rfl ⟨rfl, by decide, by decide⟩ (fun w h Y => PySem.W.kIn_of Y) (fun K H a ns hl hS => ⟨a, ns, rfl, hS, hl, fun _ => rfl⟩) ?F
  case F =>
    intro w mg h KX G
    have T : ∃ C_Dig, LK61.Tx (L2.KOf KX) mg w C_Dig := by
      dsimp only [L2.KOf]
      refine' LK61.Tx.ex ⟨?z0, ?z1, ?z2, ?z3, ?z4, ?z5, ?z6, ?z7, ?z8, ?z9, ?z10, ?z11, ?z12, ?z13, ?z14, ?z15, ?z16, ?z17, ?z18, ?z19, ?z20, ?z21, ?z22, ?z23, ?z24, ?z25, ?z26, ?z27, ?z28, ?z29, ?z30, ?z31, ?z32, ?z33, ?z34, ?z35, ?z36, ?z37⟩
      case z0 => refine' L2.const_mk KX G ?x0; (case x0 => k_is)
      case z1 => refine' ⟨?x1, ?y1, ?u1, ?v1⟩; (case x1 => k_is); (case y1 => k_is); (case u1 => k_is); (case v1 => k_is)
      case z2 => k_is
      case z3 => k_is
      case z4 => (unfold L2.NoAttr; k_is)
      case z5 => (unfold L2.NoAttr; k_is)
      case z6 => (unfold L2.NoAttr; k_is)
      case z7 => (unfold L2.NoAttr; k_is)
      case z8 => refine' L2.dfm_mk (fun _ _ _ _ _ _ => L2.len3 fun _ _ _ => rfl) ?p8 ?q8 ?r8 ?s8 ?t8; (case p8 => k_is); (case q8 => k_is); (case r8 => k_is); (case s8 => k_is); (case t8 => k_is)
      case z9 => refine' L2.dfm_mk (fun _ _ _ _ _ _ => L2.len2 fun _ _ => rfl) ?p9 ?q9 ?r9 ?s9 ?t9; (case p9 => k_is); (case q9 => k_is); (case r9 => k_is); (case s9 => k_is); (case t9 => k_is)
      case z10 => refine' L2.dfm_mk (fun _ _ _ _ _ _ => L2.len2 fun _ _ => rfl) ?p10 ?q10 ?r10 ?s10 ?t10; (case p10 => k_is); (case q10 => k_is); (case r10 => k_is); (case s10 => k_is); (case t10 => k_is)
      case z11 => refine' L2.dfm_mk (fun _ _ _ _ _ _ => L2.len2 fun _ _ => rfl) ?p11 ?q11 ?r11 ?s11 ?t11; (case p11 => k_is); (case q11 => k_is); (case r11 => k_is); (case s11 => k_is); (case t11 => k_is)
      case z12 => refine' L2.dfm_mk (fun _ _ _ _ _ _ => L2.len2 fun _ _ => rfl) ?p12 ?q12 ?r12 ?s12 ?t12; (case p12 => k_is); (case q12 => k_is); (case r12 => k_is); (case s12 => k_is); (case t12 => k_is)
      case z13 => refine' L2.dfm_mk (fun _ _ _ _ _ _ => L2.len5 fun _ _ _ _ _ => rfl) ?p13 ?q13 ?r13 ?s13 ?t13; (case p13 => k_is); (case q13 => k_is); (case r13 => k_is); (case s13 => k_is); (case t13 => k_is)
      case z14 => refine' L2.dfm_mk (fun _ _ _ _ _ _ => L2.len3 fun _ _ _ => rfl) ?p14 ?q14 ?r14 ?s14 ?t14; (case p14 => k_is); (case q14 => k_is); (case r14 => k_is); (case s14 => k_is); (case t14 => k_is)
      case z15 => refine' L2.dfm_mk (fun _ _ _ _ _ _ => L2.len2 fun _ _ => rfl) ?p15 ?q15 ?r15 ?s15 ?t15; (case p15 => k_is); (case q15 => k_is); (case r15 => k_is); (case s15 => k_is); (case t15 => k_is)
      case z16 => refine' L2.dfm_mk (fun _ _ _ _ _ _ => L2.len1 fun _ => rfl) ?p16 ?q16 ?r16 ?s16 ?t16; (case p16 => k_is); (case q16 => k_is); (case r16 => k_is); (case s16 => k_is); (case t16 => k_is)
      case z17 => refine' L2.dfm_mk (fun _ _ _ _ _ _ => L2.len2 fun _ _ => rfl) ?p17 ?q17 ?r17 ?s17 ?t17; (case p17 => k_is); (case q17 => k_is); (case r17 => k_is); (case s17 => k_is); (case t17 => k_is)
      case z18 => refine' L2.dfm_mk (fun _ _ _ _ _ _ => L2.len2 fun _ _ => rfl) ?p18 ?q18 ?r18 ?s18 ?t18; (case p18 => k_is); (case q18 => k_is); (case r18 => k_is); (case s18 => k_is); (case t18 => k_is)
      case z19 => refine' L2.dfm_mk (fun _ _ _ _ _ _ => L2.len2 fun _ _ => rfl) ?p19 ?q19 ?r19 ?s19 ?t19; (case p19 => k_is); (case q19 => k_is); (case r19 => k_is); (case s19 => k_is); (case t19 => k_is)
      case z20 => refine' L2.df_mk KX G (fun _ _ _ _ _ _ => L2.len2 fun _ _ => rfl) ?p20 ?q20 ?r20 ?s20; (case p20 => k_is); (case q20 => k_is); (case r20 => k_is); (case s20 => k_is)
      case z21 => refine' L2.df_mk KX G (fun _ _ _ _ _ _ => L2.len3 fun _ _ _ => rfl) ?p21 ?q21 ?r21 ?s21; (case p21 => k_is); (case q21 => k_is); (case r21 => k_is); (case s21 => k_is)
      case z22 => refine' L2.df_mk KX G (fun _ _ _ _ _ _ => L2.len3 fun _ _ _ => rfl) ?p22 ?q22 ?r22 ?s22; (case p22 => k_is); (case q22 => k_is); (case r22 => k_is); (case s22 => k_is)
      case z23 => refine' L2.df_mk KX G (fun _ _ _ _ _ _ => L2.len2 fun _ _ => rfl) ?p23 ?q23 ?r23 ?s23; (case p23 => k_is); (case q23 => k_is); (case r23 => k_is); (case s23 => k_is)
      case z24 => refine' L2.df_mk KX G (fun _ _ _ _ _ _ => L2.len2 fun _ _ => rfl) ?p24 ?q24 ?r24 ?s24; (case p24 => k_is); (case q24 => k_is); (case r24 => k_is); (case s24 => k_is)
      case z25 => refine' L2.df_mk KX G (fun _ _ _ _ _ _ => L2.len2 fun _ _ => rfl) ?p25 ?q25 ?r25 ?s25; (case p25 => k_is); (case q25 => k_is); (case r25 => k_is); (case s25 => k_is)
      case z26 => refine' L2.df_mk KX G (fun _ _ _ _ _ _ => L2.len3 fun _ _ _ => rfl) ?p26 ?q26 ?r26 ?s26; (case p26 => k_is); (case q26 => k_is); (case r26 => k_is); (case s26 => k_is)
      case z27 => refine' L2.df_mk KX G (fun _ _ _ _ _ _ => L2.len5 fun _ _ _ _ _ => rfl) ?p27 ?q27 ?r27 ?s27; (case p27 => k_is); (case q27 => k_is); (case r27 => k_is); (case s27 => k_is)
      case z28 => refine' L2.df_mk KX G (fun _ _ _ _ _ _ => L2.len3 fun _ _ _ => rfl) ?p28 ?q28 ?r28 ?s28; (case p28 => k_is); (case q28 => k_is); (case r28 => k_is); (case s28 => k_is)
      case z29 => refine' L2.df_mk KX G (fun _ _ _ _ _ _ => L2.len3 fun _ _ _ => rfl) ?p29 ?q29 ?r29 ?s29; (case p29 => k_is); (case q29 => k_is); (case r29 => k_is); (case s29 => k_is)
      case z30 => refine' L2.df_mk KX G (fun _ _ _ _ _ _ => L2.len1 fun _ => rfl) ?p30 ?q30 ?r30 ?s30; (case p30 => k_is); (case q30 => k_is); (case r30 => k_is); (case s30 => k_is)
      case z31 => refine' L2.blt_mk KX G ?_; k_is
      case z32 => refine' L2.blt_mk KX G ?_; k_is
      case z33 => refine' L2.blt_mk KX G ?_; k_is
      case z34 => refine' L2.blt_mk KX G ?_; k_is
      case z35 => refine' L2.blt_mk KX G ?_; k_is
      case z36 => refine' L2.blt_mk KX G ?_; k_is
      case z37 => refine' L2.blt_mk KX G ?_; k_is
    obtain ⟨_, T⟩ := T
    exact fun base _ _ => LK61.h_law T
#print axioms PySem.Challenge.cw_digmatrix_k61_deeds_holds

