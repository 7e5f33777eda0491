import PyProof.Rows.All
import Wide.All
import OpenK.AllK
import Wide.FinOn
import Lean
import PyProof.EqAt
import PyProof.EqKinds
import PyProof.TupleCall
import PyProof.ZipIter
import PyProof.DictWalks
import PyProof.StrOps2
import KE.IntTextLaws
import PyProof.StrBlockI
import PyProof.StrLawsIn
import PyProof.AutoSeq1
import PyProof.WalkInts
import PyProof.Rows.SetFrom
import PyProof.SetKind
import PyProof.CollectWalk
import PyProof.MinMaxWalk
import PyProof.TupleKey
import PyProof.FString5
import KE.KDictOf
import PyProof.AttrMissHeap
import KE.KSortTup
import PyProof.MeetsSeq3
import PyProof.DictUpdate
import PyProof.StrLawsChain
import PyProof.StrLawsTight
import PyProof.Rows.StrItems
import PySem.Challenge.RW_digmatrix_k13_whole_ones_in_any_order
set_option Elab.async false
set_option linter.all false
set_option maxRecDepth 100000
/-! no twins are wanted of these: the compiled file would be too large -/
def PySem.W.Fast.tw15881540270351412661 : Unit := ()
def PySem.W.Fast.tw9973256798327750822 : Unit := ()
def PySem.W.Fast.tw13418872395459464637 : Unit := ()
def PySem.W.Fast.tw14254838107694093543 : Unit := ()
def PySem.W.Fast.tw3457631839692030510 : Unit := ()
def PySem.W.Fast.tw14433185082350972749 : Unit := ()
def PySem.W.Fast.tw7534568686893197611 : Unit := ()
def PySem.W.Fast.tw4885119257514427725 : Unit := ()
-- CHANGE: your row's module here, as the last of these rows
/-! THE HAND LAYER, for ints, bools, texts, own classes, LISTS and tuples (index, slices, in, append, pop ..), calls, loops. Paste it whole ahead of your own text; what your proof does not reach may be deleted. -/
namespace L2
open PySem PySem.Spec PyProof.Rows

/-- a key: an int or a str -/
abbrev Key := Sum Int Str
def keyIs : Key → Value → Bool
  | .inl k, v => Value.isInt k v
  | .inr x, v => Value.isStrOf x v
def keyH (w : World) : Key → Int
  | .inl k => hashInt k
  | .inr x => hashStr w x
theorem keyIs_shape : ∀ {k : Key} {v : Value}, keyIs k v = true → (∃ i t, k = Sum.inl i ∧ v = Value.int i t) ∨ (∃ x t, k = Sum.inr x ∧ v = Value.str x t)
  | .inl i, v, h => by
    obtain ⟨t, e⟩ := Value.isInt_shape (k := i) (v := v) h
    exact .inl ⟨i, t, rfl, e⟩
  | .inr x, v, h => by
    obtain ⟨t, e⟩ := Value.isStrOf_shape (x := x) (v := v) h
    exact .inr ⟨x, t, rfl, e⟩
theorem keyIs_int (i : Int) (t : Tok) : keyIs (.inl i) (.int i t) = true := by simp [keyIs, Value.isInt]
theorem keyIs_str (x : Str) (t : Tok) : keyIs (.inr x) (.str x t) = true := by simp [keyIs, Value.isStrOf]
theorem key_ll (a b : Int) : decide ((Sum.inl a : Key) = Sum.inl b) = (a == b) := by
  by_cases e : a = b
  · subst e; simp
  · have h : ¬ (Sum.inl a : Key) = Sum.inl b := fun q => e (Sum.inl.inj q)
    rw [decide_eq_false h]
    exact (beq_eq_false_iff_ne.mpr e).symm
theorem key_rr (a b : Str) : decide ((Sum.inr a : Key) = Sum.inr b) = decide (a = b) := by
  by_cases e : a = b
  · subst e; simp
  · have h : ¬ (Sum.inr a : Key) = Sum.inr b := fun q => e (Sum.inr.inj q)
    rw [decide_eq_false h, decide_eq_false e]
theorem key_lr (a : Int) (b : Str) : decide ((Sum.inl a : Key) = Sum.inr b) = false := decide_eq_false (fun q => nomatch q)
theorem key_rl (a : Str) (b : Int) : decide ((Sum.inr a : Key) = Sum.inl b) = false := decide_eq_false (fun q => nomatch q)

def mixKind (prog : Program) (w : World) : PySem.KeyKind prog w Key where
  is := keyIs
  hash := keyH w
  inj := fun v a b ha hb => by
    rcases keyIs_shape ha with ⟨i, t, rfl, rfl⟩ | ⟨x, t, rfl, rfl⟩
    · rcases keyIs_shape hb with ⟨j, u, rfl, e⟩ | ⟨y, u, rfl, e⟩
      · injection e with e1 _; rw [e1]
      · exact nomatch e
    · rcases keyIs_shape hb with ⟨j, u, rfl, e⟩ | ⟨y, u, rfl, e⟩
      · exact nomatch e
      · injection e with e1 _; rw [e1]
  byValue := fun k v h => by
    rcases keyIs_shape h with ⟨i, t, rfl, rfl⟩ | ⟨x, t, rfl, rfl⟩ <;> rfl
  pyHash := fun hv h => by
    rcases keyIs_shape hv with ⟨i, t, rfl, rfl⟩ | ⟨x, t, rfl, rfl⟩
    · exact wpAny_pyHash_int h
    · exact wpAny_pyHash_str h
  eqBool := fun hu hv h => by
    rcases keyIs_shape hu with ⟨i, t, rfl, rfl⟩ | ⟨x, t, rfl, rfl⟩
    · rcases keyIs_shape hv with ⟨j, u, rfl, rfl⟩ | ⟨y, u, rfl, rfl⟩
      · rw [key_ll] at h; exact wpAny_eqBool_int h
      · rw [key_lr] at h; exact SeqAt.EqAt.int_str i t y u _ _ _ _ h
    · rcases keyIs_shape hv with ⟨j, u, rfl, rfl⟩ | ⟨y, u, rfl, rfl⟩
      · rw [key_rl] at h; exact SeqAt.EqAt.str_int x t j u _ _ _ _ h
      · rw [key_rr] at h; exact wpAny_eqBool_str h
  «strs» := fun k x t v h => by
    rcases keyIs_shape h with ⟨i, u, rfl, e⟩ | ⟨y, u, rfl, e⟩
    · exact nomatch e
    · injection e with e1 _
      subst e1
      cases v <;> rfl

theorem mixKind_int (prog : Program) (w : World) (i : Int) (t : Tok) : (mixKind prog w).is (.inl i) (.int i t) = true := keyIs_int i t
theorem mixKind_str (prog : Program) (w : World) (x : Str) (t : Tok) : (mixKind prog w).is (.inr x) (.str x t) = true := keyIs_str x t
end L2

namespace L2
open PySem PySem.Spec PyProof.Rows

/-- a value, without the heap -/
inductive V where
  | non | bl (b : Bool) | int (i : Int) | str (x : Str) | byt (b : Array UInt8) | flt (b : UInt64) | ref (a : Addr) | ty (n : String)
  deriving DecidableEq

def RelV : V → Value → Prop
  | .non, u => u = Value.none
  | .bl b, u => u = Value.bool b
  | .int i, u => ∃ t, u = Value.int i t
  | .str x, u => ∃ t, u = Value.str x t
  | .byt b, u => ∃ t, u = Value.bytes b t
  | .flt b, u => ∃ t, u = Value.float b t
  | .ref a, u => u = Value.ref a
  | .ty n, u => u = Value.type n

abbrev Vals : List V → List Value → Prop := Paired RelV
theorem Vals.length {xs : List V} {us : List Value} (r : Vals xs us) : xs.length = us.length := Paired.length r
theorem Vals.get : ∀ {xs : List V} {us : List Value} {i : Nat} {x : V}, Vals xs us → xs[i]? = some x → ∃ u, us[i]? = some u ∧ RelV x u
  | _, _, _, _, .nil, e => by simp at e
  | _, _, 0, _, .cons r _, e => by simp at e; subst e; exact ⟨_, rfl, r⟩
  | _, _, i + 1, x, .cons _ t, e => by
    obtain ⟨u, h1, h2⟩ := Vals.get (i := i) (x := x) t (by simpa using e)
    exact ⟨u, by simpa using h1, h2⟩
theorem Vals.append : ∀ {xs ys : List V} {us ws : List Value}, Vals xs us → Vals ys ws → Vals (xs ++ ys) (us ++ ws)
  | _, _, _, _, .nil, s => s
  | _, _, _, _, .cons r t, s => .cons r (Vals.append t s)
theorem Vals.take : ∀ {xs : List V} {us : List Value} (n : Nat), Vals xs us → Vals (xs.take n) (us.take n)
  | _, _, 0, _ => .nil
  | _, _, _ + 1, .nil => .nil
  | _, _, n + 1, .cons r t => .cons r (Vals.take n t)
theorem Vals.drop : ∀ {xs : List V} {us : List Value} (n : Nat), Vals xs us → Vals (xs.drop n) (us.drop n)
  | _, _, 0, r => r
  | _, _, _ + 1, .nil => .nil
  | _, _, n + 1, .cons _ t => Vals.drop n t

def RelO : Option V → Option Value → Prop
  | some v, some u => RelV v u
  | none, none => True
  | _, _ => False
def KV {κ : Type} : List (κ × V) → List (κ × Value) → Prop := Paired fun (p : κ × V) (q : κ × Value) => p.1 = q.1 ∧ RelV p.2 q.2

/-- a key of a dict (00_mix): an int or a text -/
def kV : Key → V
  | .inl i => .int i
  | .inr x => .str x

/-- what stands at a tracked address -/
inductive HO where
  /-- a list -/
  | lst (xs : List V)
  /-- a tuple (never changes) -/
  | tup (xs : List V)
  /-- a dict whose keys are ints and texts; one whose keys are tuples of ints and texts (the empty one is both) -/
  | dK (kvs : List (Key × V)) | dT (kvs : List (List Key × V))
  /-- a set of ints: its members, its size -/
  | set (S : Int → Bool) (n : Nat)
  /-- an instance of the class at C, its dict at dx, its attributes -/
  | ins (C dx : Addr) (fs : List (Str × V))
  /-- the dict of the instance at x -/
  | own (x : Addr)
  /-- the dict of an exception -/
  | xd (fs : List (Str × V))
  /-- a bound method, f of x -/
  | met (f x : Addr)
  /-- a range object lo, lo + 1, .. below hi -/
  | rng (lo hi : Int)
  /-- a thing that is known to the object (the script; a dict while a loop walks it): read, never written while it is so -/
  | frz (o : Obj) (u : HO)
  /-- a code object's table -/
  | tbl (ps : Array Value)
  /-- any other thing, by what is true of its one object (a def of one's own: SetO a S n := HO.ext fun h => ..) -/
  | ext (φ : Heap → Prop)

abbrev Hp := Addr → Option HO
def upd (H : Hp) (a : Addr) (o : HO) : Hp := fun b => if b = a then some o else H b
theorem upd_same {H : Hp} {a : Addr} {o : HO} : upd H a o a = some o := by unfold upd; rw [if_pos rfl]
theorem upd_ne {H : Hp} {a b : Addr} {o : HO} (h : b ≠ a) : upd H a o b = H b := by unfold upd; rw [if_neg h]
theorem upd_upd {H : Hp} {a : Addr} {o u : HO} : upd (upd H a o) a u = upd H a u := by
  funext b; unfold upd; split <;> rfl
/-- two objects of different content stand apart -/
theorem ne_of {H : Hp} {a b : Addr} {o u : HO} (h : H a = some o) (h' : H b = some u) (d : o ≠ u) : a ≠ b := by
  intro e; subst e; rw [h] at h'; exact d (Option.some.inj h')
theorem ne_of_none {H : Hp} {a b : Addr} {o : HO} (h : H a = some o) (h' : H b = none) : a ≠ b := by
  intro e; subst e; rw [h] at h'; cases h'

section
variable (P : Program) (w : World)
def ObjOk (H : Hp) (h : Heap) (a : Addr) : HO → Prop
  | .lst xs => xs.length ≤ sizeLine ∧ ∃ (its : List Value) (n : Nat), Vals xs its ∧ h.get? a = some { cls := .type "list", data := .seq its.toArray n }
  | .tup xs => xs.length ≤ sizeLine ∧ ∃ its : List Value, Vals xs its ∧ IsTup h a its.toArray
  | .dK kvs => kvs.length ≤ sizeLine ∧ (a == sysModules) = false ∧ ∃ vs, KV kvs vs ∧ h.DictOf (mixKind P w) a vs
  | .dT kvs => kvs.length ≤ sizeLine ∧ (a == sysModules) = false ∧ ∃ xs : List (List Key × Addr × Value),
      Paired (fun (p : List Key × V) (q : List Key × Addr × Value) => p.1 = q.1 ∧ H q.2.1 = some (.tup (p.1.map kV)) ∧ RelV p.2 q.2.2) kvs xs ∧
      ∃ o es ep, h.get? a = some o ∧ o.ExactDict ∧ o.data = .dict es ep ∧ es.toList = xs.map (entryOfKey (tupleKind (mixKind P w))) ∧ (xs.map (·.1)).Nodup
  | .set S n => h.SetOf (intKind P w) a S n
  | .ins C dx fs => H dx = some (.own a) ∧ fs.length ≤ 1000 ∧ dx ≠ a ∧ h.get? a = some (PySem.W.instObj C dx) ∧
      ∃ mA, h.Ns1 dx mA ∧ (∀ f, RelO (fs.lookup f) (mA f)) ∧ PySem.Within mA (fs.map (·.1))
  | .own _ => ∃ o, h.get? a = some o
  | .xd fs => ∃ mA, h.Ns1 a mA ∧ ∀ f, RelO (fs.lookup f) (mA f)
  | .rng lo hi => ∃ t u v, h.get? a = some { cls := .type "range", data := .fields #[.int lo t, .int hi u, .int 1 v] }
  | .frz o u => h.get? a = some o ∧ ObjOk H h a u
  | .tbl ps => h.get? a = some { cls := .none, data := .fields ps }
  | .met f x => h.get? a = some (PySem.W.methodObj (.ref f) (.ref x))
  | .ext φ => φ h ∧ (∃ o, h.get? a = some o) ∧ ∀ h1 h2 : Heap, φ h1 → (∀ o, h1.get? a = some o → h2.get? a = some o) → φ h2
/-- the abstract heap is held -/
def HOk (H : Hp) (h : Heap) : Prop := ∀ a o, H a = some o → ObjOk P w H h a o
end

section
variable {P : Program} {w : World} {H H' : Hp} {h h' : Heap} {a : Addr} {o : HO}
theorem ObjOk.lt (x : ObjOk P w H h a o) : a < h.objs.size := by
  cases o with
  | lst xs => obtain ⟨_, _, _, _, e⟩ := x; exact Heap.lt_size e
  | tup xs => obtain ⟨_, _, _, p⟩ := x; exact p.lt
  | dK kvs => obtain ⟨_, _, _, _, o, _, _, e, _⟩ := x; exact Heap.lt_size e
  | dT kvs => obtain ⟨_, _, _, _, o, _, _, e, _⟩ := x; exact Heap.lt_size e
  | set S n => obtain ⟨o, _, _, _, e, _⟩ := x; exact Heap.lt_size e
  | ins C dx fs => obtain ⟨_, _, _, e, _⟩ := x; exact Heap.lt_size e
  | own y => obtain ⟨_, e⟩ := x; exact Heap.lt_size e
  | xd fs => obtain ⟨_, ⟨_, _, _, e, _⟩, _⟩ := x; exact Heap.lt_size e
  | rng lo hi => obtain ⟨_, _, _, e⟩ := x; exact Heap.lt_size e
  | frz ob u => obtain ⟨e, _⟩ := x; exact Heap.lt_size e
  | tbl ps => exact Heap.lt_size (show h.get? a = some _ from x)
  | met f y => exact Heap.lt_size (show h.get? a = some _ from x)
  | ext φ => obtain ⟨_, ⟨_, e⟩, _⟩ := x; exact Heap.lt_size e
theorem Paired.mapP {α β : Type} {F G : α → β → Prop} : ∀ {l₁ : List α} {l₂ : List β}, Paired F l₁ l₂ → (∀ a b, F a b → G a b) → Paired G l₁ l₂
  | _, _, .nil, _ => .nil
  | _, _, .cons r t, f => .cons (f _ _ r) (Paired.mapP t f)
/-- what an object's description leans on: its own object, its own dict, the tuples -/
theorem ObjOk.stay (x : ObjOk P w H h a o) (k : ∀ b u, (b = a ∨ H b = some (.own a)) → h.get? b = some u → h'.get? b = some u)
    (ho : ∀ b, H b = some (.own a) → H' b = some (.own a)) (ht : ∀ b xs, H b = some (.tup xs) → H' b = some (.tup xs)) : ObjOk P w H' h' a o := by
  induction o with
  | lst xs => obtain ⟨z, its, n, r, e⟩ := x; exact ⟨z, its, n, r, k _ _ (.inl rfl) e⟩
  | tup xs => obtain ⟨z, its, r, ob, e, c⟩ := x; exact ⟨z, its, r, ob, k _ _ (.inl rfl) e, c⟩
  | dK kvs => obtain ⟨z, y, vs, r, ob, es, ep, e, c⟩ := x; exact ⟨z, y, vs, r, ob, es, ep, k _ _ (.inl rfl) e, c⟩
  | dT kvs =>
    obtain ⟨z, y, xs, r, ob, es, ep, e, c⟩ := x
    exact ⟨z, y, xs, Paired.mapP r fun p q z => ⟨z.1, ht _ _ z.2.1, z.2.2⟩, ob, es, ep, k _ _ (.inl rfl) e, c⟩
  | set S n => obtain ⟨ob, es, ep, t, e, c⟩ := x; exact ⟨ob, es, ep, t, k _ _ (.inl rfl) e, c⟩
  | ins C dx fs =>
    obtain ⟨d, z, ne, e, mA, ⟨od, es, ep, e2, c⟩, r⟩ := x
    exact ⟨ho _ d, z, ne, k _ _ (.inl rfl) e, mA, ⟨od, es, ep, k _ _ (.inr d) e2, c⟩, r⟩
  | own y => obtain ⟨ob, e⟩ := x; exact ⟨ob, k _ _ (.inl rfl) e⟩
  | xd fs => obtain ⟨mA, ⟨od, es, ep, e, c⟩, r⟩ := x; exact ⟨mA, ⟨od, es, ep, k _ _ (.inl rfl) e, c⟩, r⟩
  | rng lo hi => obtain ⟨t, u, v, e⟩ := x; exact ⟨t, u, v, k _ _ (.inl rfl) e⟩
  | frz ob u ih => obtain ⟨e, q⟩ := x; exact ⟨k _ _ (.inl rfl) e, ih q⟩
  | tbl ps =>
    have e : h.get? a = some { cls := .none, data := .fields ps } := x
    show h'.get? a = some { cls := .none, data := .fields ps }
    exact k a _ (.inl rfl) e
  | met f y =>
    have e : h.get? a = some (PySem.W.methodObj (.ref f) (.ref y)) := x
    show h'.get? a = some (PySem.W.methodObj (.ref f) (.ref y))
    exact k a _ (.inl rfl) e
  | ext φ => obtain ⟨p, ⟨o, e⟩, st⟩ := x; exact ⟨st _ _ p fun o q => k _ _ (.inl rfl) q, ⟨o, k _ _ (.inl rfl) e⟩, st⟩
theorem HOk.lt (x : HOk P w H h) (e : H a = some o) : a < h.objs.size := (x a o e).lt
theorem HOk.fresh (x : HOk P w H h) (e : h.objs.size ≤ a) : H a = none := by
  cases q : H a with
  | none => rfl
  | some u => exact absurd (Nat.lt_of_lt_of_le (x.lt q) e) (Nat.lt_irrefl _)
/-- every object of the heap is kept -/
theorem HOk.kept (x : HOk P w H h) (k : ∀ b u, h.get? b = some u → h'.get? b = some u) : HOk P w H h' := fun a o e =>
  (x a o e).stay (fun b u _ q => k b u q) (fun _ q => q) fun _ _ q => q
/-- a new object is laid and tracked -/
theorem HOk.laid (x : HOk P w H h) (k : ∀ b u, h.get? b = some u → h'.get? b = some u) (hp : h.objs.size ≤ a) (new : ObjOk P w (upd H a o) h' a o) : HOk P w (upd H a o) h' := fun b u e => by
  have hn := x.fresh hp
  by_cases hb : b = a
  · subst hb; rw [upd_same] at e; cases e; exact new
  · rw [upd_ne hb] at e
    exact (x b u e).stay (fun c v _ q => k c v q) (fun c q => by rw [upd_ne (ne_of_none q hn)]; exact q) fun c xs q => by rw [upd_ne (ne_of_none q hn)]; exact q
end

/-- what may be read as u: it is u, or a known u -/
def Rd (H : Hp) (a : Addr) (u : HO) : Prop := H a = some u ∨ ∃ o, H a = some (.frz o u)
theorem Rd.ok {P : Program} {w : World} {H : Hp} {h : Heap} {a : Addr} {u : HO} (r : Rd H a u) (x : HOk P w H h) : ObjOk P w H h a u := by
  rcases r with r | ⟨o, r⟩
  · exact x a u r
  · obtain ⟨_, q⟩ := x a _ r
    exact q
/-- what may be written -/
def Mut : Option HO → Prop
  | some (.lst _) => True
  | some (.dK _) => True
  | some (.dT _) => True
  | some (.set _ _) => True
  | some (.ins _ _ _) => True
  | some (.ext _) => True
  | _ => False
section
variable {P : Program} {w : World} {H : Hp} {h h' : Heap} {x e : Addr} {o' : HO}
/-- the object at e is changed: x itself, or the dict of the instance x -/
theorem HOk.write (ok : HOk P w H h) (mu : Mut (H x)) (he : e = x ∨ H e = some (.own x)) (k : ∀ b u, b ≠ e → h.get? b = some u → h'.get? b = some u) (heo : ∃ u, h'.get? e = some u)
    (new : ObjOk P w (upd H x o') h' x o') : HOk P w (upd H x o') h' := fun b u q => by
  have nown : ∀ c y, H c = some (.own y) → c ≠ x := fun c y r z => by subst z; rw [r] at mu; exact mu
  have ntup : ∀ c xs, H c = some (.tup xs) → c ≠ x := fun c xs r z => by subst z; rw [r] at mu; exact mu
  by_cases hb : b = x
  · subst hb; rw [upd_same] at q; cases q; exact new
  · rw [upd_ne hb] at q
    by_cases hbe : b = e
    · have q' : H b = some (.own x) := by
        rcases he with z | z
        · exact absurd (hbe.trans z) hb
        · rw [hbe]; exact z
      rw [q] at q'; cases q'
      obtain ⟨v, hv⟩ := heo
      exact ⟨v, by rw [hbe]; exact hv⟩
    · refine (ok b u q).stay (fun c v hc r => k c v ?_ r) (fun c r => by rw [upd_ne (nown c b r)]; exact r) fun c xs r => by rw [upd_ne (ntup c xs r)]; exact r
      rcases hc with rfl | hc
      · exact hbe
      · rintro rfl
        rcases he with z | z
        · exact nown c b hc z
        · rw [hc] at z; cases z; exact hb rfl
end

/-! ### kept unless tracked; of the frames at fs (the callers') the slots may change (an exception that passes writes there); of the records at ex (iterators) nothing is said -/
structure Un (fs ex : List Addr) (H H' : Hp) (h h' : Heap) : Prop where
  keep : ∀ b o, h.get? b = some o → H b = none → b ∉ fs → b ∉ ex → h'.get? b = some o
  slot : ∀ b o, h.get? b = some o → H b = none → b ∈ fs → b ∉ ex → ∃ sl, h'.get? b = some { o with slots := sl }
  free : ∀ b o, h.get? b = some o → H b = none → b ∉ ex → H' b = none
  there : ∀ b o, h.get? b = some o → b ∉ ex → ∃ o', h'.get? b = some o'
  tups : ∀ b xs, H b = some (.tup xs) → H' b = some (.tup xs)
  frzs : ∀ b o u, H b = some (.frz o u) → H' b = some (.frz o u)
  tbls : ∀ b ps, H b = some (.tbl ps) → ∃ more, H' b = some (.tbl (ps ++ more))
section
variable {fs fs' ex ex' : List Addr} {H H1 H2 : Hp} {h h1 h2 h' : Heap} {a x e : Addr} {o : HO}
theorem Un.any (u : Un fs ex H H1 h h1) {b : Addr} {ob : Obj} (q : h.get? b = some ob) (n : H b = none) (hx : b ∉ ex) : ∃ sl, h1.get? b = some { ob with slots := sl } := by
  by_cases hb : b ∈ fs
  · exact u.slot b ob q n hb hx
  · exact ⟨ob.slots, u.keep b ob q n hb hx⟩
theorem Un.kept (k : ∀ b u, h.get? b = some u → h'.get? b = some u) : Un fs ex H H h h' :=
  ⟨fun b ob q _ _ _ => k b ob q, fun b ob q _ _ _ => ⟨ob.slots, k b ob q⟩, fun _ _ _ n _ => n, fun b ob q _ => ⟨ob, k b ob q⟩, fun _ _ q => q, fun _ _ _ q => q, fun _ ps q => ⟨#[], by rw [q]; simp⟩⟩
theorem Un.refl : Un fs ex H H h h := Un.kept fun _ _ q => q
theorem Un.laid (k : ∀ b u, h.get? b = some u → h'.get? b = some u) (hp : h.objs.size ≤ a) (hn : H a = none) : Un fs ex H (upd H a o) h h' where
  keep := fun b u q _ _ _ => k b u q
  slot := fun b u q _ _ _ => ⟨u.slots, k b u q⟩
  free := fun b u q n _ => by rw [upd_ne (Nat.ne_of_lt (Nat.lt_of_lt_of_le (Heap.lt_size q) hp))]; exact n
  there := fun b u q _ => ⟨u, k b u q⟩
  tups := fun b xs q => by rw [upd_ne (ne_of_none q hn)]; exact q
  frzs := fun b u xs q => by rw [upd_ne (ne_of_none q hn)]; exact q
  tbls := fun b ps q => ⟨#[], by rw [upd_ne (ne_of_none q hn), q]; simp⟩
theorem Un.write (mu : Mut (H x)) (he : e = x ∨ H e = some (.own x)) (k : ∀ b u, b ≠ e → h.get? b = some u → h'.get? b = some u) (heo : ∃ u, h'.get? e = some u) : Un fs ex H (upd H x o) h h' := by
  have hx : ∀ b, H b = none → b ≠ x := fun b n z => by subst z; rw [n] at mu; exact mu
  have hb : ∀ b, H b = none → b ≠ e := fun b n z => by
    subst z
    rcases he with r | r
    · exact hx b n r
    · rw [n] at r; cases r
  have hm : ∀ b u, H b = some u → ¬ Mut (some u) → b ≠ x := fun b u q nm z => by subst z; rw [q] at mu; exact nm mu
  refine ⟨fun b u q n _ _ => k b u (hb b n) q, fun b u q n _ _ => ⟨u.slots, k b u (hb b n) q⟩, fun b u q n _ => by rw [upd_ne (hx b n)]; exact n, fun b u q _ => ?_,
    fun b xs q => by rw [upd_ne (hm b _ q fun z => z)]; exact q, fun b u xs q => by rw [upd_ne (hm b _ q fun z => z)]; exact q, fun b ps q => ⟨#[], by rw [upd_ne (hm b _ q fun z => z), q]; simp⟩⟩
  by_cases hbe : b = e
  · subst hbe; exact heo
  · exact ⟨u, k b u hbe q⟩
end

/-! ### the heap without what is tracked -/
def trk (h : Heap) (H : Hp) : List Addr := (List.range h.objs.size).filter fun a => (H a).isSome
def hidT (h : Heap) (H : Hp) : Heap := PySem.W.hideAll h (trk h H)
theorem hidT_size (h : Heap) (H : Hp) : (hidT h H).objs.size = h.objs.size := PySem.W.hideAll_size _ _
theorem hidT_get {h : Heap} {H : Hp} {b : Addr} {o : Obj} (e : h.get? b = some o) (n : H b = none) : (hidT h H).get? b = some o :=
  PySem.W.hideAll_get _ e fun hm => by
    have q : (H b).isSome = true := (List.mem_filter.mp hm).2
    rw [n] at q; simp at q
theorem of_hidT {h : Heap} {H : Hp} {b : Addr} {o : Obj} (e : (hidT h H).get? b = some o) : h.get? b = some o ∧ H b = none := by
  have e' : h.get? b = some o := PySem.W.of_hideAll (trk h H) e
  refine ⟨e', ?_⟩
  cases q : H b with
  | none => rfl
  | some x =>
    have hm : b ∈ trk h H := List.mem_filter.mpr ⟨List.mem_range.mpr (Heap.lt_size e'), by simp [q]⟩
    have z : (hidT h H).get? b = none := PySem.W.hideAll_none (trk h H) hm
    rw [z] at e; cases e

/-! ### OpenK's ledger, filled with every new object but one -/
def allNews (g h : Heap) (L : Addr) : List (Addr × Obj) := (List.range h.objs.size).filterMap fun a => if a = L ∨ (g.get? a).isSome = true then none else (h.get? a).map fun o => (a, o)
def rest (g h : Heap) (L d : Addr) : List (Addr × Obj) := (allNews g h L).filter fun p => decide (p.1 ≠ d)
end L2

namespace L2
open PySem PySem.Spec PyProof.Rows

/-- the module's facts, over the base: the heap at the law's entry without what is tracked there -/
structure Mod (K : PySem.W.Frag) (mg : Str → Option Value) (base : Heap) : Prop where
  kin : K.In base
  glob : base.Ns mainGlobals mg
  blt : ∃ mb, base.Ns builtinsNs mb ∧ ∀ x : Str, x ≠ "__name__" → mb x = bootBuiltins x
  nolimit : base.NoLimit

/-- the context: a def's body (or a comprehension's block) running. base: fixed through the whole law; s₀, H₀: the entry; outer: the frames whose slots others may change (a def's callers); stack: all frames that run;
   ex: iterators that were made ahead of the entry and are walked here (a comprehension's); fn: the names whose cells were made at the entry (a def: all; a comprehension's block: its own); calm: not within an except suite; pn: pins that every state bears; xe: what is wanted of an exception that leaves the code -/
structure Cx where
  prog : Program
  w : World
  K : PySem.W.Frag
  mg : Str → Option Value
  base : Heap
  A : Around
  N : List Str
  s₀ : Shared
  H₀ : Hp
  env : Env
  outer : List Env
  stack : List Env
  ex : List Addr
  fn : Str → Bool
  calm : Bool
  pn : List (Addr × Obj)
  xe : Value → Shared → Prop
/-- the callers' frames -/
def frs (l : List Env) : List Addr := l.filterMap (·.frame)
abbrev Cx.fs (X : Cx) : List Addr := frs X.outer

def Vis (sc : Scope) (x : Str) : Prop := sc.names.lookup x = some .local ∨ sc.names.lookup x = some .cell ∨ sc.names.lookup x = some .free
def Loc (sc : Scope) (x : Str) : Prop := sc.names.lookup x = some .local ∨ sc.names.lookup x = some .cell
def Look (env : Env) (h : Heap) (m : Str → Option Value) (x : Str) (u : Value) : Prop :=
  (env.kindOf x = some .local ∧ m x = some u) ∨ ((env.kindOf x = some .cell ∨ env.kindOf x = some .free) ∧ ∃ c, env.cells.lookup x = some c ∧ h.IsCell c (some u))

structure Cx.Ok (X : Cx) : Prop where
  mod : Mod X.K X.mg X.base
  kind : X.env.scope.kind = .function
  glob : X.env.globals = mainGlobals
  blt : X.env.builtins = builtinsNs
  above : X.s₀.heap.objs.size ≤ X.env.locals
  inj : ∀ x y c, X.env.cells.lookup x = some c → X.env.cells.lookup y = some c → x = y
  has : ∀ x, (X.env.kindOf x = some .cell ∨ X.env.kindOf x = some .free) → ∃ c, X.env.cells.lookup x = some c
  cab : ∀ x c, X.fn x = true → X.env.cells.lookup x = some c → X.s₀.heap.objs.size ≤ c
  hd : X.calm = true → X.A.handled = none
  frames : X.A.frames = some X.stack
  stk : X.stack = X.outer ∨ (X.stack = X.env :: X.outer ∧ X.env.frame = some X.env.locals)
  exf : ∀ b ∈ X.ex, b ≠ X.env.locals ∧ ∀ x c, X.env.cells.lookup x = some c → c ≠ b
  bs : ∀ b o, X.base.get? b = some o → X.s₀.heap.get? b = some o ∧ X.H₀ b = none
  bsz : X.base.objs.size ≤ X.s₀.heap.objs.size
  noex : ∀ b o, X.base.get? b = some o → b ∉ X.ex
  exfs : ∀ b ∈ X.ex, b ∉ X.fs
  funs : X.s₀.heap.FunFrames X.base X.outer
  frf : ∀ b ∈ X.fs, X.H₀ b = none

structure Inv (X : Cx) (pins : List (Addr × Obj)) (σ : List (Option V)) (H : Hp) (s : Shared) : Prop where
  ok : X.Ok
  os : s.os = X.s₀.os
  bare : AllBare s.gens
  base : Un X.fs X.ex X.H₀ H X.s₀.heap s.heap
  loc : ∃ m, s.heap.Ns X.env.locals m ∧ ∀ (i : Nat) (x : Str) (v : V), X.N[i]? = some x → σ[i]? = some (some v) → Vis X.env.scope x → ∃ u, RelV v u ∧ Look X.env s.heap m x u
  cell : ∀ x c, X.env.cells.lookup x = some c → ∃ v, s.heap.IsCell c v
  free : H X.env.locals = none
  freeC : ∀ x c, X.env.cells.lookup x = some c → H c = none
  pin : ∀ p ∈ X.pn ++ pins, s.heap.get? p.1 = some p.2 ∧ H p.1 = none ∧ p.1 ≠ X.env.locals ∧ p.1 ∉ X.fs ∧ ∀ v, p.2.data ≠ .cell v
  hok : HOk X.prog X.w H s.heap
  len : σ.length = X.N.length

section
variable {X : Cx} {pins : List (Addr × Obj)} {σ : List (Option V)} {H H' : Hp} {s : Shared} {h' : Heap}

theorem Cx.Ok.nofr (ok : X.Ok) {b : Addr} {o : Obj} (e : X.base.get? b = some o) : b ∉ X.fs := fun hb => by
  have := (ok.funs.mem hb).1
  rw [e] at this; cases this
theorem Inv.bs (I : Inv X pins σ H s) : ∀ b o, X.base.get? b = some o → s.heap.get? b = some o ∧ H b = none := fun b o e =>
  ⟨I.base.keep b o (I.ok.bs b o e).1 (I.ok.bs b o e).2 (I.ok.nofr e) (I.ok.noex b o e), I.base.free b o (I.ok.bs b o e).1 (I.ok.bs b o e).2 (I.ok.noex b o e)⟩
theorem Inv.bk (I : Inv X pins σ H s) : ∀ b o, X.base.get? b = some o → s.heap.get? b = some o := fun b o e => (I.bs b o e).1
theorem Inv.mod (I : Inv X pins σ H s) : Mod X.K X.mg X.base := I.ok.mod
theorem Inv.kIn (I : Inv X pins σ H s) : X.K.In s.heap := I.ok.mod.kin.keeps I.bk
theorem Inv.lt (I : Inv X pins σ H s) : X.env.locals < s.heap.objs.size := let ⟨_, hn, _⟩ := I.loc; hn.lt
theorem Inv.sz (I : Inv X pins σ H s) : X.s₀.heap.objs.size ≤ s.heap.objs.size := Nat.le_trans I.ok.above (Nat.le_of_lt I.lt)
theorem Inv.nofs (I : Inv X pins σ H s) {a : Addr} (h : s.heap.objs.size ≤ a) : a ∉ X.fs := fun hb => by
  obtain ⟨_, o, ho, _⟩ := I.ok.funs.mem hb
  exact absurd (Nat.lt_of_lt_of_le (Heap.lt_size ho) (Nat.le_trans I.sz h)) (Nat.lt_irrefl _)
theorem Inv.cne (I : Inv X pins σ H s) : ∀ x c, X.env.cells.lookup x = some c → c ≠ X.env.locals := fun x c e z => by
  obtain ⟨v, o, ho, hd⟩ := I.cell x c e
  obtain ⟨m, ⟨o', es, ep, ho', hd', _⟩, _⟩ := I.loc
  rw [z, ho'] at ho; cases ho; rw [hd'] at hd; cases hd
theorem Inv.funs (I : Inv X pins σ H s) : s.heap.FunFrames X.base X.outer := by
  have all : ∀ (l : List Env), (∀ b ∈ frs l, b ∈ X.fs) → X.s₀.heap.FunFrames X.base l → s.heap.FunFrames X.base l := by
    intro l
    induction l with
    | nil => intro _ _; trivial
    | cons env r ih =>
      intro hs hl
      obtain ⟨hk, ⟨L, o, hf, hn, ho, hd⟩, hr⟩ := hl
      have hL : L ∈ X.fs := hs L (by unfold frs; rw [List.filterMap_cons, hf]; exact List.mem_cons_self)
      obtain ⟨sl, e⟩ := I.base.slot L o ho (I.ok.frf L hL) hL fun z => I.ok.exfs L z hL
      exact ⟨hk, ⟨L, _, hf, hn, e, hd⟩, ih (fun b hb => hs b (by unfold frs; rw [List.filterMap_cons, hf]; exact List.mem_cons_of_mem _ hb)) hr⟩
  exact all X.outer (fun _ hb => hb) I.ok.funs

/-- the frames that run, for a call -/
theorem Inv.stack (I : Inv X pins σ H s) : s.heap.FunFrames X.base X.stack := by
  rcases I.ok.stk with e | ⟨e, hf⟩
  · rw [e]; exact I.funs
  · rw [e]
    obtain ⟨m, hn, _⟩ := I.loc
    refine .cons (by rw [I.ok.kind]; decide) hf hn ?_ I.funs
    exact Heap.get?_none_of_le (Nat.le_trans I.ok.bsz I.ok.above)
theorem Inv.stkSub (I : Inv X pins σ H s) : ∀ b ∈ frs X.stack, b ∈ X.env.locals :: X.fs := fun b hb => by
  rcases I.ok.stk with e | ⟨e, hf⟩
  · rw [e] at hb; exact List.mem_cons_of_mem _ hb
  · rw [e] at hb
    unfold frs at hb
    rw [List.filterMap_cons, hf] at hb
    exact hb
theorem Inv.stkFree (I : Inv X pins σ H s) : ∀ b ∈ frs X.stack, H b = none := fun b hb => by
  rcases List.mem_cons.mp (I.stkSub b hb) with e | hb
  · rw [e]; exact I.free
  · obtain ⟨_, o, ho, _⟩ := I.ok.funs.mem hb
    exact I.base.free b o ho (I.ok.frf b hb) fun z => I.ok.exfs b z hb

/-- THE STEP: the untracked objects but the frame and the records at ch are kept (the callers' frames up to slots), the frame's map is kept, the new abstract heap is held -/
theorem Inv.step {g' : Array GenState} {t' : Nat} {d' : Drawn} {ch : List Addr} (I : Inv X pins σ H s)
    (hch : ∀ b ∈ ch, (b ∈ X.ex ∨ X.s₀.heap.objs.size ≤ b) ∧ b ≠ X.env.locals ∧ (∀ x c, X.env.cells.lookup x = some c → c ≠ b) ∧ ∀ p ∈ X.pn ++ pins, p.1 ≠ b)
    (keep : ∀ b o, b ≠ X.env.locals → b ∉ X.fs → b ∉ ch → s.heap.get? b = some o → H b = none → h'.get? b = some o)
    (slot : ∀ b o, b ≠ X.env.locals → b ∈ X.fs → b ∉ ch → s.heap.get? b = some o → H b = none → ∃ sl, h'.get? b = some { o with slots := sl }) (free : ∀ b o, b ∉ ch → s.heap.get? b = some o → H b = none → H' b = none)
    (there : ∀ b o, b ∉ ch → s.heap.get? b = some o → ∃ o', h'.get? b = some o')
    (tups : ∀ b xs, H b = some (.tup xs) → H' b = some (.tup xs)) (frzs : ∀ b o u, H b = some (.frz o u) → H' b = some (.frz o u)) (tbls : ∀ b ps, H b = some (.tbl ps) → ∃ more, H' b = some (.tbl (ps ++ more)))
    (ns : ∀ m, s.heap.Ns X.env.locals m → h'.Ns X.env.locals m) (hok : HOk X.prog X.w H' h') (hg : AllBare g') :
    Inv X pins σ H' { s with heap := h', gens := g', drawn := d', toks := t' } := by
  have neL : ∀ b o, X.s₀.heap.get? b = some o → b ≠ X.env.locals := fun b o e => Nat.ne_of_lt (Nat.lt_of_lt_of_le (Heap.lt_size e) I.ok.above)
  have neC : ∀ b o, X.s₀.heap.get? b = some o → b ∉ X.ex → b ∉ ch := fun b o e hx hb => by
    rcases (hch b hb).1 with z | z
    · exact hx z
    · exact absurd (Nat.lt_of_lt_of_le (Heap.lt_size e) z) (Nat.lt_irrefl _)
  have cellK : ∀ x c, X.env.cells.lookup x = some c → ∀ v, s.heap.IsCell c v → h'.IsCell c v := fun x c e v ⟨o, ho, hd⟩ => by
    have nch : c ∉ ch := fun z => (hch c z).2.2.1 x c e rfl
    by_cases hc : c ∈ X.fs
    · obtain ⟨sl, q⟩ := slot c o (I.cne x c e) hc nch ho (I.freeC x c e)
      exact ⟨_, q, hd⟩
    · exact ⟨o, keep c o (I.cne x c e) hc nch ho (I.freeC x c e), hd⟩
  refine ⟨I.ok, I.os, hg, ⟨fun b o e n hb hx => ?_, fun b o e n hb hx => ?_, fun b o e n hx => ?_, fun b o e hx => ?_, fun b xs e => tups b xs (I.base.tups b xs e), fun b o xs e => frzs b o xs (I.base.frzs b o xs e), fun b ps e => ?_⟩, ?_, fun x c e => ?_, ?_, fun x c e => ?_, fun p hp => ?_, hok, I.len⟩
  · exact keep b o (neL b o e) hb (neC b o e hx) (I.base.keep b o e n hb hx) (I.base.free b o e n hx)
  · obtain ⟨sl, e1⟩ := I.base.slot b o e n hb hx
    obtain ⟨sl', e2⟩ := slot b _ (neL b o e) hb (neC b o e hx) e1 (I.base.free b o e n hx)
    exact ⟨sl', e2⟩
  · obtain ⟨o', e1⟩ := I.base.there b o e hx
    exact free b o' (neC b o e hx) e1 (I.base.free b o e n hx)
  · obtain ⟨o', e1⟩ := I.base.there b o e hx
    exact there b o' (neC b o e hx) e1
  · obtain ⟨m1, e1⟩ := I.base.tbls b ps e
    obtain ⟨m2, e2⟩ := tbls b _ e1
    exact ⟨m1 ++ m2, by rw [e2, Array.append_assoc]⟩
  · obtain ⟨m, hn, hl⟩ := I.loc
    refine ⟨m, ns m hn, fun i x v e1 e2 e3 => ?_⟩
    obtain ⟨u, r, l⟩ := hl i x v e1 e2 e3
    refine ⟨u, r, ?_⟩
    rcases l with l | ⟨k, c, e, z⟩
    · exact .inl l
    · exact .inr ⟨k, c, e, cellK x c e _ z⟩
  · obtain ⟨v, z⟩ := I.cell x c e
    exact ⟨v, cellK x c e v z⟩
  · obtain ⟨m, ⟨o, _, _, ho, _⟩, _⟩ := I.loc
    exact free _ o (fun z => (hch _ z).2.1 rfl) ho I.free
  · obtain ⟨v, o, ho, hd⟩ := I.cell x c e
    exact free c o (fun z => (hch c z).2.2.1 x c e rfl) ho (I.freeC x c e)
  · obtain ⟨e, n, ne, nf, d⟩ := I.pin p hp
    have nch : p.1 ∉ ch := fun z => (hch p.1 z).2.2.2 p hp rfl
    exact ⟨keep p.1 p.2 ne nf nch e n, free p.1 p.2 nch e n, ne, nf, d⟩
/-- .. where the frame's own object is kept too -/
theorem Inv.un {t' : Nat} (I : Inv X pins σ H s) (u : Un X.fs [] H H' s.heap h') (hok : HOk X.prog X.w H' h') : Inv X pins σ H' { s with heap := h', toks := t' } := by
  obtain ⟨m, ⟨o, es, ep, ho, r⟩, _⟩ := id I.loc
  obtain ⟨sl, hL⟩ := u.any ho I.free (by simp)
  exact I.step (g' := s.gens) (d' := s.drawn) (ch := []) (fun _ z => nomatch z) (fun b o _ hb _ e n => u.keep b o e n hb (by simp)) (fun b o _ hb _ e n => u.slot b o e n hb (by simp)) (fun b o _ e n => u.free b o e n (by simp)) (fun b o _ e => u.there b o e (by simp)) u.tups u.frzs u.tbls (fun m' hm => by
    obtain ⟨o', es', ep', ho', r'⟩ := hm
    rw [ho] at ho'; cases ho'
    exact ⟨_, es', ep', hL, r'⟩) hok I.bare
/-- behind a call (or a comprehension's block): the slots of this frame may have changed too, the records at ch may have turned -/
theorem Inv.call {g' : Array GenState} {t' : Nat} {d' : Drawn} {ch : List Addr} (I : Inv X pins σ H s) (u : Un (frs X.stack) ch H H' s.heap h') (hok : HOk X.prog X.w H' h') (hg : AllBare g')
    (hch : ∀ b ∈ ch, (b ∈ X.ex ∨ X.s₀.heap.objs.size ≤ b) ∧ b ≠ X.env.locals ∧ (∀ x c, X.env.cells.lookup x = some c → c ≠ b) ∧ ∀ p ∈ X.pn ++ pins, p.1 ≠ b) :
    Inv X pins σ H' { s with heap := h', gens := g', drawn := d', toks := t' } := by
  obtain ⟨m, ⟨o, es, ep, ho, r⟩, _⟩ := id I.loc
  obtain ⟨sl, hL⟩ := u.any ho I.free fun z => (hch _ z).2.1 rfl
  exact I.step (ch := ch) hch (fun b o hL hb hc e n => u.keep b o e n (fun z => (List.mem_cons.mp (I.stkSub b z)).elim hL hb) hc) (fun b o _ _ hc e n => u.any e n hc) (fun b o hc e n => u.free b o e n hc) (fun b o hc e => u.there b o e hc) u.tups u.frzs u.tbls (fun m' hm => by
    obtain ⟨o', es', ep', ho', r'⟩ := hm
    rw [ho] at ho'; cases ho'
    exact ⟨_, es', ep', hL, r'⟩) hok hg
/-- an untracked record of ours (an iterator) has turned -/
theorem Inv.turned {t' : Nat} {it : Addr} (I : Inv X pins σ H s) (k : ∀ b o, b ≠ it → s.heap.get? b = some o → h'.get? b = some o) (hn : H it = none) (hL : it ≠ X.env.locals)
    (h1 : it ∈ X.ex ∨ X.s₀.heap.objs.size ≤ it) (h2 : ∀ x c, X.env.cells.lookup x = some c → c ≠ it) (h3 : ∀ p ∈ X.pn ++ pins, p.1 ≠ it) : Inv X pins σ H { s with heap := h', toks := t' } := by
  have nit : ∀ b u, H b = some u → b ≠ it := fun b u e z => by rw [z, hn] at e; cases e
  refine I.step (g' := s.gens) (d' := s.drawn) (ch := [it]) (fun b hb => ?_) (fun b o _ _ hc e _ => k b o (fun z => hc (by simp [z])) e) (fun b o _ _ hc e _ => ⟨o.slots, k b o (fun z => hc (by simp [z])) e⟩) (fun _ _ _ _ n => n)
    (fun b o hc e => ⟨o, k b o (fun z => hc (by simp [z])) e⟩) (fun _ _ e => e) (fun _ _ _ e => e) (fun b ps e => ⟨#[], by rw [e]; simp⟩) (fun m hm => ?_) (fun b u e => ?_) I.bare
  · have e : b = it := by simpa using hb
    subst e
    exact ⟨h1, hL, h2, h3⟩
  · obtain ⟨o, es, ep, ho, r⟩ := hm
    exact ⟨o, es, ep, k _ o (Ne.symm hL) ho, r⟩
  · refine (I.hok b u e).stay (fun c v hc q => k c v ?_ q) (fun _ q => q) fun _ _ q => q
    rcases hc with z | z
    · rw [z]; exact nit b u e
    · exact nit c _ z
theorem Inv.tok (I : Inv X pins σ H s) (t : Nat) : Inv X pins σ H { s with toks := t } := I.un (h' := s.heap) (t' := t) Un.refl I.hok
/-- all objects kept -/
theorem Inv.kept {t' : Nat} (I : Inv X pins σ H s) (k : ∀ b u, s.heap.get? b = some u → h'.get? b = some u) : Inv X pins σ H { s with heap := h', toks := t' } := I.un (Un.kept k) (I.hok.kept k)
/-- a new object laid and tracked -/
theorem Inv.laid {a : Addr} {o : HO} {t' : Nat} (I : Inv X pins σ H s) (k : ∀ b u, s.heap.get? b = some u → h'.get? b = some u) (hp : s.heap.objs.size ≤ a) (new : ObjOk X.prog X.w (upd H a o) h' a o) :
    Inv X pins σ (upd H a o) { s with heap := h', toks := t' } := I.un (Un.laid k hp (I.hok.fresh hp)) (I.hok.laid k hp new)
/-- an object written -/
theorem Inv.write {x e : Addr} {o : HO} {t' : Nat} (I : Inv X pins σ H s) (mu : Mut (H x)) (he : e = x ∨ H e = some (.own x)) (k : ∀ b u, b ≠ e → s.heap.get? b = some u → h'.get? b = some u) (heo : ∃ u, h'.get? e = some u)
    (new : ObjOk X.prog X.w (upd H x o) h' x o) : Inv X pins σ (upd H x o) { s with heap := h', toks := t' } := I.un (Un.write mu he k heo) (I.hok.write mu he k heo new)
theorem Inv.pins_of {pins' : List (Addr × Obj)} (I : Inv X pins σ H s) (h : ∀ p ∈ pins', s.heap.get? p.1 = some p.2 ∧ H p.1 = none ∧ p.1 ≠ X.env.locals ∧ p.1 ∉ X.fs ∧ ∀ v, p.2.data ≠ .cell v) : Inv X pins' σ H s :=
  ⟨I.ok, I.os, I.bare, I.base, I.loc, I.cell, I.free, I.freeC, fun p hp => (List.mem_append.mp hp).elim (fun z => I.pin p (List.mem_append_left _ z)) (h p), I.hok, I.len⟩

theorem nodup_ix {N : List Str} (hN : N.Nodup) {i j : Nat} {x : Str} (a : N[i]? = some x) (b : N[j]? = some x) : i = j := by
  obtain ⟨h1, e1⟩ := List.getElem?_eq_some_iff.mp a
  obtain ⟨h2, e2⟩ := List.getElem?_eq_some_iff.mp b
  exact (List.getElem_inj hN).mp (e1.trans e2.symm)

/-- a name is stored; what changed -/
theorem store_ok2 {M : Model} {A : Around} {E : Value → Shared → Prop} {i : Nat} {x : Str} {v : V} {u : Value} {Q : Unit → Shared → Prop} (I : Inv X pins σ H s) (hN : X.N.Nodup) (hi : X.N[i]? = some x) (hx : Loc X.env.scope x) (r : RelV v u)
    (h : ∀ s', Inv X pins (σ.set i (some v)) H s' → (∃ a, Heap.SameBut a s.heap s'.heap ∧ (a = X.env.locals ∨ X.env.cells.lookup x = some a)) → Q () s') (hf : X.fn x = true ∨ X.env.scope.names.lookup x = some .local := by first | exact .inl rfl | exact .inr rfl | assumption) : wpAny M A (storeName X.env x u) Q E s := by
  obtain ⟨m, hn, hl⟩ := id I.loc
  have hcls : (X.env.scope.kind == .class || (X.env.scope.kind == .module && X.env.locals != X.env.globals)) = false := by rw [I.ok.kind]; rfl
  have hiσ : i < σ.length := by rw [I.len]; exact (List.getElem?_eq_some_iff.mp hi).1
  have cne := I.cne
  have tracked : ∀ {a : Addr} {h' : Heap}, (∃ o, s.heap.get? a = some o ∧ H a = none) → Heap.SameBut a s.heap h' → HOk X.prog X.w H h' := fun {a h'} ha hs b ob e => by
    obtain ⟨_, _, hfree⟩ := ha
    refine (I.hok b ob e).stay (fun c w' hc q => (hs.2 c ?_).trans q) (fun _ q => q) fun _ _ q => q
    rintro rfl
    rcases hc with rfl | hc
    · rw [hfree] at e; cases e
    · rw [hfree] at hc; cases hc
  rcases hx with hk | hk
  · refine wpAny_storeName_local hk hn (fun h' hn' hs => ?_) hcls
    obtain ⟨oL, _, _, hoL, _⟩ := id hn
    refine h _ ⟨I.ok, I.os, I.bare, ⟨fun b o e n hb hx => ?_, fun b o e n hb hx => ?_, I.base.free, fun b o e hx => ?_, I.base.tups, I.base.frzs, I.base.tbls⟩, ⟨_, hn', fun j y v' e1 e2 e3 => ?_⟩, fun y c e => ?_, I.free, I.freeC, fun p hp => ?_, tracked ⟨oL, hoL, I.free⟩ hs, by simpa using I.len⟩ ⟨_, hs, .inl rfl⟩
    · exact (hs.2 b (Nat.ne_of_lt (Nat.lt_of_lt_of_le (Heap.lt_size e) I.ok.above))).trans (I.base.keep b o e n hb hx)
    · obtain ⟨sl, e1⟩ := I.base.slot b o e n hb hx
      exact ⟨sl, (hs.2 b (Nat.ne_of_lt (Nat.lt_of_lt_of_le (Heap.lt_size e) I.ok.above))).trans e1⟩
    · obtain ⟨o', e1⟩ := I.base.there b o e hx
      exact ⟨o', (hs.2 b (Nat.ne_of_lt (Nat.lt_of_lt_of_le (Heap.lt_size e) I.ok.above))).trans e1⟩
    · by_cases hj : j = i
      · subst hj
        rw [hi] at e1; cases e1
        rw [List.getElem?_set_self hiσ] at e2
        cases e2
        exact ⟨u, r, .inl ⟨hk, by simp⟩⟩
      · rw [List.getElem?_set_ne (Ne.symm hj)] at e2
        obtain ⟨u', r', q⟩ := hl j y v' e1 e2 e3
        refine ⟨u', r', ?_⟩
        rcases q with ⟨k, e⟩ | ⟨k, c, e, z⟩
        · refine .inl ⟨k, ?_⟩
          have : y ≠ x := fun e => hj (nodup_ix hN e1 (e ▸ hi))
          simp [this, e]
        · exact .inr ⟨k, c, e, z.sameBut hs (cne y c e)⟩
    · obtain ⟨w', z⟩ := I.cell y c e
      exact ⟨w', z.sameBut hs (cne y c e)⟩
    · obtain ⟨e, n, ne, nf, d⟩ := I.pin p hp
      exact ⟨(hs.2 p.1 ne).trans e, n, ne, nf, d⟩
  · have hfn : X.fn x = true := by
      rcases hf with z | z
      · exact z
      · rw [z] at hk; cases hk
    obtain ⟨c, hc⟩ := I.ok.has x (.inl hk)
    obtain ⟨w', z⟩ := I.cell x c hc
    refine wpAny_storeName_cell I.ok.kind hk hc z (fun h' hc' hs => ?_)
    obtain ⟨oc, hoc, hocd⟩ := id z
    refine h { s with heap := h' } ⟨I.ok, I.os, I.bare, ⟨fun b o e n hb hx => ?_, fun b o e n hb hx => ?_, I.base.free, fun b o e hx => ?_, I.base.tups, I.base.frzs, I.base.tbls⟩, ⟨m, hn.sameBut hs (Ne.symm (cne x c hc)), fun j y v' e1 e2 e3 => ?_⟩, fun y c' e => ?_, I.free, I.freeC, fun p hp => ?_, tracked ⟨oc, hoc, I.freeC x c hc⟩ hs, by simpa using I.len⟩ ⟨c, hs, .inr hc⟩
    · exact (hs.2 b (Nat.ne_of_lt (Nat.lt_of_lt_of_le (Heap.lt_size e) (I.ok.cab x c hfn hc)))).trans (I.base.keep b o e n hb hx)
    · obtain ⟨sl, e1⟩ := I.base.slot b o e n hb hx
      exact ⟨sl, (hs.2 b (Nat.ne_of_lt (Nat.lt_of_lt_of_le (Heap.lt_size e) (I.ok.cab x c hfn hc)))).trans e1⟩
    · obtain ⟨o', e1⟩ := I.base.there b o e hx
      exact ⟨o', (hs.2 b (Nat.ne_of_lt (Nat.lt_of_lt_of_le (Heap.lt_size e) (I.ok.cab x c hfn hc)))).trans e1⟩
    · by_cases hj : j = i
      · subst hj
        rw [hi] at e1; cases e1
        rw [List.getElem?_set_self hiσ] at e2
        cases e2
        exact ⟨u, r, .inr ⟨.inl hk, c, hc, hc'⟩⟩
      · rw [List.getElem?_set_ne (Ne.symm hj)] at e2
        obtain ⟨u', r', q⟩ := hl j y v' e1 e2 e3
        refine ⟨u', r', ?_⟩
        rcases q with q | ⟨k, c', e, z'⟩
        · exact .inl q
        · refine .inr ⟨k, c', e, z'.sameBut hs ?_⟩
          rintro rfl
          exact hj (nodup_ix hN e1 (I.ok.inj _ _ _ e hc ▸ hi))
    · by_cases hcc : c' = c
      · subst hcc; exact ⟨_, hc'⟩
      · obtain ⟨w2, z2⟩ := I.cell y c' e
        exact ⟨w2, z2.sameBut hs hcc⟩
    · obtain ⟨e, n, ne, nf, d⟩ := I.pin p hp
      refine ⟨(hs.2 p.1 ?_).trans e, n, ne, nf, d⟩
      intro q
      rw [q, hoc] at e
      have q' : oc = p.2 := Option.some.inj e
      exact d w' (by rw [← q']; exact hocd)
theorem store_ok {M : Model} {A : Around} {E : Value → Shared → Prop} {i : Nat} {x : Str} {v : V} {u : Value} {Q : Unit → Shared → Prop} (I : Inv X pins σ H s) (hN : X.N.Nodup) (hi : X.N[i]? = some x) (hx : Loc X.env.scope x) (r : RelV v u)
    (h : ∀ s', Inv X pins (σ.set i (some v)) H s' → Q () s') (hf : X.fn x = true ∨ X.env.scope.names.lookup x = some .local := by first | exact .inl rfl | exact .inr rfl | assumption) : wpAny M A (storeName X.env x u) Q E s :=
  store_ok2 I hN hi hx r (fun s' I' _ => h s' I') hf
/-- behind a call or a block, the state as it is -/
theorem Inv.call' {s' : Shared} {ch : List Addr} (I : Inv X pins σ H s) (ho : s'.os = s.os) (u : Un (frs X.stack) ch H H' s.heap s'.heap) (hok : HOk X.prog X.w H' s'.heap) (hg : AllBare s'.gens)
    (hch : ∀ b ∈ ch, (b ∈ X.ex ∨ X.s₀.heap.objs.size ≤ b) ∧ b ≠ X.env.locals ∧ (∀ x c, X.env.cells.lookup x = some c → c ≠ b) ∧ ∀ p ∈ X.pn ++ pins, p.1 ≠ b) : Inv X pins σ H' s' := by
  obtain ⟨h', g', d', t', o'⟩ := s'
  have e : o' = s.os := ho
  subst e
  exact I.call (g' := g') (t' := t') (d' := d') u hok hg hch
end

/-! ### the judgements -/
/-- an exception: its class, its own dict's address (where it has one), the abstract heap behind it -/
abbrev XK := Value → Option Addr → Hp → Prop
abbrev St := List (Option V)
abbrev VK := V → Hp → Prop
/-- an expression's reading; a test's; an argument list's -/
abbrev TE := St → Hp → VK → Prop
abbrev TT := St → Hp → (Bool → Hp → Prop) → Prop
abbrev TA := St → Hp → (List V → Hp → Prop) → Prop
/-- what is wanted behind a statement -/
structure Ends where
  nx : St → Hp → Prop
  rt : VK
  bk : St → Hp → Prop := fun _ _ => False
  ct : St → Hp → Prop := fun _ _ => False
abbrev TS := Ends → St → Hp → Prop

def EP (X : Cx) (pins : List (Addr × Obj)) (σ : St) (Q : VK) (u : Value) (s' : Shared) : Prop := ∃ v H', Inv X pins σ H' s' ∧ RelV v u ∧ Q v H'
def TP (X : Cx) (pins : List (Addr × Obj)) (σ : St) (Q : Bool → Hp → Prop) (b : Bool) (s' : Shared) : Prop := ∃ H', Inv X pins σ H' s' ∧ Q b H'
def AP (X : Cx) (pins : List (Addr × Obj)) (σ : St) (Q : List V → Hp → Prop) (us : List Value) (s' : Shared) : Prop := ∃ vs H', Inv X pins σ H' s' ∧ Vals vs us ∧ Q vs H'
def SP (X : Cx) (pins : List (Addr × Obj)) (D : Ends) (f : Flow) (s' : Shared) : Prop :=
  match f with
  | .next => ∃ σ' H', Inv X pins σ' H' s' ∧ D.nx σ' H'
  | .brk => ∃ σ' H', Inv X pins σ' H' s' ∧ D.bk σ' H'
  | .cont => ∃ σ' H', Inv X pins σ' H' s' ∧ D.ct σ' H'
  | .ret u => ∃ v σ' H', Inv X pins σ' H' s' ∧ RelV v u ∧ D.rt v H'

def PE (X : Cx) (e : Expr) (t : TE) : Prop :=
  ∀ (pins : List (Addr × Obj)) (s : Shared) (σ : St) (H : Hp) (Q : VK), Inv X pins σ H s → t σ H Q → wpAny (model X.prog X.w) X.A (eval e X.env) (EP X pins σ Q) X.xe s
def PT (X : Cx) (e : Expr) (t : TT) : Prop :=
  ∀ (pins : List (Addr × Obj)) (s : Shared) (σ : St) (H : Hp) (Q : Bool → Hp → Prop), Inv X pins σ H s → t σ H Q → wpAny (model X.prog X.w) X.A (isTrue e X.env (eval e X.env)) (TP X pins σ Q) X.xe s
/-- a test whatever its 'whole' is (and, or) -/
def PW (X : Cx) (e : Expr) (t : TT) : Prop :=
  ∀ (whole : Sem Value) (pins : List (Addr × Obj)) (s : Shared) (σ : St) (H : Hp) (Q : Bool → Hp → Prop), Inv X pins σ H s → t σ H Q → wpAny (model X.prog X.w) X.A (isTrue e X.env whole) (TP X pins σ Q) X.xe s
theorem PW.pt {X : Cx} {e : Expr} {t : TT} (h : PW X e t) : PT X e t := h _
/-- an argument list (no star), from the left -/
def PA (X : Cx) (es : List Expr) (t : TA) : Prop :=
  ∀ (pos : Pos) (pins : List (Addr × Obj)) (s : Shared) (σ : St) (H : Hp) (Q : List V → Hp → Prop), Inv X pins σ H s → t σ H Q → wpAny (model X.prog X.w) X.A (spliced (backTo pos (starEach es X.env))) (AP X pins σ Q) X.xe s
def PS (X : Cx) (st : Stmt) (t : TS) : Prop :=
  ∀ (pins : List (Addr × Obj)) (s : Shared) (σ : St) (H : Hp) (D : Ends), Inv X pins σ H s → t D σ H → wpAny (model X.prog X.w) X.A (exec st X.env) (SP X pins D) X.xe s
def PSs (X : Cx) (st : List Stmt) (t : TS) : Prop :=
  ∀ (pins : List (Addr × Obj)) (s : Shared) (σ : St) (H : Hp) (D : Ends), Inv X pins σ H s → t D σ H → wpAny (model X.prog X.w) X.A (execs st X.env) (SP X pins D) X.xe s
/-- weaken the end -/
theorem thn {α : Type} {t : Sem α} {Q Q' : α → Shared → Prop} {M : Model} {A : Around} {E : Value → Shared → Prop} {s : Shared} (h : wpAny M A t Q E s) (hQ : ∀ a s, Q a s → Q' a s) : wpAny M A t Q' E s := wpAny_mono h hQ fun _ _ x => x
end L2

namespace L2
open PySem PySem.Spec PyProof.Rows
section
variable {X : Cx}

/-- two expressions in a row -/
theorem bin {a b : Expr} {ta tb : TE} (ha : PE X a ta) (hb : PE X b tb) {pins : List (Addr × Obj)} {s : Shared} {σ : St} {H : Hp} {R : V → V → Hp → Prop} (I : Inv X pins σ H s) (h : ta σ H fun x H1 => tb σ H1 fun y H2 => R x y H2)
    {α : Type} {Q : α → Shared → Prop} {f : Value → Value → Sem α}
    (hf : ∀ v u s2 x y H2, Inv X pins σ H2 s2 → RelV x v → RelV y u → R x y H2 → wpAny (model X.prog X.w) X.A (f v u) Q X.xe s2) :
    wpAny (model X.prog X.w) X.A (eval a X.env) (fun v s₁ => wpAny (model X.prog X.w) X.A (eval b X.env) (fun u s₂ => wpAny (model X.prog X.w) X.A (f v u) Q X.xe s₂) X.xe s₁) X.xe s := by
  refine thn (ha pins s σ H _ I h) fun v s1 hq0 => ?_
  obtain ⟨x, H1, I1, r1, q1⟩ := hq0
  refine thn (hb pins s1 σ H1 _ I1 q1) fun u s2 hq0 => ?_
  obtain ⟨y, H2, I2, r2, q2⟩ := hq0
  exact hf v u s2 x y H2 I2 r1 r2 q2

/-! ### names and constants -/
def tVar (i : Nat) : TE := fun σ H Q => ∃ v, σ[i]? = some (some v) ∧ Q v H
def tC (v : V) : TE := fun _ H Q => Q v H
theorem pe_var {i : Nat} {x : Str} {pos : Pos} (hN : X.N[i]? = some x) (hv : Vis X.env.scope x) (hd : (x == ("__debug__" : Str)) = false := by decide) (hcd : (x == ("__classdict__" : Str)) = false := by decide) : PE X (.Name x pos) (tVar i) := by
  intro pins s σ H Q I h
  obtain ⟨v, e, h⟩ := h
  obtain ⟨m, hn, hl⟩ := I.loc
  obtain ⟨u, r, l⟩ := hl i x v hN e hv
  have fin : EP X pins σ Q u s := ⟨v, H, I, r, h⟩
  rcases l with ⟨hk, hm⟩ | ⟨hk, c, hc, hcell⟩
  · exact wpAny_Name (wpAny_loadName_local I.ok.kind hk hn hm fin) hd
  · rcases hk with hk | hk
    · exact wpAny_Name (wpAny_loadName_cell I.ok.kind hk hc hcell fin) hd
    · exact wpAny_Name (wpAny_loadName_free I.ok.kind hk hc hcell fin hcd) hd
theorem pe_int {i j pos} : PE X (.Constant (.int i) j pos) (tC (.int i)) := fun _ _ _ H _ I h => wpAny_Constant_int ⟨.int i, H, I.tok _, ⟨_, rfl⟩, h⟩
theorem pe_bl {b j pos} : PE X (.Constant (.bool b) j pos) (tC (.bl b)) := fun _ _ _ H _ I h => Constant_bool ⟨.bl b, H, I, rfl, h⟩
theorem pe_str {x j pos} : PE X (.Constant (.str x) j pos) (tC (.str x)) := fun _ _ _ H _ I h => Calls.Constant_str ⟨.str x, H, I.tok _, ⟨_, rfl⟩, h⟩

/-- a global name of the def -/
def Gl (X : Cx) (x : Str) : Prop := X.env.kindOf x = some .globalImplicit
theorem ld_glob {E : Value → Shared → Prop} {pins : List (Addr × Obj)} {s : Shared} {σ : St} {H : Hp} {x : Str} {u : Value} {pos : Pos} {Q : Value → Shared → Prop} (I : Inv X pins σ H s) (hg : Gl X x) (hm : X.mg x = some u) (h : Q u s)
    (hd : (x == ("__debug__" : Str)) = false := by decide) : wpAny (model X.prog X.w) X.A (eval (.Name x pos) X.env) Q E s :=
  Calls.Name_function_global I.ok.kind hg (Calls.loadGlobal_global (by rw [I.ok.glob]; exact I.mod.glob.keeps I.bk) hm h) hd
theorem ld_blt {E : Value → Shared → Prop} {pins : List (Addr × Obj)} {s : Shared} {σ : St} {H : Hp} {x : Str} {u : Value} {pos : Pos} {Q : Value → Shared → Prop} (I : Inv X pins σ H s) (hg : Gl X x) (hm : X.mg x = none) (hv : bootBuiltins x = some u) (h : Q u s)
    (hn : x ≠ "__name__" := by decide) (hd : (x == ("__debug__" : Str)) = false := by decide) : wpAny (model X.prog X.w) X.A (eval (.Name x pos) X.env) Q E s := by
  obtain ⟨mb, h1, h2⟩ := I.mod.blt
  exact Calls.Name_function_global I.ok.kind hg (Calls.loadGlobal_builtin (by rw [I.ok.glob]; exact I.mod.glob.keeps I.bk) hm (by rw [I.ok.blt]; exact h1.keeps I.bk) ((h2 x hn).trans hv) h) hd

/-! ### arithmetic -/
variable {a b : Expr} {ta tb : TE} {pos : Pos}

/-! ### comparisons -/

/-! ### and, or, not -/
variable {tA tB' : TT} {rest : List Expr}
def tAnd (t u : TT) : TT := fun σ H Q => t σ H fun c H1 => if c = true then u σ H1 Q else Q false H1
def tOr (t u : TT) : TT := fun σ H Q => t σ H fun c H1 => if c = true then Q true H1 else u σ H1 Q
theorem pw_and1 (ha : PT X a tA) : PW X (.BoolOp .And [a] pos) tA := by
  intro wh pins s σ H Q I h
  refine isTrue_and (thn (ha pins s σ H Q I h) fun c s1 e => ?_)
  cases c with
  | true => exact isTrue_and_nil e
  | false => exact e
theorem pw_or1 (ha : PT X a tA) : PW X (.BoolOp .Or [a] pos) tA := by
  intro wh pins s σ H Q I h
  refine isTrue_or (thn (ha pins s σ H Q I h) fun c s1 e => ?_)
  cases c with
  | false => exact isTrue_or_nil e
  | true => exact e
theorem pw_and (ha : PT X a tA) (hb : PW X (.BoolOp .And (b :: rest) pos) tB') : PW X (.BoolOp .And (a :: b :: rest) pos) (tAnd tA tB') := by
  intro wh pins s σ H Q I h
  refine isTrue_and (thn (ha pins s σ H _ I h) fun c s1 hq0 => ?_)
  obtain ⟨H1, I1, q1⟩ := hq0
  cases c with
  | true => exact hb wh pins s1 σ H1 Q I1 q1
  | false => exact ⟨H1, I1, q1⟩
theorem pw_or (ha : PT X a tA) (hb : PW X (.BoolOp .Or (b :: rest) pos) tB') : PW X (.BoolOp .Or (a :: b :: rest) pos) (tOr tA tB') := by
  intro wh pins s σ H Q I h
  refine isTrue_or (thn (ha pins s σ H _ I h) fun c s1 hq0 => ?_)
  obtain ⟨H1, I1, q1⟩ := hq0
  cases c with
  | true => exact ⟨H1, I1, q1⟩
  | false => exact hb wh pins s1 σ H1 Q I1 q1
end
end L2

namespace L2
open PySem PySem.Spec PyProof.Rows

/-! ### a list, a tuple that is read: tracked, frozen, or an object of the module -/
def SqL (K : PySem.W.Frag) (H : Hp) (a : Addr) (xs : List V) : Prop :=
  Rd H a (.lst xs) ∨
    ∃ (o : Obj) (its : Array Value) (n : Nat), K.lookup a = some o ∧ o.cls = .type "list" ∧ o.dict = none ∧ o.data = .seq its n ∧ its.size ≤ sizeLine ∧ Vals xs its.toList
def SqT (K : PySem.W.Frag) (H : Hp) (a : Addr) (xs : List V) : Prop :=
  Rd H a (.tup xs) ∨
    ∃ (o : Obj) (its : Array Value) (n : Nat), K.lookup a = some o ∧ o.cls = .type "tuple" ∧ o.data = .seq its n ∧ its.size ≤ sizeLine ∧ Vals xs its.toList
def absV : Value → Option V
  | .none => some .non
  | .bool b => some (.bl b)
  | .int i _ => some (.int i)
  | .str x _ => some (.str x)
  | .bytes b _ => some (.byt b)
  | .float b _ => some (.flt b)
  | .ref a => some (.ref a)
  | .type n => some (.ty n)
  | _ => none
theorem RelV.abs {x : V} {u : Value} (r : RelV x u) : absV u = some x := by
  cases x with
  | non => cases r; rfl
  | bl _ => cases r; rfl
  | int _ => obtain ⟨t, rfl⟩ := r; rfl
  | str _ => obtain ⟨t, rfl⟩ := r; rfl
  | byt _ => obtain ⟨t, rfl⟩ := r; rfl
  | flt _ => obtain ⟨t, rfl⟩ := r; rfl
  | ref _ => cases r; rfl
  | ty _ => cases r; rfl
theorem RelV.inj {x y : V} {u : Value} (r : RelV x u) (q : RelV y u) : x = y := Option.some.inj (r.abs.symm.trans q.abs)
theorem Vals.inj : ∀ {xs ys : List V} {us : List Value}, Vals xs us → Vals ys us → xs = ys
  | _, _, _, .nil, .nil => rfl
  | _, _, _, .cons r t, .cons r' t' => by rw [r.inj r', Vals.inj t t']
section
variable {X : Cx} {pins : List (Addr × Obj)} {σ : St} {H : Hp} {s : Shared} {a : Addr} {xs ys : List V}
theorem SqL.of {K : PySem.W.Frag} (h : H a = some (.lst xs)) : SqL K H a xs := .inl (.inl h)
theorem SqT.of {K : PySem.W.Frag} (h : H a = some (.tup xs)) : SqT K H a xs := .inl (.inl h)
theorem Inv.list (I : Inv X pins σ H s) (h : SqL X.K H a xs) : ∃ its : List Value, Vals xs its ∧ PlainL s.heap a its.toArray ∧ xs.length ≤ sizeLine := by
  rcases h with h | ⟨o, its, n, hk, hc, hd, hs, hz, r⟩
  · obtain ⟨z, its, n, r, e⟩ := h.ok I.hok
    exact ⟨its, r, ⟨_, n, e, rfl, rfl, rfl⟩, z⟩
  · refine ⟨its.toList, r, ⟨o, n, I.kIn a o hk, hc, hd, by simpa using hs⟩, ?_⟩
    have e := r.length
    simp only [Array.length_toList] at e
    omega
theorem Inv.tuple (I : Inv X pins σ H s) (h : SqT X.K H a xs) : ∃ its : List Value, Vals xs its ∧ IsTup s.heap a its.toArray ∧ xs.length ≤ sizeLine := by
  rcases h with h | ⟨o, its, n, hk, hc, hs, hz, r⟩
  · obtain ⟨z, its, r, p⟩ := h.ok I.hok
    exact ⟨its, r, p, z⟩
  · refine ⟨its.toList, r, ⟨o, I.kIn a o hk, hc, n, by simpa using hs⟩, ?_⟩
    have e := r.length
    simp only [Array.length_toList] at e
    omega
theorem Inv.list_inj (I : Inv X pins σ H s) (h : SqL X.K H a xs) (h' : SqL X.K H a ys) : xs = ys := by
  obtain ⟨its, r, ⟨o, n, e, _, _, d⟩, _⟩ := I.list h
  obtain ⟨its', r', ⟨o', n', e', _, _, d'⟩, _⟩ := I.list h'
  rw [e] at e'; cases e'
  rw [d] at d'
  injection d' with d1 _
  have : its = its' := by simpa using congrArg Array.toList d1
  subst this
  exact r.inj r'
theorem Inv.tuple_inj (I : Inv X pins σ H s) (h : SqT X.K H a xs) (h' : SqT X.K H a ys) : xs = ys := by
  obtain ⟨its, r, ⟨o, e, _, n, d⟩, _⟩ := I.tuple h
  obtain ⟨its', r', ⟨o', e', _, n', d'⟩, _⟩ := I.tuple h'
  rw [e] at e'; cases e'
  rw [d] at d'
  injection d' with d1 _
  have : its = its' := by simpa using congrArg Array.toList d1
  subst this
  exact r.inj r'
end

/-! ### another wish about exceptions -/
abbrev Cx.wish (X : Cx) (E : Value → Shared → Prop) : Cx := { X with xe := E }
/-- no exception leaves -/
abbrev Cx.nox (X : Cx) : Cx := X.wish fun _ _ => False
theorem Cx.Ok.wish {X : Cx} (ok : X.Ok) (E : Value → Shared → Prop) : (X.wish E).Ok :=
  ⟨ok.mod, ok.kind, ok.glob, ok.blt, ok.above, ok.inj, ok.has, ok.cab, ok.hd, ok.frames, ok.stk, ok.exf, ok.bs, ok.bsz, ok.noex, ok.exfs, ok.funs, ok.frf⟩
theorem Cx.Ok.unwish {X : Cx} {E : Value → Shared → Prop} (ok : (X.wish E).Ok) : X.Ok :=
  ⟨ok.mod, ok.kind, ok.glob, ok.blt, ok.above, ok.inj, ok.has, ok.cab, ok.hd, ok.frames, ok.stk, ok.exf, ok.bs, ok.bsz, ok.noex, ok.exfs, ok.funs, ok.frf⟩
section
variable {X : Cx} {pins : List (Addr × Obj)} {σ : St} {H : Hp} {s : Shared} {E : Value → Shared → Prop}
theorem Inv.wish (I : Inv X pins σ H s) (E : Value → Shared → Prop) : Inv (X.wish E) pins σ H s := ⟨I.ok.wish E, I.os, I.bare, I.base, I.loc, I.cell, I.free, I.freeC, I.pin, I.hok, I.len⟩
theorem Inv.unwish (I : Inv (X.wish E) pins σ H s) : Inv X pins σ H s := ⟨I.ok.unwish, I.os, I.bare, I.base, I.loc, I.cell, I.free, I.freeC, I.pin, I.hok, I.len⟩
theorem SP.unwish {D : Ends} {f : Flow} {s' : Shared} (h : SP (X.wish E) pins D f s') : SP X pins D f s' := by
  cases f with
  | next => obtain ⟨σ', H', I, q⟩ := h; exact ⟨σ', H', I.unwish, q⟩
  | brk => obtain ⟨σ', H', I, q⟩ := h; exact ⟨σ', H', I.unwish, q⟩
  | cont => obtain ⟨σ', H', I, q⟩ := h; exact ⟨σ', H', I.unwish, q⟩
  | ret u => obtain ⟨v, σ', H', I, r, q⟩ := h; exact ⟨v, σ', H', I.unwish, r, q⟩
theorem PSs.nox {st : List Stmt} {t : TS} (h : PSs X.nox st t) : PSs X st t := fun pins s σ H D I hw =>
  wpAny_mono (h pins s σ H D (I.wish _) hw) (fun _ _ q => q.unwish) fun _ _ z => False.elim z
end

/-! ### blocks and small statements -/
section
variable {X : Cx} {st : Stmt} {rest : List Stmt} {t u : TS} {e : Expr} {te : TE} {pos : Pos}
def tNext : TS := fun D σ H => D.nx σ H
def tSeq (t u : TS) : TS := fun D σ H => t { D with nx := u D } σ H
theorem pss_nil : PSs X [] tNext := fun _ _ σ H _ I h => wpAny_execs_nil ⟨σ, H, I, h⟩
theorem pss_cons (h1 : PS X st t) (h2 : PSs X rest u) : PSs X (st :: rest) (tSeq t u) := by
  intro pins s σ H D I h
  refine wpAny_execs_cons (thn (h1 pins s σ H { D with nx := u D } I h) fun f s1 q => ?_)
  cases f with
  | next =>
    obtain ⟨σ', H', I', q⟩ := q
    exact h2 pins s1 σ' H' D I' q
  | ret v => exact q
  | brk => exact q
  | cont => exact q
theorem pss_one (h1 : PS X st t) : PSs X [st] t := by
  intro pins s σ H D I h
  refine wpAny_execs_cons (thn (h1 pins s σ H D I h) fun f s1 q => ?_)
  cases f with
  | next => exact wpAny_execs_nil q
  | ret v => exact q
  | brk => exact q
  | cont => exact q
/-- in a def's body nothing is shown -/
theorem Inv.quiet {pins : List (Addr × Obj)} {σ : St} {H : Hp} {s : Shared} (I : Inv X pins σ H s) : interactive X.env = false := by simp [interactive, I.ok.kind]
/-- an expression whose value is dropped -/
def tDrop (te : TE) : TS := fun D σ H => te σ H fun _ H1 => D.nx σ H1
theorem ps_expr (he : PE X e te) (hs : swapsWith e none pos.line X.env = pure false := by rfl) : PS X (.Expr e pos) (tDrop te) := by
  intro pins s σ H D I h
  exact wpAny_Expr_any (thn (he pins s σ H _ I h) fun v s1 ⟨x, H1, I1, r1, q1⟩ => ⟨σ, H1, I1, q1⟩) I.quiet hs
def tRet (te : TE) : TS := fun D σ H => te σ H D.rt
theorem ps_ret (he : PE X e te) : PS X (.Return (some e) pos) (tRet te) := by
  intro pins s σ H D I h
  exact wpAny_Return_some (thn (he pins s σ H _ I h) fun v s1 ⟨x, H1, I1, r1, q1⟩ => ⟨x, σ, H1, I1, r1, q1⟩)
def tIfS (c : TT) (t u : TS) : TS := fun D σ H => c σ H fun b H1 => if b = true then t D σ H1 else u D σ H1
theorem ps_if {c : Expr} {a b : List Stmt} {tc : TT} (hc : PT X c tc) (ha : PSs X a t) (hb : PSs X b u) : PS X (.If c a b pos) (tIfS tc t u) := by
  intro pins s σ H D I h
  refine wpAny_If (thn (hc pins s σ H _ I h) fun d s1 hq0 => ?_)
  obtain ⟨H1, I1, q1⟩ := hq0
  cases d with
  | true => exact ha pins s1 σ H1 D I1 q1
  | false => exact hb pins s1 σ H1 D I1 q1
end

/-! ### targets -/
abbrev TG := V → St → Hp → (St → Hp → Prop) → Prop
def PG (X : Cx) (target : Expr) (t : TG) : Prop :=
  ∀ (pins : List (Addr × Obj)) (s : Shared) (σ : St) (H : Hp) (v : V) (u : Value) (Q : St → Hp → Prop), Inv X pins σ H s → RelV v u → t v σ H Q →
    wpAny (model X.prog X.w) X.A (assign target X.env u) (fun _ s' => ∃ σ' H', Inv X pins σ' H' s' ∧ Q σ' H') X.xe s
section
variable {X : Cx} {pos : Pos}
def gName (i : Nat) : TG := fun v σ H Q => Q (σ.set i (some v)) H
theorem pg_name {i : Nat} {x : Str} (hN : X.N.Nodup) (hi : X.N[i]? = some x) (hx : Loc X.env.scope x) (hf : X.fn x = true ∨ X.env.scope.names.lookup x = some .local := by first | exact .inl rfl | exact .inr rfl | assumption) : PG X (.Name x pos) (gName i) := by
  intro pins s σ H v u Q I r h
  exact wpAny_assign_Name (store_ok I hN hi hx r (fun s' I' => ⟨_, H, I', h⟩) hf)
/-- target = value -/
def tAsg (te : TE) (g : TG) : TS := fun D σ H => te σ H fun x H1 => g x σ H1 D.nx
/-- name = value -/
theorem ps_set {i : Nat} {x : Str} {e : Expr} {te : TE} {pos' : Pos} (hN : X.N.Nodup) (hi : X.N[i]? = some x) (hx : Loc X.env.scope x) (he : PE X e te) (hs : swapsWith e (some (.Name x pos')) pos.line X.env = pure false := by rfl) (hf : X.fn x = true ∨ X.env.scope.names.lookup x = some .local := by first | exact .inl rfl | exact .inr rfl | assumption) :
    PS X (.Assign [.Name x pos'] e pos) (tAsg te (gName i)) := by
  intro pins s σ H D I h
  refine wpAny_Assign_Name (thn (he pins s σ H _ I h) fun v s1 hq0 => ?_) hs
  obtain ⟨y, H1, I1, r1, q1⟩ := hq0
  exact store_ok I1 hN hi hx r1 (fun s2 I2 => ⟨_, H1, I2, q1⟩) hf
end

/-! ### while -/
section
variable {X : Cx} {pos : Pos}
end

/-! ### what a loop or a comprehension walks -/
/-- at turn i: it yields x (the heap may grow), or it stops -/
structure It where
  go : Nat → Hp → Prop
  yld : Nat → Hp → V → Hp → Prop
  stop : Nat → Hp → Prop
/-- the iterator's own objects may turn: they are not the frame's, not pinned, younger than the entry (or a comprehension's own) -/
def FpOk (X : Cx) (pins : List (Addr × Obj)) (H : Hp) (b : Addr) : Prop :=
  H b = none ∧ b ≠ X.env.locals ∧ b ∉ X.fs ∧ (b ∈ X.ex ∨ X.s₀.heap.objs.size ≤ b) ∧ (∀ x c, X.env.cells.lookup x = some c → c ≠ b) ∧ ∀ p ∈ X.pn ++ pins, p.1 ≠ b
theorem Inv.fpOk {X : Cx} {pins : List (Addr × Obj)} {σ : St} {H H' : Hp} {s : Shared} {b : Addr} (I : Inv X pins σ H s) (hb : s.heap.objs.size ≤ b) (hn : H' b = none) : FpOk X pins H' b := by
  refine ⟨hn, Nat.ne_of_gt (Nat.lt_of_lt_of_le I.lt hb), I.nofs hb, .inr (Nat.le_trans I.sz hb), fun x c e z => ?_, fun p hp z => ?_⟩
  · obtain ⟨v, q⟩ := I.cell x c e
    exact absurd (Nat.lt_of_lt_of_le q.lt (by rw [z]; exact hb)) (Nat.lt_irrefl _)
  · exact absurd (Nat.lt_of_lt_of_le (Heap.lt_size (I.pin p hp).1) (by rw [z]; exact hb)) (Nat.lt_irrefl _)
structure Turn (P : Program) (w : World) (K : PySem.W.Frag) (tg : Expr) (J : It) (fp : List Addr) (it : Addr) (tn : Nat → Heap → Prop) : Prop where
  mem : it ∈ fp
  obj : ∀ i h, tn i h → ∀ b ∈ fp, ∃ o, h.get? b = some o ∧ ∀ v, o.data ≠ .cell v
  keep : ∀ i h h', tn i h → (∀ b ∈ fp, ∀ o, h.get? b = some o → h'.get? b = some o) → tn i h'
  item : ∀ (X : Cx), X.prog = P → X.w = w → X.K = K → X.calm = true → ∀ (i : Nat) (pins : List (Addr × Obj)) (s : Shared) (σ : St) (H : Hp) (E : Value → Shared → Prop), Inv X pins σ H s → (∀ b ∈ fp, FpOk X pins H b) → tn i s.heap → J.go i H →
    wpAny (model P w) X.A (pyNext (.ref it)) (fun r s1 => ∃ u, r = some u ∧
      wpAny (model P w) X.A (letOwnedTupleGo tg (.ref it) u) (fun _ s2 => ∃ x H', Inv X pins σ H' s2 ∧ RelV x u ∧ J.yld i H x H' ∧ tn (i + 1) s2.heap ∧ ∀ b ∈ fp, H' b = none) E s1) E s
  done : ∀ (X : Cx), X.prog = P → X.w = w → X.K = K → X.calm = true → ∀ (i : Nat) (pins : List (Addr × Obj)) (s : Shared) (σ : St) (H : Hp) (E : Value → Shared → Prop), Inv X pins σ H s → (∀ b ∈ fp, FpOk X pins H b) → tn i s.heap → J.stop i H →
    wpAny (model P w) X.A (pyNext (.ref it)) (fun r s1 => r = none ∧ Inv X pins σ H s1) E s
  self : ∀ (A : Around) (i : Nat) (s : Shared) (Q : Value → Shared → Prop) (E : Value → Shared → Prop), tn i s.heap → Q (.ref it) s → wpAny (model P w) A (pyIter (.ref it)) Q E s
abbrev TI := St → Hp → (It → Hp → Prop) → Prop
/-- an iterator has come -/
def PIE (X : Cx) (pins : List (Addr × Obj)) (σ : St) (tg : Expr) (R : It → Hp → Prop) (itv : Value) (s2 : Shared) : Prop :=
  ∃ (it : Addr) (fp : List Addr) (tn : Nat → Heap → Prop) (J : It) (H' : Hp), itv = .ref it ∧ Inv X pins σ H' s2 ∧ Turn X.prog X.w X.K tg J fp it tn ∧ tn 0 s2.heap ∧ (∀ b ∈ fp, FpOk X pins H' b) ∧ R J H'
def PI (X : Cx) (tg iter : Expr) (wi : TI) : Prop :=
  ∀ (pins : List (Addr × Obj)) (s : Shared) (σ : St) (H : Hp) (R : It → Hp → Prop), Inv X pins σ H s → wi σ H R →
    wpAny (model X.prog X.w) X.A (eval iter X.env) (fun v s1 => wpAny (model X.prog X.w) X.A (pyIter v) (PIE X pins σ tg R) X.xe s1) X.xe s

/-- the step ahead of the store is nothing for an iterator that keeps no tuple -/
theorem go_of {M : Model} {A : Around} {E : Value → Shared → Prop} {s : Shared} {tg : Expr} {it : Addr} {u : Value} {o : Obj} {n : String} {vs : Array Value} {Q : Unit → Shared → Prop} (ho : s.heap.get? it = some o) (hc : o.cls = .type n) (hd : o.data = .fields vs)
    (hn : ["enumerate", "zip", "dict_itemiterator", "dict_reverseitemiterator", "odict_iterator", "itertools.zip_longest", "itertools.pairwise"].contains n = false) (hQ : Q () s) : wpAny M A (letOwnedTupleGo tg (.ref it) u) Q E s := by
  unfold letOwnedTupleGo
  cases tg <;> first
    | exact wpAny_pure hQ
    | (cases u <;> first
        | exact wpAny_pure hQ
        | (refine wpAny_bind (wpAny_load ho ?_)
           rw [hc, hd]
           show wpAny M A (if (["enumerate", "zip", "dict_itemiterator", "dict_reverseitemiterator", "odict_iterator", "itertools.zip_longest", "itertools.pairwise"].contains n && vs[0]? == some (rawInt _)) = true then _ else _) Q E s
           rw [if_neg (by intro h; rw [hn, Bool.false_and] at h; cases h)]
           exact wpAny_pure hQ))

/-- the list at a, as it stands at each turn (a loop may append to it) -/
def Itl (K : PySem.W.Frag) (a : Addr) : It :=
  ⟨fun i H => ∃ xs x, SqL K H a xs ∧ xs[i]? = some x, fun i H x H' => H' = H ∧ ∀ xs, SqL K H a xs → xs[i]? = some x, fun i H => ∃ xs, SqL K H a xs ∧ xs.length ≤ i⟩
/-- lo, lo + 1, .. (n of them) -/
def Itr (lo : Int) (n : Nat) : It := ⟨fun i _ => i < n, fun i H x H' => H' = H ∧ x = .int (lo + i), fun i _ => n ≤ i⟩
theorem turn_list {P : Program} {w : World} {K : PySem.W.Frag} {tg : Expr} (a it : Addr) : Turn P w K tg (Itl K a) [it] it (fun i h => h.IsListIter it a i) where
  mem := by simp
  obj := fun i h st b hb => by
    have e : b = it := by simpa using hb
    subst e
    obtain ⟨o, e, c, d⟩ := st
    exact ⟨o, e, fun v z => by rw [d] at z; cases z⟩
  keep := fun i h h' st k => st.at fun o e => k it (by simp) o e
  item := by
    intro X hP hw hK hc i pins s σ H E I hf st hg
    subst hP hw hK
    obtain ⟨xs, x, hq, hx⟩ := hg
    obtain ⟨its, rv, p, hz⟩ := I.list hq
    obtain ⟨u, hu, ru⟩ := rv.get hx
    obtain ⟨f0, f1, f2, f3, f4, f5⟩ := hf it (by simp)
    refine wpAny_pyNext_list_item st p.isList (x := u) (by simpa using hu) fun h' st' sb => ?_
    have I1 : Inv X pins σ H { s with heap := h' } := I.turned (t' := s.toks) (fun b o hb e => (sb.2 b hb).trans e) f0 f1 f3 f4 f5
    obtain ⟨o, e, c, d⟩ := id st'
    exact ⟨u, rfl, go_of (s := { s with heap := h' }) e c d (by decide) ⟨x, H, I1, ru, ⟨rfl, fun ys hy => by rw [I.list_inj hy hq]; exact hx⟩, st', fun b hb => (hf b hb).1⟩⟩
  done := by
    intro X hP hw hK hc i pins s σ H E I hf st hg
    subst hP hw hK
    obtain ⟨xs, hq, hx⟩ := hg
    obtain ⟨its, rv, p, hz⟩ := I.list hq
    obtain ⟨f0, f1, f2, f3, f4, f5⟩ := hf it (by simp)
    have hl := rv.length
    exact wpAny_pyNext_list_end (I.ok.hd hc) st p.isList (by simp; omega) fun h' eb => ⟨rfl, I.turned (t' := s.toks) (fun b o hb e => eb b o hb e) f0 f1 f3 f4 f5⟩
  self := fun _ _ _ _ _ st h => wpAny_pyIter_listiter st h
theorem turn_range {P : Program} {w : World} {K : PySem.W.Frag} {tg : Expr} (it : Addr) (lo : Int) (n : Nat) : Turn P w K tg (Itr lo n) [it] it (fun i h => IsRangeIter h it (lo + (i : Nat) * 1) ((n : Int) - (i : Nat)) 1) where
  mem := by simp
  obj := fun i h st b hb => by
    have e : b = it := by simpa using hb
    subst e
    exact ⟨_, st, fun v z => by
      have z' : Data.fields _ = Data.cell v := z
      cases z'⟩
  keep := fun i h h' st k => k it (by simp) _ st
  item := by
    intro X hP hw hK hc i pins s σ H E I hf st hg
    subst hP hw hK
    obtain ⟨f0, f1, f2, f3, f4, f5⟩ := hf it (by simp)
    have W := Walks.range (prog := X.prog) (w := X.w) (I.ok.hd hc) it lo 1 n
    refine W.item i s _ _ hg st fun v h' tk hv st' kk => ?_
    obtain ⟨t, rfl⟩ := hv
    have I1 : Inv X pins σ H { s with heap := h', toks := tk } := I.turned (fun b o hb e => kk b o (by simpa using hb) e) f0 f1 f3 f4 f5
    refine ⟨_, rfl, go_of (s := { s with heap := h', toks := tk }) (n := "range_iterator") st' rfl rfl (by decide) ⟨.int (lo + i), H, I1, ⟨t, ?_⟩, ⟨rfl, rfl⟩, st', fun b hb => (hf b hb).1⟩⟩
    rw [Int.mul_one]
  done := by
    intro X hP hw hK hc i pins s σ H E I hf st hg
    subst hP hw hK
    obtain ⟨f0, f1, f2, f3, f4, f5⟩ := hf it (by simp)
    exact wpAny_pyNext_range_end (I.ok.hd hc) st (by have : n ≤ i := hg; omega) fun h' eb => ⟨rfl, I.turned (t' := s.toks) (fun b o hb e => eb b o hb e) f0 f1 f3 f4 f5⟩
  self := fun _ _ _ _ _ st h => wpAny_pyIter_rangeiter st h
end L2

namespace L2
open PySem PySem.Spec PyProof.Rows
section
variable {X : Cx} {tg : Expr}
def iList (K : PySem.W.Frag) (tl : TE) : TI := fun σ H R => tl σ H fun x H1 => ∃ a, x = .ref a ∧ (∃ xs, SqL K H1 a xs) ∧ R (Itl K a) H1
theorem pi_list {l : Expr} {tl : TE} (hl : PE X l tl) : PI X tg l (iList X.K tl) := by
  intro pins s σ H R I h
  refine thn (hl pins s σ H _ I h) fun v s1 hq0 => ?_
  obtain ⟨x, H1, I1, r1, q1⟩ := hq0
  obtain ⟨a, e, ⟨xs, hq⟩, q⟩ := q1
  subst e
  cases r1
  obtain ⟨its, rv, p, hz⟩ := I1.list hq
  refine wpAny_pyIter_list p.isList ?_
  refine ⟨s1.heap.objs.size, [s1.heap.objs.size], _, _, H1, rfl, I1.kept (t' := s1.toks) fun b o e => Heap.get?_push_of_some _ e, turn_list a _, ⟨_, Heap.get?_push_size _ rfl, rfl, rfl⟩, fun b hb => ?_, q⟩
  have e : b = s1.heap.objs.size := by simpa using hb
  subst e
  exact I1.fpOk (Nat.le_refl _) (I1.hok.fresh (Nat.le_refl _))
/-- a range object just made, walked -/
theorem range_it {pins : List (Addr × Obj)} {σ : St} {H : Hp} {s : Shared} {R : It → Hp → Prop} {E : Value → Shared → Prop} {lo hi : Int} {t u v : Tok} {tk : Nat} (I : Inv X pins σ H s) (h1 : -(2 ^ 62) ≤ lo) (h2 : lo < 2 ^ 62) (h3 : -(2 ^ 62) ≤ hi) (h4 : hi < 2 ^ 62)
    (q : R (Itr lo (hi - lo).toNat) H) : wpAny (model X.prog X.w) X.A (pyIter (.ref s.heap.objs.size)) (PIE X pins σ tg R) E { s with heap := s.heap.push { cls := .type "range", data := .fields #[.int lo t, .int hi u, .int 1 v] }, toks := tk } := by
  refine wpAny_pyIter_range (IsRange.new ..) (small_one h1 h2 h3 h4) ?_
  have I1 : Inv X pins σ H { s with heap := s.heap.push { cls := .type "range", data := .fields #[.int lo t, .int hi u, .int 1 v] }, toks := tk } := I.kept fun b o e => Heap.get?_push_of_some _ e
  refine ⟨(s.heap.push { cls := .type "range", data := .fields #[.int lo t, .int hi u, .int 1 v] }).objs.size, [(s.heap.push { cls := .type "range", data := .fields #[.int lo t, .int hi u, .int 1 v] }).objs.size], _, _, H, rfl,
    I1.kept (t' := tk) fun b o e => Heap.get?_push_of_some _ e, turn_range _ lo (hi - lo).toNat, ?_, fun b hb => ?_, q⟩
  · have e1 : lo + ((0 : Nat) : Int) * 1 = lo := by simp
    have e2 : (((hi - lo).toNat : Nat) : Int) - ((0 : Nat) : Int) = Builtin.Range.rangeSize lo hi 1 := by rw [rangeSize_one]; split <;> omega
    show IsRangeIter _ _ (lo + ((0 : Nat) : Int) * 1) ((((hi - lo).toNat : Nat) : Int) - ((0 : Nat) : Int)) 1
    rw [e1, e2]
    exact Heap.get?_push_size _ rfl
  · have e : b = (s.heap.push { cls := .type "range", data := .fields #[.int lo t, .int hi u, .int 1 v] }).objs.size := by simpa using hb
    subst e
    exact I1.fpOk (Nat.le_refl _) (I1.hok.fresh (Nat.le_refl _))
def iRng1 (ta : TA) : TI := fun σ H R => ta σ H fun vs H1 => ∃ j : Int, vs = [.int j] ∧ -(2 ^ 62) ≤ j ∧ j < 2 ^ 62 ∧ R (Itr 0 j.toNat) H1
theorem pi_range1 {a : Expr} {ta : TA} {p pos : Pos} (hg : Gl X "range") (hm : X.mg "range" = none) (ha : PA X [a] ta) (hs : starEach [a] X.env = [(false, eval a X.env)] := by rfl) : PI X tg (.Call (.Name "range" p) [a] [] pos) (iRng1 ta) := by
  intro pins s σ H R I h
  refine Call_ (ld_blt I hg hm boot_range (PyProof.Rows.callWith_type1 (thn (ha pos pins s σ H _ I h) fun us s1 hq0 => ?_) hs rfl))
  obtain ⟨vs, H1, I1, r1, q1⟩ := hq0
  obtain ⟨j, e, q1, q2, q⟩ := q1
  subst e
  cases r1 with
  | cons r rr =>
    cases rr
    obtain ⟨t, rfl⟩ := r
    exact call_range_1 (range_it I1 (by omega) (by omega) q1 q2 (by simpa using q))

/-! ### for -/
/-- W: the invariant by the turn and a measure; N: what the body is to reach -/
def tFor (wi : TI) (g : TG) (tb : TS) : TS := fun D σ H => wi σ H fun J H1 => ∃ W : Nat → Nat → St → Hp → Prop, (∃ m, W 0 m σ H1) ∧ ∀ i m σ H, W i m σ H →
  (J.stop i H ∧ D.nx σ H) ∨ (J.go i H ∧ ∃ N : St → Hp → Prop, (∀ σ' H', N σ' H' → ∃ m', m' < m ∧ W (i + 1) m' σ' H') ∧ ∀ x H', J.yld i H x H' → g x σ H' fun σ2 H2 => tb { D with nx := N, ct := N, bk := D.nx } σ2 H2)
/-- the records at fp as they stand -/
def pinsAt (fp : List Addr) (h : Heap) : List (Addr × Obj) := fp.filterMap fun b => (h.get? b).map fun o => (b, o)
theorem mem_pinsAt {fp : List Addr} {h : Heap} {b : Addr} {o : Obj} (hb : b ∈ fp) (e : h.get? b = some o) : (b, o) ∈ pinsAt fp h := List.mem_filterMap.mpr ⟨b, hb, by rw [e]; rfl⟩
theorem of_pinsAt {fp : List Addr} {h : Heap} {p : Addr × Obj} (hp : p ∈ pinsAt fp h) : p.1 ∈ fp ∧ h.get? p.1 = some p.2 := by
  obtain ⟨b, hb, e⟩ := List.mem_filterMap.mp hp
  cases q : h.get? b with
  | none => rw [q] at e; cases e
  | some o =>
    rw [q] at e
    have e' : (b, o) = p := Option.some.inj e
    subst e'
    exact ⟨hb, q⟩
theorem Inv.pinned {pins : List (Addr × Obj)} {σ : St} {H : Hp} {s : Shared} {fp : List Addr} (I : Inv X pins σ H s) (hf : ∀ b ∈ fp, FpOk X pins H b) (ho : ∀ b ∈ fp, ∃ o, s.heap.get? b = some o ∧ ∀ v, o.data ≠ .cell v) : Inv X (pins ++ pinsAt fp s.heap) σ H s :=
  I.pins_of fun p hp => (List.mem_append.mp hp).elim (fun z => I.pin p (List.mem_append_right _ z)) fun z => by
    obtain ⟨hb, e⟩ := of_pinsAt z
    obtain ⟨f0, f1, f2, _⟩ := hf p.1 hb
    obtain ⟨o, e', d⟩ := ho p.1 hb
    rw [e] at e'; cases e'
    exact ⟨e, f0, f1, f2, d⟩
theorem Inv.unpinned {pins pl : List (Addr × Obj)} {σ : St} {H : Hp} {s : Shared} (I : Inv X (pins ++ pl) σ H s) : Inv X pins σ H s := I.pins_of fun p hp => I.pin p (List.mem_append_right _ (List.mem_append_left _ hp))
theorem ps_for {iter : Expr} {body : List Stmt} {wi : TI} {g : TG} {tb : TS} {pos : Pos} (hp : PassesOwn (model X.prog X.w) X.A X.env X.xe) (hc : X.calm = true) (hi : PI X tg iter wi) (hg : PG X tg g) (hb : PSs X body tb)
    (hs : ∀ x, foldedSetIterable iter X.env x = pure x := by intro _; rfl) : PS X (.For tg iter body [] pos) (tFor wi g tb) := by
  intro pins s σ H D I h
  refine wpAny_For (thn (hi pins s σ H _ I h) fun v s1 h1 => thn h1 fun itv s2 h2 => ?_) hs
  obtain ⟨it, fp, tn, J, H2, e, I2, T, st2, f2, W, ⟨m0, w0⟩, turn⟩ := h2
  subst e
  -- what stays true of the iterator's objects through the loop
  have stat : ∀ {H' : Hp}, (∀ b ∈ fp, H' b = none) → ∀ b ∈ fp, FpOk X pins H' b := fun hn b hb => ⟨hn b hb, (f2 b hb).2⟩
  refine codeAny_forLoop_any (fun n s' => ∃ i σ' H', Inv X pins σ' H' s' ∧ tn i s'.heap ∧ (∀ b ∈ fp, H' b = none) ∧ W i n σ' H') ?_ m0 ⟨0, σ, H2, I2, st2, fun b hb => (f2 b hb).1, w0⟩
  rintro n s3 ⟨i, σ3, H3, I3, st3, fr3, w3⟩
  rcases turn i n σ3 H3 w3 with ⟨stop, qn⟩ | ⟨go, N, hN, step⟩
  · refine wpAny_passesOwn hp (thn (T.done X rfl rfl rfl hc i pins s3 σ3 H3 X.xe I3 (stat fr3) st3 stop) fun r s4 hq0 => ?_)
    obtain ⟨hr, I4⟩ := hq0
    subst hr
    exact wpAny_execs_nil ⟨σ3, H3, I4, qn⟩
  · refine wpAny_passesOwn hp (thn (T.item X rfl rfl rfl hc i pins s3 σ3 H3 X.xe I3 (stat fr3) st3 go) fun r s4 hq0 => ?_)
    obtain ⟨u, hr, h4⟩ := hq0
    subst hr
    refine wpAny_passesOwn hp (thn h4 fun _ s5 hq0 => ?_)
    obtain ⟨x, H5, I5, r5, y5, st5, fr5⟩ := hq0
    have I5' := I5.pinned (stat fr5) (T.obj _ _ st5)
    refine wpAny_passesOwn hp (thn (hg _ s5 σ3 H5 x u _ I5' r5 (step x H5 y5)) fun _ s6 hq0 => ?_)
    obtain ⟨σ6, H6, I6, q6⟩ := hq0
    refine wpAny_passesOwn hp (thn (hb _ s6 σ6 H6 _ I6 q6) fun f s7 q7 => ?_)
    have again : ∀ {σ7 : St} {H7 : Hp}, Inv X (pins ++ pinsAt fp s5.heap) σ7 H7 s7 → N σ7 H7 → ∃ m, m < n ∧ ∃ i σ' H', Inv X pins σ' H' s7 ∧ tn i s7.heap ∧ (∀ b ∈ fp, H' b = none) ∧ W i m σ' H' := fun {σ7 H7} I7 n7 => by
      obtain ⟨m', hm, w7⟩ := hN σ7 H7 n7
      refine ⟨m', hm, i + 1, σ7, H7, I7.unpinned, T.keep _ _ _ st5 fun b hb o e => (I7.pin (b, o) (List.mem_append_right _ (List.mem_append_right _ (mem_pinsAt hb e)))).1, fun b hb => ?_, w7⟩
      obtain ⟨o, e, d⟩ := T.obj _ _ st5 b hb
      exact (I7.pin (b, o) (List.mem_append_right _ (List.mem_append_right _ (mem_pinsAt hb e)))).2.1
    cases f with
    | next => obtain ⟨σ7, H7, I7, n7⟩ := q7; exact again I7 n7
    | cont => obtain ⟨σ7, H7, I7, n7⟩ := q7; exact again I7 n7
    | brk => obtain ⟨σ7, H7, I7, q7⟩ := q7; exact ⟨σ7, H7, I7.unpinned, q7⟩
    | ret v => obtain ⟨x7, σ7, H7, I7, r7, q7⟩ := q7; exact ⟨x7, σ7, H7, I7.unpinned, r7, q7⟩
end

/-! ### the forms one uses -/
/-- over a list that the body leaves as it is -/
theorem for_list {K : PySem.W.Frag} {a : Addr} {xs : List V} {g : TG} {tb : TS} {D : Ends} {σ : St} {H : Hp} (Pv : Nat → St → Hp → Prop) (h0 : Pv 0 σ H) (hl : ∀ i σ H, i ≤ xs.length → Pv i σ H → SqL K H a xs)
    (hs : ∀ i x σ H, xs[i]? = some x → Pv i σ H → g x σ H fun σ2 H2 => tb { D with nx := Pv (i + 1), ct := Pv (i + 1), bk := D.nx } σ2 H2) (hd : ∀ σ H, Pv xs.length σ H → D.nx σ H) :
    ∃ W : Nat → Nat → St → Hp → Prop, (∃ m, W 0 m σ H) ∧ ∀ i m σ H, W i m σ H →
      ((Itl K a).stop i H ∧ D.nx σ H) ∨ ((Itl K a).go i H ∧ ∃ N : St → Hp → Prop, (∀ σ' H', N σ' H' → ∃ m', m' < m ∧ W (i + 1) m' σ' H') ∧ ∀ x H', (Itl K a).yld i H x H' → g x σ H' fun σ2 H2 => tb { D with nx := N, ct := N, bk := D.nx } σ2 H2) := by
  refine ⟨fun i m σ H => m = xs.length - i ∧ i ≤ xs.length ∧ Pv i σ H, ⟨xs.length, by simp, Nat.zero_le _, h0⟩, ?_⟩
  rintro i m σ H ⟨rfl, hi, p⟩
  have q := hl i σ H hi p
  by_cases hlt : i < xs.length
  · refine .inr ⟨⟨xs, xs[i], q, by simp [hlt]⟩, Pv (i + 1), fun σ' H' p' => ⟨xs.length - (i + 1), by omega, rfl, hlt, p'⟩, fun x H' y => ?_⟩
    obtain ⟨e, y⟩ := y
    subst e
    exact hs i x σ _ (y xs q) p
  · have e : i = xs.length := by omega
    subst e
    exact .inl ⟨⟨xs, q, Nat.le_refl _⟩, hd σ H p⟩
theorem for_range {lo : Int} {n : Nat} {g : TG} {tb : TS} {D : Ends} {σ : St} {H : Hp} (Pv : Nat → St → Hp → Prop) (h0 : Pv 0 σ H)
    (hs : ∀ i σ H, i < n → Pv i σ H → g (.int (lo + i)) σ H fun σ2 H2 => tb { D with nx := Pv (i + 1), ct := Pv (i + 1), bk := D.nx } σ2 H2) (hd : ∀ σ H, Pv n σ H → D.nx σ H) :
    ∃ W : Nat → Nat → St → Hp → Prop, (∃ m, W 0 m σ H) ∧ ∀ i m σ H, W i m σ H →
      ((Itr lo n).stop i H ∧ D.nx σ H) ∨ ((Itr lo n).go i H ∧ ∃ N : St → Hp → Prop, (∀ σ' H', N σ' H' → ∃ m', m' < m ∧ W (i + 1) m' σ' H') ∧ ∀ x H', (Itr lo n).yld i H x H' → g x σ H' fun σ2 H2 => tb { D with nx := N, ct := N, bk := D.nx } σ2 H2) := by
  refine ⟨fun i m σ H => m = n - i ∧ i ≤ n ∧ Pv i σ H, ⟨n, by simp, Nat.zero_le _, h0⟩, ?_⟩
  rintro i m σ H ⟨rfl, hi, p⟩
  by_cases hlt : i < n
  · refine .inr ⟨hlt, Pv (i + 1), fun σ' H' p' => ⟨n - (i + 1), by omega, rfl, hlt, p'⟩, fun x H' y => ?_⟩
    obtain ⟨e, y⟩ := y
    subst e y
    exact hs i σ _ hlt p
  · have e : i = n := by omega
    subst e
    exact .inl ⟨Nat.le_refl _, hd σ H p⟩
end L2

namespace L2
open PySem PySem.Spec PyProof.Rows

abbrev R2 := V → V → Hp → VK → Prop
/-- a two-place operation on values: f is binaryOp op, inplaceOp op or compareOp op -/
def OpR (X : Cx) (f : Value → Value → Sem Value) (r : R2) : Prop :=
  ∀ (pins : List (Addr × Obj)) (s : Shared) (σ : St) (H : Hp) (x y : V) (v u : Value) (Q : VK), Inv X pins σ H s → RelV x v → RelV y u → r x y H Q →
    wpAny (model X.prog X.w) X.A (f v u) (EP X pins σ Q) X.xe s
/-- a call of a value that is known (a builtin, a type) with values -/
def CallR (X : Cx) (f : Value) (r : List V → Hp → VK → Prop) : Prop :=
  ∀ (pins : List (Addr × Obj)) (s : Shared) (σ : St) (H : Hp) (xs : List V) (us : List Value) (Q : VK), Inv X pins σ H s → Vals xs us → r xs H Q →
    wpAny (model X.prog X.w) X.A (call f us) (EP X pins σ Q) X.xe s

def tOp (r : R2) (ta tb : TE) : TE := fun σ H Q => ta σ H fun x H1 => tb σ H1 fun y H2 => r x y H2 Q
/-- ints in, under C, and a value out -/
def rI (C : Int → Int → Prop) (g : Int → Int → V) : R2 := fun x y H Q => ∃ i j, x = .int i ∧ y = .int j ∧ C i j ∧ Q (g i j) H
def rI0 (g : Int → Int → V) : R2 := fun x y H Q => ∃ i j, x = .int i ∧ y = .int j ∧ Q (g i j) H

section
variable {X : Cx} {a b c : Expr} {ta tb tc : TE} {pos : Pos}

theorem binT (ha : PE X a ta) (hb : PE X b tb) {pins : List (Addr × Obj)} {s : Shared} {σ : St} {H : Hp} {R : V → V → Hp → Prop} (I : Inv X pins σ H s)
    (h : ta σ H fun x H1 => tb σ H1 fun y H2 => R x y H2) {Q : Value → Shared → Prop} {f : Value → Value → Sem Value}
    (hf : ∀ v u s2 x y H2, Inv X pins σ H2 s2 → RelV x v → RelV y u → R x y H2 → wpAny (model X.prog X.w) X.A (f v u) Q X.xe s2) :
    wpAny (model X.prog X.w) X.A (eval a X.env) (fun v s₁ => wpAny (model X.prog X.w) X.A (eval b X.env) (fun u s₂ => wpAny (model X.prog X.w) X.A (f v u) Q X.xe s₂) X.xe s₁) X.xe s := by
  refine thn (ha pins s σ H _ I h) fun v s1 hq0 => ?_
  obtain ⟨x, H1, I1, r1, q1⟩ := hq0
  refine thn (hb pins s1 σ H1 _ I1 q1) fun u s2 hq0 => ?_
  obtain ⟨y, H2, I2, r2, q2⟩ := hq0
  exact hf v u s2 x y H2 I2 r1 r2 q2

theorem pe_op {op : Operator} {r : R2} (ho : OpR X (binaryOp op) r) (ha : PE X a ta) (hb : PE X b tb) : PE X (.BinOp a op b pos) (tOp r ta tb) := by
  intro pins s σ H Q I h
  exact wpAny_BinOp (binT ha hb I h fun v u s2 x y H2 I2 rx ry q => ho pins s2 σ H2 x y v u Q I2 rx ry q)

/-! ### ints -/
theorem opI {f : Value → Value → Sem Value} {C : Int → Int → Prop} {g : Int → Int → Int}
    (rule : ∀ (i j : Int) (t u : Tok) (s : Shared) (Q : Value → Shared → Prop) (E : Value → Shared → Prop), C i j → Q (.int (g i j) s.toks) { s with toks := s.toks + 1 } → wpAny (model X.prog X.w) X.A (f (.int i t) (.int j u)) Q E s) :
    OpR X f (rI C fun i j => .int (g i j)) := by
  intro pins s σ H x y v u Q I rx ry h
  obtain ⟨i, j, rfl, rfl, hc, q⟩ := h
  obtain ⟨t, rfl⟩ := rx
  obtain ⟨t', rfl⟩ := ry
  exact rule i j t t' s _ _ hc ⟨.int (g i j), H, I.tok _, ⟨_, rfl⟩, q⟩
theorem opI0 {f : Value → Value → Sem Value} {g : Int → Int → Int}
    (rule : ∀ (i j : Int) (t u : Tok) (s : Shared) (Q : Value → Shared → Prop) (E : Value → Shared → Prop), Q (.int (g i j) s.toks) { s with toks := s.toks + 1 } → wpAny (model X.prog X.w) X.A (f (.int i t) (.int j u)) Q E s) :
    OpR X f (rI0 fun i j => .int (g i j)) := by
  intro pins s σ H x y v u Q I rx ry h
  obtain ⟨i, j, rfl, rfl, q⟩ := h
  obtain ⟨t, rfl⟩ := rx
  obtain ⟨t', rfl⟩ := ry
  exact rule i j t t' s _ _ ⟨.int (g i j), H, I.tok _, ⟨_, rfl⟩, q⟩
theorem opB0 {f : Value → Value → Sem Value} {g : Int → Int → Bool}
    (rule : ∀ (i j : Int) (t u : Tok) (s : Shared) (Q : Value → Shared → Prop) (E : Value → Shared → Prop), Q (.bool (g i j)) s → wpAny (model X.prog X.w) X.A (f (.int i t) (.int j u)) Q E s) :
    OpR X f (rI0 fun i j => .bl (g i j)) := by
  intro pins s σ H x y v u Q I rx ry h
  obtain ⟨i, j, rfl, rfl, q⟩ := h
  obtain ⟨t, rfl⟩ := rx
  obtain ⟨t', rfl⟩ := ry
  exact rule i j t t' s _ _ ⟨.bl (g i j), H, I, rfl, q⟩

def CPow (i j : Int) : Prop := 0 ≤ j ∧ j ≤ 1000000 ∧ i.natAbs < 2 ^ 64
def CMul (i j : Int) : Prop := (-(2 ^ 64) < i ∧ i < 2 ^ 64) ∨ (-(2 ^ 64) < j ∧ j < 2 ^ 64)
theorem CMul.ok {i j : Int} (h : CMul i j) : IntMulOk i j := by
  rcases h with ⟨h1, h2⟩ | ⟨h1, h2⟩
  · exact .of_left (intBits_le_64 h1 h2)
  · exact .of_right (intBits_le_64 h1 h2)

theorem op_add : OpR X (binaryOp .Add) (rI0 fun i j => .int (i + j)) := opI0 fun _ _ _ _ _ _ _ q => add_int q
theorem op_sub : OpR X (binaryOp .Sub) (rI0 fun i j => .int (i - j)) := opI0 fun _ _ _ _ _ _ _ q => sub_int q
theorem op_mul : OpR X (binaryOp .Mult) (rI CMul fun i j => .int (i * j)) := opI fun _ _ _ _ _ _ _ hc q => mul_int q hc.ok
/-- % by a positive divisor of any size -/
theorem op_mod : OpR X (binaryOp .Mod) (rI (fun _ j => 0 < j) fun i j => .int (i % j)) := opI fun i j _ _ _ _ _ hc q => by
  have h1 : (0 : Int) < j := hc
  exact mod_int' (by omega) (by rw [Int.fmod_eq_emod_of_nonneg i (by omega)]; exact q)
theorem op_pow : OpR X (binaryOp .Pow) (rI CPow fun i j => .int (i ^ j.toNat)) := opI fun _ _ _ _ _ _ _ hc q => pow_int_small hc.1 hc.2.1 hc.2.2 q



/-! ### bools among ints: n += (a < b) -/
end

/-! ### comparisons -/
/-- the scalars that == tells apart as data does -/
def scal : V → V → Bool
  | .non, .non => true | .non, .int _ => true | .int _, .non => true | .non, .bl _ => true | .bl _, .non => true | .non, .str _ => true | .str _, .non => true
  | .int _, .int _ => true | .bl _, .bl _ => true | .str _, .str _ => true | .byt _, .byt _ => true
  | .int _, .str _ => true | .str _, .int _ => true | .bl _, .str _ => true | .str _, .bl _ => true
  | _, _ => false
def rEq : R2 := fun x y H Q => scal x y = true ∧ Q (.bl (decide (x = y))) H
def rNe : R2 := fun x y H Q => scal x y = true ∧ Q (.bl (!decide (x = y))) H

theorem dec_int {i j : Int} : decide (V.int i = V.int j) = (i == j) := by
  rw [Bool.eq_iff_iff]
  simp
theorem dec_bl {i j : Bool} : decide (V.bl i = V.bl j) = (i == j) := by
  rw [Bool.eq_iff_iff]
  simp
theorem dec_str {i j : Str} : decide (V.str i = V.str j) = (i == j) := by
  rw [Bool.eq_iff_iff]
  simp
theorem dec_byt {i j : Array UInt8} : decide (V.byt i = V.byt j) = (i.toList == j.toList) := by
  rw [Bool.eq_iff_iff]
  cases i
  cases j
  simp

section
variable {X : Cx} {a b c : Expr} {ta tb tc : TE} {pos : Pos}
theorem fin_bl {pins : List (Addr × Obj)} {σ : St} {H : Hp} {s : Shared} {Q : VK} {k k' : Bool} (I : Inv X pins σ H s) (q : Q (.bl k) H) (e : k = k') : EP X pins σ Q (.bool k') s := by
  subst e
  exact ⟨.bl k, H, I, rfl, q⟩
theorem op_eq : OpR X (compareOp .Eq) rEq := by
  intro pins s σ H x y v u Q I rx ry h
  obtain ⟨hs, q⟩ := h
  cases x with
  | non =>
    cases rx
    cases y with
    | non => cases ry; exact PySem.EqNone.eq_none_none (fin_bl I q (by simp))
    | bl j => cases ry; exact PySem.EqNone.eq_none_bool (fin_bl I q (by simp))
    | int j => obtain ⟨t', rfl⟩ := ry; exact PySem.EqNone.eq_none_int (fin_bl I q (by simp))
    | str j => obtain ⟨t', rfl⟩ := ry; exact PySem.EqNone.eq_none_str (fin_bl I q (by simp))
    | _ => exact absurd (show false = true from hs) Bool.false_ne_true
  | bl i =>
    cases rx
    cases y with
    | non => cases ry; exact PySem.EqNone.eq_bool_none (fin_bl I q (by simp))
    | bl j => cases ry; exact eq_bool (fin_bl I q dec_bl)
    | str j => obtain ⟨t', rfl⟩ := ry; exact PySem.EqMixed.eq_bool_str (fin_bl I q (by simp))
    | _ => exact absurd (show false = true from hs) Bool.false_ne_true
  | int i =>
    obtain ⟨t, rfl⟩ := rx
    cases y with
    | non => cases ry; exact PySem.EqNone.eq_int_none (fin_bl I q (by simp))
    | int j => obtain ⟨t', rfl⟩ := ry; exact eq_int (fin_bl I q dec_int)
    | str j => obtain ⟨t', rfl⟩ := ry; exact PySem.EqMixed.eq_int_str (fin_bl I q (by simp))
    | _ => exact absurd (show false = true from hs) Bool.false_ne_true
  | str i =>
    obtain ⟨t, rfl⟩ := rx
    cases y with
    | non => cases ry; exact PySem.EqNone.eq_str_none (fin_bl I q (by simp))
    | bl j => cases ry; exact PySem.EqMixed.eq_str_bool (fin_bl I q (by simp))
    | int j => obtain ⟨t', rfl⟩ := ry; exact PySem.EqMixed.eq_str_int (fin_bl I q (by simp))
    | str j => obtain ⟨t', rfl⟩ := ry; exact eq_str (fin_bl I q dec_str)
    | _ => exact absurd (show false = true from hs) Bool.false_ne_true
  | byt i =>
    obtain ⟨t, rfl⟩ := rx
    cases y with
    | byt j => obtain ⟨t', rfl⟩ := ry; exact PySem.W.eq_bytes (fin_bl I q dec_byt)
    | _ => exact absurd (show false = true from hs) Bool.false_ne_true
  | _ => cases y <;> exact absurd (show false = true from hs) Bool.false_ne_true
theorem op_ne : OpR X (compareOp .NotEq) rNe := by
  intro pins s σ H x y v u Q I rx ry h
  obtain ⟨hs, q⟩ := h
  cases x with
  | non =>
    cases rx
    cases y with
    | non => cases ry; exact PySem.EqNone.ne_none_none (fin_bl I q (by simp))
    | bl j => cases ry; exact PySem.EqNone.ne_none_bool (fin_bl I q (by simp))
    | int j => obtain ⟨t', rfl⟩ := ry; exact PySem.EqNone.ne_none_int (fin_bl I q (by simp))
    | str j => obtain ⟨t', rfl⟩ := ry; exact PySem.EqNone.ne_none_str (fin_bl I q (by simp))
    | _ => exact absurd (show false = true from hs) Bool.false_ne_true
  | bl i =>
    cases rx
    cases y with
    | non => cases ry; exact PySem.EqNone.ne_bool_none (fin_bl I q (by simp))
    | bl j => cases ry; exact ne_bool (fin_bl I q (congrArg not dec_bl))
    | str j => obtain ⟨t', rfl⟩ := ry; exact PySem.EqMixed.ne_bool_str (fin_bl I q (by simp))
    | _ => exact absurd (show false = true from hs) Bool.false_ne_true
  | int i =>
    obtain ⟨t, rfl⟩ := rx
    cases y with
    | non => cases ry; exact PySem.EqNone.ne_int_none (fin_bl I q (by simp))
    | int j => obtain ⟨t', rfl⟩ := ry; exact ne_int (fin_bl I q (congrArg not dec_int))
    | str j => obtain ⟨t', rfl⟩ := ry; exact PySem.EqMixed.ne_int_str (fin_bl I q (by simp))
    | _ => exact absurd (show false = true from hs) Bool.false_ne_true
  | str i =>
    obtain ⟨t, rfl⟩ := rx
    cases y with
    | non => cases ry; exact PySem.EqNone.ne_str_none (fin_bl I q (by simp))
    | bl j => cases ry; exact PySem.EqMixed.ne_str_bool (fin_bl I q (by simp))
    | int j => obtain ⟨t', rfl⟩ := ry; exact PySem.EqMixed.ne_str_int (fin_bl I q (by simp))
    | str j => obtain ⟨t', rfl⟩ := ry; exact ne_str (fin_bl I q (congrArg not dec_str))
    | _ => exact absurd (show false = true from hs) Bool.false_ne_true
  | byt i =>
    obtain ⟨t, rfl⟩ := rx
    cases y with
    | byt j => obtain ⟨t', rfl⟩ := ry; exact PySem.W.ne_bytes (fin_bl I q (congrArg not dec_byt))
    | _ => exact absurd (show false = true from hs) Bool.false_ne_true
  | _ => cases y <;> exact absurd (show false = true from hs) Bool.false_ne_true

theorem op_lt : OpR X (compareOp .Lt) (rI0 fun i j => .bl (decide (i < j))) := opB0 fun _ _ _ _ _ _ _ q => lt_int q
theorem op_ge : OpR X (compareOp .GtE) (rI0 fun i j => .bl (decide (j ≤ i))) := opB0 fun _ _ _ _ _ _ _ q => ge_int q




theorem nomark (b : Expr) {op : CmpOp} (h : op ≠ .In := by decide) (h2 : op ≠ .NotIn := by decide) : behindInMarks op b = false := by
  have e1 : (op == CmpOp.In) = false := by cases op <;> first | rfl | exact absurd rfl h
  have e2 : (op == CmpOp.NotIn) = false := by cases op <;> first | rfl | exact absurd rfl h2
  cases b <;> simp [behindInMarks, e1, e2]
/-- a comparison as a value; hm: nomark b, or (for in, not in) by with_unfolding_all rfl -/
theorem pe_cmpR {op : CmpOp} {r : R2} (ho : OpR X (compareOp op) r) (ha : PE X a ta) (hb : PE X b tb) (hm : behindInMarks op b = false) : PE X (.Compare a [op] [b] pos) (tOp r ta tb) := by
  intro pins s σ H Q I h
  exact wpAny_Compare1 (binT ha hb I h fun v u s2 x y H2 I2 rx ry q => ho pins s2 σ H2 x y v u Q I2 rx ry q) hm
/-- a reading of a value as a test -/
def tTest (t : TE) : TT := fun σ H Q => t σ H fun x H' => ∃ k, x = .bl k ∧ Q k H'
theorem pt_cmpR {op : CmpOp} {r : R2} (ho : OpR X (compareOp op) r) (ha : PE X a ta) (hb : PE X b tb) (hm : behindInMarks op b = false) : PT X (.Compare a [op] [b] pos) (tTest (tOp r ta tb)) := by
  intro pins s σ H Q I h
  refine wpAny_isTrue_Compare1 (thn (ha pins s σ H _ I h) fun v s1 ⟨x, H1, I1, r1, q1⟩ => thn (hb pins s1 σ H1 _ I1 q1) fun u s2 ⟨y, H2, I2, r2, q2⟩ =>
    thn (ho pins s2 σ H2 x y v u _ I2 r1 r2 q2) fun c s3 ⟨z, H3, I3, r3, k, e, q3⟩ => ?_) hm
  subst e
  cases r3
  exact wpAny_truthy_bool ⟨H3, I3, q3⟩

/-! ### truth -/
theorem line63 : (sizeLine : Nat) < 2 ^ 63 := by rw [sizeLine_eq]; decide

/-! ### strs and bytes -/
theorem op_add_str : OpR X (binaryOp .Add) (fun x y H Q => ∃ i j, x = .str i ∧ y = .str j ∧ i.length + j.length ≤ sizeLine ∧ Q (.str (i ++ j)) H) := by
  intro pins s σ H x y v u Q I rx ry h
  obtain ⟨i, j, rfl, rfl, hz, q⟩ := h
  obtain ⟨t, rfl⟩ := rx
  obtain ⟨t', rfl⟩ := ry
  exact add_str (fun t' tk => ⟨.str (i ++ j), H, I.tok _, ⟨_, rfl⟩, q⟩) hz


/-! ### scalar builtins, by CallR -/
theorem vals1 {x : V} {us : List Value} (r : Vals [x] us) : ∃ u, us = [u] ∧ RelV x u := by
  cases r with
  | cons r1 r2 => cases r2; exact ⟨_, rfl, r1⟩
theorem vals2 {x y : V} {us : List Value} (r : Vals [x, y] us) : ∃ u w', us = [u, w'] ∧ RelV x u ∧ RelV y w' := by
  cases r with
  | cons r1 r2 =>
    cases r2 with
    | cons r3 r4 => cases r4; exact ⟨_, _, rfl, r1, r3⟩
end
end L2

namespace L2
open PySem PySem.Spec PyProof.Rows

/-! ### an instance, its attributes a map -/



section
variable {prog : Program} {w : World} {A : Around} {E : Value → Shared → Prop} {s : Shared} {K : PySem.W.Frag} {x dx C f : Addr} {mA : Str → Option Value} {name : Str} {v : Value}





end

/-! ### the attributes as a list of pairs -/

theorem RelO.some_of {v : V} {o : Option Value} (r : RelO (some v) o) : ∃ u, o = some u ∧ RelV v u := by
  cases o with
  | none => exact (show False from r).elim
  | some u => exact ⟨u, rfl, r⟩
theorem RelO.none_of {o : Option Value} (r : RelO none o) : o = none := by
  cases o with
  | none => rfl
  | some u => exact (show False from r).elim

section
variable {P : Program} {w : World} {H H' : Hp} {h h' : Heap} {a C dx : Addr} {fs fs' : List (Str × V)}
end

/-! ### what of the text a class must have -/

section
variable {X : Cx} {pins : List (Addr × Obj)} {σ : St} {H : Hp} {s : Shared} {a C dx : Addr} {fs : List (Str × V)} {f : Str} {v : V} {A : Around} {E : Value → Shared → Prop}






end

/-! ### readings and rules -/

section
variable {X : Cx} {o e value : Expr} {f : Str} {pos pos' tpos : Pos} {ta tv : TE}

end

/-! ### isinstance -/
section
variable {X : Cx} {pins : List (Addr × Obj)} {σ : St} {H : Hp} {s : Shared} {A : Around} {E : Value → Shared → Prop} {Q : Value → Shared → Prop} {c : Value} {b : Bool}
end
end L2

namespace L2
open PySem PySem.Spec PyProof.Rows

/-! ### room -/
structure Room (k : Nat) (A : Around) : Prop where
  hd : A.handled = none
  dp : A.depth + 3 * k + 5 < recursionLimit
  un : A.units + 16 * k + 200 < cLine
theorem Room.mono {j k : Nat} {A : Around} (r : Room k A) (h : j ≤ k) : Room j A := ⟨r.hd, by have := r.dp; omega, by have := r.un; omega⟩
theorem Room.deeper {k : Nat} {A : Around} (r : Room (k + 1) A) (env : Env) : Room k (A.deeper env) :=
  ⟨r.hd, by have := r.dp; show A.depth + 1 + 3 * k + 5 < _; omega, by have := r.un; show A.units + 3 + 16 * k + 200 < _; omega⟩
theorem Room.depth {k : Nat} {A : Around} (r : Room k A) : A.depth < recursionLimit := by have := r.dp; omega
theorem Room.units {k : Nat} {A : Around} (r : Room k A) : A.units + 64 < cLine := by have := r.un; omega

/-! ### argument lists and displays -/
def tNil : TA := fun _ H Q => Q [] H
def tCons (ta : TE) (tr : TA) : TA := fun σ H Q => ta σ H fun x H1 => tr σ H1 fun xs H2 => Q (x :: xs) H2
section
variable {X : Cx} {e : Expr} {es : List Expr} {te : TE} {t : TA} {pos : Pos}
theorem pa_nil : PA X [] tNil := fun _ _ _ _ H Q I h => Calls.spliced_nil ⟨[], H, I, .nil, h⟩
theorem pa_cons (ha : PE X e te) (hr : PA X es t) (hs : starEach (e :: es) X.env = (false, eval e X.env) :: starEach es X.env := by rfl) : PA X (e :: es) (tCons te t) := by
  intro pos pins s σ H Q I h
  rw [hs]
  show wpAny _ _ (spliced ((false, eval e X.env) :: backTo pos (starEach es X.env))) _ _ s
  refine Calls.spliced_cons (thn (ha pins s σ H _ I h) fun u s1 hq0 => ?_)
  obtain ⟨x, H1, I1, r1, q1⟩ := hq0
  exact thn (hr pos pins s1 σ H1 _ I1 q1) fun us s2 ⟨xs, H2, I2, r2, q2⟩ => ⟨x :: xs, H2, I2, .cons r1 r2, q2⟩

/-- a tuple, a list of written items -/
def tTup (t : TA) : TE := fun σ H Q => t σ H fun xs H1 => xs.length ≤ sizeLine ∧ ∀ p, H1 p = none → Q (.ref p) (upd H1 p (.tup xs))
def tLst (t : TA) : TE := fun σ H Q => t σ H fun xs H1 => xs.length ≤ sizeLine ∧ ∀ p, H1 p = none → Q (.ref p) (upd H1 p (.lst xs))
theorem pe_tup {x1} (h : PA X es t) : PE X (.Tuple es x1 pos) (tTup t) := by
  intro pins s σ H Q I hq
  refine wpAny_Tuple_spliced (thn (h pos pins s σ H _ I hq) fun us s1 ⟨xs, H1, I1, r, z, q⟩ => ⟨by rw [← r.length]; exact z, ?_⟩)
  have hf : H1 s1.heap.objs.size = none := I1.hok.fresh (Nat.le_refl _)
  refine ⟨.ref s1.heap.objs.size, upd H1 s1.heap.objs.size (.tup xs), I1.laid (t' := s1.toks) (fun b u e => Heap.get?_push_of_some _ e) (Nat.le_refl _) ?_, rfl, q _ hf⟩
  exact ⟨z, us, r, ⟨_, Heap.get?_push_size _ rfl, rfl, _, rfl⟩⟩
theorem pe_lst (h : PA X es t) : PE X (.List es pos) (tLst t) := by
  intro pins s σ H Q I hq
  refine wpAny_List_spliced (thn (h pos pins s σ H _ I hq) fun us s1 ⟨xs, H1, I1, r, z, q⟩ => ⟨by rw [← r.length]; exact z, ?_⟩)
  have hf : H1 s1.heap.objs.size = none := I1.hok.fresh (Nat.le_refl _)
  refine ⟨.ref s1.heap.objs.size, upd H1 s1.heap.objs.size (.lst xs), I1.laid (t' := s1.toks) (fun b u e => Heap.get?_push_of_some _ e) (Nat.le_refl _) ?_, rfl, q _ hf⟩
  exact ⟨z, us, 0, r, Heap.get?_push_size _ rfl⟩
end

/-! ### what a def promises -/
/-- a def's promise: the bound arguments in the parameters' order, the heap, the wanted end, the wanted exception -/
abbrev Sp := List V → Hp → VK → XK → Prop
/-- how an exception lies behind a call (file 08 gives it): the callers' frames, abstract heap and state ahead of the call, the wish, the exception, the state -/
abbrev CXT := List Env → Hp → Shared → XK → Value → Shared → Prop

/-- the state at a call -/
structure Env0 (P : Program) (w : World) (K : PySem.W.Frag) (mg : Str → Option Value) (base : Heap) (A : Around) (outer : List Env) (s : Shared) (H : Hp) : Prop where
  frames : A.frames = some outer
  mod : Mod K mg base
  bs : ∀ b o, base.get? b = some o → s.heap.get? b = some o ∧ H b = none
  bsz : base.objs.size ≤ s.heap.objs.size
  funs : s.heap.FunFrames base outer
  frf : ∀ b ∈ frs outer, H b = none
  hok : HOk P w H s.heap
  bare : AllBare s.gens
/-- a call's end -/
def CE (outer : List Env) (P : Program) (w : World) (H : Hp) (s : Shared) (Q : VK) (u : Value) (s' : Shared) : Prop :=
  ∃ v H', s'.os = s.os ∧ AllBare s'.gens ∧ Un (frs outer) [] H H' s.heap s'.heap ∧ HOk P w H' s'.heap ∧ RelV v u ∧ Q v H'
def CR (CX : CXT) (outer : List Env) (P : Program) (w : World) (H : Hp) (s : Shared) (Q : VK) (E : XK) (r : Result) (s' : Shared) : Prop :=
  match r with
  | .ok (.ret u) => CE outer P w H s Q u s'
  | .ok _ => False
  | .error e => CX outer H s E e s'
structure FnOk (P : Program) (w : World) (K : PySem.W.Frag) (mg : Str → Option Value) (base : Heap) (CX : CXT) (k : Nat) (f : Addr) (fd : FuncData) (ps : List Str) (sp : Sp) : Prop where
  len : ∀ vs H Q E, sp vs H Q E → vs.length = ps.length
  run : ∀ (A : Around) (outer : List Env) (s : Shared) (H : Hp) (args : Args) (us : List Value) (vs : List V) (Q : VK) (E : XK), Room k A → Env0 P w K mg base A outer s H → BindsTo s fd args (ps.zip us) → Vals vs us → sp vs H Q E →
    codeAny (model P w) A (.call (.ref f) args) (CR CX outer P w H s Q E) s


section
variable {X : Cx} {pins : List (Addr × Obj)} {σ : St} {H : Hp} {s s' : Shared}
/-- from a body: what a callee wants -/
theorem Inv.env0 (I : Inv X pins σ H s) : Env0 X.prog X.w X.K X.mg X.base X.A X.stack s H :=
  ⟨I.ok.frames, I.ok.mod, I.bs, Nat.le_trans I.ok.bsz I.sz, I.stack, I.stkFree, I.hok, I.bare⟩
/-- behind a call -/
theorem Inv.after {Q : VK} {u : Value} (I : Inv X pins σ H s) (h : CE X.stack X.prog X.w H s Q u s') : EP X pins σ Q u s' := by
  obtain ⟨v, H', os, bare, un, hok, r, q⟩ := h
  obtain ⟨hh, g, d, t, os'⟩ := s'
  obtain rfl : os' = s.os := os
  exact ⟨v, H', I.call (h' := hh) (g' := g) (d' := d) (t' := t) (ch := []) un hok bare (fun b z => absurd z (by simp)), r, q⟩
end

/-! ### calls -/
/-- f(..): the written arguments, then the defaults dvs; E: what is wanted of an exception -/
def tCall (sp : Sp) (dvs : List V) (E : XK) (t : TA) : TE := fun σ H Q => t σ H fun vs H1 => sp (vs ++ dvs) H1 Q E

/-- how the parameters are bound: us the positional arguments, kw the keywords' values by name, ds the defaults that fill up -/
def Binds (K : PySem.W.Frag) (fd : FuncData) (ps : List Str) (ds : List Value) : Prop :=
  ∀ (s : Shared) (us : List Value), K.In s.heap → (us ++ ds).length = ps.length → BindsTo s fd ⟨us, []⟩ (ps.zip (us ++ ds))
/-- every parameter is given -/
theorem Binds.all {K : PySem.W.Frag} {fd : FuncData} {ps : List Str} (h : ∀ us : List Value, us.length = ps.length → bindArgs fd ⟨us, []⟩ = pure (ps.zip us)) : Binds K fd ps [] := fun s us _ hl => by
  rw [List.append_nil] at hl ⊢
  exact .of_eq (h us hl)

/-- an exception of a callee reaches what this body wants of exceptions -/
def Passes (CX : CXT) (X : Cx) (E : XK) : Prop := ∀ (pins : List (Addr × Obj)) (σ : St) (H : Hp) (s : Shared) (e : Value) (s' : Shared), Inv X pins σ H s → CX X.stack H s E e s' → X.xe e s'

section
variable {X : Cx} {CX : CXT} {k : Nat} {f C : Addr} {fd : FuncData} {ps : List Str} {sp : Sp} {dvs : List V} {ds : List Value} {E : XK} {x m : Str} {p pos apos : Pos} {e o : Expr} {es : List Expr} {ta : TE} {t : TA}

/-- the callee runs -/
theorem run_fn {pins : List (Addr × Obj)} {σ : St} {H : Hp} {s : Shared} {Q : VK} {us : List Value} {vs : List V} (F : FnOk X.prog X.w X.K X.mg X.base CX k f fd ps sp) (hr : Room k X.A) (hb : Binds X.K fd ps ds) (hd : Vals dvs ds) (hx : Passes CX X E)
    (I : Inv X pins σ H s) (r : Vals vs us) (h : sp (vs ++ dvs) H Q E) : wpAny (model X.prog X.w) X.A (call (.ref f) us) (EP X pins σ Q) X.xe s := by
  have r2 : Vals (vs ++ dvs) (us ++ ds) := r.append hd
  have hl : (us ++ ds).length = ps.length := by rw [← r2.length]; exact F.len _ _ _ _ h
  refine wpAny_call (codeAny_mono (F.run X.A X.stack s H ⟨us, []⟩ (us ++ ds) (vs ++ dvs) Q E hr I.env0 (hb s us I.kIn hl) r2 h) fun r s' hq => ?_)
  cases r with
  | error e => exact hx pins σ H s e s' I hq
  | ok fl =>
    cases fl with
    | ret u => exact I.after hq
    | next => exact False.elim hq
    | brk => exact False.elim hq
    | cont => exact False.elim hq

theorem pe_call (F : FnOk X.prog X.w X.K X.mg X.base CX k f fd ps sp) (hr : Room k X.A) (hg : Gl X x) (hm : X.mg x = some (.ref f)) (hk : PySem.W.keepIn X.K (.ref f) = true) (hb : Binds X.K fd ps ds) (hd : Vals dvs ds) (hx : Passes CX X E)
    (ha : PA X (e :: es) t) (hdb : (x == ("__debug__" : Str)) = false := by decide) (he : starEach (e :: es) X.env = (false, eval e X.env) :: starEach es X.env := by rfl) (hpl : (backTo pos (starEach es X.env)).any (·.1) = false := by rfl) :
    PE X (.Call (.Name x p) (e :: es) [] pos) (tCall sp dvs E t) := by
  intro pins s σ H Q I h
  refine wpAny_Call_Name_kw (ld_glob I hg hm ?_ hdb)
  refine PySem.W.callWith_K (h₀ := X.base) I.ok.mod.kin hk (thn (ha pos pins s σ H _ I h) fun us s1 ⟨vs, H1, I1, r, q⟩ => ⟨I1.kIn, ?_⟩) he hpl
  exact run_fn F hr hb hd hx I1 r q



end

/-! ### keywords -/
section
variable {X : Cx} {CX : CXT} {k : Nat} {f C : Addr} {fd : FuncData} {ps ks : List Str} {sp : Sp} {E : XK} {x m : Str} {p pos apos kpos : Pos} {e o : Expr} {es : List Expr} {kws : List Keyword} {te ta : TE} {t tk : TA} {nm : Option Str}

variable {g : List Value → List Value → List Value} {gV : List V → List V → List V}
end

/-! ### a def's body keeps its promise -/
/-- names: the parameters first -/
structure FnScope (N P : List Str) (sc : Scope) : Prop where
  kind : sc.kind = .function
  co : sc.isCoroutine = false
  gen : sc.isGenerator = false
  nd : N.Nodup
  pre : N.take P.length = P
  par : ∀ x ∈ P, sc.names.lookup x = some .local ∨ sc.names.lookup x = some .cell
  nofree : ∀ y ∈ sc.names, y.2 ≠ .free

theorem bindL_out {kindOf : Str → Option NameKind} {x : Str} : ∀ {binds : List (Str × Value)} {m : Str → Option Value}, (∀ v, (x, v) ∉ binds) → bindL kindOf binds m x = m x
  | [], _, _ => rfl
  | (n, v) :: r, m, h => by
    unfold bindL
    rw [bindL_out fun w hw => h w (List.mem_cons_of_mem _ hw)]
    split
    · have : x ≠ n := by rintro rfl; exact h v List.mem_cons_self
      simp [this]
    · rfl
theorem bindC_out {kindOf : Str → Option NameKind} {x : Str} : ∀ {binds : List (Str × Value)} {m : Str → Option Value}, (∀ v, (x, v) ∉ binds) → bindC kindOf binds m x = m x
  | [], _, _ => rfl
  | (n, v) :: r, m, h => by
    unfold bindC
    rw [bindC_out fun w hw => h w (List.mem_cons_of_mem _ hw)]
    split
    · rfl
    · have : x ≠ n := by rintro rfl; exact h v List.mem_cons_self
      simp [this]
theorem bindL_get {kindOf : Str → Option NameKind} {x : Str} {v : Value} : ∀ {P : List Str} {vs : List Value} {i : Nat} {m : Str → Option Value}, P.Nodup → P[i]? = some x → vs[i]? = some v → kindOf x = some .local →
    bindL kindOf (P.zip vs) m x = some v
  | [], _, _, _, _, h, _, _ => by simp at h
  | _ :: _, [], _, _, _, _, h, _ => by simp at h
  | p :: P, w :: vs, 0, m, nd, h1, h2, hk => by
    simp at h1 h2; subst h1; subst h2
    show bindL kindOf ((p, w) :: P.zip vs) m p = _
    unfold bindL
    rw [bindL_out fun v hv => (List.nodup_cons.mp nd).1 (List.of_mem_zip hv).1, if_pos hk]
    simp
  | p :: P, w :: vs, i + 1, m, nd, h1, h2, hk => by
    show bindL kindOf ((p, w) :: P.zip vs) m x = _
    unfold bindL
    exact bindL_get (i := i) (List.nodup_cons.mp nd).2 (by simpa using h1) (by simpa using h2) hk
theorem bindC_get {kindOf : Str → Option NameKind} {x : Str} {v : Value} : ∀ {P : List Str} {vs : List Value} {i : Nat} {m : Str → Option Value}, P.Nodup → P[i]? = some x → vs[i]? = some v → kindOf x ≠ some .local →
    bindC kindOf (P.zip vs) m x = some v
  | [], _, _, _, _, h, _, _ => by simp at h
  | _ :: _, [], _, _, _, _, h, _ => by simp at h
  | p :: P, w :: vs, 0, m, nd, h1, h2, hk => by
    simp at h1 h2; subst h1; subst h2
    show bindC kindOf ((p, w) :: P.zip vs) m p = _
    unfold bindC
    rw [bindC_out fun v hv => (List.nodup_cons.mp nd).1 (List.of_mem_zip hv).1, if_neg hk]
    simp
  | p :: P, w :: vs, i + 1, m, nd, h1, h2, hk => by
    show bindC kindOf ((p, w) :: P.zip vs) m x = _
    unfold bindC
    exact bindC_get (i := i) (List.nodup_cons.mp nd).2 (by simpa using h1) (by simpa using h2) hk

/-- the names' values at the entry -/
def start (N : List Str) (vs : List V) : St := vs.map some ++ List.replicate (N.length - vs.length) none

/-- the context of a def's body, at its entry; an exception leaves the frame, then lies as CX says -/
def cxOf (CX : CXT) (P : Program) (w : World) (K : PySem.W.Frag) (mg : Str → Option Value) (base : Heap) (N : List Str) (qual : Str) (scope : Scope) (f : Addr) (cd : Value) (A : Around) (outer : List Env) (s : Shared) (H : Hp) (E : XK) : Cx where
  prog := P
  w := w
  K := K
  mg := mg
  base := base
  A := A.deeper (envOfC qual scope s.heap.objs.size f cd)
  N := N
  s₀ := s
  H₀ := H
  env := envOfC qual scope s.heap.objs.size f cd
  outer := outer
  stack := envOfC qual scope s.heap.objs.size f cd :: outer
  ex := []
  calm := true
  fn := fun _ => true
  pn := []
  xe := fun e s' => wpAny (model P w) (A.deeper (envOfC qual scope s.heap.objs.size f cd)) (leaving (envOfC qual scope s.heap.objs.size f cd) e) (fun _ s'' => CX outer H s E e s'') (fun e' s'' => CX outer H s E e' s'') s'

theorem cell_has {sc : Scope} {n : Nat} {x : Str} (h : sc.names.lookup x = some .cell) : ∃ c, (cellsFrom n sc.names []).lookup x = some c := by
  have q := PySem.W.cellsFrom_some sc.names n [] (.inl h)
  exact Option.isSome_iff_exists.mp q

theorem inv_start {CX : CXT} {P : Program} {w : World} {K : PySem.W.Frag} {mg : Str → Option Value} {base : Heap} {N ps : List Str} {qual : Str} {scope : Scope} {f : Addr} {cd : Value} {A : Around} {outer : List Env} {s s1 : Shared} {H : Hp} {E : XK} {us : List Value} {vs : List V}
    (S : FnScope N ps scope) (hd : A.handled = none) (e0 : Env0 P w K mg base A outer s H) (hl : vs.length = ps.length) (r : Vals vs us)
    (x : InCallC s s.heap.objs.size (bindL (envOfC qual scope s.heap.objs.size f cd).kindOf (ps.zip us) fun _ => none) (cellsFrom (s.heap.objs.size + 1) scope.names []) (bindC (envOfC qual scope s.heap.objs.size f cd).kindOf (ps.zip us) fun _ => none) s1) :
    Inv (cxOf CX P w K mg base N qual scope f cd A outer s H E) [] (start N vs) H s1 := by
  have hpl : ps.length ≤ N.length := by have := congrArg List.length S.pre; rw [List.length_take] at this; omega
  obtain ⟨h1, tk, rfl, hk⟩ := x.done
  have noA : ∀ b : Addr, b ∉ (cxOf CX P w K mg base N qual scope f cd A outer s H E).ex := fun b z => absurd (show b ∈ ([] : List Addr) from z) (by simp)
  refine ⟨⟨e0.mod, S.kind, rfl, rfl, Nat.le_refl _, fun y z c h1 h2 => ?_, fun y hy => ?_, fun y c _ h => ?_, fun _ => hd, Around.frames_deeper e0.frames, .inr ⟨rfl, rfl⟩, fun b z => absurd z (noA b), e0.bs, e0.bsz, fun b _ _ => noA b, fun b z => absurd z (noA b), e0.funs, e0.frf⟩,
    rfl, e0.bare, Un.kept hk, ⟨_, x.toInCall.ns, fun i y v h1 h2 h3 => ?_⟩, fun y c h => ⟨_, x.cell y c h⟩, e0.hok.fresh (Nat.le_refl _), fun y c h => ?_, fun p hp => absurd (show p ∈ ([] : List (Addr × Obj)) from hp) (by simp), e0.hok.kept hk, ?_⟩
  · exact name_of_addr x.apart (PySem.mem_of_lookup h1) (PySem.mem_of_lookup h2)
  · have hy : scope.names.lookup y = some .cell ∨ scope.names.lookup y = some .free := hy
    rcases hy with hy | hy
    · exact cell_has hy
    · exact absurd rfl (S.nofree _ (PySem.mem_of_lookup hy))
  · exact Nat.le_of_lt (x.above y c (PySem.mem_of_lookup h))
  · have hi : i < vs.length := by
      unfold start at h2
      by_cases hi : i < vs.length
      · exact hi
      · rw [List.getElem?_append_right (by simpa using hi)] at h2
        rw [List.getElem?_replicate] at h2
        split at h2 <;> cases h2
    have ha : vs[i]? = some v := by
      unfold start at h2
      rw [List.getElem?_append_left (by simpa using hi), List.getElem?_map] at h2
      cases e : vs[i]? with
      | none => rw [e] at h2; cases h2
      | some a => rw [e] at h2; cases h2; rfl
    obtain ⟨u, hu, rv⟩ := r.get ha
    have hp : ps[i]? = some y := by
      rw [← S.pre, List.getElem?_take_of_lt (by omega)]; exact h1
    have ndP : ps.Nodup := by rw [← S.pre]; exact S.nd.sublist (List.take_sublist _ _)
    refine ⟨u, rv, ?_⟩
    rcases S.par y (List.mem_of_getElem? hp) with k | k
    · exact .inl ⟨k, bindL_get ndP hp hu k⟩
    · obtain ⟨c, e⟩ := cell_has (n := s.heap.objs.size + 1) k
      refine .inr ⟨.inl k, c, e, ?_⟩
      have q := x.cell y c e
      rw [bindC_get ndP hp hu (by show scope.names.lookup y ≠ _; rw [k]; decide)] at q
      exact q
  · exact e0.hok.fresh (Nat.le_of_lt (x.above y c (PySem.mem_of_lookup h)))
  · unfold start
    show _ = N.length
    rw [List.length_append, List.length_map, List.length_replicate]
    omega

/-- THE RULE: a def (or a method) of the text, by its body. The body's reading t is chosen for each entry; it is run at the parameters' values -/
theorem fn_of {CX : CXT} {P : Program} {w : World} {K : PySem.W.Frag} {mg : Str → Option Value} {base : Heap} {k : Nat} {f : Addr} {name qual : Str} {params : Arguments} {body : List Stmt} {scope : Scope} {dV kV doc pm cdv ct oc : Value} {an od : Option Addr}
    {osl : Array (Option Value)} {N ps : List Str} {sp : Sp} (lk : K.lookup f = some ⟨oc, od, .func (PySem.W.fnOf name qual params body scope dV kV doc pm an cdv ct), osl⟩) (hcd : PySem.W.codeIn K cdv qual = true) (S : FnScope N ps scope)
    (len : ∀ vs H Q E, sp vs H Q E → vs.length = ps.length)
    (hbody : ∀ (A : Around) (outer : List Env) (s : Shared) (H : Hp) (vs : List V) (Q : VK) (E : XK), Room k (A.deeper (envOfC qual scope s.heap.objs.size f cdv)) → sp vs H Q E →
      ∃ t, PSs (cxOf CX P w K mg base N qual scope f cdv A outer s H E) body t ∧ t { nx := fun _ H' => Q .non H', rt := Q } (start N vs) H) :
    FnOk P w K mg base CX (k + 1) f (PySem.W.fnOf name qual params body scope dV kV doc pm an cdv ct) ps sp := by
  refine ⟨len, fun A outer s H args us vs Q E hr e0 hb r hsp => ?_⟩
  have hl := len _ _ _ _ hsp
  have KX : K.In s.heap := e0.mod.kin.keeps fun b o e => (e0.bs b o e).1
  have lim : s.heap.NoLimit := e0.mod.nolimit.keeps fun b o e => (e0.bs b o e).1
  have hkind : ∀ y ∈ ps.zip us, scope.names.lookup y.1 = some .local ∨ (scope.names.lookup y.1 = some .cell ∧ ((cellsFrom (s.heap.objs.size + 1) scope.names []).lookup y.1).isSome = true) := fun ⟨n, v⟩ hy => by
    rcases S.par n (List.of_mem_zip hy).1 with q | q
    · exact .inl q
    · exact .inr ⟨q, PySem.W.cellsFrom_some _ _ _ (.inl q)⟩
  refine codeAny_call_function hr.depth (KX _ _ lk) rfl S.co S.gen rfl (PySem.W.codeRec_of KX hcd) (hb _ _ _ _ ?_)
  refine wpAny_newFunctionEnv_cells S.kind hkind fun env he s1 x => ?_
  subst he
  refine ⟨lim.keeps x.toInCall.keep, codeAny_func ?_⟩
  obtain ⟨t, ht, hq⟩ := hbody A outer s H vs Q E (hr.deeper _) hsp
  have I : Inv (cxOf CX P w K mg base N qual scope f cdv A outer s H E) [] (start N vs) H s1 := inv_start S hr.hd e0 hl r x
  refine wpAny_mono (ht [] s1 (start N vs) H _ I hq) (fun fl s' hs => ?_) fun e s' hs => hs
  have fin : ∀ {σ' : St} {H' : Hp} {v : V} {u : Value}, Inv (cxOf CX P w K mg base N qual scope f cdv A outer s H E) [] σ' H' s' → RelV v u → Q v H' → CE outer P w H s Q u s' :=
    fun {σ' H' v u} J rv q => ⟨v, H', J.os, J.bare, J.base, J.hok, rv, q⟩
  cases fl with
  | ret u =>
    obtain ⟨v, σ', H', J, rv, q⟩ := hs
    exact fin J rv q
  | next =>
    obtain ⟨σ', H', J, q⟩ := hs
    exact fin (v := V.non) (u := Value.none) J rfl q
  | brk =>
    obtain ⟨_, _, _, q⟩ := hs
    exact False.elim q
  | cont =>
    obtain ⟨_, _, _, q⟩ := hs
    exact False.elim q
end L2

namespace L2
open PySem PySem.Spec PyProof.Rows
section
variable {X : Cx} {x : Str} {p pos : Pos} {e : Expr} {es : List Expr} {t : TA} {id T : String} {r : List V → Hp → VK → Prop}

def tCB (r : List V → Hp → VK → Prop) (t : TA) : TE := fun σ H Q => t σ H fun vs H1 => r vs H1 Q
/-- f(e, ..), f a built-in function -/
theorem pe_callB (hc : CallR X (.builtin id) r) (hg : Gl X x) (hm : X.mg x = none) (hv : bootBuiltins x = some (.builtin id)) (ha : PA X (e :: es) t) (hn : x ≠ "__name__" := by decide) (hdb : (x == ("__debug__" : Str)) = false := by decide)
    (he : starEach (e :: es) X.env = (false, eval e X.env) :: starEach es X.env := by rfl) (hpl : (backTo pos (starEach es X.env)).any (·.1) = false := by rfl) : PE X (.Call (.Name x p) (e :: es) [] pos) (tCB r t) := by
  intro pins s σ H Q I h
  refine wpAny_Call_Name_kw (ld_blt I hg hm hv ?_ hn hdb)
  exact PyProof.Rows.callWith_builtin1 (thn (ha pos pins s σ H _ I h) fun us s1 ⟨vs, H1, I1, r1, q1⟩ => hc pins s1 σ H1 vs us Q I1 r1 q1) he hpl
/-- T(e, ..), T a built-in type -/
theorem pe_callTy (hc : CallR X (.type T) r) (hg : Gl X x) (hm : X.mg x = none) (hv : bootBuiltins x = some (.type T)) (ha : PA X (e :: es) t) (hn : x ≠ "__name__" := by decide) (hdb : (x == ("__debug__" : Str)) = false := by decide)
    (he : starEach (e :: es) X.env = (false, eval e X.env) :: starEach es X.env := by rfl) (hpl : (backTo pos (starEach es X.env)).any (·.1) = false := by rfl) : PE X (.Call (.Name x p) (e :: es) [] pos) (tCB r t) := by
  intro pins s σ H Q I h
  refine wpAny_Call_Name_kw (ld_blt I hg hm hv ?_ hn hdb)
  exact PyProof.Rows.callWith_type1 (thn (ha pos pins s σ H _ I h) fun us s1 ⟨vs, H1, I1, r1, q1⟩ => hc pins s1 σ H1 vs us Q I1 r1 q1) he hpl
end
end L2

namespace HT
open PySem PyProof.Rows



section
open PySem.SeqAt
open PySem.AutoSeq1 (wpAny_loadPart')
open PySem.MeetsSeq PySem.MeetsSeq2 PySem.MeetsSeq3

end

section
variable {prog : Program} {w : World} {A : Around} {E : Value → Shared → Prop} {s : Shared}



/-! ### t[a:b], not the whole -/
/-- a slice's bound as a place among n (d where it is left out) -/
def sIx (n d : Nat) : Option Int → Nat
  | none => d
  | some v => if v < 0 then (v + (n : Int)).toNat else min v.toNat n

end
end HT

namespace L2
open PySem PySem.Spec PyProof.Rows

/-! ### the parts of a slice -/
abbrev TO := St → Hp → (Option Int → Hp → Prop) → Prop
/-- a slice's part (left out, or an int) -/
def PO (X : Cx) (e : Option Expr) (t : TO) : Prop :=
  ∀ (pins : List (Addr × Obj)) (s : Shared) (σ : St) (H : Hp) (Q : Option Int → Hp → Prop), Inv X pins σ H s → t σ H Q →
    wpAny (model X.prog X.w) X.A (evalPart e X.env) (fun u s' => ∃ o H', Inv X pins σ H' s' ∧ IsPart u o ∧ Q o H') X.xe s
def tNoPart : TO := fun _ H Q => Q none H
def tPart (t : TE) : TO := fun σ H Q => t σ H fun x H1 => ∃ i, x = .int i ∧ Q (some i) H1


section
variable {X : Cx} {e : Expr} {te : TE} {lo hi : Option Expr} {tl th : TO} {pos p2 : Pos}

theorem po_none : PO X none tNoPart := by
  intro pins s σ H Q I h
  rw [evalPart_none]
  exact wpAny_pure ⟨none, H, I, .none, h⟩
theorem po_some (h : PE X e te) : PO X (some e) (tPart te) := by
  intro pins s σ H Q I hw
  rw [evalPart_some]
  refine thn (h pins s σ H _ I hw) fun u s1 hq0 => ?_
  obtain ⟨x, H1, I1, r1, q1⟩ := hq0
  obtain ⟨i, rfl, q⟩ := q1
  obtain ⟨t, rfl⟩ := r1
  exact ⟨some i, H1, I1, .int i t, q⟩

/-- what a slice of a value is, by values: the slice object stands at sl -/
def SlR (X : Cx) (r : V → Option Int → Option Int → Hp → VK → Prop) : Prop :=
  ∀ (pins : List (Addr × Obj)) (s : Shared) (σ : St) (H : Hp) (x : V) (v vl vu : Value) (lo hi : Option Int) (sl : Addr) (Q : VK), Inv X pins σ H s → RelV x v → s.heap.IsSliceOf sl vl vu .none → IsPart vl lo → IsPart vu hi → r x lo hi H Q →
    ∃ T id, typeLookup (.type T) "__getitem__" = pure (some (.builtin id)) ∧ s.TypeIs v T ∧ wpAny (model X.prog X.w) X.A (getItem v (.ref sl)) (EP X pins σ Q) X.xe s
def tSl (r : V → Option Int → Option Int → Hp → VK → Prop) (te : TE) (tl th : TO) : TE := fun σ H Q => te σ H fun x H1 => tl σ H1 fun l H2 => th σ H2 fun u H3 => r x l u H3 Q
/-- a[lo:hi], any a -/
theorem pe_slice {r : V → Option Int → Option Int → Hp → VK → Prop} (hr : SlR X r) (he : PE X e te) (hl : PO X lo tl) (hu : PO X hi th) : PE X (.Subscript e (.Slice lo hi none p2) pos) (tSl r te tl th) := by
  intro pins s σ H Q I h
  refine Subscript_ (thn (he pins s σ H _ I h) fun v s1 hq0 => ?_)
  obtain ⟨x, H1, I1, r1, q1⟩ := hq0
  refine wpAny_Slice (thn (hl pins s1 σ H1 _ I1 q1) fun vl s2 ⟨l, H2, I2, pl, q2⟩ => thn (hu pins s2 σ H2 _ I2 q2) fun vu s3 hq0 => ?_)
  obtain ⟨u, H3, I3, pu, q3⟩ := hq0
  rw [evalPart_none]
  refine wpAny_pure ?_
  have I4 : Inv X pins σ H3 { s3 with heap := s3.heap.push { cls := .type "slice", data := .fields #[vl, vu, .none] } } := I3.kept (t' := s3.toks) fun b ob q => Heap.get?_push_of_some _ q
  obtain ⟨T, id, hT, ht, hg⟩ := hr pins { s3 with heap := s3.heap.push { cls := .type "slice", data := .fields #[vl, vu, .none] } } σ H3 x v vl vu l u s3.heap.objs.size Q I4 r1 (Heap.IsSliceOf.new ..) pl pu q3
  show wpAny (model X.prog X.w) X.A (subscriptTail e (.Slice lo hi none p2) v (.ref s3.heap.objs.size)) (EP X pins σ Q) X.xe { s3 with heap := s3.heap.push { cls := .type "slice", data := .fields #[vl, vu, .none] } }
  exact tail_any (ops := [.ref s3.heap.objs.size, v]) ht hT hg (by with_unfolding_all rfl)

/-- the items of xs[lo:hi] -/
def cutV (xs : List V) (lo hi : Option Int) : List V := (xs.drop (HT.sIx xs.length 0 lo)).take (HT.sIx xs.length xs.length hi - HT.sIx xs.length 0 lo)
theorem cutV_length (xs : List V) (lo hi : Option Int) : (cutV xs lo hi).length ≤ xs.length := by
  unfold cutV
  rw [List.length_take, List.length_drop]
  omega

/-! ### t < u, t + u -/
end
end L2

namespace L2
open PySem PySem.Spec PyProof.Rows

/-! ### places -/
/-- the place that an index of any sign means -/
def ixN (n : Nat) (i : Int) : Option Nat := if 0 ≤ i then (if i < n then some i.toNat else none) else if -(n : Int) ≤ i then some (i + n).toNat else none
def atI {α : Type} (xs : List α) (i : Int) : Option α := (ixN xs.length i).bind fun j => xs[j]?
theorem ixN_seq {n : Nat} {i : Int} {j : Nat} (h : ixN n i = some j) : seqIndex? i n = some j ∧ j < n ∧ -(n : Int) ≤ i ∧ i < n := by
  unfold ixN at h
  by_cases h0 : 0 ≤ i
  · rw [if_pos h0] at h
    by_cases h1 : i < n
    · rw [if_pos h1] at h
      have e : i.toNat = j := Option.some.inj h
      exact ⟨by rw [seqIndex_of h0 h1, e], by omega, by omega, h1⟩
    · rw [if_neg h1] at h; cases h
  · rw [if_neg h0] at h
    by_cases h1 : -(n : Int) ≤ i
    · rw [if_pos h1] at h
      have e : (i + n).toNat = j := Option.some.inj h
      exact ⟨by rw [seqIndex_neg (by omega) h1, e], by omega, h1, by omega⟩
    · rw [if_neg h1] at h; cases h
theorem atI_get {α : Type} {xs : List α} {i : Int} {v : α} (h : atI xs i = some v) : ∃ j, seqIndex? i xs.length = some j ∧ xs[j]? = some v ∧ j < xs.length ∧ -(xs.length : Int) ≤ i ∧ i < xs.length := by
  unfold atI at h
  cases e : ixN xs.length i with
  | none => rw [e] at h; cases h
  | some j =>
    rw [e] at h
    obtain ⟨h1, h2, h3, h4⟩ := ixN_seq e
    exact ⟨j, h1, h, h2, h3, h4⟩
theorem atI_nat {α : Type} {xs : List α} {j : Nat} {v : α} (h : xs[j]? = some v) : atI xs (j : Int) = some v := by
  have hj : j < xs.length := (List.getElem?_eq_some_iff.mp h).1
  have e : ixN xs.length (j : Int) = some j := by
    unfold ixN
    rw [if_pos (by omega), if_pos (by omega)]; simp
  unfold atI; rw [e]; exact h

/-! ### what may be subscripted -/
/-- what stands as an index of a plain subscript -/
def PlainIx (b : Expr) : Prop := ∀ o i, subscripted b false o i = operate [o, i] (getItem o i)
/-- a subscript by values -/
def IxR (X : Cx) (r : R2) : Prop :=
  ∀ (value slice : Expr) (pins : List (Addr × Obj)) (s : Shared) (σ : St) (H : Hp) (x y : V) (v u : Value) (Q : VK), Inv X pins σ H s → RelV x v → RelV y u → r x y H Q →
    subscripted slice false v u = operate [v, u] (getItem v u) → wpAny (model X.prog X.w) X.A (subscriptTail value slice v u) (EP X pins σ Q) X.xe s
/-- a call of a builtin's method by values: the receiver, the arguments -/
def MtR (X : Cx) (id : String) (r : V → List V → Hp → VK → Prop) : Prop :=
  ∀ (pins : List (Addr × Obj)) (s : Shared) (σ : St) (H : Hp) (x : V) (xs : List V) (v : Value) (us : List Value) (Q : VK), Inv X pins σ H s → RelV x v → Vals xs us → r x xs H Q →
    wpAny (model X.prog X.w) X.A (call (.builtin id) (v :: us)) (EP X pins σ Q) X.xe s
section
variable {X : Cx} {a b : Expr} {ta tb : TE} {pos : Pos}
/-- a[b] -/
theorem pe_ix {r : R2} (hr : IxR X r) (ha : PE X a ta) (hb : PE X b tb) (hs : PlainIx b) : PE X (.Subscript a b pos) (tOp r ta tb) := by
  intro pins s σ H Q I h
  exact Subscript_ (binT ha hb I h fun v u s2 x y H2 I2 rx ry q => hr a b pins s2 σ H2 x y v u Q I2 rx ry q (hs _ _))

def rIxL (K : PySem.W.Frag) : R2 := fun x y H Q => ∃ p xs i v, x = .ref p ∧ y = .int i ∧ SqL K H p xs ∧ atI xs i = some v ∧ Q v H
def rIxT (K : PySem.W.Frag) : R2 := fun x y H Q => ∃ p xs i v, x = .ref p ∧ y = .int i ∧ SqT K H p xs ∧ atI xs i = some v ∧ Q v H
def rIxS : R2 := fun x y H Q => ∃ z i c, x = .str z ∧ y = .int i ∧ z.length ≤ sizeLine ∧ atI z.cps.toList i = some c ∧ Q (.str ⟨#[c]⟩) H
theorem ix_list : IxR X (rIxL X.K) := by
  intro value slice pins s σ H x y v u Q I rx ry h hs
  obtain ⟨p, xs, i, z, rfl, rfl, hq, he, q⟩ := h
  cases rx
  obtain ⟨t, rfl⟩ := ry
  obtain ⟨its, r, pl, hz⟩ := I.list hq
  obtain ⟨j, h1, h2, h3, h4, h5⟩ := atI_get he
  obtain ⟨w, ew, rw'⟩ := r.get h2
  have hl := r.length
  have hn := line63
  have fin : EP X pins σ Q w s := ⟨z, H, I, rw', q⟩
  by_cases h0 : 0 ≤ i
  · have hj : i.toNat = j := by
      rw [seqIndex_of h0 h5] at h1
      exact Option.some.inj h1
    exact item_listR pl.isList h0 (by omega) (by rw [hj]; simpa using ew) fin hs
  · have hj : (i + (its.toArray.size : Int)).toNat = j := by
      rw [seqIndex_neg (by omega) h4] at h1
      rw [List.size_toArray, ← hl]
      exact Option.some.inj h1
    exact subscriptTail_builtinR (x := w) pl.isList.typeIs slot_list_getitem.lookup
      (wpAny_getItem_list_neg (Q := fun r s' => r = w ∧ EP X pins σ Q r s') pl.isList (by omega) (by rw [List.size_toArray] <;> omega) (by omega) (by rw [hj]; simpa using ew) ⟨rfl, fin⟩) hs
theorem ix_tup : IxR X (rIxT X.K) := by
  intro value slice pins s σ H x y v u Q I rx ry h hs
  obtain ⟨p, xs, i, z, rfl, rfl, hq, he, q⟩ := h
  cases rx
  obtain ⟨t, rfl⟩ := ry
  obtain ⟨its, r, pl, hz⟩ := I.tuple hq
  obtain ⟨j, h1, h2, h3, h4, h5⟩ := atI_get he
  obtain ⟨w, ew, rw'⟩ := r.get h2
  have hl := r.length
  have hn := line63
  have fin : EP X pins σ Q w s := ⟨z, H, I, rw', q⟩
  exact subscriptTail_builtinR (x := w) pl.typeIs slot_tuple_getitem.lookup
    (getItem_tuple (j := j) (Q := fun r s' => r = w ∧ EP X pins σ Q r s') pl (by omega) (by omega) (by rw [List.size_toArray, ← hl]; exact h1) (by simpa using ew) ⟨rfl, fin⟩) hs
theorem ix_str : IxR X rIxS := by
  intro value slice pins s σ H x y v u Q I rx ry h hs
  obtain ⟨z, i, c, rfl, rfl, hz, he, q⟩ := h
  obtain ⟨t, rfl⟩ := rx
  obtain ⟨t', rfl⟩ := ry
  obtain ⟨j, h1, h2, h3, h4, h5⟩ := atI_get he
  have hl : z.cps.toList.length = z.length := by simp [Str.length]
  rw [hl] at h1 h4 h5
  have hn := line63
  exact tail_any (typeIs_str s z t) slot_str_getitem.lookup (getItem_str (c := c) (by
    have e1 : decide (i < -(2 ^ 63 : Int)) = false := decide_eq_false (by omega)
    have e2 : decide (i ≥ 2 ^ 63) = false := decide_eq_false (by omega)
    rw [e1, e2, Bool.or_false]) (by rw [h1]; simpa using h2) ⟨.str ⟨#[c]⟩, H, I.tok _, ⟨_, rfl⟩, q⟩) hs

/-! ### xs[i] = v, any sign -/

/-! ### slices -/
theorem slice_bounds (lo hi : Option Int) (n : Nat) : (sliceBounds lo hi none n).1 = ((HT.sIx n 0 lo : Nat) : Int) ∧ (sliceBounds lo hi none n).2.1 = ((HT.sIx n n hi : Nat) : Int) ∧ (sliceBounds lo hi none n).2.2 = 1 := by
  refine ⟨?_, ?_, rfl⟩
  · cases lo with
    | none => simp [sliceBounds, HT.sIx]
    | some i =>
      simp only [sliceBounds, HT.sIx, Option.getD_none, show (1 : Int) > 0 by decide, if_true]
      by_cases h : i < 0
      · simp only [h, if_true] <;> omega
      · simp only [h, if_false] <;> omega
  · cases hi with
    | none => simp [sliceBounds, HT.sIx]
    | some i =>
      simp only [sliceBounds, HT.sIx, Option.getD_none, show (1 : Int) > 0 by decide, if_true]
      by_cases h : i < 0
      · simp only [h, if_true] <;> omega
      · simp only [h, if_false] <;> omega
theorem slicePick_cut (its : List Value) (lo hi : Option Int) : slicePick its.toArray lo hi none = ((its.drop (HT.sIx its.length 0 lo)).take (HT.sIx its.length its.length hi - HT.sIx its.length 0 lo)).toArray := by
  obtain ⟨h1, h2, h3⟩ := slice_bounds lo hi its.toArray.size
  unfold slicePick
  rw [h1, h2, h3]
  simp only [sliceRange_one, pick_run, List.size_toArray] <;> rfl
/-- xs[lo:hi] of a list: a new list -/
def rSlL (K : PySem.W.Frag) : V → Option Int → Option Int → Hp → VK → Prop := fun x lo hi H Q => ∃ a xs, x = .ref a ∧ SqL K H a xs ∧ ∀ p, H p = none → Q (.ref p) (upd H p (.lst (cutV xs lo hi)))
theorem sl_list : SlR X (rSlL X.K) := by
  intro pins s σ H x v vl vu lo hi sl Q I rx hs pl pu h
  obtain ⟨a, xs, rfl, hx, q⟩ := h
  cases rx
  obtain ⟨its, r, ht, hz⟩ := I.list hx
  have hlen := r.length
  refine ⟨"list", _, slot_list_getitem.lookup, ht.isList.typeIs, ?_⟩
  refine wpAny_getItem_list_slice ht.isList hs pl pu .none (by simp) ?_ (by rw [List.size_toArray] <;> omega)
  rw [slicePick_cut, ← hlen]
  refine ⟨.ref s.heap.objs.size, _, I.laid (t' := s.toks) (o := .lst (cutV xs lo hi)) (fun b ob q => Heap.get?_push_of_some _ q) (Nat.le_refl _) ?_, rfl, q _ (I.hok.fresh (Nat.le_refl _))⟩
  exact ⟨Nat.le_trans (cutV_length xs lo hi) hz, _, 0, (r.drop (HT.sIx xs.length 0 lo)).take (HT.sIx xs.length xs.length hi - HT.sIx xs.length 0 lo), Heap.get?_push_size _ rfl⟩

/-! ### in, not in: flat items -/
def flatV : V → Bool
  | .non => true
  | .bl _ => true
  | .int _ => true
  | .str _ => true
  | _ => false
/-- == of flat values -/
def eqV : V → V → Bool
  | .non, .non => true
  | .bl a, .bl b => a == b
  | .bl a, .int b => (if a then 1 else 0) == b
  | .int a, .bl b => a == (if b then 1 else 0)
  | .int a, .int b => a == b
  | .str a, .str b => a == b
  | _, _ => false
theorem eqAt_V {A : Around} {s : Shared} {y x : V} {u v : Value} (ry : RelV y u) (rx : RelV x v) (fy : flatV y = true) (fx : flatV x = true) : SeqAt.EqAt A s u v (eqV y x) := by
  cases y with
  | non =>
    cases ry
    cases x with
    | non => cases rx; exact SeqAt.EqAt.same _
    | bl b => cases rx; exact SeqAt.EqAt.none_bool b
    | int b => obtain ⟨t, rfl⟩ := rx; exact SeqAt.EqAt.none_int b t
    | str b => obtain ⟨t, rfl⟩ := rx; exact SeqAt.EqAt.none_str b t
    | _ => exact absurd (show false = true from fx) Bool.false_ne_true
  | bl a =>
    cases ry
    cases x with
    | non => cases rx; exact SeqAt.EqAt.bool_none a
    | bl b => cases rx; exact SeqAt.EqAt.bool_bool a b
    | int b => obtain ⟨t, rfl⟩ := rx; exact SeqAt.EqAt.bool_int a b t
    | str b => obtain ⟨t, rfl⟩ := rx; exact SeqAt.EqAt.bool_str a b t
    | _ => exact absurd (show false = true from fx) Bool.false_ne_true
  | int a =>
    obtain ⟨t', rfl⟩ := ry
    cases x with
    | non => cases rx; exact SeqAt.EqAt.int_none a t'
    | bl b => cases rx; exact SeqAt.EqAt.int_bool a t' b
    | int b => obtain ⟨t, rfl⟩ := rx; exact SeqAt.EqAt.int_int a t' b t
    | str b => obtain ⟨t, rfl⟩ := rx; exact SeqAt.EqAt.int_str a t' b t
    | _ => exact absurd (show false = true from fx) Bool.false_ne_true
  | str a =>
    obtain ⟨t', rfl⟩ := ry
    cases x with
    | non => cases rx; exact SeqAt.EqAt.str_none a t'
    | bl b => cases rx; exact SeqAt.EqAt.str_bool a t' b
    | int b => obtain ⟨t, rfl⟩ := rx; exact SeqAt.EqAt.str_int a t' b t
    | str b => obtain ⟨t, rfl⟩ := rx; exact SeqAt.EqAt.str_str a t' b t
    | _ => exact absurd (show false = true from fx) Bool.false_ne_true
  | _ => exact absurd (show false = true from fy) Bool.false_ne_true
/-- the items' answers, read off the values (a value's own answer does not lean on its token) -/
def eqU (x : V) (u : Value) : Bool := match u with
  | .none => eqV .non x
  | .bool b => eqV (.bl b) x
  | .int i _ => eqV (.int i) x
  | .str z _ => eqV (.str z) x
  | _ => false
theorem eqU_of {x y : V} {u : Value} (r : RelV y u) (f : flatV y = true) : eqU x u = eqV y x := by
  cases y with
  | non => cases r; rfl
  | bl b => cases r; rfl
  | int i => obtain ⟨t, rfl⟩ := r; rfl
  | str z => obtain ⟨t, rfl⟩ := r; rfl
  | _ => exact absurd (show false = true from f) Bool.false_ne_true
theorem any_eqU {x : V} : ∀ {xs : List V} {us : List Value}, Vals xs us → xs.all flatV = true → us.any (eqU x) = xs.any fun y => eqV y x
  | _, _, .nil, _ => rfl
  | y :: xs, u :: us, .cons r t, f => by
    rw [List.all_cons, Bool.and_eq_true] at f
    rw [List.any_cons, List.any_cons, eqU_of r f.1, any_eqU t f.2]
theorem mem_eqAt {A : Around} {s : Shared} {x : V} {v : Value} (rx : RelV x v) (fx : flatV x = true) : ∀ {xs : List V} {us : List Value}, Vals xs us → xs.all flatV = true → ∀ u ∈ us, SeqAt.EqAt A s u v (eqU x u)
  | _, _, .nil, _ => fun u hu => by cases hu
  | y :: xs, u :: us, .cons r t, f => fun u' hu => by
    rw [List.all_cons, Bool.and_eq_true] at f
    rcases List.mem_cons.mp hu with rfl | hu
    · rw [eqU_of r f.1]; exact eqAt_V r rx f.1 fx
    · exact mem_eqAt rx fx t f.2 u' hu
def inV (x : V) (xs : List V) : Bool := xs.any fun y => eqV y x
/-- x in a list or tuple of flat items -/
def rIn (K : PySem.W.Frag) (neg : Bool) : R2 := fun x y H Q => ∃ p xs, y = .ref p ∧ (SqL K H p xs ∨ SqT K H p xs) ∧ flatV x = true ∧ xs.all flatV = true ∧ Q (.bl (if neg then !inV x xs else inV x xs)) H
theorem op_in_seq : OpR X (compareOp .In) (rIn X.K false) := by
  intro pins s σ H x y v u Q I rx ry h
  obtain ⟨p, xs, rfl, hq, fx, fs, q⟩ := h
  cases ry
  rcases hq with hq | hq
  · obtain ⟨its, r, pl, hz⟩ := I.list hq
    refine SeqAt.in_listAt (eqU x) pl.isList (fun w hw => mem_eqAt rx fx r fs w (by simpa using hw)) ⟨.bl _, H, I, rfl, ?_⟩
    rw [show its.toArray.any (eqU x) = its.any (eqU x) by simp, any_eqU r fs]
    exact q
  · obtain ⟨its, r, pl, hz⟩ := I.tuple hq
    refine SeqAt.in_tupleAt (eqU x) pl (fun w hw => mem_eqAt rx fx r fs w (by simpa using hw)) ⟨.bl _, H, I, rfl, ?_⟩
    rw [show its.toArray.any (eqU x) = its.any (eqU x) by simp, any_eqU r fs]
    exact q

/-! ### len, list(x), tuple(x) of any list or tuple that is read -/
theorem call_len_seq : CallR X (.builtin "len") (fun xs H Q => ∃ p ys, xs = [.ref p] ∧ (SqL X.K H p ys ∨ SqT X.K H p ys) ∧ Q (.int ys.length) H) := by
  intro pins s σ H xs us Q I r h
  obtain ⟨p, ys, rfl, hq, q⟩ := h
  obtain ⟨u, rfl, rx⟩ := vals1 r
  cases rx
  have hn := line63
  rcases hq with hq | hq
  · obtain ⟨its, r', pl, hz⟩ := I.list hq
    have hlen := r'.length
    exact Calls.call_len_list pl.isList (by simp only [List.size_toArray] <;> omega) ⟨.int ys.length, H, I.tok _, ⟨s.toks + 1, by rw [List.size_toArray, hlen]⟩, q⟩
  · obtain ⟨its, r', pl, hz⟩ := I.tuple hq
    have hlen := r'.length
    exact len_tuple pl (by simp only [List.size_toArray] <;> omega) ⟨.int ys.length, H, I.tok _, ⟨s.toks + 1, by rw [List.size_toArray, hlen]⟩, q⟩
theorem call_list_of : CallR X (.type "list") (fun xs H Q => ∃ p ys, xs = [.ref p] ∧ (SqL X.K H p ys ∨ SqT X.K H p ys) ∧ ∀ l, H l = none → Q (.ref l) (upd H l (.lst ys))) := by
  intro pins s σ H xs us Q I r h
  obtain ⟨p, ys, rfl, hq, q⟩ := h
  obtain ⟨u, rfl, rx⟩ := vals1 r
  cases rx
  have fin : ∀ (its : List Value), Vals ys its → ys.length ≤ sizeLine → ∀ (h' : Heap) (c' : Nat), (∀ b o', s.heap.get? b = some o' → h'.get? b = some o') →
      h'.get? s.heap.objs.size = some { cls := .type "list", dict := none, data := .seq its.toArray c', slots := #[] } → EP X pins σ Q (.ref s.heap.objs.size) { s with heap := h' } := fun its r' hz h' c' kp e =>
    ⟨.ref s.heap.objs.size, _, I.laid (t' := s.toks) kp (Nat.le_refl _) (show ObjOk X.prog X.w _ h' _ (.lst ys) from ⟨hz, its, c', r', e⟩), rfl, q _ (I.hok.fresh (Nat.le_refl _))⟩
  rcases hq with hq | hq
  · obtain ⟨its, r', pl, hz⟩ := I.list hq
    have hlen := r'.length
    obtain ⟨o, ho, hc, n, hd⟩ := pl.isList
    exact call_list_seq p (.inl rfl) ho hc hd (fun h' c' kp e => fin its r' hz h' c' kp e) (by simp only [List.size_toArray] <;> omega)
  · obtain ⟨its, r', pl, hz⟩ := I.tuple hq
    have hlen := r'.length
    obtain ⟨o, ho, hc, n, hd⟩ := pl
    exact call_list_seq p (.inr rfl) ho hc hd (fun h' c' kp e => fin its r' hz h' c' kp e) (by simp only [List.size_toArray] <;> omega)

/-! ### the call of a builtin's method: o.m(..) -/
/-- the value is of that builtin type -/
def tyV (K : PySem.W.Frag) (T : String) (x : V) (H : Hp) : Prop := match x with
  | .str _ => T = "str"
  | .int _ => T = "int"
  | .ref p => (T = "list" ∧ ∃ xs, SqL K H p xs) ∨ (T = "tuple" ∧ ∃ o, K.lookup p = some o ∧ o.cls = .type "tuple" ∧ o.dict = none) ∨
      (T = "dict" ∧ ((∃ kvs, H p = some (.dK kvs)) ∨ ∃ kvs, H p = some (.dT kvs))) ∨ (T = "set" ∧ ∃ S n, H p = some (.set S n))
  | _ => False
theorem tyV_is {pins : List (Addr × Obj)} {σ : St} {H : Hp} {s : Shared} {T : String} {x : V} {v : Value} (I : Inv X pins σ H s) (r : RelV x v) (ty : tyV X.K T x H) :
    s.TypeIs v T ∧ ∀ a, v = .ref a → ∃ ob, s.heap.get? a = some ob ∧ ob.dict = none := by
  cases x with
  | str z =>
    obtain ⟨t, rfl⟩ := r
    cases (show T = "str" from ty)
    exact ⟨typeIs_str s z t, fun _ e => nomatch e⟩
  | int i =>
    obtain ⟨t, rfl⟩ := r
    cases (show T = "int" from ty)
    exact ⟨typeIs_int s i t, fun _ e => nomatch e⟩
  | ref p =>
    cases r
    rcases ty with ⟨rfl, xs, hq⟩ | ⟨rfl, o, hk, hc, hd⟩ | ⟨rfl, hk⟩ | ⟨rfl, S, n, hk⟩
    · obtain ⟨its, _, pl, _⟩ := I.list hq
      refine ⟨pl.isList.typeIs, fun a e => ?_⟩
      cases e
      obtain ⟨o, n, e, c, hd, _⟩ := pl
      exact ⟨o, e, hd⟩
    · refine ⟨⟨o, I.kIn p o hk, hc⟩, fun a e => ?_⟩
      cases e
      exact ⟨o, I.kIn _ o hk, hd⟩
    · have z : ∃ o, s.heap.get? p = some o ∧ o.ExactDict := by
        rcases hk with ⟨kvs, hk⟩ | ⟨kvs, hk⟩
        · obtain ⟨_, _, _, _, o, _, _, e, ex, _⟩ := I.hok p _ hk
          exact ⟨o, e, ex⟩
        · obtain ⟨_, _, _, _, o, _, _, e, ex, _⟩ := I.hok p _ hk
          exact ⟨o, e, ex⟩
      obtain ⟨o, e, ex⟩ := z
      refine ⟨⟨o, e, ex.1⟩, fun a e2 => ?_⟩
      cases e2
      exact ⟨o, e, ex.2.1⟩
    · obtain ⟨o, _, _, _, e, ex, _⟩ := I.hok p _ hk
      refine ⟨⟨o, e, ex.1⟩, fun a e2 => ?_⟩
      cases e2
      exact ⟨o, e, ex.2.1⟩
  | _ => exact False.elim ty
def tBM0 (K : PySem.W.Frag) (T : String) (r : V → List V → Hp → VK → Prop) (to : TE) : TE := fun σ H Q => to σ H fun x H1 => tyV K T x H1 ∧ r x [] H1 Q
def tBM (K : PySem.W.Frag) (T : String) (r : V → List V → Hp → VK → Prop) (to : TE) (t : TA) : TE := fun σ H Q => to σ H fun x H1 => tyV K T x H1 ∧ t σ H1 fun xs H2 => r x xs H2 Q
variable {o e : Expr} {es : List Expr} {to : TE} {t : TA} {name : Str} {apos cpos : Pos} {T id : String} {r : V → List V → Hp → VK → Prop}
theorem pe_bm0 (pa : PlainAttrs T) (slot : Slot T name id) (hty : typeOf (.builtin id) = pure (.type "method_descriptor")) (hm : MtR X id r) (ho : PE X o to)
    (hbase : attributeBase o name X.env (eval o X.env) = eval o X.env := by rfl) (hline : (apos.endLine == cpos.line) = true := by rfl) : PE X (.Call (.Attribute o name apos) [] [] cpos) (tBM0 X.K T r to) := by
  intro pins s σ H Q I h
  refine wpAny_Call_method0_late hbase hline (thn (ho pins s σ H _ I h) fun v s1 hq0 => ?_)
  obtain ⟨x, H1, I1, r1, ty, q1⟩ := hq0
  obtain ⟨h1, h2⟩ := tyV_is I1 r1 ty
  exact ⟨T, id, pa, slot, hty, h1, h2, Calls.callWith_builtin rfl (PySem.evalArgs_none (hm pins s1 σ H1 x [] v [] Q I1 r1 .nil q1))⟩
theorem pe_bm (pa : PlainAttrs T) (slot : Slot T name id) (hty : typeOf (.builtin id) = pure (.type "method_descriptor")) (hm : MtR X id r) (ho : PE X o to) (ha : PA X (e :: es) t)
    (hbase : attributeBase o name X.env (eval o X.env) = eval o X.env := by rfl)
    (hfew : ((backTo cpos (starEach (e :: es) X.env)).all (fun x => !x.1) && (backToKw cpos (keywordEach [] X.env)).all (fun x => x.1.isSome)
      && decide ((e :: es).length + ([] : List Keyword).length + (if ([] : List Keyword).isEmpty then 0 else 1) < 30)) = true := by rfl)
    (hline : (apos.endLine == cpos.line) = true := by rfl) (hs : starEach (e :: es) X.env = (false, eval e X.env) :: starEach es X.env := by rfl) (hplain : (backTo cpos (starEach es X.env)).any (·.1) = false := by rfl) :
    PE X (.Call (.Attribute o name apos) (e :: es) [] cpos) (tBM X.K T r to t) := by
  intro pins s σ H Q I h
  refine wpAny_Call_method_late hbase hfew hline rfl (thn (ho pins s σ H _ I h) fun v s1 hq0 => ?_)
  obtain ⟨x, H1, I1, r1, ty, q1⟩ := hq0
  obtain ⟨h1, h2⟩ := tyV_is I1 r1 ty
  refine ⟨T, id, pa, slot, hty, h1, h2, ?_⟩
  have hA := ha cpos pins s1 σ H1 _ I1 q1
  rw [hs] at hA ⊢
  refine Calls.callWith_builtin (by show (false || (backTo cpos (starEach es X.env)).any (·.1)) = false; rw [hplain] <;> rfl) (Calls.evalArgs_plain ?_)
  exact thn hA fun us s2 ⟨vs, H2, I2, r2, q2⟩ => hm pins s2 σ H2 x vs v us Q I2 r1 r2 q2
/- xs.append(e), list.index on a module's tuple .. are MtR facts of 06m -/
end
end L2

namespace L2
open PySem PySem.Spec PyProof.Rows

def MtM (X : Cx) (id : String) (r : V → List V → Hp → VK → Prop) : Prop :=
  ∀ (pins : List (Addr × Obj)) (s : Shared) (σ : St) (H : Hp) (x : V) (xs : List V) (v : Value) (us : List Value) (Q : VK), Inv X pins σ H s → RelV x v → Vals xs us → r x xs H Q →
    wpAny (model X.prog X.w) X.A (call (.builtin id) (v :: us)) (EP X pins σ Q) X.xe s

/-! ### lists of values -/
theorem Vals.one : ∀ {x : V} {us : List Value}, Vals [x] us → ∃ u, us = [u] ∧ RelV x u
  | _, _, .cons r .nil => ⟨_, rfl, r⟩

section
variable {X : Cx} {pins : List (Addr × Obj)} {σ : St} {H : Hp} {s : Shared} {l b : Addr} {xs ys zs : List V}

/-! ### the two steps: a tracked list is rewritten, a new list is laid -/
theorem Inv.lset {its its' : List Value} {n : Nat} {f : Array Value → Array Value} {t' : Nat} (I : Inv X pins σ H s) (hH : H l = some (.lst xs))
    (e : s.heap.get? l = some { cls := .type "list", data := .seq its.toArray n }) (hf : f its.toArray = its'.toArray) (hv : Vals ys its') (hz : ys.length ≤ sizeLine) :
    Inv X pins σ (upd H l (.lst ys)) { s with heap := s.heap.update l (Obj.mapSeq f), toks := t' } := by
  have q := PySem.IsL.update e f
  rw [hf] at q
  refine I.write (x := l) (e := l) (by rw [hH]; exact trivial) (.inl rfl) (fun b' u hb hu => (Heap.get?_update_other s.heap (Obj.mapSeq f) (Ne.symm hb)).trans hu) ⟨_, q⟩ ?_
  exact ⟨hz, its', _, hv, q⟩
theorem Inv.lnew {its : List Value} {t' : Nat} (I : Inv X pins σ H s) (hv : Vals ys its) (hz : ys.length ≤ sizeLine) :
    Inv X pins σ (upd H s.heap.objs.size (.lst ys)) { s with heap := s.heap.push { cls := .type "list", data := .seq its.toArray }, toks := t' } :=
  I.laid (fun _ _ q => Heap.get?_push_of_some _ q) (Nat.le_refl _) ⟨hz, its, 0, hv, Heap.get?_push_size _ rfl⟩
theorem Inv.fresh (I : Inv X pins σ H s) : H s.heap.objs.size = none := I.hok.fresh (Nat.le_refl _)
theorem Inv.lstM (I : Inv X pins σ H s) (hH : H l = some (.lst xs)) : xs.length ≤ sizeLine ∧ ∃ (its : List Value) (n : Nat), Vals xs its ∧ xs.length = its.length ∧ s.heap.get? l = some { cls := .type "list", data := .seq its.toArray n } := by
  obtain ⟨z, its, n, r, e⟩ := I.hok l _ hH
  exact ⟨z, its, n, r, r.length, e⟩

theorem notLongL {n : Nat} (h : n ≤ sizeLine) : Builtin.List.listTooLong n = false := by
  unfold Builtin.List.listTooLong
  exact decide_eq_false (by omega)
end

section
variable {X : Cx}

/-! ### methods -/
def rAppend : V → List V → Hp → VK → Prop := fun x vs H Q => ∃ l xs y, x = .ref l ∧ vs = [y] ∧ H l = some (.lst xs) ∧ xs.length < sizeLine ∧ Q .non (upd H l (.lst (xs ++ [y])))
theorem mt_append : MtM X "list.append" rAppend := by
  intro pins s σ H x vs v us Q I rx rv h
  obtain ⟨l, xs, y, rfl, rfl, hH, hz, q⟩ := h
  cases rx
  obtain ⟨u, rfl, ru⟩ := rv.one
  obtain ⟨z, its, n, r, hl, e⟩ := I.lstM hH
  refine call_meets F.slot_list_append ⟨_, e, rfl⟩ F.entry_list_append (F.args_list_append_2 _ _) (PySem.list_append l its.toArray n u (by rw [List.size_toArray]; omega)) ⟨e, ?_⟩
  refine ⟨.non, _, I.lset (its' := its ++ [u]) hH e (by simp) (r.append (.cons ru .nil)) ?_, rfl, q⟩
  rw [List.length_append, List.length_singleton]
  omega






/-! ### list + list, list += list, list * int -/
def rCat : R2 := fun x y H Q => ∃ l b xs zs, x = .ref l ∧ y = .ref b ∧ H l = some (.lst xs) ∧ H b = some (.lst zs) ∧ xs.length + zs.length ≤ sizeLine ∧ ∀ p, H p = none → Q (.ref p) (upd H p (.lst (xs ++ zs)))
theorem op_cat : OpR X (binaryOp .Add) rCat := by
  intro pins s σ H x y v u Q I rx ry h
  obtain ⟨l, b, xs, zs, rfl, rfl, hH, hB, hz, q⟩ := h
  cases rx
  cases ry
  obtain ⟨z, its, n, r, hl, e⟩ := I.lstM hH
  obtain ⟨z2, its2, n2, r2, hl2, e2⟩ := I.lstM hB
  refine PySem.P.add_list e e2 ?_ (by rw [List.size_toArray, List.size_toArray]; omega)
  have ea : its.toArray ++ its2.toArray = (its ++ its2).toArray := by simp
  rw [ea]
  exact ⟨.ref _, _, I.lnew (t' := s.toks) (r.append r2) (by rw [List.length_append]; omega), rfl, q _ I.fresh⟩

/-! ### del xs[i] -/
end

/-! ### xs[a:b] = ys -/
section
variable {prog : Program} {w : World} {A : Around} {E : Value → Shared → Prop} {s : Shared}
end

section
variable {X : Cx}
end
end L2

namespace L2
open PySem PySem.Spec PyProof.Rows

/-! ### lists of pairs as tables -/
section
variable {κ : Type} [DecidableEq κ]
def valV (kvs : List (κ × V)) (k : κ) : Option V := (kvs.find? fun kv => decide (kv.1 = k)).map (·.2)
/-- in its place, or at the end -/
def putK (kvs : List (κ × V)) (k : κ) (v : V) : List (κ × V) :=
  if (kvs.any fun kv => decide (kv.1 = k)) = true then kvs.map (fun kv => if kv.1 = k then (kv.1, v) else kv) else kvs ++ [(k, v)]

theorem valV_pos {p : κ × V} {r : List (κ × V)} {k : κ} (e : p.1 = k) : valV (p :: r) k = some p.2 := by simp [valV, List.find?_cons, e]
theorem valV_neg {p : κ × V} {r : List (κ × V)} {k : κ} (e : ¬ p.1 = k) : valV (p :: r) k = valV r k := by simp [valV, List.find?_cons, e]
theorem valV_any (k : κ) : ∀ kvs : List (κ × V), (kvs.any fun kv => decide (kv.1 = k)) = (valV kvs k).isSome
  | [] => rfl
  | p :: r => by
    rw [List.any_cons]
    by_cases e : p.1 = k
    · simp only [valV_pos e, decide_eq_true e, Bool.true_or, Option.isSome_some]
    · rw [valV_neg e, decide_eq_false e, Bool.false_or]; exact valV_any k r
theorem length_putK (kvs : List (κ × V)) (k : κ) (v : V) : (putK kvs k v).length ≤ kvs.length + 1 := by
  unfold putK
  split
  · rw [List.length_map]; omega
  · rw [List.length_append, List.length_cons, List.length_nil]; omega

theorem RelO.isSome_eq {o : Option V} {u : Option Value} (r : RelO o u) : o.isSome = u.isSome := by
  cases o with
  | none => cases u with
    | none => rfl
    | some _ => exact (show False from r).elim
  | some _ => cases u with
    | none => exact (show False from r).elim
    | some _ => rfl

/-- raw tables of the same keys -/
theorem KV.val {kvs : List (κ × V)} {vs : List (κ × Value)} (r : KV kvs vs) (k : κ) : RelO (valV kvs k) (valueAt vs k) := by
  unfold KV at r
  induction r with
  | nil => exact True.intro
  | @cons p q ps qs h t ih =>
    obtain ⟨h1, h2⟩ := h
    by_cases e : p.1 = k
    · have e' : q.1 = k := h1.symm.trans e
      have b : valueAt (q :: qs) k = some q.2 := by simp [valueAt, List.find?_cons, e']
      rw [valV_pos e, b]; exact h2
    · have e' : ¬ q.1 = k := fun z => e (h1.trans z)
      have b : valueAt (q :: qs) k = valueAt qs k := by simp [valueAt, List.find?_cons, e']
      rw [valV_neg e, b]; exact ih
theorem KV.any {kvs : List (κ × V)} {vs : List (κ × Value)} (r : KV kvs vs) (k : κ) : (kvs.any fun kv => decide (kv.1 = k)) = vs.any fun kv => decide (kv.1 = k) := by
  unfold KV at r
  induction r with
  | nil => rfl
  | cons h t ih => rw [List.any_cons, List.any_cons, ih, h.1]
theorem KV.repl {kvs : List (κ × V)} {vs : List (κ × Value)} (r : KV kvs vs) (k : κ) {y : V} {u : Value} (ry : RelV y u) :
    KV (kvs.map fun kv => if kv.1 = k then (kv.1, y) else kv) (vs.map fun kv => if kv.1 = k then (kv.1, u) else kv) := by
  unfold KV at r ⊢
  induction r with
  | nil => exact .nil
  | @cons p q ps qs h t ih =>
    rw [List.map_cons, List.map_cons]
    refine .cons ?_ ih
    obtain ⟨h1, h2⟩ := h
    by_cases e : p.1 = k
    · rw [if_pos e, if_pos (h1.symm.trans e)]; exact ⟨h1, ry⟩
    · rw [if_neg e, if_neg (fun z => e (h1.trans z))]; exact ⟨h1, h2⟩
theorem KV.put {kvs : List (κ × V)} {vs : List (κ × Value)} (r : KV kvs vs) (k : κ) {y : V} {u : Value} (ry : RelV y u) : KV (putK kvs k y) (stored vs k u) := by
  unfold putK stored
  rw [r.any k]
  by_cases e : (vs.any fun kv => decide (kv.1 = k)) = true
  · rw [if_pos e, if_pos e]; exact r.repl k ry
  · rw [if_neg e, if_neg e]; exact Paired.snoc r ⟨rfl, ry⟩
theorem KV.length {kvs : List (κ × V)} {vs : List (κ × Value)} (r : KV kvs vs) : kvs.length = vs.length := Paired.length r
end


/-! ### a tracked dict, its keys ints and texts or tuples of these -/
theorem kV_is {P : Program} {w : World} {k : Key} {u : Value} (r : RelV (kV k) u) : (mixKind P w).is k u = true := by
  cases k with
  | inl i => obtain ⟨t, e⟩ := (show ∃ t, u = Value.int i t from r); subst e; exact mixKind_int P w i t
  | inr x => obtain ⟨t, e⟩ := (show ∃ t, u = Value.str x t from r); subst e; exact mixKind_str P w x t
theorem items_are {P : Program} {w : World} : ∀ {ks : List Key} {us : List Value}, Vals (ks.map kV) us → ItemsAre (mixKind P w) ks us
  | [], _, r => by rw [List.map_nil] at r; cases r; exact .nil
  | k :: ks, _, r => by
    rw [List.map_cons] at r
    cases r with
    | cons h t => exact .cons (kV_is h) (items_are t)

/-- raw entries of a dict with tuple keys -/
abbrev KT (H : Hp) : List (List Key × V) → List (List Key × Addr × Value) → Prop := Paired fun p q => p.1 = q.1 ∧ H q.2.1 = some (.tup (p.1.map kV)) ∧ RelV p.2 q.2.2
theorem KT.val {H : Hp} {kvs : List (List Key × V)} {xs : List (List Key × Addr × Value)} (r : KT H kvs xs) (k : List Key) : RelO (valV kvs k) ((atKey xs k).map (·.2)) := by
  induction r with
  | nil => exact True.intro
  | @cons p q ps qs h t ih =>
    obtain ⟨h1, _, h2⟩ := h
    by_cases e : p.1 = k
    · have e' : q.1 = k := h1.symm.trans e
      have b : atKey (q :: qs) k = some q.2 := by simp [atKey, List.find?_cons, e']
      rw [valV_pos e, b]; exact h2
    · have e' : ¬ q.1 = k := fun z => e (h1.trans z)
      have b : atKey (q :: qs) k = atKey qs k := by simp [atKey, List.find?_cons, e']
      rw [valV_neg e, b]; exact ih
theorem KT.repl {H : Hp} {kvs : List (List Key × V)} {xs : List (List Key × Addr × Value)} (r : KT H kvs xs) (k : List Key) {y : V} {u : Value} (ry : RelV y u) :
    KT H (kvs.map fun kv => if kv.1 = k then (kv.1, y) else kv) (xs.map (putAt k u)) := by
  induction r with
  | nil => exact .nil
  | @cons p q ps qs h t ih =>
    rw [List.map_cons, List.map_cons]
    refine .cons ?_ ih
    obtain ⟨h1, h2, h3⟩ := h
    unfold putAt
    by_cases e : p.1 = k
    · rw [if_pos e, if_pos (h1.symm.trans e)]; exact ⟨h1, h2, ry⟩
    · rw [if_neg e, if_neg (fun z => e (h1.trans z))]; exact ⟨h1, h2, h3⟩
theorem KT.put {H : Hp} {kvs : List (List Key × V)} {xs : List (List Key × Addr × Value)} (r : KT H kvs xs) (k : List Key) {b : Addr} {y : V} {u : Value} (hb : H b = some (.tup (k.map kV))) (ry : RelV y u) :
    KT H (putK kvs k y) (storedH xs k b u) := by
  have e : (kvs.any fun kv => decide (kv.1 = k)) = (atKey xs k).isSome := by
    rw [valV_any, (r.val k).isSome_eq, Option.isSome_map]
  unfold putK storedH
  rw [e]
  by_cases q : (atKey xs k).isSome = true
  · rw [if_pos q, if_pos q]; exact r.repl k ry
  · rw [if_neg q, if_neg q]; exact Paired.snoc r ⟨rfl, hb, ry⟩
theorem KT.keeps {H H' : Hp} {kvs : List (List Key × V)} {xs : List (List Key × Addr × Value)} (r : KT H kvs xs) (ht : ∀ b ys, H b = some (.tup ys) → H' b = some (.tup ys)) : KT H' kvs xs :=
  Paired.mapP r fun _ _ z => ⟨z.1, ht _ _ z.2.1, z.2.2⟩

section
variable {P : Program} {w : World} {H : Hp} {h : Heap} {a : Addr}
theorem rd_of {u : HO} (ok : HOk P w H h) (e : Rd H a u) : ObjOk P w H h a u := e.ok ok
theorem dk_rd {kvs : List (Key × V)} (ok : HOk P w H h) (e : Rd H a (.dK kvs)) : kvs.length ≤ sizeLine ∧ (a == sysModules) = false ∧ ∃ vs, KV kvs vs ∧ h.DictOf (mixKind P w) a vs :=
  show ObjOk P w H h a (.dK kvs) from rd_of ok e
theorem dk_of {kvs : List (Key × V)} (ok : HOk P w H h) (e : H a = some (.dK kvs)) : kvs.length ≤ sizeLine ∧ (a == sysModules) = false ∧ ∃ vs, KV kvs vs ∧ h.DictOf (mixKind P w) a vs := dk_rd ok (.inl e)
/-- a tracked tuple of ints and texts is a key -/
theorem key_of {ks : List Key} (ok : HOk P w H h) (e : H a = some (.tup (ks.map kV))) : (tupleKind (mixKind P w)).is h ks a := by
  obtain ⟨_, its, r, o, h1, h2, n, h3⟩ := (show ObjOk P w H h a (.tup (ks.map kV)) from ok a _ e)
  exact ⟨o, its.toArray, n, h1, h2, h3, by simpa using items_are r⟩
theorem dt_rd {kvs : List (List Key × V)} (ok : HOk P w H h) (e : Rd H a (.dT kvs)) : kvs.length ≤ sizeLine ∧ (a == sysModules) = false ∧
    ∃ xs, KT H kvs xs ∧ h.DictOfH (tupleKind (mixKind P w)) a xs := by
  obtain ⟨z, y, xs, r, o, es, ep, h1, h2, h3, h4, h5⟩ := (show ObjOk P w H h a (.dT kvs) from rd_of ok e)
  refine ⟨z, y, xs, r, o, es, ep, h1, h2, h3, h4, fun x hx => ?_, h5⟩
  have all : ∀ {l : List (List Key × V)} {m : List (List Key × Addr × Value)}, KT H l m → ∀ x ∈ m, (tupleKind (mixKind P w)).is h x.1 x.2.1 := by
    intro l m q
    induction q with
    | nil => intro x hx; exact nomatch hx
    | @cons p q ps qs hq t ih =>
      intro x hx
      rcases List.mem_cons.mp hx with e | hx
      · subst e
        exact key_of ok (by rw [← hq.1]; exact hq.2.1)
      · exact ih x hx
  exact all r x hx
theorem dt_of {kvs : List (List Key × V)} (ok : HOk P w H h) (e : H a = some (.dT kvs)) : kvs.length ≤ sizeLine ∧ (a == sysModules) = false ∧
    ∃ xs, KT H kvs xs ∧ h.DictOfH (tupleKind (mixKind P w)) a xs := dt_rd ok (.inl e)
end

/-- what the dict at a holds at the key y -/
def DGet (H : Hp) (a : Addr) (y : V) (r : Option V) : Prop :=
  (∃ kvs k, Rd H a (.dK kvs) ∧ y = kV k ∧ r = valV kvs k) ∨ ∃ kvs k b, Rd H a (.dT kvs) ∧ y = .ref b ∧ H b = some (.tup (k.map kV)) ∧ r = valV kvs k
/-- the heap behind a[y] = v -/
def DPut (H : Hp) (a : Addr) (y v : V) (H' : Hp) : Prop :=
  (∃ kvs k, H a = some (.dK kvs) ∧ y = kV k ∧ kvs.length < sizeLine ∧ H' = upd H a (.dK (putK kvs k v))) ∨
  ∃ kvs k b, H a = some (.dT kvs) ∧ y = .ref b ∧ H b = some (.tup (k.map kV)) ∧ kvs.length < sizeLine ∧ H' = upd H a (.dT (putK kvs k v))
theorem DGet.k {H : Hp} {a : Addr} {kvs : List (Key × V)} {k : Key} (e : H a = some (.dK kvs)) : DGet H a (kV k) (valV kvs k) := .inl ⟨kvs, k, .inl e, rfl, rfl⟩
theorem DPut.k {H : Hp} {a : Addr} {kvs : List (Key × V)} {k : Key} {v : V} (e : H a = some (.dK kvs)) (hl : kvs.length < sizeLine) : DPut H a (kV k) v (upd H a (.dK (putK kvs k v))) := .inl ⟨kvs, k, e, rfl, hl, rfl⟩


section
variable {X : Cx} {pins : List (Addr × Obj)} {σ : St} {H : Hp} {s : Shared} {a : Addr} {y v : V} {u r : Value} {o : Option V} {A : Around} {E : Value → Shared → Prop}

theorem Inv.big (I : Inv X pins σ H s) : sysModules < s.heap.objs.size := by
  have h : mainGlobals < s.heap.objs.size := (I.mod.glob.keeps I.bk).lt
  exact Nat.lt_trans (by decide) h

/-- d[y], there -/
theorem d_getItem {Q : Value → Shared → Prop} (hu : A.units + 1 < cLine) (I : Inv X pins σ H s) (g : DGet H a y (some v)) (ry : RelV y u) (h : ∀ w' s', Inv X pins σ H s' → RelV v w' → Q w' s') :
    wpAny (model X.prog X.w) A (getItem (.ref a) u) Q E s := by
  rcases g with ⟨kvs, k, e, ey, l⟩ | ⟨kvs, k, b, e, ey, eb, l⟩
  · subst ey
    obtain ⟨z, hd, vs, rel, dd⟩ := dk_rd I.hok e
    obtain ⟨w', hw, rw'⟩ := RelO.some_of (v := v) (o := valueAt vs k) (by rw [l]; exact rel.val k)
    exact wpAny_getItem_of (kV_is ry) dd.mapOf hw (h w' _ (I.tok _) rw')
  · subst ey
    cases (show u = Value.ref b from ry)
    obtain ⟨z, hd, xs, rel, dd⟩ := dt_rd I.hok e
    obtain ⟨w', hw, rw'⟩ := RelO.some_of (v := v) (o := (atKey xs k).map (·.2)) (by rw [l]; exact rel.val k)
    obtain ⟨p, hp, hp2⟩ := Option.map_eq_some_iff.mp hw
    refine wpAny_getItem_heap (tupleKind_room_in1 hu) (key_of I.hok eb) dd hp ?_
    rw [hp2]
    exact h w' _ (I.tok _) rw'
/-- a dict's object is replaced -/
theorem d_write {h' : Heap} {t' : Nat} {ob : HO} (I : Inv X pins σ H s) (mu : Mut (H a)) (hs : Heap.SameBut a s.heap h') (he : ∃ q, h'.get? a = some q) (new : ObjOk X.prog X.w (upd H a ob) h' a ob) :
    Inv X pins σ (upd H a ob) { s with heap := h', toks := t' } :=
  I.write (x := a) (e := a) mu (.inl rfl) (fun b q hb z => (hs.2 b hb).trans z) he new
theorem dk_new {P : Program} {w : World} {H' : Hp} {h' : Heap} {kvs : List (Key × V)} {vs : List (Key × Value)} (z : kvs.length ≤ sizeLine) (hd : (a == sysModules) = false) (rel : KV kvs vs) (dd : h'.DictOf (mixKind P w) a vs) :
    ObjOk P w H' h' a (.dK kvs) := ⟨z, hd, vs, rel, dd⟩
/-- d[y] = v -/
theorem d_setItem {H' : Hp} {Q : Unit → Shared → Prop} (hu : A.units + 1 < cLine) (I : Inv X pins σ H s) (g : DPut H a y v H') (ry : RelV y u) (rv : RelV v r) (h : ∀ s', Inv X pins σ H' s' → Q () s') :
    wpAny (model X.prog X.w) A (setItem (.ref a) u r) Q E s := by
  rcases g with ⟨kvs, k, e, ey, l, eH⟩ | ⟨kvs, k, b, e, ey, eb, l, eH⟩
  · subst ey eH
    obtain ⟨z, hd, vs, rel, dd⟩ := dk_of I.hok e
    have hz : vs.length ≤ sizeLine := by rw [← rel.length]; exact z
    have hl : (putK kvs k v).length ≤ sizeLine := by have := length_putK kvs k v; omega
    refine wpAny_setItem_pairs (hsz := hz) (kV_is ry) dd fun h' dd' hs => h _ ?_
    have he : ∃ q, h'.get? a = some q := let ⟨q, _, _, hq, _⟩ := dd'; ⟨q, hq⟩
    exact d_write I (by rw [e]; exact True.intro) hs he (dk_new hl hd (rel.put k rv) dd')
  · subst ey eH
    cases (show u = Value.ref b from ry)
    obtain ⟨z, hd, xs, rel, dd⟩ := dt_of I.hok e
    have hz : xs.length ≤ sizeLine := by rw [← Paired.length rel]; exact z
    have hl : (putK kvs k v).length ≤ sizeLine := by have := length_putK kvs k v; omega
    refine wpAny_setItem_heap (hsz := hz) (tupleKind_room_in1 hu) (key_of I.hok eb) dd fun h' dd' hs => h _ ?_
    obtain ⟨q, es, ep, hq, h2, h3, h4, _, h5⟩ := dd'
    refine d_write I (by rw [e]; exact True.intro) hs ⟨q, hq⟩ ⟨hl, hd, _, (rel.put k eb rv).keeps fun c ys ec => ?_, q, es, ep, hq, h2, h3, h4, h5⟩
    rw [upd_ne (ne_of ec e (fun z => nomatch z))]
    exact ec
end

section
variable {X : Cx} {pins : List (Addr × Obj)} {σ : St} {H : Hp} {s : Shared} {a : Addr} {kvs : List (Key × V)} {k : Key} {u : Value} {A : Around} {E : Value → Shared → Prop}
end


/-! ### readings and rules -/
/-- the element of a subscription, not a slice -/
def NoSl (i : Expr) : Prop := ∀ ov iv, subscripted i false ov iv = operate [ov, iv] (getItem ov iv)
theorem subD_of {prog : Program} {w : World} {A : Around} {E : Value → Shared → Prop} {s : Shared} {env : Env} {value slice : Expr} {pos : Pos} {T id : String} {Q : Value → Shared → Prop}
    (hl : typeLookup (.type T) "__getitem__" = pure (some (.builtin id))) (hs : NoSl slice)
    (h : wpAny (model prog w) A (eval value env) (fun o s₁ => wpAny (model prog w) A (eval slice env) (fun i s₂ => s₂.TypeIs o T ∧ wpAny (model prog w) A (getItem o i) Q E s₂) E s₁) E s) :
    wpAny (model prog w) A (eval (.Subscript value slice pos) env) Q E s := by
  refine Subscript_ (wpAny_mono h (fun o s₁ h₁ => wpAny_mono h₁ (fun i s₂ h₂ => ?_) fun _ _ x => x) fun _ _ x => x)
  obtain ⟨hT, h₂⟩ := h₂
  unfold subscriptTail
  refine wpAny_bind ?_
  rw [getitemInPython_of_ne hT.not_modules]
  refine wpAny_bind (wpAny_specialOf hT hl ?_)
  have fin : wpAny (model prog w) A (subscripted slice false o i) (fun r s₃ => wpAny (model prog w) A (letTemporaryGo value o r >>= fun _ => pure r) Q E s₃) E s₂ := by
    rw [hs o i]
    exact wpAny_operating (wpAny_mono h₂ (fun r s₃ h₃ => wpAny_bind (wpAny_letTemporaryGo (wpAny_pure h₃))) fun _ _ x => x)
  first
    | exact wpAny_pure (wpAny_bind fin)
    | exact wpAny_bind (wpAny_pure (wpAny_bind fin))
    | exact wpAny_bind fin

theorem dict_typeIs {X : Cx} {pins : List (Addr × Obj)} {σ : St} {H : Hp} {s : Shared} {a : Addr} {y : V} {o : Option V} (I : Inv X pins σ H s) (g : DGet H a y o) : s.TypeIs (.ref a) "dict" := by
  rcases g with ⟨kvs, k, e, _, _⟩ | ⟨kvs, k, b, e, _, _, _⟩
  · obtain ⟨_, _, vs, _, dd⟩ := dk_rd I.hok e
    exact dd.typeIs
  · obtain ⟨_, _, xs, _, dd⟩ := dt_rd I.hok e
    exact dd.typeIs

/-- d[y] -/
def tDGet (td ty : TE) : TE := fun σ H Q => td σ H fun x H1 => ty σ H1 fun y H2 => ∃ a v, x = .ref a ∧ DGet H2 a y (some v) ∧ Q v H2
/-- d[y] = v -/
def sDPut (td ty tv : TE) : TS := fun D σ H => tv σ H fun v H1 => td σ H1 fun x H2 => ty σ H2 fun y H3 => ∃ a H4, x = .ref a ∧ DPut H3 a y v H4 ∧ D.nx σ H4

section
variable {X : Cx} {o i e value : Expr} {pos pos' tpos : Pos} {td ty tv : TE}
theorem pe_dget (hu : X.A.units + 1 < cLine) (ho : PE X o td) (hi : PE X i ty) (hs : NoSl i) : PE X (.Subscript o i pos) (tDGet td ty) := by
  intro pins s σ H Q I h
  refine subD_of PySem.F.slot_dict_getitem.lookup hs (thn (ho pins s σ H _ I h) fun u s1 ⟨x, H1, I1, rx, q1⟩ => thn (hi pins s1 σ H1 _ I1 q1) fun iv s2 hq0 => ?_)
  obtain ⟨y, H2, I2, ry, a, v, ex, g, q2⟩ := hq0
  subst ex
  obtain rfl : u = Value.ref a := rx
  exact ⟨dict_typeIs I2 g, d_getItem hu I2 g ry fun w' s3 I3 rw' => ⟨v, H2, I3, rw', q2⟩⟩
theorem ps_dput (hu : X.A.units + 1 < cLine) (ho : PE X o td) (hi : PE X i ty) (hv : PE X value tv) (hs : swapsWith value (some (.Subscript o i pos')) pos.line X.env = pure false) :
    PS X (.Assign [.Subscript o i pos'] value pos) (sDPut td ty tv) := by
  intro pins s σ H D I h
  refine wpAny_Assign_Subscript (thn (hv pins s σ H _ I h) fun r s1 ⟨v, H1, I1, rv, q1⟩ => thn (ho pins s1 σ H1 _ I1 q1) fun u s2 ⟨x, H2, I2, rx, q2⟩ => thn (hi pins s2 σ H2 _ I2 q2) fun iv s3 hq0 => ?_) hs
  obtain ⟨y, H3, I3, ry, a, H4, ex, g, q3⟩ := hq0
  subst ex
  obtain rfl : u = Value.ref a := rx
  exact d_setItem hu I3 g ry rv fun s4 I4 => ⟨σ, H4, I4, q3⟩
end


/-! ### displays -/
theorem dk_empty {P : Program} {w : World} {H : Hp} (h : Heap) (hb : sysModules < h.objs.size) : ObjOk P w H (h.push { cls := .type "dict", data := .dict #[] }) h.objs.size (.dK []) :=
  ⟨Nat.zero_le _, beq_eq_false_iff_ne.mpr (Ne.symm (Nat.ne_of_lt hb)), [], .nil, Heap.DictOf.new h⟩
/-- {}, to be a dict of the kind that is wanted -/
def tDNewK : TE := fun _ H Q => ∀ p, H p = none → Q (.ref p) (upd H p (.dK []))
section
variable {X : Cx} {pos : Pos}
theorem pe_dnewK : PE X (.Dict [] [] pos) tDNewK := fun pins s σ H Q I h =>
  wpAny_Dict_empty ⟨.ref s.heap.objs.size, _, I.laid (a := s.heap.objs.size) (o := .dK []) (t' := s.toks) (fun _ _ q => Heap.get?_push_of_some _ q) (Nat.le_refl _) (dk_empty s.heap I.big), rfl, h _ (I.hok.fresh (Nat.le_refl _))⟩
end




/-! ### methods -/
structure M2 (X : Cx) (o : Expr) (m : Str) (apos : Pos) (e f : Expr) (cpos : Pos) : Prop where
  base : attributeBase o m X.env (eval o X.env) = eval o X.env
  few : ((backTo cpos (starEach [e, f] X.env)).all (fun x => !x.1) && (backToKw cpos (keywordEach [] X.env)).all (fun x => x.1.isSome)
    && decide (([e, f] : List Expr).length + ([] : List Keyword).length + (if ([] : List Keyword).isEmpty then 0 else 1) < 30)) = true
  line : (apos.endLine == cpos.line) = true
  trees : backTo cpos (starEach [e, f] X.env) = [(false, eval e X.env), (false, eval f X.env)]

/-- a is a dict, whatever its keys -/
def IsD (H : Hp) (a : Addr) : Prop := (∃ kvs, Rd H a (.dK kvs)) ∨ ∃ kvs, Rd H a (.dT kvs)
theorem isD_at {X : Cx} {pins : List (Addr × Obj)} {σ : St} {H : Hp} {s : Shared} {a : Addr} (I : Inv X pins σ H s) (d : IsD H a) :
    s.TypeIs (.ref a) "dict" ∧ (∀ b, Value.ref a = .ref b → ∃ ob, s.heap.get? b = some ob ∧ ob.dict = none) ∧ (a == sysModules) = false := by
  rcases d with ⟨kvs, e⟩ | ⟨kvs, e⟩
  · obtain ⟨_, hd, vs, _, dd⟩ := dk_rd I.hok e
    refine ⟨dd.typeIs, fun b q => ?_, hd⟩
    cases q
    obtain ⟨ob, _, _, h1, h2, _⟩ := dd
    exact ⟨ob, h1, h2.2.1⟩
  · obtain ⟨_, hd, xs, _, dd⟩ := dt_rd I.hok e
    refine ⟨dd.typeIs, fun b q => ?_, hd⟩
    cases q
    obtain ⟨ob, _, _, h1, h2, _⟩ := dd
    exact ⟨ob, h1, h2.2.1⟩

section
variable {X : Cx} {pins : List (Addr × Obj)} {σ : St} {H : Hp} {s : Shared} {a : Addr} {y d : V} {u r : Value} {o : Option V} {A : Around} {E : Value → Shared → Prop}
end

section
variable {X : Cx} {o e f : Expr} {apos cpos : Pos} {td ty tx : TE}
end

/-! ### dict(d): a copy -/
section
variable {X : Cx} {pins : List (Addr × Obj)} {σ : St} {H : Hp} {s : Shared} {a : Addr} {kvs : List (Key × V)} {A : Around} {E : Value → Shared → Prop}
end


section
variable {X : Cx} {pins : List (Addr × Obj)} {σ : St} {H : Hp} {s : Shared} {a : Addr} {y : V} {u : Value} {A : Around} {E : Value → Shared → Prop}
end
end L2

namespace Att
open PySem PySem.W PySem.Calls PyProof.Rows

/-! ### the script -/
theorem ints_of_wellAll {P : Params} {h : Heap} : ∀ (ns : List Int) (vs : List Value), WellAll P h vs (ns.map WData.int) → IntsAre vs ns := by
  intro ns
  induction ns with
  | nil =>
    intro vs w
    rw [List.map_nil] at w
    cases w
    exact .nil
  | cons n ns ih =>
    intro vs w
    rw [List.map_cons] at w
    cases w with
    | cons a b =>
      cases a
      exact .cons _ _ (ih _ b)

theorem script_of {l : OpenLaw} {n : Nat} (hn : l.most = some n) {P : Params} {h : Heap} {args : List WData} {vals : List Value}
    (hpre : l.row.toRowW.claim.pre args = true) (hwl : WellAll P h vals args) :
    ∃ a vs ns, vals = [Value.ref a] ∧ args = [WData.list (ns.map WData.int)] ∧ h.get? a = some { cls := .type "list", data := .seq vs.toArray } ∧ IntsAre vs ns ∧ ns.length ≤ n := by
  have hsh : WShape.hasAll [] args [.list .int] = true := (pre_splitW hpre).1
  have hc : l.pre.holds [] { args := args } = true := (pre_splitW hpre).2
  obtain ⟨d, r, rfl, h1, h2⟩ := hasAllW_cons hsh
  obtain rfl := hasAllW_nil h2
  obtain ⟨xs, rfl, h3⟩ := hasW_list h1
  obtain ⟨ns, rfl⟩ := items_int h3
  have hlen : ns.length ≤ n := by
    unfold OpenLaw.pre at hc
    have h4 : (WTm.not (.lt (.lit (.int (n : Int))) (.len (.arg 0)))).holds [] { args := [.list (ns.map .int)] } = true := by
      have h4 := (holds_andW hc).1
      rw [hn] at h4
      exact h4
    have h5 := condW_of h4 (w_not (w_lt w_lit (w_len_list (w_arg rfl))))
    rw [List.length_map] at h5
    refine Nat.le_of_not_lt fun q => ?_
    have q' : (n : Int) < ((ns.length : Nat) : Int) := by omega
    first
      | (rw [decide_eq_true q'] at h5; exact absurd h5 (by decide))
      | (simp at h5; omega)
  cases hwl with
  | cons w1 w2 =>
    cases w2
    cases w1 with
    | list ho hall => exact ⟨_, _, ns, rfl, rfl, ho, ints_of_wellAll ns _ hall, hlen⟩

theorem post_true (l : OpenLaw) (args : List WData) : l.row.toRowW.claim.post args (.bool true) args = true :=
  postW_of (r := l.row.toRowW) (X := (true == true))
    (show WShape.has [] (.bool true) .bool = true by first | rfl | decide | simp [WShape.has, WShape.arms, WShape.armsAll])
    (show (WTm.eq .res (.lit (.bool true))).value [] { args := args, res := some (.bool true), after := args } = some (.bool (true == true)) from w_eq_bool (w_res rfl) w_lit) rfl

/-! ### the attachment: holds_open's last premise (the goal 'hc' behind k_head) from a wpAny of the law's body -/

/-- the same from a codeAny of the CALL (for a layer whose function contracts speak of calls) -/
theorem attach_call {l : OpenLaw} {n : Nat} {q : Program} {loose : List Str} {XP : (Str → Option Value) → Heap → Prop} {YP : World → Heap → Prop} {d : DefRec}
    (hn : l.most = some n) (hdf : d.params.defaults = [])
    (call : ∀ (w : World) (s₀ s₁ : Shared) (mg mb : Str → Option Value) (fa : Addr) (o : Obj) (pm cd doc : Value) (a : Addr) (vs : List Value) (ns : List Int),
      Ground q loose [] XP w s₀ mg mb s₁.heap → YP w s₁.heap →
      s₁.heap.get? fa = some o → o.data = .func (docDef d.name d.params d.body d.scope pm cd doc) → s₁.heap.CodeRec cd d.name → mg d.name = some (.ref fa) →
      s₁.heap.get? a = some { cls := .type "list", data := .seq vs.toArray } → IntsAre vs ns → ns.length ≤ n → s₁.gens = #[] →
      codeAny (model l.prog w) callerA (.call (.ref fa) ⟨[.ref a], []⟩) (fun r s' => r = .ok (.ret (.bool true)) ∧ OldK s₁.heap s'.heap ∧ s'.os = s₁.os ∧ AllBare s'.gens) s₁) :
    WalkO q loose XP YP l.row.toRowW d [] (fun f vs => PySem.call f vs) := by
  intro w s₀ s₁ mg mb G Y fa o pm cd doc dV kV ho hd hcd hD hmg hg args vals as hpre hlay hrd hwl hlo
  obtain rfl : dV = .none := Dflts.none hD hdf
  obtain rfl : kV = .none := Dflts.noKw hD
  obtain ⟨a, vs, ns, rfl, rfl, hobj, hints, hlen⟩ := script_of hn hpre hwl
  refine enter_call (codeAny_mono (call w s₀ s₁ mg mb fa o pm cd doc a vs ns G Y ho (fd_plain hd) hcd hmg hobj hints hlen hg) fun r s' hq => ?_)
  obtain ⟨rfl, h2, h3, h4⟩ := hq
  exact ⟨.inl ⟨.bool true, .bool true, [], rfl, fun _ => rfl, .bool true, post_true l _, fun _ => ⟨List.Pairwise.nil, fun _ hm => (nomatch hm)⟩⟩, h2, h3, h4⟩


/-! ### rules over ANY heap (no ledger) from facts about the written part K: the library's own take a ledger (News) for what they write -/
section
variable {prog : Program} {w : World} {A : Around} {E : Value → Shared → Prop} {s : Shared} {K : Frag}





/-! the whole heap as the ledger: makes every rule that writes through a ledger a rule over any heap -/

end
end Att

namespace L2
open PySem PySem.Spec PyProof.Rows

theorem vals_ints : ∀ {vs : List Value} {ns : List Int}, IntsAre vs ns → Vals (ns.map V.int) vs
  | _, _, .nil => .nil
  | _, _, .cons n t h => .cons ⟨t, rfl⟩ (vals_ints h)

/-- nothing is tracked but the script, known to the object (or it is an object of the module) -/
def Only (H : Hp) : Prop := ∀ b, H b = none ∨ ∃ o xs, H b = some (.frz o (.lst xs))

/-- THE HEAD: the law's promise, at the heap behind the top. F, the promise of the law's def, may use that base is part of the heap (so K.In base, base.Ns mainGlobals mg stand in Mod) -/
theorem law_call {P : Program} {w : World} {K : PySem.W.Frag} {mg mb : Str → Option Value} {CX : CXT} {k : Nat} {fa a : Addr} {fd : FuncData} {x : Str} {sp : Sp} {s₁ : Shared} {vs : List Value} {ns : List Int}
    (KX : K.In s₁.heap) (hns : s₁.heap.Ns mainGlobals mg) (hb : s₁.heap.Ns builtinsNs mb) (hbb : ∀ x : Str, x ≠ "__name__" → mb x = bootBuiltins x) (hlim : s₁.heap.NoLimit) (hg : s₁.gens = #[])
    (ha : s₁.heap.get? a = some { cls := .type "list", data := .seq vs.toArray }) (hi : IntsAre vs ns) (hl : ns.length ≤ sizeLine) (hr : Room k callerA)
    (F : ∀ base : Heap, K.In base → base.Ns mainGlobals mg → FnOk P w K mg base CX k fa fd [x] sp) (hbind : ∀ (s : Shared) (u : Value), BindsTo s fd ⟨[u], []⟩ [(x, u)])
    (hsp : ∀ H : Hp, Only H → SqL K H a (ns.map V.int) → sp [.ref a] H (fun v _ => v = .bl true) fun _ _ _ => False)
    (hCX : ∀ H e s', CX [] H s₁ (fun _ _ _ => False) e s' → False) :
    codeAny (model P w) callerA (.call (.ref fa) ⟨[.ref a], []⟩) (fun r s' => r = .ok (.ret (.bool true)) ∧ OldK s₁.heap s'.heap ∧ s'.os = s₁.os ∧ AllBare s'.gens) s₁ := by
  have rv := vals_ints hi
  have lenV := hi.length
  -- from an abstract heap in which nothing but the script may be tracked
  have core : ∀ H : Hp, Only H → SqL K H a (ns.map V.int) → HOk P w H s₁.heap → (∀ b, H b ≠ none → b = a) → (H a ≠ none → K.lookup a = none) →
      codeAny (model P w) callerA (.call (.ref fa) ⟨[.ref a], []⟩) (fun r s' => r = .ok (.ret (.bool true)) ∧ OldK s₁.heap s'.heap ∧ s'.os = s₁.os ∧ AllBare s'.gens) s₁ := by
    intro H hO hS hok hA hK
    have base_of : ∀ {b : Addr} {o : Obj}, s₁.heap.get? b = some o → H b = none → (hidT s₁.heap H).get? b = some o := fun e n => hidT_get e n
    have noA : ∀ {b : Addr} {o : Obj} {es : Array DictEntry} {ep : Nat}, s₁.heap.get? b = some o → o.data = .dict es ep → H b = none := fun {b o es ep} e d => by
      cases q : H b with
      | none => rfl
      | some u =>
        have e' : b = a := hA b (by rw [q]; simp)
        subst e'
        rw [ha] at e; cases e
        have d' : Data.seq vs.toArray _ = Data.dict es ep := d
        cases d'
    have nsK : ∀ {b : Addr} {m : Str → Option Value}, s₁.heap.Ns b m → (hidT s₁.heap H).Ns b m := fun {b m} ⟨o, es, ep, e, d, r⟩ => ⟨o, es, ep, base_of e (noA e d), d, r⟩
    have hKb : K.In (hidT s₁.heap H) := fun b o e => base_of (KX b o e) (by
      cases q : H b with
      | none => rfl
      | some u =>
        have e' : b = a := hA b (by rw [q]; simp)
        subst e'
        rw [hK (by rw [q]; simp)] at e; cases e)
    have hM : Mod K mg (hidT s₁.heap H) := ⟨hKb, nsK hns, ⟨mb, nsK hb, hbb⟩, let ⟨mc, h1, h2⟩ := hlim; ⟨mc, nsK h1, h2⟩⟩
    have e0 : Env0 P w K mg (hidT s₁.heap H) callerA [] s₁ H := ⟨rfl, hM, fun b o e => of_hidT e, Nat.le_of_eq (hidT_size _ _), trivial, fun b hb => absurd (show b ∈ ([] : List Addr) from hb) (by simp), hok, .of_eq hg⟩
    refine codeAny_mono ((F _ hKb (nsK hns)).run callerA [] s₁ H ⟨[.ref a], []⟩ [.ref a] [.ref a] _ _ hr e0 (hbind s₁ (.ref a)) (.cons rfl .nil) (hsp H hO hS)) fun r s' h => ?_
    cases r with
    | error e => exact (hCX H e s' h).elim
    | ok fl =>
      cases fl with
      | next => exact False.elim h
      | brk => exact False.elim h
      | cont => exact False.elim h
      | ret u =>
        obtain ⟨v, H', os, bare, un, hok', r', q⟩ := h
        have q' : v = .bl true := q
        subst q'
        obtain rfl : u = Value.bool true := r'
        refine ⟨rfl, OldK.of_keep fun b o e => ?_, os, bare⟩
        cases q : H b with
        | none => exact un.keep b o e q (by intro z; exact absurd (show b ∈ ([] : List Addr) from z) (by simp)) (by simp)
        | some u =>
          rcases hO b with z | ⟨ob, xs, z⟩
          · rw [q] at z; cases z
          · have z2 := un.frzs b ob _ z
            obtain ⟨e1, _⟩ := hok b _ z
            obtain ⟨e2, _⟩ := hok' b _ z2
            rw [e] at e1; cases e1
            exact e2
  cases hk : K.lookup a with
  | some o =>
    -- the script is one of the module's own objects
    have e := KX a o hk
    rw [ha] at e
    cases e
    refine core (fun _ => none) (fun _ => .inl rfl) (.inr ⟨_, vs.toArray, _, hk, rfl, rfl, rfl, by rw [List.size_toArray, lenV]; exact hl, by simpa using rv⟩) (fun b u z => by have z' : (none : Option HO) = some u := z; cases z') (fun b z => absurd rfl z) fun z => absurd rfl z
  | none =>
    refine core (fun b => if b = a then some (.frz { cls := .type "list", data := .seq vs.toArray } (.lst (ns.map V.int))) else none) (fun b => ?_) (.inl (.inr ⟨{ cls := .type "list", data := .seq vs.toArray }, if_pos rfl⟩)) (fun b u z => ?_) (fun b z => ?_) fun _ => hk
    · by_cases hb : b = a
      · exact .inr ⟨_, _, if_pos hb⟩
      · exact .inl (if_neg hb)
    · by_cases hb : b = a
      · have z' := (if_pos hb).symm.trans z
        cases z'
        subst hb
        exact ⟨ha, by rw [List.length_map]; exact hl, vs, _, rv, ha⟩
      · have z' := (if_neg hb).symm.trans z
        cases z'
    · by_cases hb : b = a
      · exact hb
      · exact absurd (if_neg hb) z
end L2

namespace L2
open PySem PySem.Spec PyProof.Rows

abbrev KOf {K : PySem.W.Frag} {h : Heap} (_ : K.In h) : PySem.W.Frag := K

/-- the goal that k_head leaves (case hc), from the law's promise. F gives the function object fd (K's own) once, then the promise over every base -/
theorem walk_of {l : PySem.W.OpenLaw} {n k : Nat} {q : Program} {loose : List Str} {XP : (Str → Option Value) → Heap → Prop} {YP : World → Heap → Prop} {d : DefRec} {K : Params → PySem.W.Frag} {CX : World → CXT} {sp : World → Sp} {x : Str}
    (hn : l.most = some n) (hn2 : n ≤ sizeLine) (hdf : d.params.defaults = []) (hr : Room k callerA)
    (hY : ∀ (w : World) (h : Heap), YP w h → (K w.params).In h)
    (F : ∀ (w : World) (mg : Str → Option Value) (fa : Addr) (h : Heap), (K w.params).In h → h.Ns mainGlobals mg → mg d.name = some (.ref fa) →
      ∃ fd : FuncData, (∀ (s : Shared) (u : Value), BindsTo s fd ⟨[u], []⟩ [(x, u)]) ∧
        ∀ base : Heap, (K w.params).In base → base.Ns mainGlobals mg → FnOk l.prog w (K w.params) mg base (CX w) k fa fd [x] (sp w))
    (hsp : ∀ (w : World) (H : Hp) (a : Addr) (ns : List Int), ns.length ≤ n → Only H → SqL (K w.params) H a (ns.map V.int) → sp w [.ref a] H (fun v _ => v = .bl true) fun _ _ _ => False)
    (hCX : ∀ (w : World) (H : Hp) (s : Shared) (e : Value) (s' : Shared), CX w [] H s (fun _ _ _ => False) e s' → False) :
    PySem.W.WalkO q loose XP YP l.row.toRowW d [] (fun f vs => PySem.call f vs) := by
  refine Att.attach_call hn hdf fun w s₀ s₁ mg mb fa o pm cd doc a vs ns G Y ho hd hcd hmg hobj hints hlen hg => ?_
  have KX := hY w _ Y
  obtain ⟨fd, hb, hF⟩ := F w mg fa _ KX G.T.g hmg
  exact law_call KX G.T.g G.T.b G.T.builtins G.T.nolimit hg hobj hints (Nat.le_trans hlen hn2) hr hF hb (fun H hO hS => hsp w H a ns hlen hO hS) fun H e s' => hCX w H s₁ e s'
/-- the same where the promise hangs on the written part alone: (sp := My.sp_law), no hole under a binder -/
theorem walk_ofK {l : PySem.W.OpenLaw} {n k : Nat} {q : Program} {loose : List Str} {XP : (Str → Option Value) → Heap → Prop} {YP : World → Heap → Prop} {d : DefRec} {K : Params → PySem.W.Frag} {CX : CXT} {sp : PySem.W.Frag → Sp} {x : Str}
    (hn : l.most = some n) (hn2 : n ≤ sizeLine) (hdf : d.params.defaults = []) (hr : Room k callerA)
    (hY : ∀ (w : World) (h : Heap), YP w h → (K w.params).In h)
    (F : ∀ (w : World) (mg : Str → Option Value) (fa : Addr) (h : Heap), (K w.params).In h → h.Ns mainGlobals mg → mg d.name = some (.ref fa) →
      ∃ fd : FuncData, (∀ (s : Shared) (u : Value), BindsTo s fd ⟨[u], []⟩ [(x, u)]) ∧
        ∀ base : Heap, (K w.params).In base → base.Ns mainGlobals mg → FnOk l.prog w (K w.params) mg base CX k fa fd [x] (sp (K w.params)))
    (hsp : ∀ (K : PySem.W.Frag) (H : Hp) (a : Addr) (ns : List Int), ns.length ≤ n → Only H → SqL K H a (ns.map V.int) → sp K [.ref a] H (fun v _ => v = .bl true) fun _ _ _ => False)
    (hCX : ∀ (H : Hp) (s : Shared) (e : Value) (s' : Shared), CX [] H s (fun _ _ _ => False) e s' → False) :
    PySem.W.WalkO q loose XP YP l.row.toRowW d [] (fun f vs => PySem.call f vs) :=
  walk_of (K := K) (CX := fun _ => CX) (sp := fun w => sp (K w.params)) hn hn2 hdf hr hY F (fun w H a ns h1 h2 h3 => hsp (K w.params) H a ns h1 h2 h3) fun _ H s e s' => hCX H s e s'
end L2

/- THE LAST THEOREM (shape; LID, My.* are yours):
   My.Adr: a structure of the addresses that your layer names (classes, functions); My.Txt K t: a structure (Prop) of the equations over K;
   My.txt_mk : {K} {implicit addresses ..} (e1 : nsIn K mainGlobals "law" = some (some (.ref f))) (e2 : K.lookup f = some ⟨oc, od, .func (fnOf "law" "law" params body scope dV kV doc pm an cdv ct), sl⟩) (e3 : codeIn K cdv "law" = true) .. : ∃ t, My.Txt K t

set_option maxRecDepth 100000 in
set_option maxHeartbeats 0 in
theorem PySem.Challenge.cw_LID_holds : PySem.Challenge.rw_LID.Holds := by
  w_on; o_law; k_head; (case hw => w_witness2)
  k_fill
  refine L2.walk_of (l := PySem.Challenge.rw_LID) (n := 63) (k := 40) (x := "script") (CX := fun w => ..) (sp := fun _ => My.sp_law) rfl (by decide) rfl ⟨rfl, by decide, by decide⟩ (fun w h Y => PySem.W.kIn_of Y) ?F ?S ?C
  case F =>
    intro w mg fa h KX G hmg
    have T : ∃ t, My.Txt (L2.KOf KX) t := by
      dsimp only [L2.KOf]                          -- K must stand as «<heap const> w.params» for k_is
      refine' My.txt_mk ?e1 ?e2 ?e3 ..
      (case e1 => PySem.W.k_is)                    -- in the order: a name -> its address -> its object -> its parts
      (case e2 => PySem.W.k_is)
      ..
    obtain ⟨t, T⟩ := T
    have e0 := hmg.symm.trans (PySem.W.mg_of KX G T.law)
    cases e0                                       -- fa is the law's own address
    exact ⟨_, fun s u => .of_eq rfl, fun base kb nb => My.law_fn T kb nb⟩     -- if «.of_eq rfl» comes too early: refine' ⟨_, ?b, fun base kb nb => My.law_fn T kb nb⟩; exact fun s u => .of_eq rfl
  case S => exact fun w H a ns hl hO hS => ..
  case C => exact ..
(the tactic k_is has no namespace: write k_is) -/

/-! SHORT WORDS over the layer: a def of the text, its body, what a loop and a test want. -/
namespace L2
open PySem PySem.Spec PyProof.Rows

/-! ### the text by places -/
def defArgs (s : Stmt) : Arguments := match s with
  | .FunctionDef _ a _ _ _ _ _ _ _ _ => a
  | _ => { posonlyargs := [], args := [], vararg := none, kwonlyargs := [], kw_defaults := [], kwarg := none, defaults := [] }
def defBody (s : Stmt) : List Stmt := match s with
  | .FunctionDef _ _ b _ _ _ _ _ _ _ => b
  | _ => []
def defScope (s : Stmt) : Scope := match s with
  | .FunctionDef _ _ _ _ _ _ sc _ _ _ => sc
  | _ => { kind := .function, names := [], isGenerator := false, isCoroutine := false }

/-! ### no exception leaves a def -/
abbrev CX0 : CXT := fun _ _ _ _ _ _ => False
abbrev E0 : XK := fun _ _ _ => False
theorem pass0 {X : Cx} : Passes CX0 X E0 := fun _ _ _ _ _ _ _ h => h.elim

/-! ### a def (or method) of the text as it stands behind the top -/
structure Fun (K : PySem.W.Frag) (x qual : Str) (st : Stmt) (f : Addr) (fd : FuncData) : Prop where
  ex : ∃ (oc : Value) (od : Option Addr) (kV doc pm : Value) (an : Option Addr) (cdv ct : Value) (osl : Array (Option Value)),
    fd = PySem.W.fnOf x qual (defArgs st) (defBody st) (defScope st) .none kV doc pm an cdv ct ∧ K.lookup f = some ⟨oc, od, .func fd, osl⟩ ∧ PySem.W.codeIn K cdv qual = true
  kp : PySem.W.keepIn K (.ref f) = true
section
variable {P : Program} {w : World} {K : PySem.W.Frag} {mg : Str → Option Value} {base : Heap}
/-- THE RULE for a def: its body as a term of rules, and the reading of that term -/
theorem Fun.ok {x qual : Str} {st : Stmt} {f : Addr} {fd : FuncData} {N ps : List Str} {k : Nat} {sp : Sp} (F : Fun K x qual st f fd) (S : FnScope N ps (defScope st)) (len : ∀ vs H Q E, sp vs H Q E → vs.length = ps.length)
    (hbody : ∀ (cdv : Value) (A : Around) (outer : List Env) (s : Shared) (H : Hp) (vs : List V) (Q : VK) (E : XK), Room k (A.deeper (envOfC qual (defScope st) s.heap.objs.size f cdv)) → sp vs H Q E →
      ∃ t, PSs (cxOf CX0 P w K mg base N qual (defScope st) f cdv A outer s H E).nox (defBody st) t ∧ t { nx := fun _ H' => Q .non H', rt := Q } (start N vs) H) : FnOk P w K mg base CX0 (k + 1) f fd ps sp := by
  obtain ⟨oc, od, kV, doc, pm, an, cdv, ct, osl, rfl, lk, hcd⟩ := F.ex
  refine fn_of lk hcd S len fun A outer s H vs Q E hr hsp => ?_
  obtain ⟨t, h, q⟩ := hbody cdv A outer s H vs Q E hr hsp
  exact ⟨t, h.nox, q⟩
theorem fun_mk {x qual : Str} {st : Stmt} {f : Addr} {oc : Value} {od an : Option Addr} {osl : Array (Option Value)} {kV doc pm cdv ct : Value} (l : K.lookup f = some ⟨oc, od, .func (PySem.W.fnOf x qual (defArgs st) (defBody st) (defScope st) .none kV doc pm an cdv ct), osl⟩)
    (c : PySem.W.codeIn K cdv qual = true) (k : PySem.W.keepIn K (.ref f) = true) : Fun K x qual st f (PySem.W.fnOf x qual (defArgs st) (defBody st) (defScope st) .none kV doc pm an cdv ct) := ⟨⟨oc, od, kV, doc, pm, an, cdv, ct, osl, rfl, l, c⟩, k⟩
end
theorem hu_of {A : Around} {k : Nat} (hr : Room k A) : A.units + 1 < cLine := Nat.lt_of_le_of_lt (Nat.add_le_add_left (by decide : 1 ≤ 64) _) hr.units
theorem small1000 {n : Nat} (h : n ≤ 1000) : n < sizeLine := Nat.lt_of_le_of_lt h (by decide)

/-! ### expressions in short: the name that stands in the i-th slot -/
section
variable {X : Cx}
theorem pv (i : Nat) {x : Str} {pos : Pos} (hN : X.N[i]? = some x := by rfl) (hv : Vis X.env.scope x := by first | exact Or.inl rfl | exact Or.inr (Or.inl rfl) | exact Or.inr (Or.inr rfl)) (hd : (x == ("__debug__" : Str)) = false := by decide)
    (hcd : (x == ("__classdict__" : Str)) = false := by decide) : PE X (.Name x pos) (tVar i) := pe_var hN hv hd hcd
end

/-! ### tests -/
theorem iteF {A B : Prop} (h : B) : if false = true then A else B := by
  rw [if_neg Bool.false_ne_true]
  exact h
theorem iteT {A B : Prop} (h : A) : if true = true then A else B := by
  rw [if_pos rfl]
  exact h
theorem ite2 {c A B : Prop} [Decidable c] (h1 : c → A) (h2 : ¬ c → B) : if c then A else B := by
  by_cases h : c
  · rw [if_pos h]
    exact h1 h
  · rw [if_neg h]
    exact h2 h

/-! ### heaps -/
/-- all that was tracked is as it was -/
def Same (H H' : Hp) : Prop := ∀ b o, H b = some o → H' b = some o
theorem Same.refl (H : Hp) : Same H H := fun _ _ h => h
theorem Same.trans {H H1 H2 : Hp} (a : Same H H1) (b : Same H1 H2) : Same H H2 := fun c o h => b c o (a c o h)
theorem Same.free {H H' : Hp} (e : Same H H') {l : Addr} (h : H' l = Option.none) : H l = Option.none := by
  cases q : H l with
  | none => rfl
  | some o =>
    rw [e l o q] at h
    cases h
theorem Same.seq {K : PySem.W.Frag} {H H' : Hp} {a : Addr} {xs : List V} (e : Same H H') (h : SqL K H a xs) : SqL K H' a xs := by
  rcases h with (h | ⟨o, h⟩) | h
  · exact .inl (.inl (e _ _ h))
  · exact .inl (.inr ⟨o, e _ _ h⟩)
  · exact .inr h

section
variable {X : Cx}
end
/-! ### a dict's pairs: keys that differ -/
section
variable {κ : Type} [DecidableEq κ]
end
end L2


/-! OVER THE HAND LAYER: list comprehensions, walks over texts, and some of Python's own calls, by their readings. -/
namespace L2
open PySem PySem.Spec PyProof.Rows

/-! ### the closure of a comprehension -/
def freeCl (cells : List (Str × Addr)) : List (Str × NameKind) → List (Str × Addr) → List (Str × Addr)
  | [], cs => cs
  | (n, k) :: r, cs => freeCl cells r (if (k == NameKind.free) = true then (match cells.lookup n with | some c => (n, c) :: cs | none => cs) else cs)

theorem closureFor_cells {scope : Scope} {env : Env} (h : ∀ x ∈ scope.names, x.2 = .free → ∃ c, env.cells.lookup x.1 = some c) : closureFor scope env = pure (freeCl env.cells scope.names []) := by
  unfold closureFor
  have go : ∀ (names : List (Str × NameKind)) (cs : List (Str × Addr)), (∀ x ∈ names, x.2 = .free → ∃ c, env.cells.lookup x.1 = some c) →
      (forIn names cs (fun (x : Str × NameKind) (r : List (Str × Addr)) => if (x.2 == NameKind.free) = true then (do let a ← cellOf env x.1; pure (ForInStep.yield ((x.1, a) :: r))) else pure (ForInStep.yield r)) : Sem (List (Str × Addr))) = pure (freeCl env.cells names cs) := by
    intro names
    induction names with
    | nil => intro cs _; rfl
    | cons x r ih =>
      intro cs hc
      obtain ⟨n, k⟩ := x
      have hr : ∀ y ∈ r, y.2 = .free → ∃ c, env.cells.lookup y.1 = some c := fun y hy => hc y (List.mem_cons_of_mem _ hy)
      rw [List.forIn_cons]
      cases e : (k == NameKind.free) with
      | true =>
        obtain ⟨c, hl⟩ := hc (n, k) List.mem_cons_self (by simpa using e)
        have hl' : env.cells.lookup n = some c := hl
        have ec : cellOf env n = pure c := by unfold cellOf; rw [hl']
        show (_ >>= _) = pure (freeCl env.cells r (if (k == NameKind.free) = true then _ else _))
        rw [e, hl']
        simp only [if_true, ec, pure_bind]
        exact ih _ hr
      | false =>
        show (_ >>= _) = pure (freeCl env.cells r (if (k == NameKind.free) = true then _ else _))
        rw [e]
        simp only [Bool.false_eq_true, if_false, pure_bind]
        exact ih _ hr
  exact (congrArg (· >>= fun r => pure r) (go scope.names [] h)).trans (pure_bind _ _)

theorem lookup_cons_eq {α : Type} {y n : Str} {c : α} {r : List (Str × α)} (h : y = n) : ((n, c) :: r).lookup y = some c := by
  subst h; simp
theorem lookup_cons_ne {α : Type} {y n : Str} {c : α} {r : List (Str × α)} (h : ¬ y = n) : ((n, c) :: r).lookup y = r.lookup y := by
  rw [List.lookup_cons, beq_eq_false_iff_ne.mpr h]

theorem freeCl_step {cells : List (Str × Addr)} {n : Str} {k : NameKind} {cs : List (Str × Addr)} (hs : ∀ y d, cs.lookup y = some d → cells.lookup y = some d) :
    ∀ y d, (if (k == NameKind.free) = true then (match cells.lookup n with | some c => (n, c) :: cs | none => cs) else cs).lookup y = some d → cells.lookup y = some d := by
  intro y d h
  split at h
  · split at h
    · rename_i c hc
      by_cases hy : y = n
      · rw [lookup_cons_eq hy] at h
        rw [hy, hc]; exact h
      · rw [lookup_cons_ne hy] at h
        exact hs y d h
    · exact hs y d h
  · exact hs y d h
theorem freeCl_sub (cells : List (Str × Addr)) : ∀ (names : List (Str × NameKind)) (cs : List (Str × Addr)), (∀ y d, cs.lookup y = some d → cells.lookup y = some d) →
    ∀ y d, (freeCl cells names cs).lookup y = some d → cells.lookup y = some d
  | [], _, hs, y, d, h => hs y d h
  | (n, k) :: r, cs, hs, y, d, h => freeCl_sub cells r _ (freeCl_step hs) y d h
theorem freeCl_has (cells : List (Str × Addr)) {x : Str} {c : Addr} (hc : cells.lookup x = some c) : ∀ (names : List (Str × NameKind)) (cs : List (Str × Addr)), (∀ y d, cs.lookup y = some d → cells.lookup y = some d) →
    ((x, NameKind.free) ∈ names ∨ cs.lookup x = some c) → (freeCl cells names cs).lookup x = some c
  | [], _, _, h => by
    rcases h with h | h
    · cases h
    · exact h
  | (n, k) :: r, cs, hs, h => by
    refine freeCl_has cells hc r _ (freeCl_step hs) ?_
    by_cases hx : (x, NameKind.free) = (n, k)
    · cases hx
      right
      rw [if_pos (by rfl), hc]
      exact lookup_cons_eq rfl
    · rcases h with h | h
      · rcases List.mem_cons.mp h with h | h
        · exact absurd h hx
        · exact .inl h
      · right
        split
        · split
          · rename_i c' hc'
            by_cases hn : x = n
            · rw [lookup_cons_eq hn]
              rw [hn, hc'] at hc
              exact hc
            · rw [lookup_cons_ne hn]; exact h
          · exact h
        · exact h

theorem lookup_relabel (env : Env) (x : Str) : ∀ names : List (Str × NameKind),
    (names.map fun (n, k) => if (k == NameKind.free && env.scope.kind == .function && env.kindOf n == some .cell) then (n, NameKind.cell) else (n, k)).lookup x =
      (names.lookup x).map fun k => if (k == NameKind.free && env.scope.kind == .function && env.kindOf x == some .cell) then NameKind.cell else k
  | [] => rfl
  | (n, k) :: r => by
    have ih := lookup_relabel env x r
    rw [List.map_cons]
    by_cases hx : x = n
    · subst hx
      rw [lookup_cons_eq rfl]
      show List.lookup x ((if (k == NameKind.free && env.scope.kind == .function && env.kindOf x == some .cell) = true then (x, NameKind.cell) else (x, k)) :: _) = some (if (k == NameKind.free && env.scope.kind == .function && env.kindOf x == some .cell) = true then NameKind.cell else k)
      by_cases hc : (k == NameKind.free && env.scope.kind == .function && env.kindOf x == some .cell) = true
      · rw [if_pos hc, if_pos hc]; exact lookup_cons_eq rfl
      · rw [if_neg hc, if_neg hc]; exact lookup_cons_eq rfl
    · rw [lookup_cons_ne hx, ← ih]
      show List.lookup x ((if (k == NameKind.free && env.scope.kind == .function && env.kindOf n == some .cell) = true then (n, NameKind.cell) else (n, k)) :: _) = _
      by_cases hc : (k == NameKind.free && env.scope.kind == .function && env.kindOf n == some .cell) = true
      · rw [if_pos hc]; exact lookup_cons_ne hx
      · rw [if_neg hc]; exact lookup_cons_ne hx
theorem relabel_free {scope : Scope} {env : Env} {x : Str} (h : scope.names.lookup x = some .free) : (relabel scope env).names.lookup x = some .cell ∨ (relabel scope env).names.lookup x = some .free := by
  have e := lookup_relabel env x scope.names
  rw [h] at e
  have e' : (relabel scope env).names.lookup x = some (if (NameKind.free == NameKind.free && env.scope.kind == .function && env.kindOf x == some .cell) = true then NameKind.cell else NameKind.free) := e
  rw [e']
  split
  · exact .inl rfl
  · exact .inr rfl
theorem free_relabel {scope : Scope} {env : Env} {x : Str} (nc : ∀ y ∈ scope.names, y.2 ≠ .cell) (h : (relabel scope env).names.lookup x = some .cell ∨ (relabel scope env).names.lookup x = some .free) : (x, NameKind.free) ∈ scope.names := by
  have e := lookup_relabel env x scope.names
  have e' : (relabel scope env).names.lookup x = _ := e
  cases q : scope.names.lookup x with
  | none =>
    rw [q] at e'
    rw [e'] at h
    rcases h with h | h <;> cases h
  | some k =>
    rw [q] at e'
    have m := PySem.mem_of_lookup q
    cases k with
    | free => exact m
    | cell => exact absurd rfl (nc _ m)
    | _ =>
      rw [e'] at h
      rcases h with h | h <;> cases h

/-! ### the context of a comprehension's block -/
structure CompScope (scope osc : Scope) (cap : List Str) : Prop where
  kind : scope.kind = .function
  nocell : ∀ y ∈ scope.names, y.2 ≠ .cell
  loc : ∀ y ∈ scope.names, y.2 = .local → scope.names.lookup y.1 = some .local
  free : ∀ y ∈ scope.names, y.2 = .free → osc.names.lookup y.1 = some .cell ∨ osc.names.lookup y.1 = some .free
  cap : ∀ x ∈ cap, scope.names.lookup x = some .free

def cxC (X : Cx) (N : List Str) (scope : Scope) (C : Addr) (s : Shared) (H : Hp) (ex : List Addr) : Cx where
  prog := X.prog
  w := X.w
  K := X.K
  mg := X.mg
  base := X.base
  A := X.A
  N := N
  s₀ := s
  H₀ := H
  env := compEnvC scope (freeCl X.env.cells scope.names []) C X.env
  outer := X.stack
  stack := X.stack
  ex := ex
  fn := fun _ => false
  calm := X.calm
  pn := []
  xe := fun _ _ => False

/-- the block's names at its start: its own, and those of the outer names at ix that it captures -/
def st0 (own : List Str) (ix : List Nat) (σ : St) : St := own.map (fun _ => none) ++ ix.map fun i => (σ[i]?).join

theorem closure_of {X : Cx} {pins : List (Addr × Obj)} {σ : St} {H : Hp} {s : Shared} {scope : Scope} {cap : List Str} (I : Inv X pins σ H s) (S : CompScope scope X.env.scope cap) :
    closureFor scope X.env = pure (freeCl X.env.cells scope.names []) :=
  closureFor_cells fun x hx hf => I.ok.has x.1 (S.free x hx hf)

theorem inv_comp {X : Cx} {pins : List (Addr × Obj)} {σ : St} {H : Hp} {s : Shared} {scope : Scope} {own cap : List Str} {ix : List Nat} {fp : List Addr} {h₁ : Heap} {m : Str → Option Value} {tk : Nat}
    (I : Inv X pins σ H s) (S : CompScope scope X.env.scope cap) (hix : ix.map (fun i => X.N[i]?) = cap.map some) (hf : ∀ b ∈ fp, FpOk X pins H b) (hlt : ∀ b ∈ fp, b < s.heap.objs.size)
    (hn : h₁.Ns s.heap.objs.size m) (hk : ∀ b o, s.heap.get? b = some o → h₁.get? b = some o) :
    Inv (cxC X (own ++ cap) scope s.heap.objs.size s H fp) [] (st0 own ix σ) H { s with heap := h₁, toks := tk } := by
  have sub : ∀ y d, (freeCl X.env.cells scope.names []).lookup y = some d → X.env.cells.lookup y = some d := freeCl_sub _ _ _ (fun y d h => by cases h)
  have has : ∀ y c, (y, NameKind.free) ∈ scope.names → X.env.cells.lookup y = some c → (freeCl X.env.cells scope.names []).lookup y = some c := fun y c hy hc => freeCl_has _ hc _ _ (fun y d h => by cases h) (.inl hy)
  have hlen : ix.length = cap.length := by
    have := congrArg List.length hix
    simpa using this
  refine ⟨⟨I.mod, S.kind, I.ok.glob, I.ok.blt, Nat.le_refl _, fun x y c e1 e2 => I.ok.inj x y c (sub _ _ e1) (sub _ _ e2), fun x hx => ?_, fun x c z => (by cases z), I.ok.hd, I.ok.frames, .inl rfl, fun b hb => ⟨Nat.ne_of_lt (hlt b hb), fun x c e => (hf b hb).2.2.2.2.1 x c (sub _ _ e)⟩, I.bs,
      Nat.le_trans I.ok.bsz I.sz, fun b o e hb => ?_, fun b hb z => ?_, I.stack, I.stkFree⟩, rfl, I.bare, Un.kept hk, ⟨m, hn, fun i x v e1 e2 e3 => ?_⟩, fun x c e => ?_, I.hok.fresh (Nat.le_refl _), fun x c e => I.freeC x c (sub _ _ e), fun p hp => absurd (show p ∈ ([] : List (Addr × Obj)) from hp) (by simp), I.hok.kept hk, ?_⟩
  · have m' := free_relabel (env := X.env) S.nocell hx
    obtain ⟨c, hc⟩ := I.ok.has x (S.free _ m' rfl)
    exact ⟨c, has x c m' hc⟩
  · obtain ⟨f0, f1, f2, f3, f4, f5⟩ := hf b hb
    rcases f3 with z | z
    · exact I.ok.noex b o e z
    · exact absurd (Nat.lt_of_lt_of_le (Nat.lt_of_lt_of_le (Heap.lt_size e) I.ok.bsz) z) (Nat.lt_irrefl _)
  · obtain ⟨f0, f1, f2, f3, f4, f5⟩ := hf b hb
    rcases List.mem_cons.mp (I.stkSub b z) with z | z
    · exact f1 z
    · exact f2 z
  · have e1 : (own ++ cap)[i]? = some x := e1
    unfold st0 at e2
    by_cases hi : i < own.length
    · rw [List.getElem?_append_left (by simpa using hi), List.getElem?_map] at e2
      cases q : own[i]? with
      | none => rw [q] at e2; cases e2
      | some y => rw [q] at e2; cases e2
    · rw [List.getElem?_append_right (by simpa using hi)] at e1
      rw [List.getElem?_append_right (by simpa using hi), List.length_map, List.getElem?_map] at e2
      generalize i - own.length = j at e1 e2
      cases q : ix[j]? with
      | none => rw [q] at e2; cases e2
      | some k =>
        rw [q] at e2
        have e2 : (σ[k]?).join = some v := Option.some.inj e2
        have eσ : σ[k]? = some (some v) := by
          cases q2 : σ[k]? with
          | none => rw [q2] at e2; cases e2
          | some o => rw [q2] at e2; exact congrArg some e2
        have eN : X.N[k]? = some x := by
          have := congrArg (fun l => l[j]?) hix
          simp only [List.getElem?_map, q, e1, Option.map_some] at this
          exact Option.some.inj this
        have hfr := S.cap x (List.mem_of_getElem? e1)
        have hmem := PySem.mem_of_lookup hfr
        have hout := S.free _ hmem rfl
        obtain ⟨m0, hn0, hl⟩ := I.loc
        obtain ⟨u, r, l⟩ := hl k x v eN eσ (.inr hout)
        rcases l with ⟨kd, _⟩ | ⟨kd, c, e, z⟩
        · have kd : X.env.scope.names.lookup x = some .local := kd
          rcases hout with ho | ho <;> (have ho : X.env.scope.names.lookup x = _ := ho; rw [kd] at ho; cases ho)
        · exact ⟨u, r, .inr ⟨relabel_free hfr, c, has x c hmem e, z.keeps hk⟩⟩
  · obtain ⟨v, q⟩ := I.cell x c (sub _ _ e)
    exact ⟨v, q.keeps hk⟩
  · show (st0 own ix σ).length = (own ++ cap).length
    unfold st0
    simp [hlen]

/-- behind the block: its namespace at C forgotten -/
theorem inv_back {X : Cx} {pins : List (Addr × Obj)} {σ σ' : St} {H H' : Hp} {s s' : Shared} {scope : Scope} {N : List Str} {fp : List Addr} {h' : Heap}
    (I : Inv X pins σ H s) (hf : ∀ b ∈ fp, FpOk X pins H b) (J : Inv (cxC X N scope s.heap.objs.size s H fp) [] σ' H' s') (hs : Heap.SameBut s.heap.objs.size s'.heap h') : Inv X pins σ H' { s' with heap := h' } := by
  have ne : ∀ b o, s.heap.get? b = some o → b ≠ s.heap.objs.size := fun b o e => Nat.ne_of_lt (Heap.lt_size e)
  have B : Un (frs X.stack) fp H H' s.heap s'.heap := J.base
  refine I.call' (s' := { s' with heap := h' }) (ch := fp) J.os ⟨fun b o e n hb hx => ?_, fun b o e n hb hx => ?_, B.free, fun b o e hx => ?_, B.tups, B.frzs, B.tbls⟩ (fun b ob e => ?_) J.bare fun b hb => ?_
  · exact (hs.2 b (ne b o e)).trans (B.keep b o e n hb hx)
  · obtain ⟨sl, e1⟩ := B.slot b o e n hb hx
    exact ⟨sl, (hs.2 b (ne b o e)).trans e1⟩
  · obtain ⟨o', e1⟩ := B.there b o e hx
    exact ⟨o', (hs.2 b (ne b o e)).trans e1⟩
  · have fr : H' s.heap.objs.size = none := J.free
    refine (J.hok b ob e).stay (fun c w' hc q => (hs.2 c ?_).trans q) (fun _ q => q) fun _ _ q => q
    rintro rfl
    rcases hc with hc | hc
    · rw [← hc, fr] at e; cases e
    · rw [fr] at hc; cases hc
  · obtain ⟨f0, f1, f2, f3, f4, f5⟩ := hf b hb
    exact ⟨f3, f1, f4, f5⟩

/-! ### the tests of a comprehension -/
def PIf (X : Cx) (ifs : List Expr) (t : TT) : Prop :=
  ∀ (pins : List (Addr × Obj)) (s : Shared) (σ : St) (H : Hp) (Q : Bool → Hp → Prop), Inv X pins σ H s → t σ H Q →
    wpAny (model X.prog X.w) X.A (forIn ifs true fun c r => if r = true then do let ok ← isTrue c X.env (eval c X.env); pure (ForInStep.yield ok) else pure (ForInStep.yield r)) (TP X pins σ Q) X.xe s
def tYes : TT := fun _ H Q => Q true H
theorem pif_nil {X : Cx} : PIf X [] tYes := fun _ s σ H Q I h => wpAny_tests_nil ⟨H, I, h⟩
theorem pif_one {X : Cx} {c : Expr} {t : TT} (h : PT X c t) : PIf X [c] t := fun pins s σ H Q I hw => wpAny_tests_one (h pins s σ H Q I hw)

theorem codeAny_compLoop_all {prog : Program} {w : World} {A : Around} {R : Result → Shared → Prop} {s : Shared} {elt target iter : Expr} {ifs : List Expr} {scope : Scope} {pos : Pos} {it acc : Value} {env : Env} (I : Nat → Shared → Prop)
    (turn : ∀ n s, I n s → wpAny (model prog w) A (pyNext it) (fun r s₁ => match r with
      | none => R (.ok .next) s₁
      | some v => wpAny (model prog w) A (letOwnedTupleGo target it v) (fun _ s₁' => wpAny (model prog w) A (assign target env v) (fun _ s₂ =>
          wpAny (model prog w) A (forIn ifs true fun c r => if r = true then do let ok ← isTrue c env (eval c env); pure (ForInStep.yield ok) else pure (ForInStep.yield r)) (fun ok s₃ =>
            if ok = true then wpAny (model prog w) A (eval elt env) (fun x s₄ =>
              wpAny (model prog w) A (call (.builtin "list.append") [acc, x]) (fun _ s₅ => ∃ m, m < n ∧ I m s₅) (notedBy (model prog w) A env fun e s' => R (.error e) s') s₄) (notedBy (model prog w) A env fun e s' => R (.error e) s') s₃
            else ∃ m, m < n ∧ I m s₃) (notedBy (model prog w) A env fun e s' => R (.error e) s') s₂) (notedBy (model prog w) A env fun e s' => R (.error e) s') s₁') (notedBy (model prog w) A env fun e s' => R (.error e) s') s₁) (notedBy (model prog w) A env fun e s' => R (.error e) s') s)
    (n : Nat) (h : I n s) : codeAny (model prog w) A (.compLoop (.ListComp elt [⟨target, iter, ifs, 0⟩] scope pos) 0 it acc env) R s := by
  refine codeAny_loop rfl I (fun n s hI => ?_) n h
  show wpAny _ A ((compTurn (.ListComp elt [⟨target, iter, ifs, 0⟩] scope pos) 0 it acc env).onRaise (fun x => do noteFrame x env; theTreesLotGoes x)) _ _ s
  refine wpAny_noted ?_
  rw [compTurn_list]
  refine wpAny_bind (wpAny_standAt (wpAny_bind (wpAny_mono (turn n s hI) (fun r s₁ h₁ => ?_) fun _ _ h' => h')))
  cases r with
  | none => exact wpAny_pure h₁
  | some v =>
    refine wpAny_bind (wpAny_mono h₁ (fun _ s₁' h₁' => ?_) fun _ _ h' => h')
    refine wpAny_bind (wpAny_mono h₁' (fun _ s₂ h₂ => wpAny_bind (wpAny_mono h₂ (fun ok s₃ h₃ => ?_) fun _ _ h' => h')) fun _ _ h' => h')
    cases ok with
    | false => exact wpAny_pure ⟨rfl, h₃⟩
    | true =>
      exact wpAny_bind (wpAny_bind (wpAny_mono h₃ (fun x s₄ h₄ => wpAny_bind (wpAny_mono h₄ (fun _ s₅ h₅ => wpAny_pure (wpAny_pure ⟨rfl, h₅⟩)) fun _ _ h' => h')) fun _ _ h' => h'))

/-! ### [e for x in it if c] -/
/-- what the walk over J from the heap H1 wants, the list standing at D -/
def CompW (own : List Str) (ix : List Nat) (J : It) (g : TG) (tc : TT) (te : TE) (σ : St) (H1 : Hp) (D : Addr) (Q : VK) : Prop :=
  ∃ W : Nat → Nat → St → List V → Hp → Prop, (∃ m, W 0 m (st0 own ix σ) [] (upd H1 D (.lst []))) ∧ ∀ i m σ' ys H', W i m σ' ys H' → H' D = some (.lst ys) ∧
    ((J.stop i H' ∧ Q (.ref D) H') ∨ (J.go i H' ∧ ys.length < sizeLine ∧ ∀ x H2, J.yld i H' x H2 → g x σ' H2 fun σ3 H3 => tc σ3 H3 fun b H4 =>
      if b = true then te σ3 H4 fun y H5 => H5 D = some (.lst ys) ∧ ∃ m', m' < m ∧ W (i + 1) m' σ3 (ys ++ [y]) (upd H5 D (.lst (ys ++ [y]))) else H4 D = some (.lst ys) ∧ ∃ m', m' < m ∧ W (i + 1) m' σ3 ys H4))
def tComp (own : List Str) (ix : List Nat) (wi : TI) (g : TG) (tc : TT) (te : TE) : TE := fun σ H Q => wi σ H fun J H1 => ∀ D, H1 D = none → CompW own ix J g tc te σ H1 D Q

section
variable {X : Cx} {tg iter elt : Expr} {ifs : List Expr} {scope : Scope} {pos : Pos} {own cap : List Str} {ix : List Nat} {wi : TI} {g : TG} {tc : TT} {te : TE}

/-- the block runs: what holds behind it is RR -/
theorem comp_run {pins : List (Addr × Obj)} {σ : St} {s : Shared} {E : Value → Shared → Prop} {RR : Value → Addr → Result → Shared → Prop} {Q : VK}
    (hc : X.calm = true) (S : CompScope scope X.env.scope cap) (hix : ix.map (fun i => X.N[i]?) = cap.map some)
    (hg : ∀ C s H ex, PG (cxC X (own ++ cap) scope C s H ex) tg g) (ht : ∀ C s H ex, PIf (cxC X (own ++ cap) scope C s H ex) ifs tc) (he : ∀ C s H ex, PE (cxC X (own ++ cap) scope C s H ex) elt te)
    {itv : Value} (h : PIE X pins σ tg (fun J H1 => ∀ D, H1 D = none → CompW own ix J g tc te σ H1 D Q) itv s)
    (hR : ∀ (D C : Addr) (s' : Shared) (H' : Hp) (m : Str → Option Value), s'.heap.Ns C m → FpOk X pins H' C → (∀ h', Heap.SameBut C s'.heap h' → Inv X pins σ H' { s' with heap := h' }) → Q (.ref D) H' → RR (.ref D) C (.ok .next) s') :
    wpAny (model X.prog X.w) X.A (newList []) (fun acc s₃ => wpAny (model X.prog X.w) X.A (newFunctionEnv scope X.env.globals (freeCl X.env.cells scope.names []) [] X.env.qual none .none (some X.env)) (fun cenv s₄ =>
      codeAny (model X.prog X.w) X.A (.compStart (.ListComp elt [⟨tg, iter, ifs, 0⟩] scope pos) 0 itv acc { cenv with scope := relabel scope X.env }) (RR acc cenv.locals) s₄) E s₃) E s := by
  obtain ⟨it, fp, tn, J, H2, rfl, I2, T, st2, f2, q2⟩ := h
  refine wpAny_newObj_type (wpAny_newFunctionEnv S.nocell (by intro y hy; simp at hy) (fun h₁ hns₁ hsb₁ => ?_) S.kind)
  dsimp only at hns₁ hsb₁ ⊢
  have hD : H2 s.heap.objs.size = none := I2.hok.fresh (Nat.le_refl _)
  obtain ⟨W, ⟨m0, w0⟩, turn⟩ := q2 s.heap.objs.size hD
  have I3 : Inv X pins σ (upd H2 s.heap.objs.size (.lst [])) { s with heap := s.heap.push { cls := .type "list", data := .seq ([] : List Value).toArray } } := I2.lnew (t' := s.toks) (its := []) .nil (Nat.zero_le _)
  have ltD : ∀ b ∈ fp, b < s.heap.objs.size := fun b hb => by
    obtain ⟨o, e, _⟩ := T.obj 0 _ st2 b hb
    exact Heap.lt_size e
  have f3 : ∀ b ∈ fp, FpOk X pins (upd H2 s.heap.objs.size (.lst [])) b := fun b hb => ⟨by rw [upd_ne (Nat.ne_of_lt (ltD b hb))]; exact (f2 b hb).1, (f2 b hb).2⟩
  generalize hH : s.heap.push { cls := .type "list", data := .seq ([] : List Value).toArray } = H3 at I3 hns₁ hsb₁ ⊢
  have sz : H3.objs.size = s.heap.objs.size + 1 := by rw [← hH, Heap.size_push]
  have up : ∀ b o, H3.get? b = some o → h₁.get? b = some o := fun b o e => hsb₁.extBut b o (Nat.ne_of_lt (Heap.lt_size e)) (Heap.get?_push_of_some _ e)
  have old : ∀ b o, s.heap.get? b = some o → h₁.get? b = some o := fun b o e => up b o (by rw [← hH]; exact Heap.get?_push_of_some _ e)
  have lt3 : ∀ b ∈ fp, b < ({ s with heap := H3 } : Shared).heap.objs.size := fun b hb => by show b < H3.objs.size; rw [sz]; exact Nat.lt_succ_of_lt (ltD b hb)
  have st4 : tn 0 h₁ := T.keep _ _ _ st2 fun b _ o e => old b o e
  have stat : ∀ {H' : Hp}, (∀ b ∈ fp, H' b = none) → ∀ b ∈ fp, FpOk (cxC X (own ++ cap) scope H3.objs.size { s with heap := H3 } (upd H2 s.heap.objs.size (.lst [])) fp) [] H' b := fun hn b hb =>
    ⟨hn b hb, Nat.ne_of_lt (lt3 b hb), fun z => (List.mem_cons.mp (I3.stkSub b z)).elim (f2 b hb).2.1 (f2 b hb).2.2.1, .inl hb, fun x c e => (f2 b hb).2.2.2.2.1 x c (freeCl_sub _ _ _ (fun y d h => by cases h) _ _ e), fun p hp => absurd (show p ∈ ([] : List (Addr × Obj)) from hp) (by simp)⟩
  have loop : ∀ s₄ : Shared, s₄ = { s with heap := h₁, toks := s.toks + ([] : List (Str × Value)).length } →
      codeAny (model X.prog X.w) X.A (.compLoop (.ListComp elt [⟨tg, iter, ifs, 0⟩] scope pos) 0 (.ref it) (.ref s.heap.objs.size) (compEnvC scope (freeCl X.env.cells scope.names []) H3.objs.size X.env))
        (RR (.ref s.heap.objs.size) H3.objs.size) s₄ := by
    rintro s₄ rfl
    have I4 := inv_comp (own := own) (fp := fp) (tk := s.toks + ([] : List (Str × Value)).length) I3 S hix f3 lt3 hns₁ up
    refine codeAny_compLoop_all (fun n s' => ∃ i σ' ys H', Inv (cxC X (own ++ cap) scope H3.objs.size { s with heap := H3 } (upd H2 s.heap.objs.size (.lst [])) fp) [] σ' H' s' ∧ tn i s'.heap ∧ (∀ b ∈ fp, H' b = none) ∧ W i n σ' ys H') ?_ m0
      ⟨0, _, [], _, I4, st4, fun b hb => (f3 b hb).1, w0⟩
    rintro n s5 ⟨i, σ5, ys, H5, I5, st5, fr5, w5⟩
    obtain ⟨hD5, turn5⟩ := turn i n σ5 ys H5 w5
    rcases turn5 with ⟨stop, q⟩ | ⟨go, hz, step⟩
    · refine thn (T.done (cxC X (own ++ cap) scope H3.objs.size { s with heap := H3 } (upd H2 s.heap.objs.size (.lst [])) fp) rfl rfl rfl hc i [] s5 σ5 H5 _ I5 (stat fr5) st5 stop) fun r s6 hq0 => ?_
      obtain ⟨hr, I6⟩ := hq0
      subst hr
      obtain ⟨m6, hn6, _⟩ := I6.loc
      exact hR _ _ s6 H5 m6 hn6 (I3.fpOk (Nat.le_refl _) I6.free) (fun h' hs => inv_back I3 f3 I6 hs) q
    · refine thn (T.item (cxC X (own ++ cap) scope H3.objs.size { s with heap := H3 } (upd H2 s.heap.objs.size (.lst [])) fp) rfl rfl rfl hc i [] s5 σ5 H5 _ I5 (stat fr5) st5 go) fun r s6 hq0 => ?_
      obtain ⟨u, hr, h6⟩ := hq0
      subst hr
      refine thn h6 fun _ s7 hq0 => ?_
      obtain ⟨x, H7, I7, r7, y7, st7, fr7⟩ := hq0
      have I7' := I7.pinned (stat fr7) (T.obj _ _ st7)
      refine wpAny_mono (hg _ _ _ _ _ s7 σ5 H7 x u _ I7' r7 (step x H7 y7)) (fun _ s8 hq0 => ?_) fun _ _ z => False.elim z
      obtain ⟨σ8, H8, I8, q8⟩ := hq0
      refine wpAny_mono (ht _ _ _ _ _ s8 σ8 H8 _ I8 q8) (fun ok s9 hq0 => ?_) fun _ _ z => False.elim z
      obtain ⟨H9, I9, q9⟩ := hq0
      have again : ∀ {s' : Shared} {σ' : St} {H' : Hp} {ys' : List V} {m' : Nat}, Inv (cxC X (own ++ cap) scope H3.objs.size { s with heap := H3 } (upd H2 s.heap.objs.size (.lst [])) fp) ([] ++ pinsAt fp s7.heap) σ' H' s' → m' < n → W (i + 1) m' σ' ys' H' →
          ∃ m, m < n ∧ ∃ i σ' ys H', Inv (cxC X (own ++ cap) scope H3.objs.size { s with heap := H3 } (upd H2 s.heap.objs.size (.lst [])) fp) [] σ' H' s' ∧ tn i s'.heap ∧ (∀ b ∈ fp, H' b = none) ∧ W i m σ' ys H' := fun {s' σ' H' ys' m'} I' hm w' => by
        refine ⟨m', hm, i + 1, σ', ys', H', I'.unpinned, T.keep _ _ _ st7 fun b hb o e => (I'.pin (b, o) (List.mem_append_right _ (List.mem_append_right _ (mem_pinsAt hb e)))).1, fun b hb => ?_, w'⟩
        obtain ⟨o, e, d⟩ := T.obj _ _ st7 b hb
        exact (I'.pin (b, o) (List.mem_append_right _ (List.mem_append_right _ (mem_pinsAt hb e)))).2.1
      cases ok with
      | false =>
        rw [if_neg Bool.false_ne_true] at q9 ⊢
        obtain ⟨_, m', hm, w'⟩ := q9
        exact again I9 hm w'
      | true =>
        rw [if_pos rfl] at q9 ⊢
        refine wpAny_mono (he _ _ _ _ _ s9 σ8 H9 _ I9 q9) (fun v s10 hq0 => ?_) fun _ _ z => False.elim z
        obtain ⟨y, H10, I10, r10, hD10, m', hm, w'⟩ := hq0
        refine wpAny_mono (mt_append (X := cxC X (own ++ cap) scope H3.objs.size { s with heap := H3 } (upd H2 s.heap.objs.size (.lst [])) fp) _ s10 σ8 H10 (.ref s.heap.objs.size) [y] (.ref s.heap.objs.size) [v] (fun _ H' => H' = upd H10 s.heap.objs.size (.lst (ys ++ [y]))) I10 rfl (.cons r10 .nil) ⟨_, ys, y, rfl, rfl, hD10, hz, rfl⟩)
          (fun _ s11 ⟨_, H11, I11, _, e11⟩ => ?_) fun _ _ z => False.elim z
        subst e11
        exact again I11 hm w'
  exact codeAny_compStart_list (loop _ rfl) (T.self _ 0 _ _ _ st4 (loop _ rfl))

theorem pe_comp {osc : Scope} (hc : X.calm = true) (S' : CompScope scope osc cap) (hix : ix.map (fun i => X.N[i]?) = cap.map some) (hi : PI X tg iter wi)
    (hg : ∀ C s H ex, PG (cxC X (own ++ cap) scope C s H ex) tg g) (ht : ∀ C s H ex, PIf (cxC X (own ++ cap) scope C s H ex) ifs tc) (he : ∀ C s H ex, PE (cxC X (own ++ cap) scope C s H ex) elt te)
    (hs : ∀ x, foldedSetIterable iter X.env x = pure x := by intro _; rfl) (ho : X.env.scope = osc := by rfl) : PE X (.ListComp elt [⟨tg, iter, ifs, 0⟩] scope pos) (tComp own ix wi g tc te) := by
  have S : CompScope scope X.env.scope cap := ho ▸ S'
  intro pins s σ H Q I h
  rw [eval_ListComp]
  refine wpAny_comprehension_free (use := none) rfl hs (closure_of I S) S.kind S.loc (thn (hi pins s σ H _ I h) fun xv s₁ h₁ => thn h₁ fun itv s₂ h₂ => ?_)
  refine comp_run (RR := fun acc C => compPost (model X.prog X.w) X.A X.xe none (EP X pins σ Q) acc C) hc S hix hg ht he h₂ fun D C s' H' m hn _ hI q => ?_
  exact ⟨m, hn, fun h' hs' => ⟨.ref D, H', hI h' hs', rfl, q⟩⟩
/-- name = [e for ..], on one line: the name is stored ahead of the block's end -/
theorem ps_setC {osc : Scope} {i : Nat} {y : Str} {py spos : Pos} (hc : X.calm = true) (hN : X.N.Nodup) (hi' : X.N[i]? = some y) (hy : X.env.scope.names.lookup y = some .local)
    (hsw : swapsWith (.ListComp elt [⟨tg, iter, ifs, 0⟩] scope pos) (some (.Name y py)) spos.line X.env = pure true) (S' : CompScope scope osc cap) (hix : ix.map (fun i => X.N[i]?) = cap.map some) (hi : PI X tg iter wi)
    (hg : ∀ C s H ex, PG (cxC X (own ++ cap) scope C s H ex) tg g) (ht : ∀ C s H ex, PIf (cxC X (own ++ cap) scope C s H ex) ifs tc) (he : ∀ C s H ex, PE (cxC X (own ++ cap) scope C s H ex) elt te)
    (hs : ∀ x, foldedSetIterable iter X.env x = pure x := by intro _; rfl) (ho : X.env.scope = osc := by rfl) : PS X (.Assign [.Name y py] (.ListComp elt [⟨tg, iter, ifs, 0⟩] scope pos) spos) (tAsg (tComp own ix wi g tc te) (gName i)) := by
  have S : CompScope scope X.env.scope cap := ho ▸ S'
  intro pins s σ H D I h
  rw [exec_Assign_Name_used _ _ _ _ hsw]
  refine wpAny_bind (wpAny_standAt (wpAny_bind ?_))
  show wpAny _ X.A (do let _ ← comprehension (.ListComp elt [⟨tg, iter, ifs, 0⟩] scope pos) scope X.env _ (newList []) false (eval iter X.env) (some (assign (.Name y py) X.env))) _ _ s
  refine wpAny_bind (wpAny_mono (wpAny_comprehension_free (use := some (assign (.Name y py) X.env)) (Q := fun _ s' => SP X pins D .next s') rfl hs (closure_of I S) S.kind S.loc
    (thn (hi pins s σ H _ I h) fun xv s₁ h₁ => thn h₁ fun itv s₂ h₂ => ?_)) (fun _ s' hq => wpAny_pure (wpAny_pure hq)) fun _ _ e => e)
  refine comp_run (RR := fun acc C => compPost (model X.prog X.w) X.A X.xe (some (assign (.Name y py) X.env)) (fun _ s' => SP X pins D .next s') acc C) hc S hix hg ht he h₂ fun D' C s' H' m hn hF hI q => ?_
  show wpAny _ X.A (assign (.Name y py) X.env (.ref D')) _ _ _
  have I' : Inv X pins σ H' s' := hI s'.heap (Heap.SameBut.refl ..)
  refine wpAny_assign_Name (store_ok2 I' hN hi' (.inl hy) (v := .ref D') rfl (fun s'' I'' hq0 => ?_) (.inr hy))
  obtain ⟨a, hs'', ha⟩ := hq0
  obtain ⟨f0, f1, f2, f3, f4, f5⟩ := hF
  have hCa : C ≠ a := by
    rcases ha with ha | ha
    · rw [ha]; exact f1
    · exact fun z => f4 _ _ ha z.symm
  exact ⟨m, hn.sameBut hs'' hCa, fun h' hs' => ⟨_, H', I''.turned (t' := s''.toks) (fun b o hb e => (hs'.2 b hb).trans e) f0 f1 f3 f4 f5, q⟩⟩
end

/-! ### walks over values that stay as they are -/
/-- J gives xs one by one and leaves the heap, where P holds -/
structure Fix (J : It) (xs : List V) (P : Hp → Prop) : Prop where
  go : ∀ i H, P H → i < xs.length → J.go i H
  yld : ∀ i H x H', P H → J.yld i H x H' → H' = H ∧ (i < xs.length → xs[i]? = some x)
  stop : ∀ i H, P H → xs.length ≤ i → J.stop i H
theorem fix_list {K : PySem.W.Frag} {a : Addr} {xs : List V} : Fix (Itl K a) xs (fun H => SqL K H a xs) :=
  ⟨fun i H h hi => ⟨xs, xs[i], h, by simp [hi]⟩, fun i H x H' h y => ⟨y.1, fun _ => y.2 xs h⟩, fun i H h hi => ⟨xs, h, hi⟩⟩
theorem fix_rng {lo : Int} {n : Nat} : Fix (Itr lo n) ((List.range n).map fun i => V.int (lo + (i : Nat))) (fun _ => True) :=
  ⟨fun i H h hi => by show i < n; simpa using hi, fun i H x H' h y => ⟨y.1, fun hi => by
    have hi' : i < n := by simpa using hi
    rw [List.getElem?_map, List.getElem?_range hi', y.2]; rfl⟩, fun i H h hi => by show n ≤ i; simpa using hi⟩


/-- a comprehension with one name over such values whose test and element change nothing -/
theorem comp_pure {J : It} {xs : List V} {P : Hp → Prop} {own : List Str} {ix : List Nat} {tc : TT} {te : TE} {σ : St} {H1 : Hp} {D : Addr} {Q : VK} (F : Fix J xs P) (p : V → Bool) (f : V → V)
    (hP : ∀ ys, P (upd H1 D (.lst ys))) (hz : xs.length ≤ sizeLine)
    (ht : ∀ x ∈ xs, ∀ ys (Q' : Bool → Hp → Prop), Q' (p x) (upd H1 D (.lst ys)) → tc ((st0 own ix σ).set 0 (some x)) (upd H1 D (.lst ys)) Q')
    (he : ∀ x ∈ xs, p x = true → ∀ ys (Q' : VK), Q' (f x) (upd H1 D (.lst ys)) → te ((st0 own ix σ).set 0 (some x)) (upd H1 D (.lst ys)) Q')
    (hQ : Q (.ref D) (upd H1 D (.lst ((xs.filter p).map f)))) : CompW own ix J (gName 0) tc te σ H1 D Q := by
  refine ⟨fun i m σ' ys H' => m = xs.length - i ∧ i ≤ xs.length ∧ (∀ z, σ'.set 0 z = (st0 own ix σ).set 0 z) ∧ ys = ((xs.take i).filter p).map f ∧ H' = upd H1 D (.lst ys),
    ⟨xs.length, by simp, Nat.zero_le _, fun _ => rfl, by simp, rfl⟩, ?_⟩
  rintro i m σ' ys H' ⟨rfl, hi, hσ, rfl, rfl⟩
  refine ⟨upd_same, ?_⟩
  by_cases hlt : i < xs.length
  · refine .inr ⟨F.go i _ (hP _) hlt, ?_, fun x H2 y => ?_⟩
    · rw [List.length_map]
      have h1 : ((xs.take i).filter p).length ≤ (xs.take i).length := List.length_filter_le _ _
      rw [List.length_take] at h1
      omega
    · obtain ⟨e, y'⟩ := F.yld i _ x H2 (hP _) y
      subst e
      have hx := y' hlt
      have hm : x ∈ xs := List.mem_of_getElem? hx
      have tk := take_succ_filter p xs i x hx
      show tc (σ'.set 0 (some x)) _ _
      rw [hσ]
      refine ht x hm _ _ ?_
      have σσ : ∀ z, ((st0 own ix σ).set 0 (some x)).set 0 z = (st0 own ix σ).set 0 z := fun z => List.set_set ..
      cases hp : p x with
      | true =>
        rw [if_pos rfl]
        refine he x hm hp _ _ ⟨upd_same, xs.length - (i + 1), by omega, rfl, hlt, σσ, ?_, ?_⟩
        · rw [tk, hp]; simp
        · rw [upd_upd]
      | false =>
        rw [if_neg Bool.false_ne_true]
        refine ⟨upd_same, xs.length - (i + 1), by omega, rfl, hlt, σσ, ?_, ?_⟩
        · rw [tk, hp]; simp
        · rfl
  · have e : i = xs.length := by omega
    subst e
    refine .inl ⟨F.stop _ _ (hP _) (Nat.le_refl _), ?_⟩
    rw [List.take_length]
    exact hQ

/-! ### for c in text -/
def sg (c : Nat) : V := .str ⟨#[c]⟩

/-! ### some of Python's own -/
section
variable {X : Cx}
theorem strsAre_of : ∀ {ys : List Str} {us : List Value}, Vals (ys.map V.str) us → StrsAre us ys
  | [], _, r => by cases r; exact .nil
  | y :: ys, _, r => by
    cases r with
    | cons r1 r2 =>
      obtain ⟨t, rfl⟩ := r1
      exact .cons y t (strsAre_of r2)
def rSlS : V → Option Int → Option Int → Hp → VK → Prop := fun x lo hi H Q => ∃ z, x = .str z ∧ z.length ≤ sizeLine ∧ Q (.str (Txt.slice z lo hi)) H
theorem sl_str : SlR X rSlS := by
  intro pins s σ H x v vl vu lo hi sl Q I rx hs pl pu h
  obtain ⟨z, rfl, hz, q⟩ := h
  obtain ⟨t, rfl⟩ := rx
  refine ⟨"str", _, F.slot_str_getitem.lookup, typeIs_str _ _ _, ?_⟩
  have fin : ∀ (t' : Tok) (k : Nat), EP X pins σ Q (.str (Txt.slice z lo hi) t') { s with toks := k } := fun t' k => ⟨.str _, H, I.tok k, ⟨_, rfl⟩, q⟩
  obtain ⟨o, ho, hcl, hd⟩ := hs
  cases pl <;> cases pu
  · exact wpAny_getItem_str_slice (l := none) (u := none) (st := none) ⟨o, ho, hcl, hd⟩ rfl (post_val_or_str ⟨Nat.le_trans (Txt.slice_le z _ _) hz, fin⟩)
  · exact wpAny_getItem_str_slice (l := none) (u := some (_, _)) (st := none) ⟨o, ho, hcl, hd⟩ rfl (post_val_or_str ⟨Nat.le_trans (Txt.slice_le z _ _) hz, fin⟩)
  · exact wpAny_getItem_str_slice (l := some (_, _)) (u := none) (st := none) ⟨o, ho, hcl, hd⟩ rfl (post_val_or_str ⟨Nat.le_trans (Txt.slice_le z _ _) hz, fin⟩)
  · exact wpAny_getItem_str_slice (l := some (_, _)) (u := some (_, _)) (st := none) ⟨o, ho, hcl, hd⟩ rfl (post_val_or_str ⟨Nat.le_trans (Txt.slice_le z _ _) hz, fin⟩)
end
end L2

/-! SHORT WORDS: a def of the text by its name, its promise, a call of it. -/
namespace L2
open PySem PySem.Spec PyProof.Rows
/-! lists of a length that is known: no matcher is laid -/
theorem len1 {Pl : List Value → Prop} (h : ∀ a, Pl [a]) : ∀ us : List Value, us.length = 1 → Pl us
  | [a], _ => h a
theorem len2 {Pl : List Value → Prop} (h : ∀ a b, Pl [a, b]) : ∀ us : List Value, us.length = 2 → Pl us
  | [a, b], _ => h a b
theorem len3 {Pl : List Value → Prop} (h : ∀ a b c, Pl [a, b, c]) : ∀ us : List Value, us.length = 3 → Pl us
  | [a, b, c], _ => h a b c

/-- the def x of the text, as the top has left it -/
def Df (K : PySem.W.Frag) (mg : Str → Option Value) (x : Str) (st : Stmt) (ps : List Str) : Prop :=
  ∃ (f : Addr) (fd : FuncData), Fun K x x st f fd ∧ mg x = some (.ref f) ∧ ∀ us : List Value, us.length = ps.length → bindArgs fd ⟨us, []⟩ = pure (ps.zip us)
theorem df_mk {K : PySem.W.Frag} {h : Heap} {mg : Str → Option Value} (X : K.In h) (G : h.Ns mainGlobals mg) {x : Str} {st : Stmt} {ps : List Str} {f : Addr} {oc kV dc pm cd ct : Value} {od an : Option Addr} {sl : Array (Option Value)}
    (hb : ∀ (kV doc pm : Value) (an : Option Addr) (cdv ct : Value) (us : List Value), us.length = ps.length → bindArgs (PySem.W.fnOf x x (defArgs st) (defBody st) (defScope st) .none kV doc pm an cdv ct) ⟨us, []⟩ = pure (ps.zip us))
    (a : PySem.W.nsIn K mainGlobals x = some (some (.ref f))) (l : K.lookup f = some ⟨oc, od, .func (PySem.W.fnOf x x (defArgs st) (defBody st) (defScope st) .none kV dc pm an cd ct), sl⟩) (c : PySem.W.codeIn K cd x = true) (k : PySem.W.keepIn K (.ref f) = true) : Df K mg x st ps :=
  ⟨f, _, fun_mk l c k, PySem.W.mg_of X G a, fun us hl => hb kV dc pm an cd ct us hl⟩
theorem blt_mk {K : PySem.W.Frag} {h : Heap} {mg : Str → Option Value} (X : K.In h) (G : h.Ns mainGlobals mg) {x : Str} (a : PySem.W.nsIn K mainGlobals x = some none) : mg x = none := PySem.W.mg_none_of X G a
/-- what a def promises -/
def Has (P : Program) (w : World) (K : PySem.W.Frag) (mg : Str → Option Value) (base : Heap) (x : Str) (ps : List Str) (k : Nat) (sp : Sp) : Prop :=
  ∃ (f : Addr) (fd : FuncData), mg x = some (.ref f) ∧ PySem.W.keepIn K (.ref f) = true ∧ (∃ oc od osl, K.lookup f = some ⟨oc, od, .func fd, osl⟩) ∧ (∀ us : List Value, us.length = ps.length → bindArgs fd ⟨us, []⟩ = pure (ps.zip us)) ∧ FnOk P w K mg base CX0 k f fd ps sp
section
variable {P : Program} {w : World} {K : PySem.W.Frag} {mg : Str → Option Value} {base : Heap}
/-- THE RULE: a def keeps its promise, by its body -/
theorem Df.has {x : Str} {st : Stmt} {N ps : List Str} {k : Nat} {sp : Sp} (D : Df K mg x st ps) (S : FnScope N ps (defScope st)) (len : ∀ vs H Q E, sp vs H Q E → vs.length = ps.length)
    (hbody : ∀ (f : Addr) (cdv : Value) (A : Around) (outer : List Env) (s : Shared) (H : Hp) (vs : List V) (Q : VK) (E : XK), Room k (A.deeper (envOfC x (defScope st) s.heap.objs.size f cdv)) → sp vs H Q E →
      ∃ t, PSs (cxOf CX0 P w K mg base N x (defScope st) f cdv A outer s H E).nox (defBody st) t ∧ t { nx := fun _ H' => Q .non H', rt := Q } (start N vs) H) : Has P w K mg base x ps (k + 1) sp := by
  obtain ⟨f, fd, F, a, b⟩ := D
  obtain ⟨oc, od, kV, doc, pm, an, cdv, ct, osl, e, lk, hcd⟩ := id F.ex
  exact ⟨f, fd, a, F.kp, ⟨oc, od, osl, lk⟩, b, F.ok S len (hbody f)⟩
end
section
variable {X : Cx} {k : Nat} {ps : List Str} {sp : Sp} {x : Str} {p pos : Pos} {e : Expr} {es : List Expr} {t : TA}
/-- f(e, ..) of a def that has promised -/
theorem pe_fn (F : Has X.prog X.w X.K X.mg X.base x ps k sp) (hr : Room k X.A) (hg : Gl X x) (ha : PA X (e :: es) t) (hdb : (x == ("__debug__" : Str)) = false := by decide)
    (he : starEach (e :: es) X.env = (false, eval e X.env) :: starEach es X.env := by rfl) (hpl : (backTo pos (starEach es X.env)).any (·.1) = false := by rfl) : PE X (.Call (.Name x p) (e :: es) [] pos) (tCall sp [] E0 t) := by
  obtain ⟨f, fd, a, kp, lk, b, G⟩ := F
  exact pe_call G hr hg a kp (.all b) .nil pass0 ha hdb he hpl
end
/-- THE HEAD of a law of one script of at most 63 ints -/
theorem law_walk {l : PySem.W.OpenLaw} {q : Program} {loose : List Str} {XP : (Str → Option Value) → Heap → Prop} {YP : World → Heap → Prop} {d : DefRec} {K : Params → PySem.W.Frag} {k : Nat} {x : Str} {sp : PySem.W.Frag → Sp}
    (hn : l.most = some 63) (hdf : d.params.defaults = []) (hr : Room k callerA) (hY : ∀ (w : World) (h : Heap), YP w h → (K w.params).In h)
    (hsp : ∀ (K : PySem.W.Frag) (H : Hp) (a : Addr) (ns : List Int), ns.length ≤ 63 → SqL K H a (ns.map V.int) → sp K [.ref a] H (fun v _ => v = .bl true) fun _ _ _ => False)
    (F : ∀ (w : World) (mg : Str → Option Value) (h : Heap), (K w.params).In h → h.Ns mainGlobals mg → ∀ base : Heap, (K w.params).In base → base.Ns mainGlobals mg → Has l.prog w (K w.params) mg base d.name [x] k (sp (K w.params))) :
    PySem.W.WalkO q loose XP YP l.row.toRowW d [] (fun f vs => PySem.call f vs) := by
  refine L2.walk_ofK (n := 63) (k := k) (x := x) (CX := CX0) (sp := sp) hn (by decide) hdf hr hY (fun w mg fa h KX G hmg => ?_) (fun K H a ns hl _ hS => hsp K H a ns hl hS) fun _ _ _ _ z => z
  obtain ⟨f, fd, a, kp, ⟨oc, od, osl, lk⟩, b, _⟩ := F w mg h KX G h KX G
  have ef : fa = f := by
    rw [hmg] at a
    cases a; rfl
  subst ef
  refine ⟨fd, fun s u => .of_eq (b [u] rfl), fun base kb nb => ?_⟩
  obtain ⟨f', fd', a', kp', ⟨oc', od', osl', lk'⟩, b', G'⟩ := F w mg h KX G base kb nb
  have ef : f' = fa := by
    rw [hmg] at a'
    cases a'; rfl
  subst ef
  rw [lk] at lk'
  cases lk'
  exact G'
end L2

/-! == of lists and tuples at any depth; in, not in over such items; sorted of two ints; str of a word. -/
namespace L2
open PySem PySem.Spec PyProof.Rows
/-- x == y comes out as b, at most n levels deep -/
inductive DEq (K : PySem.W.Frag) (H : Hp) : Nat → V → V → Bool → Prop where
  | flat {n : Nat} {x y : V} (fx : flatV x = true) (fy : flatV y = true) : DEq K H n x y (eqV x y)
  | lst {n : Nat} {a b : Addr} {xs ys : List V} (e : Nat → Bool) (hx : SqL K H a xs) (hy : SqL K H b ys) (hl : xs.length = ys.length) (he : ∀ (i : Nat) x y, xs[i]? = some x → ys[i]? = some y → DEq K H n x y (e i)) :
      DEq K H (n + 1) (.ref a) (.ref b) ((List.range xs.length).all e)
  | lstN {n : Nat} {a b : Addr} {xs ys : List V} (hx : SqL K H a xs) (hy : SqL K H b ys) (hl : xs.length ≠ ys.length) : DEq K H (n + 1) (.ref a) (.ref b) false
  | tup {n : Nat} {a b : Addr} {xs ys : List V} (e : Nat → Bool) (hx : SqT K H a xs) (hy : SqT K H b ys) (he : ∀ (i : Nat) x y, xs[i]? = some x → ys[i]? = some y → DEq K H n x y (e i)) :
      DEq K H (n + 1) (.ref a) (.ref b) ((List.range (min xs.length ys.length)).all e && xs.length == ys.length)
  | lt {n : Nat} {a b : Addr} {xs ys : List V} (hx : SqL K H a xs) (hy : SqT K H b ys) : DEq K H (n + 1) (.ref a) (.ref b) false
  | tl {n : Nat} {a b : Addr} {xs ys : List V} (hx : SqT K H a xs) (hy : SqL K H b ys) : DEq K H (n + 1) (.ref a) (.ref b) false
theorem eqV_refl {x : V} (h : flatV x = true) : eqV x x = true := by
  cases x <;> first | rfl | (simp [flatV] at h; done) | (simp [eqV]; done)
section
variable {X : Cx} {pins : List (Addr × Obj)} {σ : St} {H : Hp} {s : Shared}
theorem notBoth (I : Inv X pins σ H s) {a : Addr} {xs ys : List V} (hx : SqL X.K H a xs) (hy : SqT X.K H a ys) : False := by
  obtain ⟨its, _, ⟨o, n, e, c, _, _⟩, _⟩ := I.list hx
  obtain ⟨its', _, ⟨o', e', c', _⟩, _⟩ := I.tuple hy
  rw [e] at e'
  cases e'
  rw [c] at c'
  injection c' with c'
  exact absurd c' (by decide)
theorem DEq.refl (I : Inv X pins σ H s) {n : Nat} {x y : V} {b : Bool} (h : DEq X.K H n x y b) : x = y → b = true := by
  induction h with
  | flat fx fy => intro e; subst e; exact eqV_refl fx
  | lst e hx hy hl he ih =>
    intro q
    cases q
    have := I.list_inj hx hy
    subst this
    rw [List.all_eq_true]
    intro i hi
    have hi := List.mem_range.mp hi
    exact ih i _ _ (List.getElem?_eq_getElem hi) (List.getElem?_eq_getElem hi) rfl
  | lstN hx hy hl =>
    intro q
    cases q
    exact absurd (congrArg List.length (I.list_inj hx hy)) hl
  | tup e hx hy he ih =>
    intro q
    cases q
    have := I.tuple_inj hx hy
    subst this
    rw [Nat.min_self, beq_self_eq_true, Bool.and_true, List.all_eq_true]
    intro i hi
    have hi := List.mem_range.mp hi
    exact ih i _ _ (List.getElem?_eq_getElem hi) (List.getElem?_eq_getElem hi) rfl
  | lt hx hy => intro q; cases q; exact (notBoth I hx hy).elim
  | tl hx hy => intro q; cases q; exact (notBoth I hy hx).elim
theorem in1_units (A : Around) : A.in1.units ≤ A.units + 1 := by
  first
    | exact Nat.le_refl _
    | exact Nat.le_succ _
    | (unfold Around.in1; simp)
/-- of the objects themselves; as an item -/
theorem DEq.at (I : Inv X pins σ H s) {n : Nat} {x y : V} {b : Bool} (h : DEq X.K H n x y b) : ∀ {u v : Value} {A : Around}, RelV x u → RelV y v → A.units + n < cLine →
    SeqAt.EqAt A s u v b ∧ ((∃ p q, x = .ref p ∧ y = .ref q) → SeqAt.RcAt A s u v b) := by
  induction h with
  | flat fx fy =>
    intro u v A ru rv hu
    refine ⟨eqAt_V ru rv fx fy, fun hq0 => ?_⟩
    obtain ⟨p, q, e, _⟩ := hq0
    subst e
    cases fx
  | @lst n a b xs ys e hx hy hl he ih =>
    intro u v A ru rv hu
    cases ru
    cases rv
    obtain ⟨its, r1, p1, _⟩ := I.list hx
    obtain ⟨its2, r2, p2, _⟩ := I.list hy
    have l1 := r1.length
    have l2 := r2.length
    have h1 := in1_units A
    have rc : SeqAt.RcAt A s (.ref a) (.ref b) ((List.range xs.length).all e) := by
      have := SeqAt.RcAt.lists (A := A) (e := e) p1.isList p2.isList (by simp; omega) (by omega) (fun j j1 j2 => by
        have g1 : xs[j]? = some (xs[j]'(by simp at j1; omega)) := List.getElem?_eq_getElem _
        have g2 : ys[j]? = some (ys[j]'(by simp at j2; omega)) := List.getElem?_eq_getElem _
        obtain ⟨w1, q1, t1⟩ := r1.get g1
        obtain ⟨w2, q2, t2⟩ := r2.get g2
        have := (ih j _ _ g1 g2 t1 t2 (A := A.in1) (by omega)).1
        have z1 : its.toArray[j] = w1 := by
          have := List.getElem?_eq_some_iff.mp q1
          obtain ⟨_, z⟩ := this
          simpa using z
        have z2 : its2.toArray[j] = w2 := by
          have := List.getElem?_eq_some_iff.mp q2
          obtain ⟨_, z⟩ := this
          simpa using z
        rw [z1, z2]
        exact this)
      have es : its.toArray.size = xs.length := by simp; omega
      rw [es] at this
      exact this
    refine ⟨?_, fun _ => rc⟩
    by_cases hab : a = b
    · subst hab
      have := (DEq.lst e hx hy hl he).refl I rfl
      rw [this]
      exact .same _
    · exact .of_refs hab rc
  | @lstN n a b xs ys hx hy hl =>
    intro u v A ru rv hu
    cases ru
    cases rv
    obtain ⟨its, r1, p1, _⟩ := I.list hx
    obtain ⟨its2, r2, p2, _⟩ := I.list hy
    have l1 := r1.length
    have l2 := r2.length
    have rc : SeqAt.RcAt A s (.ref a) (.ref b) false := SeqAt.RcAt.lists_lengths p1.isList p2.isList (by simp; omega) (by omega)
    refine ⟨?_, fun _ => rc⟩
    by_cases hab : a = b
    · subst hab
      exact absurd (congrArg List.length (I.list_inj hx hy)) hl
    · exact .of_refs hab rc
  | @tup n a b xs ys e hx hy he ih =>
    intro u v A ru rv hu
    cases ru
    cases rv
    obtain ⟨its, r1, p1, _⟩ := I.tuple hx
    obtain ⟨its2, r2, p2, _⟩ := I.tuple hy
    have l1 := r1.length
    have l2 := r2.length
    have h1 := in1_units A
    have rc : SeqAt.RcAt A s (.ref a) (.ref b) ((List.range (min xs.length ys.length)).all e && xs.length == ys.length) := by
      have := SeqAt.RcAt.tuples (A := A) (e := e) (show s.heap.IsTuple a its.toArray from p1) (show s.heap.IsTuple b its2.toArray from p2) (by omega) (fun j j1 j2 => by
        have g1 : xs[j]? = some (xs[j]'(by simp at j1; omega)) := List.getElem?_eq_getElem _
        have g2 : ys[j]? = some (ys[j]'(by simp at j2; omega)) := List.getElem?_eq_getElem _
        obtain ⟨w1, q1, t1⟩ := r1.get g1
        obtain ⟨w2, q2, t2⟩ := r2.get g2
        have := (ih j _ _ g1 g2 t1 t2 (A := A.in1) (by omega)).1
        have z1 : its.toArray[j] = w1 := by
          have := List.getElem?_eq_some_iff.mp q1
          obtain ⟨_, z⟩ := this
          simpa using z
        have z2 : its2.toArray[j] = w2 := by
          have := List.getElem?_eq_some_iff.mp q2
          obtain ⟨_, z⟩ := this
          simpa using z
        rw [z1, z2]
        exact this)
      have es : its.toArray.size = xs.length := by simp; omega
      have es2 : its2.toArray.size = ys.length := by simp; omega
      rw [es, es2] at this
      exact this
    refine ⟨?_, fun _ => rc⟩
    by_cases hab : a = b
    · subst hab
      have := (DEq.tup e hx hy he).refl I rfl
      rw [this]
      exact .same _
    · exact .of_refs hab rc
  | @lt n a b xs ys hx hy =>
    intro u v A ru rv hu
    cases ru
    cases rv
    obtain ⟨its, r1, p1, _⟩ := I.list hx
    obtain ⟨its2, r2, p2, _⟩ := I.tuple hy
    exact ⟨SeqAt.EqAt.list_tuple p1.isList (show s.heap.IsTuple b its2.toArray from p2) (by omega), fun _ => SeqAt.RcAt.list_tuple p1.isList (show s.heap.IsTuple b its2.toArray from p2) (by omega)⟩
  | @tl n a b xs ys hx hy =>
    intro u v A ru rv hu
    cases ru
    cases rv
    obtain ⟨its, r1, p1, _⟩ := I.tuple hx
    obtain ⟨its2, r2, p2, _⟩ := I.list hy
    exact ⟨SeqAt.EqAt.tuple_list (show s.heap.IsTuple a its.toArray from p1) p2.isList (by omega), fun _ => SeqAt.RcAt.tuple_list (show s.heap.IsTuple a its.toArray from p1) p2.isList (by omega)⟩
end
section
variable {X : Cx} {pins : List (Addr × Obj)} {σ : St} {H : Hp} {s : Shared}
theorem items_at (I : Inv X pins σ H s) {n : Nat} {xs ys : List V} {its its2 : List Value} {e : Nat → Bool} (r1 : Vals xs its) (r2 : Vals ys its2) (he : ∀ (i : Nat) x y, xs[i]? = some x → ys[i]? = some y → DEq X.K H n x y (e i)) {A : Around} (hu : A.units + n < cLine) :
    ∀ (j : Nat) (h1 : j < its.toArray.size) (h2 : j < its2.toArray.size), SeqAt.EqAt A s its.toArray[j] its2.toArray[j] (e j) := fun j j1 j2 => by
  have l1 := r1.length
  have l2 := r2.length
  have g1 : xs[j]? = some (xs[j]'(by simp at j1; omega)) := List.getElem?_eq_getElem _
  have g2 : ys[j]? = some (ys[j]'(by simp at j2; omega)) := List.getElem?_eq_getElem _
  obtain ⟨w1, q1, t1⟩ := r1.get g1
  obtain ⟨w2, q2, t2⟩ := r2.get g2
  have := ((he j _ _ g1 g2).at I t1 t2 (A := A) hu).1
  have z1 : its.toArray[j] = w1 := by
    obtain ⟨_, z⟩ := List.getElem?_eq_some_iff.mp q1
    simpa using z
  have z2 : its2.toArray[j] = w2 := by
    obtain ⟨_, z⟩ := List.getElem?_eq_some_iff.mp q2
    simpa using z
  rw [z1, z2]
  exact this
theorem DEq.ne (I : Inv X pins σ H s) {n : Nat} {p q : Addr} {b : Bool} (h : DEq X.K H n (.ref p) (.ref q) b) {A : Around} (hu : A.units + n < cLine) : SeqAt.RcNeAt A s (.ref p) (.ref q) (!b) := by
  have h1 := in1_units A
  cases h with
  | flat fx fy => cases fx
  | lst e hx hy hl he =>
    obtain ⟨its, r1, p1, _⟩ := I.list hx
    obtain ⟨its2, r2, p2, _⟩ := I.list hy
    have l1 := r1.length
    have l2 := r2.length
    have := SeqAt.RcNeAt.lists (A := A) (e := e) p1.isList p2.isList (by simp; omega) (by omega) (items_at I r1 r2 he (A := A.in1) (by omega))
    rw [List.size_toArray, ← l1] at this
    exact this
  | lstN hx hy hl =>
    obtain ⟨its, r1, p1, _⟩ := I.list hx
    obtain ⟨its2, r2, p2, _⟩ := I.list hy
    have l1 := r1.length
    have l2 := r2.length
    exact SeqAt.RcNeAt.lists_lengths p1.isList p2.isList (by simp; omega) (by omega)
  | tup e hx hy he =>
    obtain ⟨its, r1, p1, _⟩ := I.tuple hx
    obtain ⟨its2, r2, p2, _⟩ := I.tuple hy
    have l1 := r1.length
    have l2 := r2.length
    have := SeqAt.RcNeAt.tuples (A := A) (e := e) (show s.heap.IsTuple p its.toArray from p1) (show s.heap.IsTuple q its2.toArray from p2) (by omega) (items_at I r1 r2 he (A := A.in1) (by omega))
    rw [List.size_toArray, List.size_toArray, ← l1, ← l2] at this
    exact this
  | lt hx hy =>
    obtain ⟨its, r1, p1, _⟩ := I.list hx
    obtain ⟨its2, r2, p2, _⟩ := I.tuple hy
    exact SeqAt.RcNeAt.list_tuple p1.isList (show s.heap.IsTuple q its2.toArray from p2) (by omega)
  | tl hx hy =>
    obtain ⟨its, r1, p1, _⟩ := I.tuple hx
    obtain ⟨its2, r2, p2, _⟩ := I.list hy
    exact SeqAt.RcNeAt.tuple_list (show s.heap.IsTuple p its.toArray from p1) p2.isList (by omega)
end
section
variable {X : Cx}
/-- == of two lists or tuples -/
def rEqD (K : PySem.W.Frag) : R2 := fun x y H Q => ∃ p q b, x = .ref p ∧ y = .ref q ∧ DEq K H 8 x y b ∧ Q (.bl b) H
theorem op_eqD (hu : X.A.units + 9 < cLine) : OpR X (compareOp .Eq) (rEqD X.K) := by
  intro pins s σ H x y v u Q I rx ry h
  obtain ⟨p, q, b, rfl, rfl, d, hq⟩ := h
  exact (d.at I rx ry (A := X.A) (by omega)).2 ⟨p, q, rfl, rfl⟩ X.prog X.w _ _ ⟨.bl b, H, I, rfl, hq⟩
def rNeD (K : PySem.W.Frag) : R2 := fun x y H Q => ∃ p q b, x = .ref p ∧ y = .ref q ∧ DEq K H 8 x y b ∧ Q (.bl (!b)) H
theorem op_neD (hu : X.A.units + 9 < cLine) : OpR X (compareOp .NotEq) (rNeD X.K) := by
  intro pins s σ H x y v u Q I rx ry h
  obtain ⟨p, q, b, rfl, rfl, d, hq⟩ := h
  cases rx
  cases ry
  exact d.ne I (A := X.A) (by omega) X.prog X.w _ _ ⟨.bl (!b), H, I, rfl, hq⟩
/-- x in a list (or tuple) whose items may be lists and tuples -/
def rInD (K : PySem.W.Frag) (neg : Bool) : R2 := fun x y H Q => ∃ (p : Addr) (xs : List V) (e : V → Bool), y = .ref p ∧ (SqL K H p xs ∨ SqT K H p xs) ∧ (∀ z ∈ xs, DEq K H 8 z x (e z)) ∧ Q (.bl (if neg then !xs.any e else xs.any e)) H
theorem valsMem : ∀ {xs : List V} {us : List Value} {u : Value}, Vals xs us → u ∈ us → ∃ x ∈ xs, RelV x u
  | _, _, _, .cons r t, h => by
    rcases List.mem_cons.mp h with h | h
    · subst h; exact ⟨_, List.mem_cons_self .., r⟩
    · obtain ⟨x, hx, q⟩ := valsMem t h
      exact ⟨x, List.mem_cons_of_mem _ hx, q⟩
def absE (e : V → Bool) (u : Value) : Bool := match absV u with
  | some x => e x
  | none => false
theorem absE_of {e : V → Bool} {x : V} {u : Value} (r : RelV x u) : absE e u = e x := by unfold absE; rw [r.abs]
theorem any_abs {e : V → Bool} : ∀ {xs : List V} {us : List Value}, Vals xs us → us.any (absE e) = xs.any e
  | _, _, .nil => rfl
  | _, _, .cons r t => by rw [List.any_cons, List.any_cons, absE_of r, any_abs t]
theorem op_notInD (hu : X.A.units + 10 < cLine) : OpR X (compareOp .NotIn) (rInD X.K true) := by
  intro pins s σ H x y v u Q I rx ry h
  obtain ⟨p, xs, e, rfl, hq, hd, q⟩ := h
  cases ry
  have h1 := in1_units X.A
  have items : ∀ {its : List Value}, Vals xs its → ∀ z, z ∈ its.toArray → SeqAt.EqAt X.A.in1 s z v (absE e z) := fun {its} r z hz => by
    obtain ⟨x', hx', rz⟩ := valsMem r (by simpa using hz)
    rw [absE_of rz]
    exact ((hd x' hx').at I rz rx (A := X.A.in1) (by omega)).1
  rcases hq with hq | hq
  · obtain ⟨its, r, pl, hz⟩ := I.list hq
    refine SeqAt.notIn_listAt (absE e) pl.isList (items r) ⟨.bl _, H, I, rfl, ?_⟩
    rw [show its.toArray.any (absE e) = its.any (absE e) by simp, any_abs r]
    exact q
  · obtain ⟨its, r, pl, hz⟩ := I.tuple hq
    refine SeqAt.notIn_tupleAt (absE e) pl (items r) ⟨.bl _, H, I, rfl, ?_⟩
    rw [show its.toArray.any (absE e) = its.any (absE e) by simp, any_abs r]
    exact q
end
end L2
namespace L2
open PySem PySem.Spec PyProof.Rows
/-! ### words, rows, sorted, comprehensions whose elements make things -/
def Wd (v : V) : Prop := (∃ x, v = .str x ∧ x.length ≤ 100) ∨ ∃ i : Int, v = .int i ∧ i.natAbs < 10 ^ 60
theorem Wd.flat {v : V} (h : Wd v) : flatV v = true := by
  rcases h with ⟨x, rfl, _⟩ | ⟨i, rfl, _⟩ <;> rfl
section
variable {X : Cx}
end
/-- two flat tuples -/
def eqL (xs ys : List V) : Bool := (List.range (min xs.length ys.length)).all (fun i => match xs[i]?, ys[i]? with | some x, some y => eqV x y | _, _ => true) && xs.length == ys.length
theorem DEq.flatT {K : PySem.W.Frag} {H : Hp} {n : Nat} {a b : Addr} {xs ys : List V} (hx : SqT K H a xs) (hy : SqT K H b ys) (fx : ∀ x ∈ xs, flatV x = true) (fy : ∀ x ∈ ys, flatV x = true) : DEq K H (n + 1) (.ref a) (.ref b) (eqL xs ys) := by
  refine DEq.tup _ hx hy fun i x y e1 e2 => ?_
  rw [e1, e2]
  exact DEq.flat (fx x (List.mem_of_getElem? e1)) (fy y (List.mem_of_getElem? e2))
theorem eqL_refl {xs : List V} (h : ∀ x ∈ xs, flatV x = true) : eqL xs xs = true := by
  unfold eqL
  rw [beq_self_eq_true, Bool.and_true, List.all_eq_true]
  intro i hi
  rw [Nat.min_self] at hi
  have hi := List.mem_range.mp hi
  rw [List.getElem?_eq_getElem hi]
  exact eqV_refl (h _ (List.getElem_mem hi))
/-- the same list, the same tuple, by contents -/
theorem DEq.sameL {K : PySem.W.Frag} {H : Hp} {n : Nat} {a b : Addr} {xs : List V} (hx : SqL K H a xs) (hy : SqL K H b xs) (h : ∀ x ∈ xs, DEq K H n x x true) : DEq K H (n + 1) (.ref a) (.ref b) true := by
  have := DEq.lst (n := n) (fun _ => true) hx hy rfl fun i x y e1 e2 => by
    rw [e1] at e2; cases e2
    exact h x (List.mem_of_getElem? e1)
  rw [show (List.range xs.length).all (fun _ => true) = true from List.all_eq_true.mpr fun _ _ => rfl] at this
  exact this
theorem Same.new {H : Hp} {D : Addr} {o : HO} (h : H D = none) : Same H (upd H D o) := fun b u e => by rw [upd_ne (ne_of_none e h)]; exact e
/-- what is tracked stays, but at D, which was not -/
theorem Same.upd {H H' : Hp} {D : Addr} {o : HO} (e : Same H H') (h : H D = none) : Same H (upd H' D o) := fun b u q => by
  rw [upd_ne (ne_of_none q h)]; exact e b u q
end L2

/-! The rules that lean on the written part, with that part given: within a comprehension's block nothing else fits. -/
namespace L2
open PySem PySem.Spec PyProof.Rows
section
variable {X : Cx} (K : PySem.W.Frag) (h : X.K = K)
include h
theorem ix_listK : IxR X (rIxL K) := h ▸ ix_list
theorem ix_tupK : IxR X (rIxT K) := h ▸ ix_tup
theorem sl_listK : SlR X (rSlL K) := h ▸ sl_list
theorem op_in_seqK : OpR X (compareOp .In) (rIn K false) := h ▸ op_in_seq
theorem op_eqDK (hu : X.A.units + 9 < cLine) : OpR X (compareOp .Eq) (rEqD K) := h ▸ op_eqD hu
theorem op_neDK (hu : X.A.units + 9 < cLine) : OpR X (compareOp .NotEq) (rNeD K) := h ▸ op_neD hu
theorem op_notInDK (hu : X.A.units + 10 < cLine) : OpR X (compareOp .NotIn) (rInD K true) := h ▸ op_notInD hu
theorem call_len_seqK : CallR X (.builtin "len") (fun xs H Q => ∃ p ys, xs = [.ref p] ∧ (SqL K H p ys ∨ SqT K H p ys) ∧ Q (.int ys.length) H) := h ▸ call_len_seq
theorem call_list_ofK : CallR X (.type "list") (fun xs H Q => ∃ p ys, xs = [.ref p] ∧ (SqL K H p ys ∨ SqT K H p ys) ∧ ∀ l, H l = none → Q (.ref l) (upd H l (.lst ys))) := h ▸ call_list_of
variable {o e : Expr} {es : List Expr} {to : TE} {t : TA} {name : Str} {apos cpos : Pos} {T id : String} {r : V → List V → Hp → VK → Prop}
theorem pe_bm0K (pa : PlainAttrs T) (slot : Slot T name id) (hty : typeOf (.builtin id) = pure (.type "method_descriptor")) (hm : MtR X id r) (ho : PE X o to)
    (hbase : attributeBase o name X.env (eval o X.env) = eval o X.env := by rfl) (hline : (apos.endLine == cpos.line) = true := by rfl) : PE X (.Call (.Attribute o name apos) [] [] cpos) (tBM0 K T r to) := h ▸ pe_bm0 pa slot hty hm ho hbase hline
theorem pe_bmK (pa : PlainAttrs T) (slot : Slot T name id) (hty : typeOf (.builtin id) = pure (.type "method_descriptor")) (hm : MtR X id r) (ho : PE X o to) (ha : PA X (e :: es) t)
    (hbase : attributeBase o name X.env (eval o X.env) = eval o X.env := by rfl)
    (hfew : ((backTo cpos (starEach (e :: es) X.env)).all (fun x => !x.1) && (backToKw cpos (keywordEach [] X.env)).all (fun x => x.1.isSome)
      && decide ((e :: es).length + ([] : List Keyword).length + (if ([] : List Keyword).isEmpty then 0 else 1) < 30)) = true := by rfl)
    (hline : (apos.endLine == cpos.line) = true := by rfl) (hs : starEach (e :: es) X.env = (false, eval e X.env) :: starEach es X.env := by rfl) (hplain : (backTo cpos (starEach es X.env)).any (·.1) = false := by rfl) :
    PE X (.Call (.Attribute o name apos) (e :: es) [] cpos) (tBM K T r to t) := h ▸ pe_bm pa slot hty hm ho ha hbase hfew hline hs hplain
end
section
variable {X : Cx} {tg : Expr} (K : PySem.W.Frag) (h : X.K = K)
include h
theorem pi_listK {l : Expr} {tl : TE} (hl : PE X l tl) : PI X tg l (iList K tl) := h ▸ pi_list hl
end
theorem hu10 {A : Around} {k : Nat} (hr : Room k A) : A.units + 9 < cLine := Nat.lt_of_le_of_lt (Nat.add_le_add_left (by decide : 9 ≤ 64) _) hr.units
theorem hu11 {A : Around} {k : Nat} (hr : Room k A) : A.units + 10 < cLine := Nat.lt_of_le_of_lt (Nat.add_le_add_left (by decide : 10 ≤ 64) _) hr.units
end L2

/-! Short ways: a test whose two ways are gone once; lists compared with the empty list; what a slice is. -/
namespace L2
open PySem PySem.Spec PyProof.Rows
theorem ifS_same {c : TT} {t u : TS} {D : Ends} {σ : St} {H : Hp} (b : Bool) (ht : ∀ Q' : Bool → Hp → Prop, (∀ H', Same H H' → Q' b H') → c σ H Q') (hs : ∀ H', Same H H' → if b = true then t D σ H' else u D σ H') : tIfS c t u D σ H := ht _ hs
theorem ifS_at {c : TT} {t u : TS} {D : Ends} {σ : St} {H : Hp} (b : Bool) (ht : ∀ Q' : Bool → Hp → Prop, Q' b H → c σ H Q') (hs : if b = true then t D σ H else u D σ H) : tIfS c t u D σ H := ht _ hs
theorem DEq.nilL {K : PySem.W.Frag} {H : Hp} {n : Nat} {a b : Addr} {xs : List V} (hx : SqL K H a xs) (hy : SqL K H b []) : DEq K H (n + 1) (.ref a) (.ref b) (decide (xs = [])) := by
  by_cases h : xs = []
  · subst h
    exact DEq.lst (fun _ => true) hx hy rfl fun i x y e _ => by simp at e
  · rw [decide_eq_false h]
    exact DEq.lstN hx hy fun z => h (List.length_eq_zero_iff.mp z)
theorem atI_0 {α : Type} {x : α} {xs : List α} : atI (x :: xs) 0 = some x := by
  have := atI_nat (xs := x :: xs) (j := 0) (v := x) rfl
  exact this
theorem le_line {n : Nat} (h : n ≤ 1000) : n ≤ sizeLine := Nat.le_of_lt (small1000 h)
end L2

/-! split; enumerate and zip, walked. -/
namespace L2
open PySem PySem.Spec PyProof.Rows
open Builtin Builtin.Str
section
variable {X : Cx}
end
end L2
namespace L2
open PySem PySem.Spec PyProof.Rows
section
variable {X : Cx} {pins : List (Addr × Obj)} {σ : St} {H : Hp} {s : Shared} {h' : Heap}
end
/-! ### enumerate -/
end L2


/-! zip of two sequences, each a list or a tuple. -/
namespace L2
open PySem PySem.Spec PyProof.Rows
section
variable {prog : Program} {w : World} {A : Around} {E : Value → Shared → Prop} {s : Shared}
end
end L2
namespace L2
open PySem PySem.Spec PyProof.Rows
section
variable {prog : Program} {w : World} {A : Around} {E : Value → Shared → Prop} {s : Shared} {z TI TO i1 i2 l1 l2 : Addr} {k1 k2 : Nat} {xs ys : Array Value} {x y a b : Value} {t1 t2 : Bool}
end
end L2


/-! zip and enumerate as what a loop or a comprehension walks. -/
namespace L2
open PySem PySem.Spec PyProof.Rows
section
variable {prog : Program} {w : World} {A : Around} {E : Value → Shared → Prop} {s : Shared} {z TI TO i1 i2 l1 l2 : Addr} {k1 k2 : Nat} {xs ys : Array Value} {x y a b : Value} {t1 t2 : Bool}
end
section
variable {X : Cx} {pins : List (Addr × Obj)} {σ : St} {H : Hp} {s : Shared} {a : Addr} {xs ys : List V}
end
end L2

/-! zip(..) and enumerate(.., start = n) made. -/
namespace L2
open PySem PySem.Spec PyProof.Rows
open Sem (wp)
section
variable {prog : Program} {w : World} {A : Around} {E : Value → Shared → Prop} {s : Shared}
end
/-! ### zip in a loop's head -/
section
variable {X : Cx}
end
/-! ### enumerate(.., start = n) -/
section
variable {prog : Program} {w : World} {A : Around} {E : Value → Shared → Prop} {s : Shared}
end
section
variable {X : Cx}
end
end L2

/-! a dict's keys, whatever they are, walked; list of a dict, of its values. -/
namespace L2
open PySem PySem.Spec PyProof.Rows
open Sem (wp)
/-- a dict by its very entries -/
def RawD (h : Heap) (d : Addr) (es : Array DictEntry) (ep : Nat) : Prop := ∃ o, h.get? d = some o ∧ o.ExactDict ∧ o.data = .dict es ep
theorem RawD.at {h h' : Heap} {d : Addr} {es : Array DictEntry} {ep : Nat} (q : RawD h d es ep) (k : ∀ o, h.get? d = some o → h'.get? d = some o) : RawD h' d es ep := let ⟨o, ho, r⟩ := q; ⟨o, k o ho, r⟩
theorem RawD.typeIs {s : Shared} {d : Addr} {es : Array DictEntry} {ep : Nat} (q : RawD s.heap d es ep) : s.TypeIs (.ref d) "dict" := let ⟨o, ho, c, _⟩ := q; ⟨o, ho, c.1⟩
section
variable {prog : Program} {w : World} {A : Around} {E : Value → Shared → Prop} {s : Shared}
theorem iter_raw {d : Addr} {es : Array DictEntry} {ep : Nat} {Q : Value → Shared → Prop} (hd : (d == sysModules) = false) (hm : RawD s.heap d es ep)
    (hQ : Q (.ref s.heap.objs.size) { s with heap := s.heap.push { cls := .type "dict_keyiterator", data := .fields #[.ref d, .int 0 0, .int es.size 0, .int ep 0] } }) : wpAny (model prog w) A (pyIter (.ref d)) Q E s := by
  obtain ⟨o, ho, hc, hdat⟩ := id hm
  have T : s.TypeIs (.ref d) "dict" := hm.typeIs
  refine wpAny_pyIter_slot T F.slot_dict_iter (wpAny_call_entry F.slot_dict_iter T F.entry_dict_iter ?_ (F.args_dict_iter_1 _))
  unfold Builtin.«dict.__iter__»
  refine wpAny_bind ?_
  unfold Builtin.Dict.dictSlotNone
  refine wpAny_bind (wpAny_notOrdered_dict T ?_)
  show wpAny (model prog w) _ (pure (Value.ref d)) _ _ s
  refine wpAny_pure ?_
  show wpAny (model prog w) _ (Builtin.Dict.showsAll d >>= _) _ _ s
  unfold Builtin.Dict.showsAll
  rw [if_neg (by rw [hd]; exact Bool.false_ne_true)]
  refine wpAny_bind (wpAny_pure (wpAny_bind (wpAny_dictEntries ho hdat (wpAny_bind (wpAny_dictEpoch ho hdat ?_)))))
  exact wpAny_bind (wpAny_newObj_type (wpAny_pure ⟨_, rfl, "dict_keyiterator", _, ⟨_, Heap.get?_push_size _ rfl, rfl⟩, F.slot_dict_keyiterator_next.lookup, hQ⟩))
theorem key_item {it d : Addr} {i ep : Nat} {es : Array DictEntry} {e : DictEntry} {Q : Option Value → Shared → Prop} (hit : s.heap.IsKeyIter it d i es.size ep) (hm : RawD s.heap d es ep) (hx : es[i]? = some e)
    (hQ : ∀ h1, h1.IsKeyIter it d (i + 1) es.size ep → Heap.SameBut it s.heap h1 → Q (some e.key) { s with heap := h1 }) : wpAny (model prog w) A (pyNext (.ref it)) Q E s := by
  obtain ⟨o, ho, hc, hd⟩ := id hit
  obtain ⟨od, hod, hcd, hdd⟩ := id hm
  obtain ⟨hlt, he⟩ := Array.getElem?_eq_some_iff.mp hx
  subst he
  unfold pyNext
  refine wpAny_bind (wpAny_attempt (wpAny_callSpecial?_slot (name := Str.ofString "__next__") hit.typeIs F.slot_dict_keyiterator_next (wpAny_call_entry F.slot_dict_keyiterator_next hit.typeIs F.entry_dict_keyiterator_next ?_ (F.args_dict_keyiterator_next_1 _))))
  refine wpAny_bind (wpAny_pure (wpAny_bind (wpAny_bind ?_)))
  refine wpAny_bind (wpAny_typeNameOfWhole_keyiter hit.typeIs (wpAny_pure (wpAny_bind (wpAny_fieldsOf ho hd ?_))))
  have own : Builtin.Dict_items.ownsTuple "dict_keyiterator" = false := by decide
  simp only [own, Bool.false_eq_true, if_false]
  show wpAny (model prog w) _ (if (Value.ref d == Value.none) = true then _ else _) _ _ s
  rw [if_neg (show ¬ ((Value.ref d == Value.none) = true) from Bool.false_ne_true)]
  refine wpAny_bind (wpAny_pure (wpAny_bind (wpAny_dictEntries hod hdd ?_)))
  rw [if_neg (by simp)]
  refine wpAny_bind (wpAny_pure (wpAny_bind (wpAny_dictEpoch hod hdd ?_)))
  rw [if_neg (by simp)]
  refine wpAny_pure ?_
  simp only [show ¬ ((i : Int) < 0) from by omega, if_false, Int.toNat_natCast, Array.getElem?_eq_getElem hlt]
  refine wpAny_bind (wpAny_bind (wpAny_typeNameOfWhole_keyiter hit.typeIs (wpAny_pure (wpAny_bind (wpAny_isOneOf_keyiter hit.typeIs ?_)))))
  show wpAny (model prog w) _ (setField (.ref it) 1 (rawInt ((i : Int) + 1)) >>= _) _ _ s
  refine wpAny_bind (wpAny_setField ho hd (by simp) ?_)
  have nx : (s.heap.update it (Obj.mapFields (·.setIfInBounds 1 (rawInt ((i : Int) + 1))))).IsKeyIter it d (i + 1) es.size ep :=
    ⟨_, Heap.get?_update_self _ ho (Obj.isFreed_of_fields (Obj.data_mapFields hd _)), (Obj.cls_mapFields ..).trans hc, by rw [Obj.data_mapFields hd]; simp [rawInt]⟩
  refine wpAny_bind (wpAny_holding (wpAny_bind (wpAny_isOneOf_keyiter (s := { s with heap := s.heap.update it (Obj.mapFields (·.setIfInBounds 1 (rawInt ((i : Int) + 1)))) }) nx.typeIs ?_)))
  show wpAny (model prog w) _ (pure es[i].key) _ _ _
  exact wpAny_pure (wpAny_pure ⟨_, rfl, wpAny_pure (hQ _ nx (Heap.SameBut.update ..))⟩)
theorem key_end {it d : Addr} {i ep : Nat} {es : Array DictEntry} {Q : Option Value → Shared → Prop} (hh : A.handled = none) (hit : s.heap.IsKeyIter it d i es.size ep) (hm : RawD s.heap d es ep) (hx : es.size ≤ i)
    (hQ : ∀ h1, Heap.ExtBut it s.heap h1 → Q none { s with heap := h1 }) : wpAny (model prog w) A (pyNext (.ref it)) Q E s := by
  obtain ⟨o, ho, hc, hd⟩ := id hit
  obtain ⟨od, hod, hcd, hdd⟩ := id hm
  unfold pyNext
  refine wpAny_bind (wpAny_attempt (wpAny_callSpecial?_slot (name := Str.ofString "__next__") hit.typeIs F.slot_dict_keyiterator_next (wpAny_call_entry F.slot_dict_keyiterator_next hit.typeIs F.entry_dict_keyiterator_next ?_ (F.args_dict_keyiterator_next_1 _))))
  refine wpAny_bind (wpAny_pure (wpAny_bind (wpAny_bind ?_)))
  refine wpAny_bind (wpAny_typeNameOfWhole_keyiter hit.typeIs (wpAny_pure (wpAny_bind (wpAny_fieldsOf ho hd ?_))))
  have own : Builtin.Dict_items.ownsTuple "dict_keyiterator" = false := by decide
  simp only [own, Bool.false_eq_true, if_false]
  show wpAny (model prog w) _ (if (Value.ref d == Value.none) = true then _ else _) _ _ s
  rw [if_neg (show ¬ ((Value.ref d == Value.none) = true) from Bool.false_ne_true)]
  refine wpAny_bind (wpAny_pure (wpAny_bind (wpAny_dictEntries hod hdd ?_)))
  rw [if_neg (by simp)]
  refine wpAny_bind (wpAny_pure (wpAny_bind (wpAny_dictEpoch hod hdd ?_)))
  rw [if_neg (by simp)]
  refine wpAny_pure ?_
  simp only [show ¬ ((i : Int) < 0) from by omega, if_false, Int.toNat_natCast, Array.getElem?_eq_none hx]
  refine wpAny_bind (wpAny_bind (wpAny_typeNameOfWhole_keyiter hit.typeIs (wpAny_pure ?_)))
  show wpAny (model prog w) _ (setField (.ref it) 0 .none >>= _) _ _ s
  refine wpAny_bind (wpAny_setField ho hd (by simp) ?_)
  show wpAny (model prog w) _ (newExc (.type "StopIteration") [] >>= _) _ _ _
  refine wpAny_bind ?_
  simp only [newExc, newTuple]
  refine wpAny_bind (wpAny_newObj_type (wpAny_bind (m := firstArgMember _ _) (wpAny_of_eq (a := Value.none) (by first | rfl | (simp only [firstArgMember]; rfl)) (wpAny_newObj_type ?_ (by size_fits)))) (by size_fits))
  simp only [raiseNew]
  refine wpAny_bind (wpAny_handled ?_)
  rw [show A.in1.handled = none from hh]
  refine wpAny_bind (wpAny_pure (wpAny_throw ?_))
  exact wpAny_bind (wpAny_isInstance (T := "StopIteration") (b := true) ⟨_, Heap.get?_push_size _ rfl, rfl⟩ isSubtype_stop (wpAny_pure (hQ _ (((Heap.SameBut.update ..).extBut.push _).push _))))
theorem walks_raw (hh : A.handled = none) (I d : Addr) (hne : d ≠ I) (es : Array DictEntry) (ep : Nat) :
    Walks prog w A I [I, d] [I] es.size (fun i v => ∃ e, es[i]? = some e ∧ v = e.key) (fun i h => h.IsKeyIter I d i es.size ep ∧ RawD h d es ep) where
  sub := fun b hb => by simp at hb; simp [hb]
  frame := fun _ _ _ st hk => ⟨st.1.at fun o e => hk I (by simp) o e, st.2.at fun o e => hk d (by simp) o e⟩
  item := fun i s Q E hi st hQ => by
    have hx : es[i]? = some es[i] := Array.getElem?_eq_getElem hi
    exact key_item st.1 st.2 hx fun h1 it' hs => hQ _ h1 s.toks ⟨_, hx, rfl⟩ ⟨it', st.2.at fun o e => (hs.2 d hne).trans e⟩ fun b o hb e => (hs.2 b (fun h => hb (by simp [h]))).trans e
  done := fun s Q E st hQ => key_end hh st.1 st.2 (Nat.le_refl _) fun h1 he => hQ h1 s.toks fun b o hb e => he b o (fun h => hb (by simp [h])) e
  self := fun _ _ _ _ st hQ => wpAny_pyIter_keyiter st.1 hQ
theorem hint_dict {d : Addr} {Q : Bool → Shared → Prop} (T : s.TypeIs (.ref d) "dict") (hq : Q false s) : wpAny (model prog w) A (Builtin.List.listLengthHint (.ref d)) Q E s := by
  unfold Builtin.List.listLengthHint
  refine wpAny_bind (wpAny_specialOf T F.slot_dict_len.lookup ?_)
  have e : splitId "dict.__len__" = some ("dict", "__len__") := by kernel_rfl
  simp only [e]
  have sub : isSubtype (.type "dict") (.type "dict") = pure true := by rw [isSubtype_type]; kernel_rfl
  exact wpAny_bind (wpAny_isInstance (T := "dict") (b := true) T sub (wpAny_bind (wpAny_typeOf T (wpAny_pure hq))))
theorem hint_vals {d : Addr} {Q : Bool → Shared → Prop} (T : s.TypeIs (.ref d) "dict_values") (hq : Q false s) : wpAny (model prog w) A (Builtin.List.listLengthHint (.ref d)) Q E s := by
  unfold Builtin.List.listLengthHint
  refine wpAny_bind (wpAny_specialOf T F.slot_dict_values_len.lookup ?_)
  have e : splitId "dict_values.__len__" = some ("dict_values", "__len__") := by kernel_rfl
  simp only [e]
  have sub : isSubtype (.type "dict_values") (.type "dict_values") = pure true := by rw [isSubtype_type]; kernel_rfl
  exact wpAny_bind (wpAny_isInstance (T := "dict_values") (b := true) T sub (wpAny_bind (wpAny_typeOf T (wpAny_pure hq))))
end
section
variable {prog : Program} {w : World} {A : Around} {s : Shared} {R : Result → Shared → Prop} {I : Addr} {fp wr : List Addr} {n : Nat} {P : Nat → Value → Prop} {St : Nat → Heap → Prop}
/-- the rest of list's making, where an iterator has come -/
theorem list_rest (W : Walks prog w A.in1 I fp wr n P St) (hn : n ≤ sizeLine) (S : Addr) (c : Nat) (hst : St 0 s.heap) (hS : S ∉ fp) (hl : s.heap.get? S = some { cls := .type "list", data := .seq #[] c })
    (hR : ∀ s1 acc c1, Moved (S :: wr) (fun a b => b = a) s s1 → s1.heap.get? S = some { cls := .type "list", dict := none, data := .seq acc c1, slots := #[] } → ItemsOf P acc n → R (.ok (.ret .none)) s1) :
    wpAny (model prog w) A.in1 (rule "list.extend.makes-room" >>= fun _ => Builtin.List.listTouch (.ref S) >>= fun _ => again (.builtin "list.extend.loop" ⟨[.ref S, .ref I, .none], []⟩))
      (fun fin s1 => match fin with | .done f => R (.ok f) s1 | .again c1 => c1.quiet = true ∧ codeAny (model prog w) A c1 R s1) (fun e s1 => R (.error e) s1) s := by
  refine wpAny_bind (wpAny_rule (wpAny_bind ?_))
  show wpAny (model prog w) A.in1 (updateSeq S (·.push .none) >>= fun _ => updateSeq S (·.pop)) _ _ _
  refine wpAny_bind (wpAny_updateSeq hl rfl ?_)
  have l2 := Heap.get?_update_self (Obj.mapSeq (·.push Value.none)) hl rfl
  refine wpAny_updateSeq (hz := by seq_fits) l2 rfl ?_
  have l3 := Heap.get?_update_self (Obj.mapSeq (·.pop)) l2 rfl
  have oth : ∀ b o, b ≠ S → s.heap.get? b = some o → ((s.heap.update S (Obj.mapSeq (·.push Value.none))).update S (Obj.mapSeq (·.pop))).get? b = some o := fun b o hb e => (Heap.get?_update_other _ _ (Ne.symm hb)).trans ((Heap.get?_update_other _ _ (Ne.symm hb)).trans e)
  refine wpAny_pure ⟨plainId_quiet F.plain_extend_loop _, codeAny_extend_loopS W.toS hn _ hS _ n 0 _ _ _ rfl (Nat.zero_le _) (W.toS.frame 0 s _ s.toks hst (Nat.le_refl _) fun b hb o e => oth b o (fun h => hS (h ▸ hb)) e) l3 (ItemsOf.nil P) fun s1 acc c1 hm h1 h2 => ?_⟩
  have m0 : Moved (S :: wr) (fun (a b : Array GenState) => b = a) s { s with heap := (s.heap.update S (Obj.mapSeq (·.push Value.none))).update S (Obj.mapSeq (·.pop)) } := ⟨fun b o hb e => oth b o (fun h => hb (by simp [h])) e, rfl, rfl, rfl, Nat.le_refl _⟩
  exact hR s1 acc c1 (Moved.trans (fun _ _ _ h1 h2 => h2.trans h1) m0 hm) h1 h2
end
section
variable {prog : Program} {w : World} {A : Around} {s : Shared} {R : Result → Shared → Prop}
/-- list's init: the new list is emptied, then it takes what comes -/
theorem list_init {S : Addr} {x : Value} (hl : s.heap.get? S = some { cls := .type "list", data := .seq #[] })
    (h : wpAny (model prog w) A.in1 (Builtin.List.listExtendWith (.ref S) x .none) (fun fin s1 => match fin with | .done f => R (.ok f) s1 | .again c1 => c1.quiet = true ∧ codeAny (model prog w) A c1 R s1) (fun e s1 => R (.error e) s1)
      { s with heap := s.heap.update S (Obj.mapSeq (fun _ => (#[] : Array Value))) }) :
    wpAny (model prog w) A.in1 (Builtin.«list.__init__» ⟨[.ref S, x], []⟩) (fun fin s1 => match fin with | .done f => R (.ok f) s1 | .again c1 => c1.quiet = true ∧ codeAny (model prog w) A c1 R s1) (fun e s1 => R (.error e) s1) s := by
  show wpAny (model prog w) A.in1 (do let was ← Builtin.List.listItems (.ref S); Builtin.List.listUpdate (.ref S) (fun _ => #[]); letGo was.toList.reverse; Builtin.List.listExtendWith (.ref S) x .none) _ _ s
  refine wpAny_bind ?_
  unfold Builtin.List.listItems
  refine wpAny_bind (wpAny_seqItems hl rfl (wpAny_pure ?_))
  show wpAny (model prog w) A.in1 (updateSeq S (fun _ => #[]) >>= fun _ => letGo (#[] : Array Value).toList.reverse >>= fun _ => Builtin.List.listExtendWith (.ref S) x .none) _ _ s
  exact wpAny_bind (wpAny_updateSeq hl rfl (wpAny_bind (wpAny_letGo h)))
end
section
variable {prog : Program} {w : World} {A : Around} {E : Value → Shared → Prop} {s : Shared}
theorem list_of_dict {d : Addr} {es : Array DictEntry} {ep : Nat} {Q : Value → Shared → Prop} (hh : A.handled = none) (hd : (d == sysModules) = false) (hm : RawD s.heap d es ep) (hn : es.size ≤ sizeLine)
    (hQ : ∀ h1 acc c tk, (∀ b o, s.heap.get? b = some o → h1.get? b = some o) → h1.get? s.heap.objs.size = some { cls := .type "list", dict := none, data := .seq acc c, slots := #[] } → ItemsOf (fun i v => ∃ e, es[i]? = some e ∧ v = e.key) acc es.size →
      Q (.ref s.heap.objs.size) { s with heap := h1, toks := tk }) : wpAny (model prog w) A (call (.type "list") [.ref d]) Q E s := by
  have dl : d < s.heap.objs.size := by obtain ⟨o, ho, _⟩ := hm; exact Heap.lt_size ho
  refine callType_codes (Q₁ := fun obj s1 => obj = .ref s.heap.objs.size ∧ s1 = { s with heap := s.heap.push { cls := .type "list", data := .seq #[] } }) F.called_list (F.typeCall_list_1 _) F.entry_list_init (code_list_new _ ⟨rfl, rfl⟩) fun obj s1 h1 => ?_
  obtain ⟨rfl, rfl⟩ := h1
  have hS : (s.heap.push { cls := .type "list", data := .seq #[] }).get? s.heap.objs.size = some { cls := .type "list", data := .seq #[] } := Heap.get?_push_size _ rfl
  refine ⟨⟨_, hS, rfl⟩, F.args_list_init_2 _ _, list_init hS ?_⟩
  have l2 := Heap.get?_update_self (Obj.mapSeq (fun _ => (#[] : Array Value))) hS rfl
  have old : ∀ b o, s.heap.get? b = some o → ((s.heap.push { cls := .type "list", data := .seq #[] }).update s.heap.objs.size (Obj.mapSeq (fun _ => (#[] : Array Value)))).get? b = some o := fun b o e =>
    (Heap.get?_update_other _ _ (fun z => Nat.lt_irrefl _ (z ▸ Heap.lt_size e))).trans (Heap.get?_push_of_some _ e)
  have hm2 := hm.at (h' := (s.heap.push { cls := .type "list", data := .seq #[] }).update s.heap.objs.size (Obj.mapSeq (fun _ => (#[] : Array Value)))) fun o e => old d o e
  have zu : ((s.heap.push { cls := .type "list", data := .seq #[] }).update s.heap.objs.size (Obj.mapSeq (fun _ => (#[] : Array Value)))).objs.size = s.heap.objs.size + 1 := by rw [Heap.size_update, Heap.size_push]
  generalize (s.heap.push { cls := .type "list", data := .seq #[] }).update s.heap.objs.size (Obj.mapSeq (fun _ => (#[] : Array Value))) = g at l2 old hm2 zu
  have T : ({ s with heap := g } : Shared).TypeIs (.ref d) "dict" := hm2.typeIs
  unfold Builtin.List.listExtendWith
  refine wpAny_bind (wpAny_typeOf T ?_)
  have sr : Builtin.List.listSameRef (.ref s.heap.objs.size) (.ref d) = false := by
    have : s.heap.objs.size ≠ d := Ne.symm (Nat.ne_of_lt dl)
    simp [Builtin.List.listSameRef, this]
  have t1 : (Value.type "dict" == Value.type "list") = false := by decide
  have t2 : (Value.type "dict" == Value.type "tuple") = false := by decide
  simp only [sr, t1, t2, Bool.or_false, Bool.false_eq_true, if_false]
  refine wpAny_bind (iter_raw (s := { s with heap := g }) hd hm2 ?_)
  have hm3 := hm2.at (h' := g.push { cls := .type "dict_keyiterator", data := .fields #[.ref d, .int 0 0, .int es.size 0, .int ep 0] }) fun o e => Heap.get?_push_of_some _ e
  refine wpAny_bind (wpAny_holding (hint_dict (s := { s with heap := g.push { cls := .type "dict_keyiterator", data := .fields #[.ref d, .int 0 0, .int es.size 0, .int ep 0] } }) hm3.typeIs ?_))
  have dI : d ≠ g.objs.size := by rw [zu]; exact Nat.ne_of_lt (Nat.lt_succ_of_lt dl)
  have SI : s.heap.objs.size ∉ [g.objs.size, d] := by
    rw [zu]
    intro z
    simp only [List.mem_cons, List.not_mem_nil, or_false] at z
    rcases z with z | z
    · exact absurd z (Nat.ne_of_lt (Nat.lt_succ_self _))
    · exact absurd z (Ne.symm (Nat.ne_of_lt dl))
  refine list_rest (A := A.in1) (s := { s with heap := g.push { cls := .type "dict_keyiterator", data := .fields #[.ref d, .int 0 0, .int es.size 0, .int ep 0] } }) (walks_raw (A := A.in1.in1) hh g.objs.size d dI es ep) hn _ _ ⟨⟨_, Heap.get?_push_size _ rfl, rfl, rfl⟩, hm3⟩ SI (Heap.get?_push_of_some _ l2) fun s2 acc c hmv h2 h3 => ?_
  obtain ⟨hp, ge, dr, tk, os⟩ := s2
  obtain ⟨m1, m2, m3, m4, m5⟩ := hmv
  obtain rfl : ge = s.gens := m2
  obtain rfl : dr = s.drawn := m3
  obtain rfl : os = s.os := m4
  refine ⟨rfl, hQ hp acc c tk (fun b o e => m1 b o ?_ (Heap.get?_push_of_some _ (old b o e))) h2 h3⟩
  intro z
  have bl := Heap.lt_size e
  simp only [List.mem_cons, List.not_mem_nil, or_false] at z
  rcases z with z | z
  · exact absurd bl (by rw [z]; exact Nat.lt_irrefl _)
  · have z : b = g.objs.size := z
    rw [z, zu] at bl
    exact absurd bl (Nat.not_lt_of_le (Nat.le_succ _))
theorem list_of_vals {κ : Type} [DecidableEq κ] {knd : KeyKind prog w κ} {d v : Addr} {kvs : List (κ × Value)} {Q : Value → Shared → Prop} (hh : A.handled = none) (hv : s.heap.IsValuesView v d) (hm : s.heap.DictOf knd d kvs) (hn : kvs.length ≤ sizeLine)
    (hQ : ∀ h1 acc c tk, (∀ b o, s.heap.get? b = some o → h1.get? b = some o) → h1.get? s.heap.objs.size = some { cls := .type "list", dict := none, data := .seq acc c, slots := #[] } → ItemsOf (fun i v => ∃ k, kvs[i]? = some (k, v)) acc kvs.length →
      Q (.ref s.heap.objs.size) { s with heap := h1, toks := tk }) : wpAny (model prog w) A (call (.type "list") [.ref v]) Q E s := by
  obtain ⟨ep, hm⟩ := hm.dictAt
  have dl : d < s.heap.objs.size := hm.lt_size
  have vl : v < s.heap.objs.size := by obtain ⟨o, ho, _⟩ := hv; exact Heap.lt_size ho
  refine callType_codes (Q₁ := fun obj s1 => obj = .ref s.heap.objs.size ∧ s1 = { s with heap := s.heap.push { cls := .type "list", data := .seq #[] } }) F.called_list (F.typeCall_list_1 _) F.entry_list_init (code_list_new _ ⟨rfl, rfl⟩) fun obj s1 h1 => ?_
  obtain ⟨rfl, rfl⟩ := h1
  have hS : (s.heap.push { cls := .type "list", data := .seq #[] }).get? s.heap.objs.size = some { cls := .type "list", data := .seq #[] } := Heap.get?_push_size _ rfl
  refine ⟨⟨_, hS, rfl⟩, F.args_list_init_2 _ _, list_init hS ?_⟩
  have l2 := Heap.get?_update_self (Obj.mapSeq (fun _ => (#[] : Array Value))) hS rfl
  have old : ∀ b o, s.heap.get? b = some o → ((s.heap.push { cls := .type "list", data := .seq #[] }).update s.heap.objs.size (Obj.mapSeq (fun _ => (#[] : Array Value)))).get? b = some o := fun b o e =>
    (Heap.get?_update_other _ _ (fun z => Nat.lt_irrefl _ (z ▸ Heap.lt_size e))).trans (Heap.get?_push_of_some _ e)
  have hm2 := hm.keep old
  have hv2 : ((s.heap.push { cls := .type "list", data := .seq #[] }).update s.heap.objs.size (Obj.mapSeq (fun _ => (#[] : Array Value)))).IsValuesView v d := let ⟨o, ho, r⟩ := hv; ⟨o, old v o ho, r⟩
  have zu : ((s.heap.push { cls := .type "list", data := .seq #[] }).update s.heap.objs.size (Obj.mapSeq (fun _ => (#[] : Array Value)))).objs.size = s.heap.objs.size + 1 := by rw [Heap.size_update, Heap.size_push]
  generalize (s.heap.push { cls := .type "list", data := .seq #[] }).update s.heap.objs.size (Obj.mapSeq (fun _ => (#[] : Array Value))) = g at l2 old hm2 hv2 zu
  have T : ({ s with heap := g } : Shared).TypeIs (.ref v) "dict_values" := hv2.typeIs
  unfold Builtin.List.listExtendWith
  refine wpAny_bind (wpAny_typeOf T ?_)
  have sr : Builtin.List.listSameRef (.ref s.heap.objs.size) (.ref v) = false := by
    have : s.heap.objs.size ≠ v := Ne.symm (Nat.ne_of_lt vl)
    simp [Builtin.List.listSameRef, this]
  have t1 : (Value.type "dict_values" == Value.type "list") = false := by decide
  have t2 : (Value.type "dict_values" == Value.type "tuple") = false := by decide
  simp only [sr, t1, t2, Bool.or_false, Bool.false_eq_true, if_false]
  refine wpAny_bind (wpAny_pyIter_values (s := { s with heap := g }) hv2 hm2 ?_)
  have hm3 := hm2.push { cls := .type "dict_valueiterator", data := .fields #[.ref d, .int 0 0, .int kvs.length 0, .int ep 0] }
  have hv3 : (g.push { cls := .type "dict_valueiterator", data := .fields #[.ref d, .int 0 0, .int kvs.length 0, .int ep 0] }).IsValuesView v d := let ⟨o, ho, r⟩ := hv2; ⟨o, Heap.get?_push_of_some _ ho, r⟩
  refine wpAny_bind (wpAny_holding (hint_vals (s := { s with heap := g.push { cls := .type "dict_valueiterator", data := .fields #[.ref d, .int 0 0, .int kvs.length 0, .int ep 0] } }) hv3.typeIs ?_))
  have dI : d ≠ g.objs.size := by rw [zu]; exact Nat.ne_of_lt (Nat.lt_succ_of_lt dl)
  have SI : s.heap.objs.size ∉ [g.objs.size, d] := by
    rw [zu]
    intro z
    simp only [List.mem_cons, List.not_mem_nil, or_false] at z
    rcases z with z | z
    · exact absurd z (Nat.ne_of_lt (Nat.lt_succ_self _))
    · exact absurd z (Ne.symm (Nat.ne_of_lt dl))
  refine list_rest (A := A.in1) (s := { s with heap := g.push { cls := .type "dict_valueiterator", data := .fields #[.ref d, .int 0 0, .int kvs.length 0, .int ep 0] } }) (Walks.dictValues (A := A.in1.in1) hh g.objs.size d dI kvs ep) hn _ _ ⟨⟨_, Heap.get?_push_size _ rfl, rfl, rfl⟩, hm3⟩ SI (Heap.get?_push_of_some _ l2) fun s2 acc c hmv h2 h3 => ?_
  obtain ⟨hp, ge, dr, tk, os⟩ := s2
  obtain ⟨m1, m2, m3, m4, m5⟩ := hmv
  obtain rfl : ge = s.gens := m2
  obtain rfl : dr = s.drawn := m3
  obtain rfl : os = s.os := m4
  refine ⟨rfl, hQ hp acc c tk (fun b o e => m1 b o ?_ (Heap.get?_push_of_some _ (old b o e))) h2 h3⟩
  intro z
  have bl := Heap.lt_size e
  simp only [List.mem_cons, List.not_mem_nil, or_false] at z
  rcases z with z | z
  · exact absurd bl (by rw [z]; exact Nat.lt_irrefl _)
  · have z : b = g.objs.size := z
    rw [z, zu] at bl
    exact absurd bl (Nat.not_lt_of_le (Nat.le_succ _))
end
end L2

/-! list(d), list(d.values()) as rules. -/
namespace L2
open PySem PySem.Spec PyProof.Rows
theorem Vals.of_get : ∀ {xs : List V} {us : List Value}, xs.length = us.length → (∀ (i : Nat) x u, xs[i]? = some x → us[i]? = some u → RelV x u) → Vals xs us
  | [], [], _, _ => .nil
  | x :: xs, u :: us, hl, h => .cons (h 0 x u rfl rfl) (Vals.of_get (by simpa using hl) fun i y v e1 e2 => h (i + 1) y v (by simpa using e1) (by simpa using e2))
  | [], _ :: _, hl, _ => by simp at hl
  | _ :: _, [], hl, _ => by simp at hl
theorem key_rel {k : Key} {v : Value} (h : keyIs k v = true) : RelV (kV k) v := by
  rcases keyIs_shape h with ⟨i, t, rfl, rfl⟩ | ⟨x, t, rfl, rfl⟩
  · exact ⟨t, rfl⟩
  · exact ⟨t, rfl⟩
theorem Paired.get' {α β : Type} {F : α → β → Prop} : ∀ {l₁ : List α} {l₂ : List β} {i : Nat} {a : α}, Paired F l₁ l₂ → l₁[i]? = some a → ∃ b, l₂[i]? = some b ∧ F a b
  | _, _, _, _, .nil, e => by simp at e
  | _, _, 0, _, .cons r _, e => by simp at e; subst e; exact ⟨_, rfl, r⟩
  | _, _, i + 1, a, .cons _ t, e => by
    obtain ⟨u, h1, h2⟩ := Paired.get' (i := i) (a := a) t (by simpa using e)
    exact ⟨u, by simpa using h1, h2⟩
section
variable {X : Cx}
/-- a list just made out of what was walked -/
theorem list_fin {pins : List (Addr × Obj)} {σ : St} {H : Hp} {s : Shared} {Q : VK} {ys : List V} {h1 : Heap} {acc : Array Value} {c tk : Nat} (I : Inv X pins σ H s) (kp : ∀ b o, s.heap.get? b = some o → h1.get? b = some o)
    (e : h1.get? s.heap.objs.size = some { cls := .type "list", dict := none, data := .seq acc c, slots := #[] }) (r : Vals ys acc.toList) (hz : ys.length ≤ sizeLine) (q : ∀ l, H l = none → Q (.ref l) (upd H l (.lst ys))) : EP X pins σ Q (.ref s.heap.objs.size) { s with heap := h1, toks := tk } :=
  ⟨.ref s.heap.objs.size, _, I.laid (t' := tk) (o := .lst ys) kp (Nat.le_refl _) ⟨hz, acc.toList, c, r, by simpa using e⟩, rfl, q _ (I.hok.fresh (Nat.le_refl _))⟩
theorem call_list_dK (hc : X.calm = true) : CallR X (.type "list") (fun xs H Q => ∃ p kvs, xs = [V.ref p] ∧ H p = some (.dK kvs) ∧ ∀ l, H l = none → Q (.ref l) (upd H l (.lst (kvs.map fun kv => kV kv.1)))) := by
  intro pins s σ H xs us Q I r h
  obtain ⟨p, kvs, rfl, hp, q⟩ := h
  obtain ⟨u, rfl, ru⟩ := vals1 r
  cases ru
  obtain ⟨z, hd, vs, rel, o, es, ep, e, ex, dt, kk, pr, nd⟩ := I.hok p _ hp
  have l1 : kvs.length = vs.length := Paired.length rel
  have l2 : es.size = vs.length := by rw [← pr.length]; simp
  refine list_of_dict (I.ok.hd hc) hd ⟨o, e, ex, dt⟩ (by omega) fun h1 acc c tk kp el it => list_fin I kp el (Vals.of_get ?_ fun i x v ex ev => ?_) (by rw [List.length_map]; exact z) q
  · have := it.1
    simp only [List.length_map, Array.length_toList]
    omega
  · rw [List.getElem?_map] at ex
    cases ek : kvs[i]? with
    | none => rw [ek] at ex; cases ex
    | some kv =>
      rw [ek] at ex
      cases ex
      obtain ⟨en, hen, rfl⟩ := it.2 i v (by simpa using ev)
      obtain ⟨w', hw, rw'⟩ := Paired.get' rel ek
      have := (pr.get? (e := en) (k := w'.1) (v := w'.2) (by simpa using hen) (by rw [hw])).1
      have e1 : kv.1 = w'.1 := rw'.1
      show RelV (kV kv.1) en.key
      rw [e1]
      exact key_rel this
/-- a view of a dict's values -/
def vwO (p d : Addr) : HO := .ext fun h => h.IsValuesView p d
theorem mt_values : MtR X "dict.values" (fun x xs H Q => ∃ d kvs, x = V.ref d ∧ xs = [] ∧ H d = some (.dK kvs) ∧ ∀ p, H p = none → Q (.ref p) (upd H p (vwO p d))) := by
  intro pins s σ H x xs v us Q I rx rs h
  obtain ⟨d, kvs, rfl, rfl, hd, q⟩ := h
  cases rx
  cases rs
  obtain ⟨z, hs, vs, rel, dd⟩ := I.hok d _ hd
  refine call_meetsIn PySem.F.slot_dict_values dd.typeIs PySem.F.entry_dict_values (PySem.F.args_dict_values_1 _) (meets_dict_values (mixKind X.prog X.w) d hs) ⟨⟨vs, dd⟩, ?_⟩
  refine ⟨.ref s.heap.objs.size, _, I.laid (t' := s.toks) (a := s.heap.objs.size) (o := vwO s.heap.objs.size d) (fun b u e => Heap.get?_push_of_some _ e) (Nat.le_refl _) ⟨⟨_, Heap.get?_push_size _ rfl, rfl, rfl⟩, ⟨_, Heap.get?_push_size _ rfl⟩, fun h1 h2 ⟨o, ho, r⟩ k => ⟨o, k o ho, r⟩⟩, rfl, q _ (I.hok.fresh (Nat.le_refl _))⟩
theorem call_list_vw (hc : X.calm = true) : CallR X (.type "list") (fun xs H Q => ∃ p d kvs, xs = [V.ref p] ∧ H p = some (vwO p d) ∧ H d = some (.dK kvs) ∧ ∀ l, H l = none → Q (.ref l) (upd H l (.lst (kvs.map (·.2))))) := by
  intro pins s σ H xs us Q I r h
  obtain ⟨p, d, kvs, rfl, hp, hd, q⟩ := h
  obtain ⟨u, rfl, ru⟩ := vals1 r
  cases ru
  obtain ⟨z, hs, vs, rel, dd⟩ := I.hok d _ hd
  obtain ⟨hv, _, _⟩ := I.hok p _ hp
  have l1 : kvs.length = vs.length := Paired.length rel
  refine list_of_vals (I.ok.hd hc) hv dd (by omega) fun h1 acc c tk kp el it => list_fin I kp el (Vals.of_get ?_ fun i x v ex ev => ?_) (by rw [List.length_map]; exact z) q
  · have := it.1
    simp only [List.length_map, Array.length_toList]
    omega
  · rw [List.getElem?_map] at ex
    cases ek : kvs[i]? with
    | none => rw [ek] at ex; cases ex
    | some kv =>
      rw [ek] at ex
      cases ex
      obtain ⟨k, hk⟩ := it.2 i v (by simpa using ev)
      obtain ⟨w', hw, rw'⟩ := Paired.get' rel ek
      rw [hk] at hw
      cases hw
      exact rw'.2
end
end L2

/-! a dict of the module's, its values tuples of texts; methods by promise; a comprehension over zip. -/
namespace L2
open PySem PySem.Spec PyProof.Rows
section
variable {X : Cx} {pins : List (Addr × Obj)} {σ : St} {H : Hp} {s : Shared}
end
/-! ### x in, not in, D[x] for it -/
section
variable {X : Cx} {a : Addr} {l : List (Str × List V)} {g : Str} {e : Expr} {ty : TE} {p pos : Pos}
end
/-! ### methods by promise -/
section
variable {P : Program} {w : World} {K : PySem.W.Frag} {mg : Str → Option Value} {base : Heap}
end
section
variable {X : Cx} {k : Nat} {ps : List Str} {sp : Sp} {C : Addr} {m x : Str} {p pos apos : Pos} {o e : Expr} {es : List Expr} {t : TA} {ta : TE}
end
/-! ### [e for x, y in zip(..)] -/
end L2
namespace L2
open PySem PySem.Spec PyProof.Rows
section
variable {X : Cx} (K : PySem.W.Frag) (h : X.K = K)
include h
end
end L2


namespace L2
open PySem PySem.Spec PyProof.Rows
end L2

/-! blanks: a text times an int. -/
namespace L2
open PySem PySem.Spec PyProof.Rows
section
variable {X : Cx}
end
end L2

/-! A comprehension with any target; a op b op c op d; a sign times an int. -/
namespace L2
open PySem PySem.Spec PyProof.Rows
/-- one turn more of n -/
def CStep (n i : Nat) (p : Prop) : Prop := ∃ m', m' < n - i ∧ m' = n - (i + 1) ∧ i + 1 ≤ n ∧ p
theorem cstep {n i : Nat} {p : Prop} (h : i < n) (q : p) : CStep n i p := ⟨n - (i + 1), by omega, rfl, h, q⟩
theorem get_lt {α : Type} {xs : List α} {i : Nat} {x : α} (h : xs[i]? = some x) : i < xs.length := (List.getElem?_eq_some_iff.mp h).1
theorem comp_gen {J : It} {xs : List V} {P : Hp → Prop} {own : List Str} {ix : List Nat} {g : TG} {tc : TT} {te : TE} {σ : St} {H1 : Hp} {D : Addr} {Q : VK} (F : Fix J xs P)
    (R : Nat → St → List V → Hp → Prop) (h0 : R 0 (st0 own ix σ) [] (upd H1 D (.lst [])))
    (hP : ∀ i σ' ys H', R i σ' ys H' → P H' ∧ H' D = some (.lst ys) ∧ ys.length ≤ i) (hz : xs.length ≤ sizeLine)
    (hs : ∀ i x σ' ys H', xs[i]? = some x → R i σ' ys H' → g x σ' H' fun σ3 H3 => tc σ3 H3 fun b H4 =>
      if b = true then te σ3 H4 fun y H5 => H5 D = some (.lst ys) ∧ CStep xs.length i (R (i + 1) σ3 (ys ++ [y]) (upd H5 D (.lst (ys ++ [y])))) else H4 D = some (.lst ys) ∧ CStep xs.length i (R (i + 1) σ3 ys H4))
    (hQ : ∀ σ' ys H', R xs.length σ' ys H' → Q (.ref D) H') : CompW own ix J g tc te σ H1 D Q := by
  refine ⟨fun i m σ' ys H' => m = xs.length - i ∧ i ≤ xs.length ∧ R i σ' ys H', ⟨xs.length, by simp, Nat.zero_le _, h0⟩, ?_⟩
  rintro i m σ' ys H' ⟨rfl, hi, r⟩
  obtain ⟨p1, p2, p3⟩ := hP i σ' ys H' r
  refine ⟨p2, ?_⟩
  by_cases hlt : i < xs.length
  · refine .inr ⟨F.go i _ p1 hlt, by omega, fun x H2 y => ?_⟩
    obtain ⟨e, y'⟩ := F.yld i _ x H2 p1 y
    subst e
    exact hs i x σ' ys _ (y' hlt) r
  · have e : i = xs.length := by omega
    subst e
    exact .inl ⟨F.stop _ _ p1 (Nat.le_refl _), hQ σ' ys H' r⟩
section
variable {X : Cx} {a b c d : Expr} {ta tb tc td : TE} {pos : Pos}
end
end L2

/-! MATHEMATICS of names and numbers: texts by their codes. -/
namespace Dm
open PySem PySem.NumText
abbrev co (x : Str) : List Nat := x.cps.toList
theorem co_len (x : Str) : (co x).length = x.length := by simp [Str.length]
theorem ext_co {x y : Str} (h : co x = co y) : x = y := by
  cases x with
  | mk a => cases y with
    | mk b =>
      have : a = b := by
        have h : a.toList = b.toList := h
        exact Array.toList_inj.mp h
      rw [this]
theorem co_mk (l : List Nat) : co ⟨l.toArray⟩ = l := by simp [co]
def sIx' (n d : Nat) : Option Int → Nat
  | none => d
  | some i => if i < 0 then (max (i + (n : Int)) 0).toNat else min i.toNat n
theorem pickN (l : List Nat) (i k : Nat) : ((List.range k).map fun m => i + m).filterMap (fun j => l[j]?) = (l.drop i).take k := by
  induction k generalizing i with
  | zero => simp
  | succ k ih =>
    rw [List.range_succ_eq_map, List.map_cons, List.map_map]
    have e : ((List.range k).map ((fun m => i + m) ∘ Nat.succ)) = (List.range k).map fun m => (i + 1) + m := by
      apply List.map_congr_left
      intro a _
      simp only [Function.comp, Nat.succ_eq_add_one]; omega
    rw [e, List.filterMap_cons]
    simp only [Nat.add_zero]
    rw [ih (i + 1)]
    cases h : l[i]? with
    | none =>
      have hl : l.length ≤ i := List.getElem?_eq_none_iff.mp h
      rw [List.drop_eq_nil_of_le hl, List.drop_eq_nil_of_le (by omega)]; simp
    | some v =>
      obtain ⟨hi, e⟩ := List.getElem?_eq_some_iff.mp h
      rw [List.drop_eq_getElem_cons hi, List.take_succ_cons, e]
def clipS (n : Nat) (d : Int) : Option Int → Int
  | none => d
  | some i => max 0 (min (if i < 0 then i + (n : Int) else i) n)
theorem clipS_eq (n d : Nat) (hd : d ≤ n) (o : Option Int) : clipS n d o = ((sIx' n d o : Nat) : Int) := by
  cases o with
  | none => rfl
  | some i => simp only [sIx', clipS]; split <;> omega
theorem sIx'_le (n d : Nat) (hd : d ≤ n) (o : Option Int) : sIx' n d o ≤ n := by
  cases o with
  | none => exact hd
  | some i => simp only [sIx']; split <;> omega
theorem indices_eq (lo hi : Option Int) (n : Nat) : Builtin.Str.strSliceIndices lo hi 1 n = (List.range (sIx' n n hi - sIx' n 0 lo)).map fun m => sIx' n 0 lo + m := by
  have : Builtin.Str.strSliceIndices lo hi 1 n = sliceRange (clipS n 0 lo) (clipS n n hi) 1 := by
    cases lo <;> cases hi <;> rfl
  rw [this, show (0 : Int) = ((0 : Nat) : Int) from rfl, clipS_eq n 0 (Nat.zero_le _), clipS_eq n n (Nat.le_refl _)]
  unfold sliceRange
  simp only [show (1 : Int) > 0 by decide, if_true, Int.one_mul, Int.ediv_one]
  have ec : (if ((sIx' n 0 lo : Nat) : Int) < ((sIx' n n hi : Nat) : Int) then ((sIx' n n hi : Nat) : Int) - ((sIx' n 0 lo : Nat) : Int) + 1 - 1 else 0).toNat = sIx' n n hi - sIx' n 0 lo := by
    split <;> omega
  rw [ec]
  apply List.map_congr_left
  intro a _
  omega
theorem slice_co (x : Str) (lo hi : Option Int) : co (Txt.slice x lo hi) = ((co x).drop (sIx' x.length 0 lo)).take (sIx' x.length x.length hi - sIx' x.length 0 lo) := by
  have key : (Builtin.Str.strSliceIndices lo hi 1 x.length).filterMap (x.cps[·]?) = ((co x).drop (sIx' x.length 0 lo)).take (sIx' x.length x.length hi - sIx' x.length 0 lo) := by
    rw [indices_eq, ← pickN (co x)]
    congr 1
    funext j
    simp [co]
  unfold Txt.slice
  split
  · rename_i h
    have hl : (Builtin.Str.strSliceIndices lo hi 1 x.length).length = x.length := by
      simpa using h
    rw [indices_eq, List.length_map, List.length_range] at hl
    have h1 := sIx'_le x.length x.length (Nat.le_refl _) hi
    have h2 : sIx' x.length 0 lo = 0 ∨ x.length = 0 := by omega
    have h3 := co_len x
    rcases h2 with h2 | h2
    · rw [hl, h2, List.drop_zero, List.take_of_length_le (by omega)]
    · have : co x = [] := List.length_eq_zero_iff.mp (by omega)
      rw [this]; simp
  · rw [co_mk]; exact key

/-! ### names -/
def NAMES : Str := "abcdefghijklmnopqrstuvwxyz0123456789-"
def mades (l : List Nat) (sg : Str) : Bool := l.all fun c => decide (c ∈ co sg)
def nameB (x : Str) : Bool := decide (1 ≤ x.length) && decide (x.length ≤ 12) && mades (co x) NAMES

/-! ### numbers -/
/-! ### str(n) -/
/-! ### the law's own reckoning -/
end Dm

/-! MATHEMATICS of the drawn names. -/
namespace Dm
open PySem PySem.NumText
def cellI (ns : List Int) (i : Int) : Int := ns.getD i.toNat 0
def pt (c k m : Int) : Int := (c % 99991 + 17) * (48271 + 7919 * k) % 65537 * (k + 3) % 8191 % m
theorem pt_bd (c k m : Int) (h : 0 < m) : 0 ≤ pt c k m ∧ pt c k m < m := ⟨Int.emod_nonneg _ (by omega), Int.emod_lt_of_pos _ h⟩
/-- the number of the sign at j of the k-th name -/
def nmI (one at' : Int) (k j : Nat) : Int := if (j : Int) = at' then pt one ((j : Int) + 2) 37 + k else pt one ((j : Int) + 2) 37
def nmN (one at' : Int) (k j : Nat) : Nat := (co NAMES).getD (nmI one at' k j % 37).toNat 0
def nmC (one at' : Int) (k size : Nat) : List Nat := (List.range size).map (nmN one at' k)
theorem names_len : (co NAMES).length = 37 := by decide +kernel
theorem names_nd : (co NAMES).Nodup := by decide +kernel
theorem ix37 (z : Int) : 0 ≤ z % 37 ∧ (z % 37).toNat < (co NAMES).length := by
  have h1 := Int.emod_nonneg z (show (37 : Int) ≠ 0 by decide)
  have h2 := Int.emod_lt_of_pos z (show (0 : Int) < 37 by decide)
  rw [names_len]
  omega
theorem nmN_mem (one at' : Int) (k j : Nat) : nmN one at' k j ∈ co NAMES := by
  unfold nmN
  have h := (ix37 (nmI one at' k j)).2
  rw [List.getD_eq_getElem?_getD, List.getElem?_eq_getElem h]
  exact List.getElem_mem h
theorem names_inj {i j : Nat} (hi : i < (co NAMES).length) (hj : j < (co NAMES).length) (h : (co NAMES).getD i 0 = (co NAMES).getD j 0) : i = j := by
  rw [List.getD_eq_getElem?_getD, List.getD_eq_getElem?_getD, List.getElem?_eq_getElem hi, List.getElem?_eq_getElem hj] at h
  have h : (co NAMES)[i] = (co NAMES)[j] := h
  exact (List.getElem_inj names_nd).mp h
theorem nmC_len (one at' : Int) (k size : Nat) : (nmC one at' k size).length = size := by unfold nmC; simp
theorem nmC_get {one at' : Int} {k size j : Nat} (h : j < size) : (nmC one at' k size)[j]? = some (nmN one at' k j) := by
  unfold nmC
  rw [List.getElem?_map, List.getElem?_range h]; rfl
theorem nmC_inj {one at' : Int} {k k' size : Nat} (h0 : 0 ≤ at') (h1 : at' < size) (hk : k < 9) (hk' : k' < 9) (h : nmC one at' k size = nmC one at' k' size) : k = k' := by
  have hj : at'.toNat < size := by omega
  have e1 := nmC_get (one := one) (at' := at') (k := k) hj
  have e2 := nmC_get (one := one) (at' := at') (k := k') hj
  rw [h, e2] at e1
  have e : nmN one at' k' at'.toNat = nmN one at' k at'.toNat := Option.some.inj e1
  unfold nmN at e
  have q := names_inj (ix37 _).2 (ix37 _).2 e
  have a1 := (ix37 (nmI one at' k' at'.toNat)).1
  have a2 := (ix37 (nmI one at' k at'.toNat)).1
  have q2 : nmI one at' k' at'.toNat % 37 = nmI one at' k at'.toNat % 37 := by omega
  unfold nmI at q2
  rw [if_pos (Int.toNat_of_nonneg h0), if_pos (Int.toNat_of_nonneg h0)] at q2
  omega
def strOf (l : List Nat) : Str := ⟨l.toArray⟩
theorem co_strOf (l : List Nat) : co (strOf l) = l := co_mk l
theorem strOf_inj {l m : List Nat} (h : strOf l = strOf m) : l = m := by
  have := congrArg co h
  rwa [co_strOf, co_strOf] at this
theorem nameB_of {x : Str} (h1 : 1 ≤ (co x).length) (h2 : (co x).length ≤ 12) (h3 : ∀ c ∈ co x, c ∈ co NAMES) : nameB x = true := by
  rw [co_len] at h1 h2
  unfold nameB
  rw [decide_eq_true h1, decide_eq_true h2]
  show mades (co x) NAMES = true
  exact List.all_eq_true.mpr fun c hc => decide_eq_true (h3 c hc)
theorem nmC_mem {one at' : Int} {k size c : Nat} (h : c ∈ nmC one at' k size) : c ∈ co NAMES := by
  obtain ⟨j, _, rfl⟩ := List.mem_map.mp h
  exact nmN_mem ..
/-- the names, in the first way and in the second -/
def names1 (one at' : Int) (size : Nat) : List Str := (List.range 9).map fun k => strOf (nmC one at' k size)
def names2 (one at' : Int) (size : Nat) : List Str := (List.range 9).map fun k => strOf ((nmC one at' 0 size).take (size - k))
theorem nodup_map_range {f : Nat → Str} {n : Nat} (h : ∀ i j, i < n → j < n → f i = f j → i = j) : ((List.range n).map f).Nodup := by
  unfold List.Nodup
  rw [List.pairwise_map]
  refine List.Pairwise.imp_of_mem (R := (· ≠ ·)) (fun {a b} ha hb hab e => ?_) List.nodup_range
  exact hab (h a b (List.mem_range.mp ha) (List.mem_range.mp hb) e)
theorem names1_ok {one at' : Int} {size : Nat} (h0 : 0 ≤ at') (h1 : at' < size) (h2 : 1 ≤ size) (h3 : size ≤ 12) : (names1 one at' size).Nodup ∧ (∀ x ∈ names1 one at' size, nameB x = true) ∧ (names1 one at' size).length = 9 := by
  refine ⟨nodup_map_range fun i j hi hj e => nmC_inj h0 h1 hi hj (strOf_inj e), fun x hx => ?_, by unfold names1; simp⟩
  obtain ⟨k, _, rfl⟩ := List.mem_map.mp hx
  exact nameB_of (by rw [co_strOf, nmC_len]; exact h2) (by rw [co_strOf, nmC_len]; exact h3) fun c hc => by rw [co_strOf] at hc; exact nmC_mem hc
theorem names2_ok {one at' : Int} {size : Nat} (h2 : 9 ≤ size) (h3 : size ≤ 12) : (names2 one at' size).Nodup ∧ (∀ x ∈ names2 one at' size, nameB x = true) ∧ (names2 one at' size).length = 9 := by
  refine ⟨nodup_map_range fun i j hi hj e => ?_, fun x hx => ?_, by unfold names2; simp⟩
  · have e := congrArg List.length (strOf_inj e)
    rw [List.length_take, List.length_take, nmC_len] at e
    omega
  · obtain ⟨k, hk, rfl⟩ := List.mem_map.mp hx
    have hk := List.mem_range.mp hk
    refine nameB_of ?_ ?_ fun c hc => ?_
    · rw [co_strOf, List.length_take, nmC_len]; omega
    · rw [co_strOf, List.length_take, nmC_len]; omega
    · rw [co_strOf] at hc
      exact nmC_mem (List.mem_of_mem_take hc)
end Dm
namespace Dm
open PySem PySem.NumText
theorem emp_is : (Str.ofString "" : Str) = strOf [] := by decide +kernel
theorem app_strOf (l m : List Nat) : strOf l ++ strOf m = strOf (l ++ m) := by
  apply ext_co
  show (l.toArray ++ m.toArray).toList = (l ++ m).toArray.toList
  simp
theorem len_strOf (l : List Nat) : (strOf l).length = l.length := by show l.toArray.size = _; simp
theorem slice_take (l : List Nat) (z : Int) (h0 : 0 ≤ z) (h1 : z ≤ l.length) : Txt.slice (strOf l) none (some z) = strOf (l.take z.toNat) := by
  apply ext_co
  rw [slice_co, co_strOf, co_strOf, len_strOf]
  simp only [sIx']
  rw [if_neg (by omega), List.drop_zero, Nat.sub_zero]
  congr 1
  omega
end Dm

/-! TELLINGS as data: rows of words. -/
namespace Dm
open PySem PySem.NumText L2
def KINDS : List Str := ["over", "cuts", "fills", "same"]
def YearOk (z : Int) : Prop := z.natAbs < 10 ^ 60
/-- a tie between units of us -/
inductive TieOk (us : List Str) : List V → Prop where
  | plain {kd x y : Str} (hk : kd ∈ KINDS) (hx : x ∈ us) (hy : y ∈ us) : TieOk us [.str kd, .str x, .str y]
  | after {x y : Str} {n : Int} (hx : x ∈ us) (hy : y ∈ us) (h0 : 0 ≤ n) (h1 : YearOk n) : TieOk us [.str "after", .str x, .str y, .int n]
theorem name_le {x : Str} (h : nameB x = true) : x.length ≤ 12 := by
  unfold nameB at h
  simp only [Bool.and_eq_true, decide_eq_true_eq] at h
  exact h.1.2
theorem kinds_le : ∀ k ∈ KINDS, k.length ≤ 100 := by decide +kernel
theorem TieOk.words {us : List Str} {ws : List V} (h : TieOk us ws) (hu : ∀ x ∈ us, nameB x = true) : (∀ v ∈ ws, Wd v) ∧ ws.length ≤ 5 ∧ ∃ x r, ws = .str x :: r := by
  have nm : ∀ x ∈ us, Wd (.str x) := fun x hx => .inl ⟨x, rfl, Nat.le_trans (name_le (hu x hx)) (by decide)⟩
  cases h with
  | plain hk hx hy =>
    refine ⟨fun v hv => ?_, by simp, _, _, rfl⟩
    simp only [List.mem_cons, List.not_mem_nil, or_false] at hv
    rcases hv with rfl | rfl | rfl
    · exact .inl ⟨_, rfl, kinds_le _ hk⟩
    · exact nm _ hx
    · exact nm _ hy
  | after hx hy h0 h1 =>
    refine ⟨fun v hv => ?_, by simp, _, _, rfl⟩
    simp only [List.mem_cons, List.not_mem_nil, or_false] at hv
    rcases hv with rfl | rfl | rfl | rfl
    · exact .inl ⟨_, rfl, by decide +kernel⟩
    · exact nm _ hx
    · exact nm _ hy
    · exact .inr ⟨_, rfl, h1⟩
/-- tuples lie at these addresses -/
abbrev Tups (H : Hp) : List Addr → List (List V) → Prop := Paired fun a ws => H a = some (.tup ws)
theorem Tups.same {H H' : Hp} (s : Same H H') : ∀ {as : List Addr} {wss : List (List V)}, Tups H as wss → Tups H' as wss
  | _, _, .nil => .nil
  | _, _, .cons h t => .cons (s _ _ h) (Tups.same s t)
theorem Tups.get {H : Hp} : ∀ {as : List Addr} {wss : List (List V)} {a : Addr}, Tups H as wss → a ∈ as → ∃ ws ∈ wss, H a = some (.tup ws)
  | _, _, _, .cons h t, ha => by
    rcases List.mem_cons.mp ha with ha | ha
    · subst ha; exact ⟨_, List.mem_cons_self .., h⟩
    · obtain ⟨ws, hw, e⟩ := Tups.get t ha
      exact ⟨ws, List.mem_cons_of_mem _ hw, e⟩
theorem Tups.snoc {H : Hp} {a : Addr} {ws : List V} {as : List Addr} {wss : List (List V)} (t : Tups H as wss) (h : H a = some (.tup ws)) : Tups H (as ++ [a]) (wss ++ [ws]) := Paired.snoc t h
end Dm

/-! A telling on the heap: four lists and their tuples. -/
namespace Dm
open PySem PySem.NumText L2
theorem Tups.stay {H H' : Hp} (s : ∀ b xs, H b = some (.tup xs) → H' b = some (.tup xs)) : ∀ {as : List Addr} {wss : List (List V)}, Tups H as wss → Tups H' as wss
  | _, _, .nil => .nil
  | _, _, .cons h t => .cons (s _ _ h) (Tups.stay s t)
theorem tup_stay {H : Hp} {p : Addr} {xs ys : List V} (h : H p = some (.lst xs)) : ∀ b zs, H b = some (.tup zs) → upd H p (.lst ys) b = some (.tup zs) := fun b zs e => by
  rw [upd_ne (ne_of e h (by intro z; cases z))]; exact e
section
variable {H H' : Hp} {pu pt pf pr p : Addr} {us : List Str} {ts fs rs : List (List V)} {at' af ar : List Addr} {ws : List V}
end
theorem take_fresh {xs : List Str} (nd : xs.Nodup) (k : Nat) (h : k < xs.length) : xs[k] ∉ xs.take k := by
  intro z
  obtain ⟨j, hj, e⟩ := List.mem_iff_getElem.mp z
  rw [List.getElem_take] at e
  rw [List.length_take] at hj
  have := (List.getElem_inj nd).mp e
  omega
theorem eqV_wd {x y : V} (hx : Wd x) (hy : Wd y) : eqV x y = decide (x = y) := by
  rcases hx with ⟨a, rfl, _⟩ | ⟨a, rfl, _⟩ <;> rcases hy with ⟨b, rfl, _⟩ | ⟨b, rfl, _⟩
  · show (a == b) = _
    by_cases h : a = b
    · subst h; simp
    · rw [decide_eq_false (fun z => h (V.str.inj z))]
      exact beq_eq_false_iff_ne.mpr h
  · exact (decide_eq_false (fun z => nomatch z)).symm
  · exact (decide_eq_false (fun z => nomatch z)).symm
  · show (a == b) = _
    by_cases h : a = b
    · subst h; simp
    · rw [decide_eq_false (fun z => h (V.int.inj z))]
      exact beq_eq_false_iff_ne.mpr h
theorem eqL_wd {xs ys : List V} (hx : ∀ v ∈ xs, Wd v) (hy : ∀ v ∈ ys, Wd v) : eqL xs ys = decide (xs = ys) := by
  by_cases h : xs = ys
  · subst h
    rw [eqL_refl fun x q => (hx x q).flat, decide_eq_true rfl]
  · rw [decide_eq_false h]
    rw [← Bool.not_eq_true]
    intro q
    unfold eqL at q
    rw [Bool.and_eq_true] at q
    obtain ⟨q1, q2⟩ := q
    have q2 : xs.length = ys.length := by simpa using q2
    apply h
    apply List.ext_getElem q2
    intro i h1 h2
    have := List.all_eq_true.mp q1 i (List.mem_range.mpr (by omega))
    rw [List.getElem?_eq_getElem h1, List.getElem?_eq_getElem h2] at this
    have e : eqV xs[i] ys[i] = true := this
    rw [eqV_wd (hx _ (List.getElem_mem h1)) (hy _ (List.getElem_mem h2))] at e
    exact of_decide_eq_true e
theorem Tups.len {H : Hp} {as : List Addr} {wss : List (List V)} (t : Tups H as wss) : as.length = wss.length := Paired.length t
/-- is the tuple at p one of those? -/
theorem Tups.any {H : Hp} {as : List Addr} {wss : List (List V)} {ws : List V} (t : Tups H as wss) : ∀ (e : V → Bool), (∀ a vs, vs ∈ wss → H a = some (.tup vs) → e (.ref a) = decide (vs = ws)) → (as.map V.ref).any e = decide (ws ∈ wss) := by
  intro e he
  induction t with
  | nil => simp
  | @cons a vs as wss h t ih =>
    rw [List.map_cons, List.any_cons, he a vs (List.mem_cons_self ..) h, ih fun b us q r => he b us (List.mem_cons_of_mem _ q) r]
    by_cases q : vs = ws
    · subst q; simp
    · rw [decide_eq_false q, Bool.false_or]
      have : ws ∈ vs :: wss ↔ ws ∈ wss := by
        rw [List.mem_cons]
        constructor
        · rintro (z | z)
          · exact absurd z.symm q
          · exact z
        · exact .inr
      exact decide_eq_decide.mpr this.symm
/-- what a tuple's equality with the tuple of words at p says -/
def tupE (H : Hp) (ws : List V) : V → Bool
  | .ref a => match H a with
    | some (.tup vs) => decide (vs = ws)
    | _ => false
  | _ => false
theorem tupE_of {H : Hp} {ws vs : List V} {a : Addr} (h : H a = some (.tup vs)) : tupE H ws (.ref a) = decide (vs = ws) := by
  show (match H a with | some (.tup vs) => decide (vs = ws) | _ => false) = _
  rw [h]
theorem Tups.anyE {H : Hp} {as : List Addr} {wss : List (List V)} {ws : List V} (t : Tups H as wss) : (as.map V.ref).any (tupE H ws) = decide (ws ∈ wss) := t.any _ fun _ _ _ h => tupE_of h
theorem Tups.deq {K : PySem.W.Frag} {H : Hp} {n : Nat} {as : List Addr} {wss : List (List V)} {ws : List V} {p : Addr} (t : Tups H as wss) (hw : ∀ vs ∈ wss, ∀ v ∈ vs, Wd v) (hp : H p = some (.tup ws)) (hv : ∀ v ∈ ws, Wd v) :
    ∀ z ∈ as.map V.ref, DEq K H (n + 1) z (.ref p) (tupE H ws z) := by
  intro z hz
  obtain ⟨a, ha, rfl⟩ := List.mem_map.mp hz
  obtain ⟨vs, hvs, e⟩ := t.get ha
  rw [tupE_of e, ← eqL_wd (hw vs hvs) hv]
  exact DEq.flatT (SqT.of e) (SqT.of hp) (fun x q => (hw vs hvs x q).flat) fun x q => (hv x q).flat
end Dm

/-! LINES of words, texts of lines: by their codes. -/
namespace Dm
open PySem PySem.NumText L2
end Dm

namespace Dm
open PySem PySem.NumText L2
theorem cutV_ints (ns : List Int) (lo hi : Option Int) : ∃ cs : List Int, cutV (ns.map V.int) lo hi = cs.map V.int ∧ cs.length ≤ ns.length := by
  refine ⟨(ns.drop (HT.sIx (ns.map V.int).length 0 lo)).take (HT.sIx (ns.map V.int).length (ns.map V.int).length hi - HT.sIx (ns.map V.int).length 0 lo), ?_, ?_⟩
  · unfold cutV
    rw [List.map_take, List.map_drop]
  · rw [List.length_take, List.length_drop]
    omega
end Dm

/-! Rows at addresses; periods. -/
namespace Dm
open PySem PySem.NumText L2
theorem rows_at {α : Type} {H : Hp} {g : α → List V} {ads : List Addr} {ps : List α} {i : Nat} {x : V} (t : Tups H ads (ps.map g)) (hx : (ads.map V.ref)[i]? = some x) :
    ∃ q p, x = .ref q ∧ ps[i]? = some p ∧ ads[i]? = some q ∧ H q = some (.tup (g p)) := by
  rw [List.getElem?_map] at hx
  cases e : ads[i]? with
  | none => rw [e] at hx; cases hx
  | some q =>
    rw [e] at hx
    cases hx
    obtain ⟨ws, h1, h2⟩ := Paired.get' t e
    rw [List.getElem?_map] at h1
    cases e' : ps[i]? with
    | none => rw [e'] at h1; cases h1
    | some p =>
      rw [e'] at h1
      cases h1
      exact ⟨q, p, rfl, rfl, rfl, h2⟩
end Dm

/-! Ties as data, ones as labels, what same ties join. -/
namespace Dm
open PySem PySem.NumText L2
structure Tie where
  k : Str
  a : Str
  b : Str
  g : Option Int
def tieV (t : Tie) : List V := .str t.k :: .str t.a :: .str t.b :: (match t.g with
  | some n => [V.int n]
  | none => [])
def SAME : Str := "same"
structure TOk (us : List Str) (t : Tie) : Prop where
  ok : TieOk us (tieV t)
  a : t.a ∈ us
  b : t.b ∈ us
theorem TieOk.tie {us : List Str} {ws : List V} (h : TieOk us ws) : ∃ t, ws = tieV t ∧ TOk us t := by
  have h' := h
  cases h with
  | @plain kd x y hk hx hy => exact ⟨⟨kd, x, y, none⟩, rfl, h', hx, hy⟩
  | @after x y n hx hy h0 h1 => exact ⟨⟨"after", x, y, some n⟩, rfl, h', hx, hy⟩
theorem tieV_0 (t : Tie) : atI (tieV t) 0 = some (.str t.k) := atI_0
theorem tieV_1 (t : Tie) : atI (tieV t) 1 = some (.str t.a) := atI_nat (xs := tieV t) (j := 1) rfl
theorem tieV_2 (t : Tie) : atI (tieV t) 2 = some (.str t.b) := atI_nat (xs := tieV t) (j := 2) rfl
theorem cutV_to {xs : List V} {z : Int} (h0 : 0 ≤ z) (h1 : z ≤ xs.length) : cutV xs none (some z) = xs.take z.toNat := by
  unfold cutV HT.sIx
  simp
  split
  · omega
  · congr 1
    omega
/-! ### the order of texts -/
theorem co_anti {x y : Str} (h1 : ¬ co x < co y) (h2 : ¬ co y < co x) : x = y := by
  rw [List.not_lt] at h1 h2
  exact ext_co (List.le_antisymm h2 h1)
theorem co_asymm {x y : Str} (h1 : co x < co y) (h2 : co y < co x) : False := List.lt_irrefl _ (List.lt_trans h1 h2)
/-- y < m and not f < m: y < f -/
theorem co_le {y m f : List Nat} (h1 : y < m) (h2 : ¬ f < m) : y < f := by
  exact Decidable.byContradiction fun z => h2 (List.lt_of_le_of_lt (List.not_lt.mp z) h1)
def minS (x y : Str) : Str := if co y < co x then y else x
theorem minS_or (x y : Str) : minS x y = x ∨ minS x y = y := by unfold minS; split <;> simp
theorem minS_l (x y : Str) : ¬ co x < co (minS x y) := by
  unfold minS
  split
  · next h => exact fun z => co_asymm h z
  · exact List.lt_irrefl _
theorem minS_r (x y : Str) : ¬ co y < co (minS x y) := by
  unfold minS
  split
  · exact List.lt_irrefl _
  · next h => exact h
/-! ### what same ties join -/
def Nb (ts : List Tie) (y z : Str) : Prop := ∃ t ∈ ts, t.k = SAME ∧ ((t.a = y ∧ t.b = z) ∨ (t.b = y ∧ t.a = z))
inductive Cn (ts : List Tie) : Str → Str → Prop where
  | refl (x : Str) : Cn ts x x
  | step {x y z : Str} (h : Cn ts x y) (n : Nb ts y z) : Cn ts x z
theorem Nb.symm {ts : List Tie} {y z : Str} (h : Nb ts y z) : Nb ts z y := by
  obtain ⟨t, ht, hk, h⟩ := h
  exact ⟨t, ht, hk, h.elim (fun q => .inr ⟨q.2, q.1⟩) fun q => .inl ⟨q.2, q.1⟩⟩
theorem Cn.trans {ts : List Tie} {x y z : Str} (h : Cn ts x y) (h2 : Cn ts y z) : Cn ts x z := by
  induction h2 with
  | refl => exact h
  | step _ n ih => exact ih.step n
theorem Cn.one {ts : List Tie} {y z : Str} (n : Nb ts y z) : Cn ts y z := (Cn.refl y).step n
theorem Cn.symm {ts : List Tie} {x y : Str} (h : Cn ts x y) : Cn ts y x := by
  induction h with
  | refl => exact .refl _
  | step _ n ih => exact (Cn.one n.symm).trans ih
theorem Nb.mono {ts ts' : List Tie} {y z : Str} (h : Nb ts y z) (s : ∀ t ∈ ts, t ∈ ts') : Nb ts' y z := by
  obtain ⟨t, ht, r⟩ := h
  exact ⟨t, s t ht, r⟩
theorem Cn.mono {ts ts' : List Tie} {y z : Str} (h : Cn ts y z) (s : ∀ t ∈ ts, t ∈ ts') : Cn ts' y z := by
  induction h with
  | refl => exact .refl _
  | step _ n ih => exact ih.step (n.mono s)
theorem Nb.mem {us : List Str} {ts : List Tie} {y z : Str} (h : Nb ts y z) (ht : ∀ t ∈ ts, t.a ∈ us ∧ t.b ∈ us) : z ∈ us := by
  obtain ⟨t, h1, _, h2⟩ := h
  rcases h2 with ⟨_, rfl⟩ | ⟨_, rfl⟩
  · exact (ht t h1).2
  · exact (ht t h1).1
theorem Cn.mem {us : List Str} {ts : List Tie} {y z : Str} (h : Cn ts y z) (hy : y ∈ us) (ht : ∀ t ∈ ts, t.a ∈ us ∧ t.b ∈ us) : z ∈ us := by
  cases h with
  | refl => exact hy
  | step _ n => exact n.mem ht
/-! ### the labels -/
def jn (lab : Str → Str) (f s : Str) : Str → Str := fun x => if lab x = f ∨ lab x = s then minS f s else lab x
def stp (lab : Str → Str) (t : Tie) : Str → Str := if t.k = SAME then jn lab (lab t.a) (lab t.b) else lab
def labs (ts : List Tie) : Str → Str := ts.foldl stp id
structure Good (ts : List Tie) (lab : Str → Str) : Prop where
  to : ∀ x, Cn ts x (lab x)
  eq : ∀ x y, Cn ts x y → lab x = lab y
  le : ∀ x y, Cn ts x y → ¬ co y < co (lab x)
theorem good_nil : Good [] id := by
  have h : ∀ x y, Cn [] x y → x = y := by
    intro x y c
    induction c with
    | refl => rfl
    | step _ n _ => obtain ⟨t, ht, _⟩ := n; cases ht
  exact ⟨fun x => .refl x, h, fun x y c => by rw [h x y c]; exact List.lt_irrefl _⟩
theorem good_snoc {ts : List Tie} {lab : Str → Str} {t : Tie} (g : Good ts lab) : Good (ts ++ [t]) (stp lab t) := by
  have sub : ∀ u ∈ ts, u ∈ ts ++ [t] := fun u hu => List.mem_append_left _ hu
  by_cases hk : t.k = SAME
  · unfold stp
    rw [if_pos hk]
    have nt : Nb (ts ++ [t]) t.a t.b := ⟨t, by simp, hk, .inl ⟨rfl, rfl⟩⟩
    have ca : ∀ x, lab x = lab t.a → Cn (ts ++ [t]) x t.a := fun x e => by
      have h1 := (g.to x).mono sub
      have h2 := (g.to t.a).mono sub
      rw [e] at h1
      exact h1.trans h2.symm
    have cb : ∀ x, lab x = lab t.b → Cn (ts ++ [t]) x t.b := fun x e => by
      have h1 := (g.to x).mono sub
      have h2 := (g.to t.b).mono sub
      rw [e] at h1
      exact h1.trans h2.symm
    have la : Cn (ts ++ [t]) t.a (lab t.a) := (g.to t.a).mono sub
    have lb : Cn (ts ++ [t]) t.b (lab t.b) := (g.to t.b).mono sub
    have to : ∀ x, Cn (ts ++ [t]) x (jn lab (lab t.a) (lab t.b) x) := by
      intro x
      unfold jn
      split
      · next h =>
        have hx : Cn (ts ++ [t]) x t.a := h.elim (ca x) fun e => (cb x e).trans (Cn.one nt.symm)
        rcases minS_or (lab t.a) (lab t.b) with e | e
        · rw [e]; exact hx.trans la
        · rw [e]; exact (hx.trans (Cn.one nt)).trans lb
      · exact (g.to x).mono sub
    have ja : jn lab (lab t.a) (lab t.b) t.a = minS (lab t.a) (lab t.b) := if_pos (.inl rfl)
    have jb : jn lab (lab t.a) (lab t.b) t.b = minS (lab t.a) (lab t.b) := if_pos (.inr rfl)
    have eq : ∀ x y, Cn (ts ++ [t]) x y → jn lab (lab t.a) (lab t.b) x = jn lab (lab t.a) (lab t.b) y := by
      intro x y c
      induction c with
      | refl => rfl
      | @step y z _ n ih =>
        rw [ih]
        obtain ⟨u, hu, hku, h⟩ := n
        rcases List.mem_append.mp hu with hu | hu
        · have : lab y = lab z := g.eq y z (Cn.one ⟨u, hu, hku, h⟩)
          unfold jn
          rw [this]
        · have hu : u = t := by simpa using hu
          subst hu
          rcases h with ⟨rfl, rfl⟩ | ⟨rfl, rfl⟩
          · rw [ja, jb]
          · rw [ja, jb]
    refine ⟨to, eq, fun x y c => ?_⟩
    rw [eq x y c]
    have old := g.le y y (.refl y)
    unfold jn
    split
    · next h =>
      rcases h with e | e
      · intro z
        rw [e] at old
        exact old (co_le z (minS_l _ _))
      · intro z
        rw [e] at old
        exact old (co_le z (minS_r _ _))
    · exact old
  · unfold stp
    rw [if_neg hk]
    have back : ∀ x y, Cn (ts ++ [t]) x y → Cn ts x y := by
      intro x y c
      induction c with
      | refl => exact .refl _
      | step _ n ih =>
        obtain ⟨u, hu, hku, h⟩ := n
        rcases List.mem_append.mp hu with hu | hu
        · exact ih.step ⟨u, hu, hku, h⟩
        · have hu : u = t := by simpa using hu
          subst hu
          exact absurd hku hk
    exact ⟨fun x => (g.to x).mono sub, fun x y c => g.eq x y (back x y c), fun x y c => g.le x y (back x y c)⟩
theorem good_all : ∀ (ts2 ts : List Tie) (lab : Str → Str), Good ts lab → Good (ts ++ ts2) (ts2.foldl stp lab)
  | [], ts, lab, g => by rw [List.append_nil]; exact g
  | t :: r, ts, lab, g => by
    have := good_all r (ts ++ [t]) (stp lab t) (good_snoc g)
    rw [List.append_assoc] at this
    exact this
theorem labs_good (ts : List Tie) : Good ts (labs ts) := good_all ts [] id good_nil
theorem labs_step {ts : List Tie} {i : Nat} {t : Tie} (h : ts[i]? = some t) : labs (ts.take (i + 1)) = stp (labs (ts.take i)) t := by
  unfold labs
  rw [List.take_add_one, h, List.foldl_append]
  rfl
/-- the least of all that are joined with x -/
theorem labs_min {ts : List Tie} {x m : Str} (h1 : Cn ts x m) (h2 : ∀ y, Cn ts x y → ¬ co y < co m) : m = labs ts x :=
  co_anti ((labs_good ts).le x m h1) (h2 _ ((labs_good ts).to x))
theorem labs_mem {us : List Str} {ts : List Tie} {x : Str} (hx : x ∈ us) (ht : ∀ t ∈ ts, t.a ∈ us ∧ t.b ∈ us) : labs ts x ∈ us := ((labs_good ts).to x).mem hx ht
/-! ### the dict of labels -/
def dN (us : List Str) (lab : Str → Str) : List (Key × V) := us.map fun x => (Sum.inr x, V.str (lab x))
theorem dN_val {us : List Str} {lab : Str → Str} {x : Str} (h : x ∈ us) : valV (dN us lab) (Sum.inr x) = some (.str (lab x)) := by
  induction us with
  | nil => cases h
  | cons y r ih =>
    unfold dN
    rw [List.map_cons]
    by_cases e : y = x
    · subst e
      exact valV_pos rfl
    · have hx : x ∈ r := by
        rcases List.mem_cons.mp h with h | h
        · exact absurd h.symm e
        · exact h
      have := ih hx
      unfold valV at this ⊢
      rw [List.find?_cons_of_neg (by simpa using e)]
      exact this
theorem dN_put {us : List Str} {lab : Str → Str} {x y : Str} (h : x ∈ us) : putK (dN us lab) (Sum.inr x) (.str y) = dN us (fun z => if z = x then y else lab z) := by
  have ha : ((dN us lab).any fun kv => decide (kv.1 = (Sum.inr x : Key))) = true := by
    rw [List.any_eq_true]
    exact ⟨(Sum.inr x, V.str (lab x)), List.mem_map.mpr ⟨x, h, rfl⟩, decide_eq_true rfl⟩
  unfold putK
  rw [if_pos ha]
  unfold dN
  rw [List.map_map]
  apply List.map_congr_left
  intro z _
  show (if (Sum.inr z : Key) = Sum.inr x then (Sum.inr z, V.str y) else (Sum.inr z, V.str (lab z))) = _
  by_cases e : z = x
  · subst e; simp
  · rw [if_neg (fun q => e (Sum.inr.inj q))]
    show _ = (Sum.inr z, V.str (if z = x then y else lab z))
    rw [if_neg e]
theorem dN_new {us : List Str} {x : Str} (h : x ∉ us) : putK (dN us id) (Sum.inr x) (.str x) = dN (us ++ [x]) id := by
  have ha : ¬ ((dN us id).any fun kv => decide (kv.1 = (Sum.inr x : Key))) = true := by
    rw [List.any_eq_true]
    rintro ⟨kv, h1, h2⟩
    obtain ⟨z, hz, rfl⟩ := List.mem_map.mp h1
    have h2 : z = x := Sum.inr.inj (of_decide_eq_true h2)
    subst h2
    exact h hz
  unfold putK
  rw [if_neg ha]
  unfold dN
  rw [List.map_append]
  rfl
theorem dN_congr {us : List Str} {f g : Str → Str} (h : ∀ x ∈ us, f x = g x) : dN us f = dN us g := by
  unfold dN
  apply List.map_congr_left
  intro x hx
  rw [h x hx]
theorem dN_len (us : List Str) (f : Str → Str) : (dN us f).length = us.length := List.length_map _
theorem dN_keys (us : List Str) (f : Str → Str) : ((dN us f).map fun kv => kV kv.1) = us.map V.str := by
  unfold dN
  rw [List.map_map]
  rfl
/-! ### closed under same ties -/
end Dm

/-! Sorted lists of texts; the groups of ones; dicts with text keys. -/
namespace Dm
open PySem PySem.NumText L2
def Rises (l : List Str) : Prop := l.Pairwise (fun a b => ¬ co b < co a)
theorem rises_unique : ∀ {a b : List Str}, a.Perm b → Rises a → Rises b → a = b
  | [], b, p, _, _ => by rw [List.nil_perm.mp p]
  | x :: r, [], p, _, _ => by have := p.length_eq; cases this
  | x :: r, y :: r', p, ha, hb => by
    have hx : x ∈ y :: r' := p.mem_iff.mp (by simp)
    have hy : y ∈ x :: r := p.mem_iff.mpr (by simp)
    have e : x = y := by
      rcases List.mem_cons.mp hx with h | h
      · exact h
      · rcases List.mem_cons.mp hy with h2 | h2
        · exact h2.symm
        · exact co_anti ((List.pairwise_cons.mp hb).1 x h) ((List.pairwise_cons.mp ha).1 y h2)
    subst e
    rw [rises_unique (List.Perm.cons_inv p) (List.pairwise_cons.mp ha).2 (List.pairwise_cons.mp hb).2]
def insS (x : Str) : List Str → List Str
  | [] => [x]
  | y :: r => if co y < co x then y :: insS x r else x :: y :: r
def srt : List Str → List Str
  | [] => []
  | x :: r => insS x (srt r)
theorem insS_perm (x : Str) : ∀ l, (insS x l).Perm (x :: l)
  | [] => .refl _
  | y :: r => by
    unfold insS
    split
    · exact ((insS_perm x r).cons y).trans (.swap x y r)
    · exact .refl _
theorem srt_perm : ∀ l, (srt l).Perm l
  | [] => .refl _
  | x :: r => (insS_perm x (srt r)).trans ((srt_perm r).cons x)
theorem insS_rises (x : Str) : ∀ l, Rises l → Rises (insS x l)
  | [], _ => List.pairwise_singleton ..
  | y :: r, h => by
    unfold insS
    obtain ⟨h1, h2⟩ := List.pairwise_cons.mp h
    split
    · next c =>
      refine List.pairwise_cons.mpr ⟨fun z hz => ?_, insS_rises x r h2⟩
      rcases List.mem_cons.mp ((insS_perm x r).mem_iff.mp hz) with e | hz
      · subst e; exact fun q => co_asymm q c
      · exact h1 z hz
    · next c =>
      refine List.pairwise_cons.mpr ⟨fun z hz => ?_, h⟩
      rcases List.mem_cons.mp hz with e | hz
      · subst e; exact c
      · intro q
        exact h1 z hz (co_le q c)
theorem srt_rises : ∀ l, Rises (srt l)
  | [] => .nil
  | x :: r => insS_rises x (srt r) (srt_rises r)
theorem srt_eq {ms us : List Str} (p : ms.Perm us) (h : Rises ms) : ms = srt us := rises_unique (p.trans (srt_perm us).symm) h (srt_rises us)
theorem srt_congr {us vs : List Str} (p : us.Perm vs) : srt us = srt vs := srt_eq ((srt_perm us).trans p) (srt_rises us)
theorem srt_nodup {us : List Str} (h : us.Nodup) : (srt us).Nodup := (srt_perm us).nodup_iff.mpr h
theorem srt_mem {us : List Str} {x : Str} : x ∈ srt us ↔ x ∈ us := (srt_perm us).mem_iff
theorem srt_len (us : List Str) : (srt us).length = us.length := (srt_perm us).length_eq
/-- without doubles it rises strictly -/
theorem srt_lt {us : List Str} (h : us.Nodup) : (srt us).Pairwise (fun a b => co a < co b) := by
  have h1 := srt_rises us
  have h2 := srt_nodup h
  refine (h1.and h2).imp fun {a b} hq0 => ?_
  obtain ⟨p, q⟩ := hq0
  exact Decidable.byContradiction fun k => q (co_anti k p)
theorem lt_index {ss : List Str} (h : ss.Pairwise (fun a b => co a < co b)) {i j : Nat} {x y : Str} (hx : ss[i]? = some x) (hy : ss[j]? = some y) (hl : co x < co y) : i < j := by
  obtain ⟨hi, ex⟩ := List.getElem?_eq_some_iff.mp hx
  obtain ⟨hj, ey⟩ := List.getElem?_eq_some_iff.mp hy
  rcases Nat.lt_trichotomy i j with c | c | c
  · exact c
  · subst c
    rw [ex] at ey
    subst ey
    exact absurd hl (List.lt_irrefl _)
  · have := (List.pairwise_iff_getElem.mp h) j i hj hi c
    rw [ex, ey] at this
    exact (co_asymm hl this).elim
/-! ### dicts with text keys -/
def dV (ks : List Str) (f : Str → V) : List (Key × V) := ks.map fun x => (Sum.inr x, f x)
theorem dV_val {ks : List Str} {f : Str → V} {x : Str} (h : x ∈ ks) : valV (dV ks f) (Sum.inr x) = some (f x) := by
  induction ks with
  | nil => cases h
  | cons y r ih =>
    unfold dV
    rw [List.map_cons]
    by_cases e : y = x
    · subst e
      exact valV_pos rfl
    · have hx : x ∈ r := by
        rcases List.mem_cons.mp h with h | h
        · exact absurd h.symm e
        · exact h
      have := ih hx
      unfold valV at this ⊢
      rw [List.find?_cons_of_neg (by simpa using e)]
      exact this
theorem dV_none {ks : List Str} {f : Str → V} {x : Str} (h : x ∉ ks) : valV (dV ks f) (Sum.inr x) = none := by
  unfold valV
  rw [List.find?_eq_none.mpr]
  · rfl
  · intro kv hkv
    obtain ⟨z, hz, rfl⟩ := List.mem_map.mp hkv
    intro e
    have e : z = x := Sum.inr.inj (of_decide_eq_true e)
    subst e
    exact h hz
theorem dV_new {ks : List Str} {f : Str → V} {x : Str} {v : V} (h : x ∉ ks) : putK (dV ks f) (Sum.inr x) v = dV (ks ++ [x]) (fun z => if z = x then v else f z) := by
  have ha : ¬ ((dV ks f).any fun kv => decide (kv.1 = (Sum.inr x : Key))) = true := by
    rw [List.any_eq_true]
    rintro ⟨kv, h1, h2⟩
    obtain ⟨z, hz, rfl⟩ := List.mem_map.mp h1
    have h2 : z = x := Sum.inr.inj (of_decide_eq_true h2)
    subst h2
    exact h hz
  unfold putK
  rw [if_neg ha]
  unfold dV
  rw [List.map_append]
  congr 1
  · apply List.map_congr_left
    intro z hz
    have : ¬ z = x := fun e => h (e ▸ hz)
    show _ = (Sum.inr z, if z = x then v else f z)
    rw [if_neg this]
  · show [(Sum.inr x, v)] = [(Sum.inr x, if x = x then v else f x)]
    rw [if_pos rfl]
theorem dV_congr {ks : List Str} {f g : Str → V} (h : ∀ x ∈ ks, f x = g x) : dV ks f = dV ks g := by
  unfold dV
  apply List.map_congr_left
  intro x hx
  rw [h x hx]
theorem dV_len (ks : List Str) (f : Str → V) : (dV ks f).length = ks.length := List.length_map _
theorem dV_vals (ks : List Str) (f : Str → V) : ((dV ks f).map (·.2)) = ks.map f := by
  unfold dV
  rw [List.map_map]
  rfl
/-! ### groups -/
def keysOf (ts : List Tie) (ss : List Str) : List Str := ss.filter fun x => decide (labs ts x = x)
def grpOf (ts : List Tie) (ss : List Str) (k : Str) : List Str := ss.filter fun x => decide (labs ts x = k)
def onesOf (us : List Str) (ts : List Tie) : List (List Str) := (keysOf ts (srt us)).map (grpOf ts (srt us))
theorem keys_step {ts : List Tie} {ss : List Str} {i : Nat} {u : Str} (h : ss[i]? = some u) : keysOf ts (ss.take (i + 1)) = keysOf ts (ss.take i) ++ (if labs ts u = u then [u] else []) := by
  unfold keysOf
  rw [List.take_add_one, h, List.filter_append]
  by_cases c : labs ts u = u
  · rw [if_pos c]; simp [c]
  · rw [if_neg c]; simp [c]
theorem grp_step {ts : List Tie} {ss : List Str} {i : Nat} {u k : Str} (h : ss[i]? = some u) : grpOf ts (ss.take (i + 1)) k = grpOf ts (ss.take i) k ++ (if labs ts u = k then [u] else []) := by
  unfold grpOf
  rw [List.take_add_one, h, List.filter_append]
  by_cases c : labs ts u = k
  · rw [if_pos c]; simp [c]
  · rw [if_neg c]; simp [c]
theorem labs_idem (ts : List Tie) (x : Str) : labs ts (labs ts x) = labs ts x := ((labs_good ts).eq x _ ((labs_good ts).to x)).symm
theorem labs_le (ts : List Tie) (x : Str) : ¬ co x < co (labs ts x) := (labs_good ts).le x x (.refl x)
/-- the first met of a one is its name -/
theorem key_met {us : List Str} {ts : List Tie} (nd : us.Nodup) (ht : ∀ t ∈ ts, t.a ∈ us ∧ t.b ∈ us) {i : Nat} {u : Str} (h : (srt us)[i]? = some u) (hne : labs ts u ≠ u) : labs ts u ∈ keysOf ts ((srt us).take i) := by
  have hu : u ∈ us := srt_mem.mp (List.mem_of_getElem? h)
  have hl : labs ts u ∈ srt us := srt_mem.mpr (labs_mem hu ht)
  obtain ⟨j, hj, ej⟩ := List.mem_iff_getElem.mp hl
  have ej' : (srt us)[j]? = some (labs ts u) := by rw [List.getElem?_eq_getElem hj, ej]
  have hlt : co (labs ts u) < co u := Decidable.byContradiction fun k => hne (co_anti k (labs_le ts u))
  have hij := lt_index (srt_lt nd) ej' h hlt
  unfold keysOf
  rw [List.mem_filter]
  refine ⟨?_, decide_eq_true (labs_idem ts u)⟩
  rw [List.mem_take_iff_getElem]
  exact ⟨j, by omega, ej⟩
theorem key_new {us : List Str} {ts : List Tie} (nd : us.Nodup) {i : Nat} {u : Str} (h : (srt us)[i]? = some u) : u ∉ keysOf ts ((srt us).take i) ∧ (labs ts u = u → grpOf ts ((srt us).take i) u = []) := by
  have hi := (List.getElem?_eq_some_iff.mp h).1
  have eu := (List.getElem?_eq_some_iff.mp h).2
  have hlt : ∀ x ∈ (srt us).take i, co x < co u := by
    intro x hx
    obtain ⟨j, hj, ej⟩ := List.mem_take_iff_getElem.mp hx
    have := (List.pairwise_iff_getElem.mp (srt_lt nd)) j i (by omega) hi (by omega)
    rw [ej, eu] at this
    exact this
  refine ⟨fun z => ?_, fun e => ?_⟩
  · have := hlt u (List.mem_filter.mp z).1
    exact List.lt_irrefl _ this
  · unfold grpOf
    rw [List.filter_eq_nil_iff]
    intro x hx c
    have c : labs ts x = u := of_decide_eq_true c
    have := labs_le ts x
    rw [c] at this
    exact this (hlt x hx)
end Dm

/-! What the groups of ones are. -/
namespace Dm
open PySem PySem.NumText L2
section
variable {us : List Str} {ts : List Tie}
theorem keys_mem {k : Str} : k ∈ keysOf ts (srt us) ↔ k ∈ us ∧ labs ts k = k := by
  unfold keysOf
  rw [List.mem_filter, srt_mem, decide_eq_true_iff]
theorem keys_nodup (nd : us.Nodup) : (keysOf ts (srt us)).Nodup := (srt_nodup nd).sublist (List.filter_sublist ..)
theorem keys_lt (nd : us.Nodup) : (keysOf ts (srt us)).Pairwise (fun a b => co a < co b) := (srt_lt nd).sublist (List.filter_sublist ..)
theorem grp_lt (nd : us.Nodup) (k : Str) : (grpOf ts (srt us) k).Pairwise (fun a b => co a < co b) := (srt_lt nd).sublist (List.filter_sublist ..)
theorem grp_mem {k y : Str} : y ∈ grpOf ts (srt us) k ↔ y ∈ us ∧ labs ts y = k := by
  unfold grpOf
  rw [List.mem_filter, srt_mem, decide_eq_true_iff]
theorem labs_key (ht : ∀ t ∈ ts, t.a ∈ us ∧ t.b ∈ us) {x : Str} (hx : x ∈ us) : labs ts x ∈ keysOf ts (srt us) := keys_mem.mpr ⟨labs_mem hx ht, labs_idem ts x⟩
theorem grp_head (nd : us.Nodup) {k : Str} (hk : k ∈ keysOf ts (srt us)) : ∃ r, grpOf ts (srt us) k = k :: r := by
  obtain ⟨h1, h2⟩ := keys_mem.mp hk
  have hm : k ∈ grpOf ts (srt us) k := grp_mem.mpr ⟨h1, h2⟩
  have hp := grp_lt (ts := ts) nd k
  cases e : grpOf ts (srt us) k with
  | nil => rw [e] at hm; cases hm
  | cons x r =>
    rw [e] at hm hp
    rcases List.mem_cons.mp hm with z | z
    · rw [z]; exact ⟨r, rfl⟩
    · have h3 := (List.pairwise_cons.mp hp).1 k z
      have hx : x ∈ grpOf ts (srt us) k := by rw [e]; simp
      have h4 := labs_le ts x
      rw [(grp_mem.mp hx).2] at h4
      exact absurd h3 h4
theorem ones_len (nd : us.Nodup) : (onesOf us ts).length ≤ us.length := by
  unfold onesOf
  rw [List.length_map]
  have := List.length_filter_le (fun x => decide (labs ts x = x)) (srt us)
  rw [srt_len] at this
  exact this
end
/-- a list of texts without doubles, alike in what it has -/
theorem srt_same {xs ys : List Str} (h1 : xs.Nodup) (h2 : ys.Nodup) (h : ∀ x, x ∈ xs ↔ x ∈ ys) : srt xs = srt ys :=
  srt_congr ((List.perm_ext_iff_of_nodup h1 h2).mpr h)
end Dm

/-! Eight names; where units stand. -/
namespace Dm
open PySem PySem.NumText L2
end Dm

/-! Tellings: units, ties, finds, a frame. -/
namespace Dm
open PySem PySem.NumText L2
structure Fnd where
  n : Str
  u : Str
  lo : Int
  hi : Int
theorem tieV_inj {t u : Tie} (h : tieV t = tieV u) : t = u := by
  obtain ⟨k, a, b, g⟩ := t
  obtain ⟨k', a', b', g'⟩ := u
  unfold tieV at h
  simp only [List.cons.injEq, V.str.injEq] at h
  obtain ⟨rfl, rfl, rfl, h⟩ := h
  cases g with
  | none =>
    cases g' with
    | none => rfl
    | some n => simp at h
  | some n =>
    cases g' with
    | none => simp at h
    | some n' =>
      simp at h
      rw [h]
end Dm

/-! What lies beneath what; ways down; the shortest way round. -/
namespace Dm
open PySem PySem.NumText L2
abbrev Ln := Str → List (Str × Addr)
theorem pairs_at {α : Type} {F : Addr → α → Prop} {as : List Addr} {ps : List α} {i : Nat} {x : V} (t : Paired F as ps) (hx : (as.map V.ref)[i]? = some x) : ∃ q p, x = .ref q ∧ ps[i]? = some p ∧ as[i]? = some q ∧ F q p := by
  rw [List.getElem?_map] at hx
  cases e : as[i]? with
  | none => rw [e] at hx; cases hx
  | some q =>
    rw [e] at hx
    cases hx
    obtain ⟨p, h1, h2⟩ := Paired.get' t e
    exact ⟨q, p, rfl, h1, rfl, h2⟩
end Dm

/-! The ways down as they grow, on the heap. -/
namespace Dm
open PySem PySem.NumText L2
section
variable {Hw H' : Hp} {pm pl : Addr} {ln : Ln} {s : Str} {keys M : List Str} {d : Nat} {ml : List Addr} {fs : List (Str × List Addr)}
end
end Dm
namespace Dm
open PySem PySem.NumText L2
end Dm

/-! Labels made by going over the same ties again and again; ones that stay when those without what lies beneath are taken out. -/
namespace Dm
open PySem PySem.NumText L2
/-! ### labels -/
/-! ### what stays -/
/-! ### ways and what stays -/
end Dm

/-! A telling on the heap, as its units and ties; links as rows. -/
namespace Dm
open PySem PySem.NumText L2
section
variable {K : PySem.W.Frag} {H H' : Hp} {p pu pt : Addr} {x y : V} {us : List Str} {ads : List Addr} {ts : List Tie}
end
end Dm
namespace Dm
open PySem PySem.NumText L2
end Dm

/-! Tellings alike; a round, tie by tie. -/
namespace Dm
open PySem PySem.NumText L2
section
variable {K : PySem.W.Frag} {H : Hp} {n : Nat}
end
end Dm

/-! The least number of steps from a one back to itself. -/
namespace Dm
open PySem PySem.NumText L2
end Dm
namespace Dm
open PySem PySem.NumText L2
end Dm

/-! One order of all ones. -/
namespace Dm
open PySem PySem.NumText L2
end Dm
namespace Dm
open PySem PySem.NumText L2
end Dm
namespace Dm
open PySem PySem.NumText L2
end Dm

/-! min and sorted of texts; list.insert. -/
namespace L2
open PySem PySem.Spec PyProof.Rows
theorem cmp_strs {prog : Program} {w : World} {A : Around} {P : Nat → Value → Prop} (val : Nat → Str) (hval : ∀ i v, P i v → ∃ t, v = Value.str (val i) t) :
    CmpOf prog w A .Lt P (fun i j => decide ((val i).cps.toList < (val j).cps.toList)) := fun i j vi vj s Q E hi hj h => by
  obtain ⟨t, rfl⟩ := hval i vi hi
  obtain ⟨u, rfl⟩ := hval j vj hj
  exact richCompare_gives (op := .Lt) (typeIs_str s _ t) (typeIs_str s _ u) PySem.F.slot_str_lt PySem.F.entry_str_lt (PySem.F.args_str_lt_2 _ _) (gives_str_lt _ _ t u) (fun x => nomatch x) h
theorem min_two_strs {prog : Program} {w : World} {A : Around} {E : Value → Shared → Prop} {s : Shared} {a b : Str} {t u : Tok} {Q : Value → Shared → Prop} (hh : A.handled = none)
    (h : ∀ h' tk, (∀ c o, s.heap.get? c = some o → h'.get? c = some o) → Q (if b.cps.toList < a.cps.toList then .str b u else .str a t) { s with heap := h', toks := tk }) :
    wpAny (model prog w) A (call (.builtin "min") [.str a t, .str b u]) Q E s := by
  have hT : (s.heap.push { cls := .type "tuple", data := .seq #[.str a t, .str b u] }).IsTuple s.heap.objs.size #[.str a t, .str b u] := ⟨_, Heap.get?_push_size _ rfl, rfl, 0, rfl⟩
  refine call_min_two (wpAny_pyIter_tuple hT ?_)
  have hsz : (s.heap.push { cls := .type "tuple", data := .seq #[.str a t, .str b u] }).objs.size = s.heap.objs.size + 1 := Heap.size_push ..
  refine ⟨_, [_, s.heap.objs.size], [_], _, _, _, _, rfl, Walks.tuple (A := A.in1) hh _ s.heap.objs.size (by rw [hsz]; exact Nat.ne_of_lt (Nat.lt_succ_self _)) #[.str a t, .str b u],
    ⟨⟨_, Heap.get?_push_size _ rfl, rfl, rfl⟩, hT.push _⟩, fun c hc => ?_, (by show 0 < 2; decide), cmp_strs (fun i => if i = 0 then a else b) (fun i v e => ?_), fun v h' tk hP hk => ?_⟩
  · show c < ((s.heap.push _).push _).objs.size
    rw [Heap.size_push, hsz]
    rcases List.mem_cons.mp hc with rfl | hc
    · rw [hsz]; exact Nat.lt_succ_self _
    · rcases List.mem_cons.mp hc with rfl | hc
      · exact Nat.lt_succ_of_lt (Nat.lt_succ_self _)
      · cases hc
  · match i, e with
    | 0, e => cases e; exact ⟨t, rfl⟩
    | 1, e => cases e; exact ⟨u, rfl⟩
    | i + 2, e => simp at e
  · have hold : ∀ c o, s.heap.get? c = some o → h'.get? c = some o := fun c o e => by
      refine hk c o (fun hm => ?_) (Heap.get?_push_of_some _ (Heap.get?_push_of_some _ e))
      rcases List.mem_cons.mp hm with e1 | hm
      · have := Heap.lt_size e; rw [e1, hsz] at this; exact Nat.lt_irrefl _ (Nat.lt_of_succ_lt this)
      · cases hm
    have := h h' tk hold
    have hv : v = if b.cps.toList < a.cps.toList then Value.str b u else Value.str a t := by
      have hP' : (#[Value.str a t, Value.str b u])[argBest (fun i j => decide ((if i = 0 then a else b).cps.toList < (if j = 0 then a else b).cps.toList)) 1]? = some v := hP
      by_cases hba : b.cps.toList < a.cps.toList
      · have e : argBest (fun i j => decide ((if i = 0 then a else b).cps.toList < (if j = 0 then a else b).cps.toList)) 1 = 1 := by simp [argBest, hba]
        rw [e] at hP'
        rw [if_pos hba]
        exact (Option.some.inj hP').symm
      · have e : argBest (fun i j => decide ((if i = 0 then a else b).cps.toList < (if j = 0 then a else b).cps.toList)) 1 = 0 := by simp [argBest, hba]
        rw [e] at hP'
        rw [if_neg hba]
        exact (Option.some.inj hP').symm
    rw [hv]; exact this
theorem risingS_pairwise : ∀ (r : List Str) (x : Str), risingS x r = true → (x :: r).Pairwise (fun a b => ¬ b.cps.toList < a.cps.toList)
  | [], x, _ => List.pairwise_singleton ..
  | y :: r, x, h => by
    unfold risingS at h
    rw [Bool.and_eq_true] at h
    have ih := risingS_pairwise r y h.2
    have h1 : ¬ y.cps.toList < x.cps.toList := by
      intro z
      have : ltCps y.cps.toList x.cps.toList = true := by rw [ltCps_eq]; exact decide_eq_true z
      rw [this] at h
      simp at h
    refine List.pairwise_cons.mpr ⟨fun b hb => ?_, ih⟩
    rcases List.mem_cons.mp hb with rfl | hb
    · exact h1
    · intro z
      have h2 := (List.pairwise_cons.mp ih).1 b hb
      rw [List.not_lt] at h1 h2
      exact absurd z (List.not_lt.mpr (List.le_trans h1 h2))
theorem sortedS_pairwise {ss : List Str} (h : sortedS ss = true) : ss.Pairwise (fun a b => ¬ b.cps.toList < a.cps.toList) := by
  cases ss with
  | nil => exact .nil
  | cons x r => exact risingS_pairwise r x h
section
variable {X : Cx}
theorem call_min2s (hc : X.calm = true) : CallR X (.builtin "min") (fun xs H Q => ∃ i j, xs = [.str i, .str j] ∧ Q (.str (if j.cps.toList < i.cps.toList then j else i)) H) := by
  intro pins s σ H xs us Q I r h
  obtain ⟨i, j, rfl, q⟩ := h
  obtain ⟨u, w', rfl, ⟨t, rfl⟩, ⟨t', rfl⟩⟩ := vals2 r
  refine min_two_strs (I.ok.hd hc) fun h' tk k => ⟨_, H, I.kept k, ?_, q⟩
  by_cases hj : j.cps.toList < i.cps.toList
  · rw [if_pos hj, if_pos hj]; exact ⟨_, rfl⟩
  · rw [if_neg hj, if_neg hj]; exact ⟨_, rfl⟩
theorem call_sortedS {K : PySem.W.Frag} (h : X.K = K) : CallR X (.builtin "sorted") (fun xs H Q => ∃ (a : Addr) (ns : List Str), xs = [V.ref a] ∧ SqL K H a (ns.map V.str) ∧ ns.length < 64 ∧
    ∀ (p : Addr) (ms : List Str), H p = none → ms.Perm ns → ms.Pairwise (fun a b => ¬ b.cps.toList < a.cps.toList) → Q (.ref p) (upd H p (.lst (ms.map V.str)))) := by
  subst h
  intro pins s σ H xs us Q I r h
  obtain ⟨a, ns, rfl, ha, hn, q⟩ := h
  obtain ⟨u, rfl, ru⟩ := vals1 r
  cases ru
  obtain ⟨its, rv, pl, hz⟩ := I.list ha
  have hl := rv.length
  rw [List.length_map] at hl
  refine PyProof.Rows.sorted_strs pl.isList (strsAre_of rv) (by omega) fun out ms a1 a2 a3 => ?_
  obtain ⟨e, he⟩ := PyProof.Rows.sortedAll_at s.heap its out
  have hn' : H (s.heap.objs.size + 1) = none := I.hok.fresh (Nat.le_succ _)
  have hm : ms.length = ns.length := a2.length_eq
  have hs : sizeLine = 16777216 := sizeLine_eq
  have vs : ∀ {us : List Value} {ys : List Str}, StrsAre us ys → Vals (ys.map V.str) us := by
    intro us ys h
    induction h with
    | nil => exact .nil
    | cons x t _ ih => exact .cons ⟨t, rfl⟩ ih
  refine ⟨.ref (s.heap.objs.size + 1), _, I.laid (t' := s.toks) (a := s.heap.objs.size + 1) (o := .lst (ms.map V.str)) (fun b o eb => PyProof.Rows.sortedAll_old eb) (Nat.le_succ _) ⟨?_, out.toList, e, vs a1, ?_⟩, rfl, q _ ms hn' a2 (sortedS_pairwise a3)⟩
  · rw [List.length_map]; omega
  · rw [he]
theorem paired_drop {α β : Type} {F : α → β → Prop} : ∀ (n : Nat) {l₁ : List α} {l₂ : List β}, Paired F l₁ l₂ → Paired F (l₁.drop n) (l₂.drop n)
  | 0, _, _, r => r
  | n + 1, _, _, .nil => .nil
  | n + 1, _, _, .cons _ t => paired_drop n t
theorem mt_insert : MtM X "list.insert" (fun x vs H Q => ∃ (l : Addr) (xs : List V) (i : Int) (y : V), x = .ref l ∧ vs = [.int i, y] ∧ H l = some (.lst xs) ∧ 0 ≤ i ∧ i ≤ xs.length ∧ xs.length < sizeLine ∧
    Q .non (upd H l (.lst (xs.take i.toNat ++ y :: xs.drop i.toNat)))) := by
  intro pins s σ H x vs v us Q I rx rv h
  obtain ⟨l, xs, i, y, rfl, rfl, hH, h0, h1, hz, q⟩ := h
  cases rx
  obtain ⟨_, u, rfl, ⟨t, rfl⟩, ru⟩ := vals2 rv
  obtain ⟨z, its, n, r, hl, e⟩ := I.lstM hH
  have hs : sizeLine = 16777216 := sizeLine_eq
  refine call_meets PySem.F.slot_list_insert ⟨_, e, rfl⟩ PySem.F.entry_list_insert (PySem.F.args_list_insert_3 _ _ _) (PySem.AutoSeq1.list_insert_list_int_val_1 l its.toArray n i t u ?_ (by rw [List.size_toArray]; omega)) ⟨e, ?_⟩
  · unfold Builtin.List.listFitsIndex
    rw [decide_eq_true (by omega), decide_eq_true (by omega)]
    decide
  · refine ⟨.non, _, I.lset (its' := its.take i.toNat ++ u :: its.drop i.toNat) hH e ?_ ((r.take _).append (.cons ru (paired_drop _ r))) ?_, rfl, q⟩
    · show (its.toArray.extract 0 (if i < 0 then (i + (its.toArray.size : Int)).toNat else min i.toNat its.toArray.size)).push u ++ its.toArray.extract (if i < 0 then (i + (its.toArray.size : Int)).toNat else min i.toNat its.toArray.size) = _
      rw [if_neg (by omega), List.size_toArray, Nat.min_eq_left (by omega)]
      exact PySem.W.kl_ins_eq its i.toNat u
    · rw [List.length_append, List.length_cons, List.length_take, List.length_drop]
      omega
end
end L2

/-! t[lo:hi] where it may be the whole of t; d.setdefault(k, x). -/
namespace HT
open PySem PySem.Spec PyProof.Rows PySem.Calls
section
variable {prog : Program} {w : World} {A : Around} {E : Value → Shared → Prop} {s : Shared}
end
end HT
namespace L2
open PySem PySem.Spec PyProof.Rows
section
variable {X : Cx}
end
section
variable {X : Cx} {pins : List (Addr × Obj)} {σ : St} {H : Hp} {s : Shared} {a : Addr} {u r : Value} {A : Around} {E : Value → Shared → Prop}
theorem d_setdefault {kvs : List (Key × V)} {k : Key} {z : V} {Q : Value → Shared → Prop} (I : Inv X pins σ H s) (e : H a = some (.dK kvs)) (ry : RelV (kV k) u) (rz : RelV z r) (hl : kvs.length < sizeLine)
    (h1 : ∀ v, valV kvs k = some v → ∀ w' s', Inv X pins σ H s' → RelV v w' → Q w' s') (h2 : valV kvs k = none → ∀ s', Inv X pins σ (upd H a (.dK (putK kvs k z))) s' → Q r s') :
    wpAny (model X.prog X.w) A (call (.builtin "dict.setdefault") [.ref a, u, r]) Q E s := by
  obtain ⟨hz, hd, vs, rel, dd⟩ := dk_of I.hok e
  refine call_meetsIn PySem.F.slot_dict_setdefault dd.typeIs PySem.F.entry_dict_setdefault (PySem.F.args_dict_setdefault_3 _ _ _) (kt_meets_setdefault (mixKind X.prog X.w) a (kV_is ry) hd r)
    ⟨vs, dd, by rw [← rel.length]; exact hz, fun v hv => ?_, fun hn h' dd' hs => ?_⟩
  · cases l : valV kvs k with
    | some v0 =>
      obtain ⟨w', hw, rw'⟩ := RelO.some_of (v := v0) (o := valueAt vs k) (by rw [← l]; exact rel.val k)
      rw [hw] at hv
      cases hv
      exact h1 v0 l _ _ (I.tok _) rw'
    | none =>
      have hn : valueAt vs k = none := RelO.none_of (by have := rel.val k; rw [l] at this; exact this)
      rw [hn] at hv
      cases hv
  · cases l : valV kvs k with
    | some v0 =>
      obtain ⟨w', hw, rw'⟩ := RelO.some_of (v := v0) (o := valueAt vs k) (by rw [← l]; exact rel.val k)
      rw [hw] at hn
      cases hn
    | none =>
      have hl2 : (putK kvs k z).length ≤ sizeLine := by have := length_putK kvs k z; omega
      have he : ∃ q, h'.get? a = some q := let ⟨q, _, _, hq, _⟩ := dd'; ⟨q, hq⟩
      exact h2 l _ (d_write I (by rw [e]; exact True.intro) hs he (dk_new hl2 hd (rel.put k rz) dd'))
end
def tDSet (td ty tx : TE) : TE := fun σ H Q => td σ H fun x H1 => ∃ a, x = .ref a ∧ IsD H1 a ∧ ty σ H1 fun y H2 => tx σ H2 fun z H3 => ∃ kvs k, H3 a = some (.dK kvs) ∧ y = kV k ∧ kvs.length < sizeLine ∧
  (∀ v, valV kvs k = some v → Q v H3) ∧ (valV kvs k = none → Q z (upd H3 a (.dK (putK kvs k z))))
theorem pe_dsetdef {X : Cx} {o e f : Expr} {apos cpos : Pos} {td ty tx : TE} (ho : PE X o td) (he : PE X e ty) (hf : PE X f tx) (m : M2 X o "setdefault" apos e f cpos) : PE X (.Call (.Attribute o "setdefault" apos) [e, f] [] cpos) (tDSet td ty tx) := by
  intro pins s σ H Q I h
  refine wpAny_Call_method m.base m.few m.line PySem.F.plainAttrs_dict PySem.F.slot_dict_setdefault PySem.F.type_dict_setdefault (thn (ho pins s σ H _ I h) fun u s1 hq0 => ?_)
  obtain ⟨x, H1, I1, rx, a, ex, d, q1⟩ := hq0
  subst ex
  obtain rfl : u = Value.ref a := rx
  obtain ⟨t1, t2, _⟩ := isD_at I1 d
  refine ⟨t1, t2, ?_⟩
  rw [m.trees]
  refine Calls.callWith_builtin rfl (Calls.evalArgs_plain (Calls.spliced_cons (thn (he pins s1 σ H1 _ I1 q1) fun iv s2 ⟨y, H2, I2, ry, q2⟩ =>
    Calls.spliced_cons (thn (hf pins s2 σ H2 _ I2 q2) fun fv s3 ⟨z, H3, I3, rz, kvs, k, ea, ey, hl, q3, q4⟩ => Calls.spliced_nil ?_))))
  subst ey
  exact d_setdefault I3 ea ry rz hl (fun v l w' s4 I4 rw' => ⟨v, H3, I4, rw', q3 v l⟩) fun l s4 I4 => ⟨z, _, I4, rz, q4 l⟩
end L2

/-! set(texts): the set is made, with its order left open. -/
namespace L2
open PySem PySem.Spec PyProof.Rows
theorem layNew_led (t : SetTable) (es : Array (Int × Value)) (h : Int) (x : Value) : (layNew t es h x).2.1.led = t.led := by
  unfold layNew
  split
  · show (SetTable.orStandIn _ _).led = _
    unfold SetTable.orStandIn
    split <;> rfl
  · rfl
theorem relayAll_led (t : SetTable) (es : Array (Int × Value)) (n : Nat) : (relayAll t es n).2.1.led = t.led := by
  unfold relayAll
  split
  · next t' order e =>
    have : t'.led = t.led := by
      unfold SetTable.relaid SetTable.laid at e
      cases q : SetTable.layClean (SetTable.sizeAbove n - 1) (es.map (·.1)) with
      | none => rw [q] at e; cases e
      | some ow =>
        rw [q] at e
        have e := Option.some.inj e
        rw [← (Prod.mk.inj e).1]
    dsimp only
    split
    · exact this
    · rfl
  · rfl
theorem relayAll_plain (t : SetTable) (es : Array (Int × Value)) (n : Nat) (hp : t.plain = false) : (relayAll t es n).2.1.plain = false := by
  unfold relayAll
  split
  · next t' order e =>
    have : t'.plain = t.plain := by
      unfold SetTable.relaid SetTable.laid at e
      cases q : SetTable.layClean (SetTable.sizeAbove n - 1) (es.map (·.1)) with
      | none => rw [q] at e; cases e
      | some ow =>
        rw [q] at e
        have e := Option.some.inj e
        rw [← (Prod.mk.inj e).1]
    dsimp only
    split
    · rw [this]; exact hp
    · rfl
  · rfl
section
variable {prog : Program} {w : World} {A : Around} {E : Value → Shared → Prop} {s : Shared}
/-- a set of texts: led as told, not plain where it has any -/
def SetL (prog : Program) (w : World) (h : Heap) (a : Addr) (S : Str → Bool) (n : Nat) (led : Bool) : Prop :=
  ∃ o es ep t, h.get? a = some o ∧ o.ExactSet ∧ o.data = .set es ep t ∧ ElemsOf (strKind prog w) es.toList ∧ (∀ k, S k = true ↔ ∃ e ∈ es.toList, (strKind prog w).is k e.2 = true)
    ∧ es.size < scanBound ∧ t.fits es.size = true ∧ es.size = n ∧ t.led = led ∧ (es.size ≠ 0 → t.plain = false)
theorem SetL_store {h : Heap} {a : Addr} {o : Obj} {es : Array (Int × Value)} {ep : Nat} {t : SetTable} (ho : h.get? a = some o) (hex : o.ExactSet) (hd : o.data = .set es ep t)
    {es' : Array (Int × Value)} {t' : SetTable} {S' : Str → Bool} {led : Bool} (hel : ElemsOf (strKind prog w) es'.toList) (hmem : ∀ k, S' k = true ↔ ∃ e ∈ es'.toList, (strKind prog w).is k e.2 = true) (hb : es'.size < scanBound) (hf : t'.fits es'.size = true)
    (hl : t'.led = led) (hp : t'.plain = false) :
    (h.update a (Obj.putSet es' t')).get? a = some { o with data := .set es' (ep + 1) t' } ∧ SetL prog w (h.update a (Obj.putSet es' t')) a S' es'.size led := by
  have hg := (SetOf_store (knd := strKind prog w) ho hex hd hel hmem hb hf).1
  exact ⟨hg, _, es', ep + 1, t', hg, hex, rfl, hel, hmem, hb, hf, rfl, hl, fun _ => hp⟩
theorem addTailL {g : Bool → Sem Unit} (hg : ∀ (b : Bool) (s₁ : Shared) (Q' : Unit → Shared → Prop), Q' () s₁ → wpAny (model prog w) A (g b) Q' E s₁)
    {a : Addr} {o : Obj} {es : Array (Int × Value)} {ep : Nat} {t : SetTable} (ho : s.heap.get? a = some o) (hex : o.ExactSet) (hd : o.data = .set es ep t)
    {es1 : Array (Int × Value)} {t2 : SetTable} {S' : Str → Bool} {led : Bool} (hel1 : ElemsOf (strKind prog w) es1.toList) (hmem1 : ∀ k', S' k' = true ↔ ∃ e ∈ es1.toList, (strKind prog w).is k' e.2 = true)
    (hb1 : es1.size < scanBound) (hf2 : t2.fits es1.size = true) (hl : t2.led = led) (hpl : t2.plain = false) {wasDummy : Bool} {R : Option Bool → Shared → Prop}
    (h : ∀ h', Heap.SameBut a s.heap h' → SetL prog w h' a S' es1.size led → R (some true) { s with heap := h' }) :
    wpAny (model prog w) A (do
        storeSet a es1 t2
        if (!wasDummy && t2.tooFull) = true then do
            g (relayAll t2 es1 (SetTable.grown es1.size)).2.2
            storeSet a (relayAll t2 es1 (SetTable.grown es1.size)).1 (relayAll t2 es1 (SetTable.grown es1.size)).2.1
            pure (some true)
          else pure (some true)) R E s := by
  refine wpAny_bind (wpAny_storeSet_of ho hd ?_ (fits_of_scanBound hb1))
  obtain ⟨ho1, hS1⟩ := SetL_store ho hex hd hel1 hmem1 hb1 hf2 hl hpl
  have hsb1 := Heap.SameBut.update s.heap a (Obj.putSet es1 t2)
  split
  · have hp := relayAll_perm t2 es1 (SetTable.grown es1.size)
    have hfr := relayAll_fits t2 es1 (SetTable.grown es1.size)
    have hl3 := relayAll_led t2 es1 (SetTable.grown es1.size)
    have hp3 := relayAll_plain t2 es1 (SetTable.grown es1.size) hpl
    generalize hRl : relayAll t2 es1 (SetTable.grown es1.size) = Rl at hp hfr hl3 hp3 ⊢
    obtain ⟨es2, t3, gave2⟩ := Rl
    dsimp only at hp hfr hl3 hp3 ⊢
    have hel2 : ElemsOf (strKind prog w) es2.toList := hel1.perm hp
    have hmem2 : ∀ k', S' k' = true ↔ ∃ e ∈ es2.toList, (strKind prog w).is k' e.2 = true := fun k' => (hmem1 k').trans ⟨fun ⟨e, he, q⟩ => ⟨e, hp.mem_iff.mpr he, q⟩, fun ⟨e, he, q⟩ => ⟨e, hp.mem_iff.mp he, q⟩⟩
    have hsz : es2.size = es1.size := by rw [← Array.length_toList, hp.length_eq, Array.length_toList]
    have hb2 : es2.size < scanBound := by rw [hsz]; exact hb1
    refine wpAny_bind (hg _ _ _ ?_)
    refine wpAny_bind (wpAny_storeSet_of ho1 rfl ?_ (fits_of_scanBound hb2))
    obtain ⟨_, hS2⟩ := SetL_store (o := { o with data := .set es1 (ep + 1) t2 }) ho1 hex rfl hel2 hmem2 hb2 hfr (hl3.trans hl) hp3
    rw [hsz] at hS2
    exact wpAny_pure (h _ (hsb1.trans (Heap.SameBut.update _ a _)) hS2)
  · exact wpAny_pure (h _ hsb1 hS1)
theorem layNew_plain (t : SetTable) (es : Array (Int × Value)) (h : Int) (x : Value) : (layNew t es h x).2.1.plain = false ∨ (layNew t es h x).2.1.plain = t.plain := by
  unfold layNew
  split
  · show (SetTable.orStandIn _ _).plain = false ∨ (SetTable.orStandIn _ _).plain = _
    unfold SetTable.orStandIn
    split
    · exact .inr rfl
    · exact .inl rfl
  · exact .inl rfl
theorem addL {a : Addr} {S : Str → Bool} {n : Nat} {led : Bool} {k : Str} {tk : Tok} {Q : Bool → Shared → Prop} (hS : SetL prog w s.heap a S n led) (hroom : n + 1 < scanBound)
    (h : ∀ h', Heap.SameBut a s.heap h' → SetL prog w h' a (fun k' => S k' || decide (k' = k)) (if S k then n else n + 1) led → Q (!S k) { s with heap := h' }) :
    wpAny (model prog w) A (setAddHashed a (.str k tk) ((strKind prog w).hash k)) Q E s := by
  have hkey : (strKind prog w).is k (.str k tk) = true := strKind_is prog w k tk
  have hsc : (Value.str k tk).scannable = true := rfl
  obtain ⟨o, es, ep, t, ho, hex, hd, hel, hmem, hb, hf, hn, hld, hpl⟩ := hS
  have hb1 : es.size + 1 < scanBound := by rw [hn]; exact hroom
  unfold setAddHashed setAddHashedIn
  refine wpAny_holding (wpAny_bind (wpAny_setState_of ho hd hf ?_))
  dsimp only
  rw [byScan_of hsc hb hel]
  simp only [↓reduceIte]
  unfold setAddByScan
  refine wpAny_bind ?_
  refine wpAny_bind (wpAny_rule ?_)
  refine wpAny_bind (wpAny_setScan_of hkey ho hd hf hel ?_)
  cases hr : List.findIdx? (fun e => (strKind prog w).is k e.2) es.toList with
  | some j =>
    dsimp only
    obtain ⟨hj, hpj, _⟩ := List.findIdx?_eq_some_iff_getElem.mp hr
    have hSk : S k = true := (hmem k).mpr ⟨es.toList[j], List.getElem_mem hj, hpj⟩
    refine wpAny_pure (wpAny_pure ?_)
    have e : s = { s with heap := s.heap } := by cases s; rfl
    have := h s.heap (Heap.SameBut.refl a s.heap) ⟨o, es, ep, t, ho, hex, hd, hel, fun k' => by
      rw [Bool.or_eq_true, decide_eq_true_eq, ← hmem k']
      exact ⟨fun hk => hk.elim id (fun e => e ▸ hSk), .inl⟩, hb, hf, (by rw [hSk]; exact hn), hld, hpl⟩
    rw [hSk] at this; rw [e]; exact this
  | none =>
    dsimp only
    have hSk : S k = false := by
      cases hk : S k with
      | false => rfl
      | true => obtain ⟨e, he, hp⟩ := (hmem k).mp hk; have := List.findIdx?_eq_none_iff.mp hr e he; rw [hp] at this; exact Bool.noConfusion this
    have hgw : ∀ (b : Bool) {s₁ : Shared} {Q' : Unit → Shared → Prop}, Q' () s₁ → wpAny (model prog w) A (match b with | true => rule "set.scan.the-table-gave-way" | false => pure ()) Q' E s₁ :=
      fun b s₁ Q' hq => by cases b <;> first | exact wpAny_pure hq | exact wpAny_rule hq
    have hperm := layNew_perm t es ((strKind prog w).hash k) (.str k tk)
    have hfits := layNew_fits t es ((strKind prog w).hash k) (.str k tk)
    have hled := layNew_led t es ((strKind prog w).hash k) (.str k tk)
    have hpln := layNew_plain t es ((strKind prog w).hash k) (.str k tk)
    generalize hL : layNew t es ((strKind prog w).hash k) (.str k tk) = L at hperm hfits hled hpln ⊢
    obtain ⟨es1, t1, wasDummy, gave⟩ := L
    dsimp only at hperm hfits hled hpln ⊢
    rw [Array.toList_push] at hperm
    have hel1 : ElemsOf (strKind prog w) es1.toList := (hel.push hkey hsc).perm hperm
    have hmem1 : ∀ k', (S k' || decide (k' = k)) = true ↔ ∃ e ∈ es1.toList, (strKind prog w).is k' e.2 = true := mem_push_iff hkey hmem hperm
    have hb1' : es1.size < scanBound := by rw [← Array.length_toList, hperm.length_eq, List.length_append, Array.length_toList]; simpa using hb1
    refine wpAny_bind (hgw _ ?_)
    have hsz1 : es1.size = n + 1 := by rw [← Array.length_toList, hperm.length_eq, List.length_append, Array.length_toList, hn]; rfl
    have hend : ∀ h', Heap.SameBut a s.heap h' → SetL prog w h' a (fun k' => S k' || decide (k' = k)) es1.size led → Q true { s with heap := h' } := by
      intro h' hsb hS'; have := h h' hsb; rw [hSk] at this; rw [hsz1] at hS'; exact this hS'
    split
    · refine wpAny_bind ?_
      rw [hashByValue_scannable 8 hsc]
      refine wpAny_pure ?_
      have hpk : plainKind (.str k tk) = false := rfl
      rw [hpk]
      refine addTailL (t2 := { t1 with plain := false }) ?_ ho hex hd hel1 hmem1 hb1' (SetTable.fits_plain_off hfits) (hled.trans hld) rfl ?_
      · intro b s₁ Q' hq; cases b <;> first | exact wpAny_pure hq | exact wpAny_rule hq
      · intro h' hsb hS'; dsimp only; exact wpAny_pure (hend h' hsb hS')
    · next hnp =>
      refine wpAny_bind (wpAny_pure ?_)
      simp only [↓reduceIte]
      refine addTailL ?_ ho hex hd hel1 hmem1 hb1' hfits (hled.trans hld) (by simpa using hnp) ?_
      · intro b s₁ Q' hq; cases b <;> first | exact wpAny_pure hq | exact wpAny_rule hq
      · intro h' hsb hS'; dsimp only; exact wpAny_pure (hend h' hsb hS')
end
end L2

namespace L2
open PySem PySem.Spec PyProof.Rows
/-- the first i, each once -/
def dd (val : Nat → Str) : Nat → List Str
  | 0 => []
  | i + 1 => if val i ∈ dd val i then dd val i else dd val i ++ [val i]
theorem dd_len (val : Nat → Str) : ∀ i, (dd val i).length ≤ i
  | 0 => Nat.le_refl _
  | i + 1 => by
    have := dd_len val i
    unfold dd
    split
    · omega
    · rw [List.length_append]; exact Nat.succ_le_succ this
theorem dd_nodup (val : Nat → Str) : ∀ i, (dd val i).Nodup
  | 0 => List.nodup_nil
  | i + 1 => by
    unfold dd
    split
    · exact dd_nodup val i
    · next h =>
      rw [List.nodup_append]
      refine ⟨dd_nodup val i, by simp, fun a ha b hb e => ?_⟩
      simp at hb
      subst hb
      subst e
      exact h ha
theorem dd_mem (val : Nat → Str) : ∀ i x, x ∈ dd val i ↔ ∃ j, j < i ∧ val j = x
  | 0, x => by
    constructor
    · intro h; cases h
    · rintro ⟨j, hj, _⟩; omega
  | i + 1, x => by
    have ih := dd_mem val i x
    have step : x ∈ dd val (i + 1) ↔ x ∈ dd val i ∨ x = val i := by
      show x ∈ (if val i ∈ dd val i then dd val i else dd val i ++ [val i]) ↔ _
      split
      · next h => exact ⟨.inl, fun z => z.elim id fun e => e ▸ h⟩
      · rw [List.mem_append]; simp
    rw [step, ih]
    constructor
    · rintro (⟨j, hj, e⟩ | e)
      · exact ⟨j, by omega, e⟩
      · exact ⟨i, by omega, e.symm⟩
    · rintro ⟨j, hj, e⟩
      by_cases c : j = i
      · subst c; exact .inr e.symm
      · exact .inl ⟨j, by omega, e⟩
theorem SetL.congr {prog : Program} {w : World} {h : Heap} {a : Addr} {S S' : Str → Bool} {n n' : Nat} {led : Bool} (hS : SetL prog w h a S n led) (e : ∀ k, S k = S' k) (en : n = n') : SetL prog w h a S' n' led := by
  have : S = S' := funext e
  subst this; subst en; exact hS
section
variable {prog : Program} {w : World} {A : Around} {R : Result → Shared → Prop} {I : Addr} {fp wr : List Addr} {G : Array GenState → Array GenState → Prop} {n : Nat} {P : Nat → Value → Prop} {St : Nat → Shared → Prop}
theorem SetL.keep {h h' : Heap} {a : Addr} {S : Str → Bool} {m : Nat} {led : Bool} (hS : SetL prog w h a S m led) (k : ∀ o, h.get? a = some o → h'.get? a = some o) : SetL prog w h' a S m led := by
  obtain ⟨o, es, ep, t, ho, rest⟩ := hS
  exact ⟨o, es, ep, t, k o ho, rest⟩
theorem loopL (W : WalksS prog w A.in1 I fp wr G n P St) (S : Addr) (hSf : S ∉ fp) (val : Nat → Str) (hval : ∀ i v, P i v → ∃ t, v = Value.str (val i) t) (hb : n + 1 < scanBound) {led : Bool} :
    ∀ (k i : Nat) (s : Shared), n - i = k → i ≤ n → St i s → SetL prog w s.heap S (fun k' => decide (k' ∈ dd val i)) (dd val i).length led →
      (∀ s', Moved (S :: wr) G s s' → SetL prog w s'.heap S (fun k' => decide (k' ∈ dd val n)) (dd val n).length led → R (.ok (.ret .none)) s') →
      codeAny (model prog w) A (.builtin "set.update.loop" ⟨[.ref S, .ref I], []⟩) R s := by
  have hSw : S ∉ wr := fun h => hSf (W.sub _ h)
  have hsub : ∀ b ∈ wr, b ∈ S :: wr := fun b hb => List.mem_cons_of_mem _ hb
  intro k
  induction k with
  | zero =>
    intro i s hk hi hst hS hR
    have hin : i = n := by omega
    subst hin
    refine codeAny_builtin PyProof.Rows.F.entry_set_update_loop ?_
    rw [Around.under_plainId PyProof.Rows.F.plain_set_update_loop _]
    show wpAny _ A.in1 (pyNext (.ref I) >>= _) _ _ s
    refine wpAny_bind (W.done s _ _ hst fun s' hm => ?_)
    show wpAny _ A.in1 (ret Value.none) _ _ s'
    exact wpAny_pure (hR s' (hm.mono hsub) (hS.keep fun o ho => hm.heap S _ hSw ho))
  | succ k ih =>
    intro i s hk hi hst hS hR
    have hlt : i < n := by omega
    refine codeAny_builtin PyProof.Rows.F.entry_set_update_loop ?_
    rw [Around.under_plainId PyProof.Rows.F.plain_set_update_loop _]
    show wpAny _ A.in1 (pyNext (.ref I) >>= _) _ _ s
    refine wpAny_bind (W.item i s _ _ hlt hst fun v s' hP hst' hm => ?_)
    obtain ⟨t, rfl⟩ := hval i v hP
    have hS' : SetL prog w s'.heap S (fun k' => decide (k' ∈ dd val i)) (dd val i).length led := hS.keep fun o ho => hm.heap S _ hSw ho
    show wpAny _ A.in1 (holding [Value.str (val i) t] (setAdd S (.str (val i) t)) >>= _) _ _ s'
    refine wpAny_bind (wpAny_holding ?_)
    unfold setAdd
    refine wpAny_holding ?_
    refine wpAny_bind ((strKind prog w).pyHash (k := val i) (strKind_is _ _ _ _) ?_)
    have hroom : (dd val i).length + 1 < scanBound := by have := dd_len val i; omega
    refine addL (s := { s' with toks := s'.toks + 1 }) hS' hroom fun h' hsb hS2 => ?_
    have hSi : SetL prog w h' S (fun k' => decide (k' ∈ dd val (i + 1))) (dd val (i + 1)).length led := by
      refine hS2.congr (fun k' => ?_) ?_
      · rw [Bool.eq_iff_iff, Bool.or_eq_true, decide_eq_true_eq, decide_eq_true_eq, decide_eq_true_eq]
        show _ ↔ k' ∈ (if val i ∈ dd val i then dd val i else dd val i ++ [val i])
        split
        · next h => exact ⟨fun z => z.elim id fun e => e ▸ h, .inl⟩
        · rw [List.mem_append]; simp
      · show _ = (if val i ∈ dd val i then dd val i else dd val i ++ [val i]).length
        by_cases c : val i ∈ dd val i
        · rw [if_pos c, if_pos (decide_eq_true c)]
        · rw [if_neg c, if_neg (fun z => c (of_decide_eq_true z)), List.length_append]; rfl
    refine wpAny_pure ⟨plainId_quiet PyProof.Rows.F.plain_set_update_loop _, ih (i + 1) _ (by omega) hlt (W.frame _ s' _ _ hst' (Nat.le_succ _) fun b hb o e => ?_) hSi fun s'' hm'' hS'' => ?_⟩
    · rw [hsb.2 b (fun h : b = S => hSf (by rw [← h]; exact hb))]; exact e
    · refine hR s'' (Moved.trans W.gtrans ((hm.mono hsub).then_heap (Nat.le_succ _) fun b o hb e => ?_) hm'') hS''
      rw [hsb.2 b (fun h : b = S => hb (by rw [h]; exact List.mem_cons_self))]; exact e
end
section
variable {prog : Program} {w : World} {A : Around} {E : Value → Shared → Prop} {s : Shared}
def ledW (w : World) : Bool := !(w.params.followText "set-order")
theorem set_new (a : Value) {Q₁ : Value → Shared → Prop}
    (h : Q₁ (.ref s.heap.objs.size) { s with heap := s.heap.push { cls := .type "set", dict := none, data := .set #[] 0 (.fresh 0 0 (ledW w)) } }) :
    codeAny (model prog w) A (.call (.builtin "set.__new__") ⟨[.type "set", a], []⟩) (wants Q₁ E) s := by
  refine codeAny_of_tree ?_
  show wpAny _ A.in1 (do checkBuiltinCall "set.__new__" ⟨[.type "set", a], []⟩; again (.builtin "set.__new__" ⟨[.type "set", a], []⟩)) _ _ s
  refine wpAny_bind (wpAny_of_eq (PySem.F.newCall_set_1 a) (wpAny_pure ⟨plainId_quiet PySem.F.plain_set_new _, codeAny_builtin PySem.F.entry_set_new ?_⟩))
  rw [Around.under_plainId PySem.F.plain_set_new _]
  unfold Builtin.«set.__new__» Builtin.Frozenset.newClass
  have hsub := sub_set_self
  obtain ⟨hp, g, d, tk, os⟩ := s
  dsimp only
  wp_walk
  refine wpAny_askSetting (wpAny_pure ?_)
  dsimp only
  simp only [newObj]
  refine wpAny_bind (wpAny_alloc (wpAny_pure ?_))
  exact wpAny_pure h
end
end L2

namespace L2
open PySem PySem.Spec PyProof.Rows
section
variable {prog : Program} {w : World} {A : Around} {E : Value → Shared → Prop} {s : Shared}
set_option maxHeartbeats 3200000 in
theorem set_of_strs {l : Addr} {items : Array Value} {val : Nat → Str} {Q : Value → Shared → Prop} (hh : A.handled = none) (hl : s.heap.IsList l items) (hval : ∀ (i : Nat) (v : Value), items[i]? = some v → ∃ t, v = Value.str (val i) t) (hb : items.size + 1 < scanBound)
    (h : ∀ (h' : Heap) (tk : Nat), SetL prog w h' s.heap.objs.size (fun k' => decide (k' ∈ dd val items.size)) (dd val items.size).length (ledW w) →
      (∀ b o, b < s.heap.objs.size → s.heap.get? b = some o → h'.get? b = some o) → Q (.ref s.heap.objs.size) { s with heap := h', toks := tk }) :
    wpAny (model prog w) A (call (.type "set") [.ref l]) Q E s := by
  obtain ⟨c, tl, hmro⟩ := PySem.F.called_set.mro
  have hmade := PySem.F.called_set.made
  have hsub := PySem.F.called_set.sub
  refine wpAny_call (codeAny_of_tree ?_)
  show wpAny _ _ (callAny (.type "set") _) _ _ _
  refine wpAny_pure ⟨Code.quiet_builtin _ (by decide +kernel), codeAny_builtin PySem.F.entry_type_call ?_⟩
  rw [Around.under_plain (weight_type_call_type "set" [.ref l] []) rfl]
  have h1 := PySem.F.called_set.notType
  have h2 := PySem.F.called_set.canCreate
  have hct := PySem.F.typeCall_set_1 (.ref l)
  repeat (any_goals (first | assumption | wp_step))
  refine codeAny_mono (set_new (.ref l) (E := E) (Q₁ := fun obj s₁ => obj = .ref s.heap.objs.size ∧ s₁ = { s with heap := s.heap.push { cls := .type "set", dict := none, data := .set #[] 0 (.fresh 0 0 (ledW w)) } }) ⟨rfl, rfl⟩) fun r s₁ hr => ?_
  cases r with
  | error e => exact hr
  | ok fl =>
    cases fl with
    | ret obj =>
      obtain ⟨rfl, rfl⟩ := hr
      have hS : (s.heap.push { cls := .type "set", dict := none, data := .set #[] 0 (.fresh 0 0 (ledW w)) }).get? s.heap.objs.size = some { cls := .type "set", dict := none, data := .set #[] 0 (.fresh 0 0 (ledW w)) } := Heap.get?_push_size _ rfl
      have hT : Shared.TypeIs { s with heap := s.heap.push { cls := .type "set", dict := none, data := .set #[] 0 (.fresh 0 0 (ledW w)) } } (.ref s.heap.objs.size) "set" := ⟨_, hS, rfl⟩
      have hli := PySem.F.called_set.init.lookup
      have hbi := PySem.F.called_set.init.bind (.ref s.heap.objs.size)
      repeat (any_goals (first | assumption | wp_step))
      refine codeAny_mono (codeAny_call_builtin (R := wants (fun r s₂ => r = .none ∧ ∃ h' tk, s₂ = { s with heap := h', toks := tk } ∧
          SetL prog w h' s.heap.objs.size (fun k' => decide (k' ∈ dd val items.size)) (dd val items.size).length (ledW w) ∧
          (∀ b o, b < s.heap.objs.size → s.heap.get? b = some o → h'.get? b = some o)) E) PySem.F.called_set.init.plain PySem.F.entry_set_init (check_set_init_1 hT ?_)) fun r₂ s₂ hr₂ => ?_
      · obtain ⟨ol, hol, hcl, nl, hdl⟩ := hl
        obtain ⟨ocls, odict, odata, oslots⟩ := ol
        simp only at hcl hdl
        subst hcl; subst hdl
        have hol' : (s.heap.push { cls := .type "set", dict := none, data := .set #[] 0 (.fresh 0 0 (ledW w)) }).get? l = some { cls := .type "list", dict := odict, data := .seq items nl, slots := oslots } := Heap.get?_push_of_some _ hol
        have hsls := PySem.F.sub_list_set
        have hslf := PySem.F.sub_list_frozenset
        have hne : (Value.type "list" == Value.type "dict") = false := by decide
        have hl1 : (s.heap.push { cls := .type "set", dict := none, data := .set #[] 0 (.fresh 0 0 (ledW w)) }).IsList l items := ⟨_, hol', rfl, nl, rfl⟩
        unfold Builtin.«set.__init__» noKeywords Builtin.Frozenset.updateFrom
        generalize hPI : pyIter = PI
        wp_walk
        subst hPI
        refine wpAny_pyIter_list hl1 ?_
        refine wpAny_bind (wpAny_runValue ?_)
        have hlS : l < s.heap.objs.size := Heap.lt_size hol
        have hh3 : A.in1.in1.in1.handled = none := by simp [hh]
        have hneI : l ≠ (s.heap.push { cls := .type "set", dict := none, data := .set #[] 0 (.fresh 0 0 (ledW w)) }).objs.size := by
          rw [Heap.size_push]; exact Nat.ne_of_lt (Nat.lt_succ_of_lt hlS)
        have hSf : s.heap.objs.size ∉ [(s.heap.push { cls := .type "set", dict := none, data := .set #[] 0 (.fresh 0 0 (ledW w)) }).objs.size, l] := by
          rw [Heap.size_push]; simp only [List.mem_cons, List.mem_singleton, List.not_mem_nil, or_false, not_or]
          exact ⟨Nat.ne_of_lt (Nat.lt_succ_self _), Nat.ne_of_gt hlS⟩
        refine loopL ((Walks.list hh3 _ l hneI items).toS) s.heap.objs.size hSf val hval hb (led := ledW w) (items.size - 0) 0 _ (by omega) (Nat.zero_le _)
          ⟨⟨_, Heap.get?_push_size _ rfl, rfl, rfl⟩, (hl1.push _)⟩ ?hS0 ?hR
        case hS0 =>
          have hget : ((s.heap.push { cls := .type "set", dict := none, data := .set #[] 0 (.fresh 0 0 (ledW w)) }).push { cls := .type "list_iterator", data := .fields #[.ref l, .int 0 0] }).get? s.heap.objs.size
              = some { cls := .type "set", dict := none, data := .set #[] 0 (.fresh 0 0 (ledW w)) } := Heap.get?_push_of_some _ hS
          exact ⟨_, #[], 0, _, hget, ⟨rfl, rfl, rfl⟩, rfl, fun e he => by simp at he, fun k => by simp [dd], by decide, by rfl, rfl, rfl, fun z => absurd rfl z⟩
        case hR =>
          intro s' hm hS'
          obtain ⟨h', g', d', tk', os'⟩ := s'
          have eg : g' = s.gens := hm.gens
          have ed : d' = s.drawn := hm.drawn
          have eo : os' = s.os := hm.os
          subst eg; subst ed; subst eo
          show wpAny _ _ _ _ _ _
          refine wpAny_pure ?_
          show wpAny _ _ (ret Value.none) _ _ _
          refine wpAny_pure ⟨rfl, h', tk', rfl, hS', fun b o hb e => ?_⟩
          have hb1 : b ≠ s.heap.objs.size := Nat.ne_of_lt hb
          have hb2 : b ≠ (s.heap.push { cls := .type "set", dict := none, data := .set #[] 0 (.fresh 0 0 (ledW w)) }).objs.size := by
            rw [Heap.size_push]; exact Nat.ne_of_lt (Nat.lt_succ_of_lt hb)
          exact hm.heap b o (by simp only [List.mem_cons, List.mem_singleton, List.not_mem_nil, or_false, not_or]; exact ⟨hb1, hb2⟩) (Heap.get?_push_of_some _ (Heap.get?_push_of_some _ e))
      · cases r₂ with
        | error e => exact hr₂
        | ok fl₂ =>
          cases fl₂ with
          | ret r =>
            obtain ⟨rfl, h', tk, rfl, hS', hk'⟩ := hr₂
            repeat (any_goals (first | assumption | wp_step))
            exact h _ _ hS' hk'
          | _ => exact hr₂.elim
    | _ => exact hr.elim
end
end L2

/-! a set of texts is walked, in any order. -/
namespace L2
open PySem PySem.Spec PyProof.Rows
theorem slot_seti_next : Slot "set_iterator" "__next__" "set_iterator.__next__" :=
  .of (owner := "set_iterator") (n := "__next__") (by rw [typeLookup_type, builtinLookup_eq_fast]; kernel_rfl) (by decide +kernel) (by decide +kernel) (by decide +kernel)
    (by first | exact .inl (by decide +kernel) | exact .inr (by decide +kernel)) (by rw [isSubtype_type]; kernel_rfl)
theorem entry_seti_next : entryFor table "set_iterator.__next__" = some Builtin.«set_iterator.__next__» := entryFor_of_tree (by kernel_rfl)
theorem args_seti_next (a : Value) : argsOk "set_iterator.__next__" ⟨[a], []⟩ := by unfold argsOk; kernel_rfl
theorem slot_seti_iter : Slot "set_iterator" "__iter__" "set_iterator.__iter__" :=
  .of (owner := "set_iterator") (n := "__iter__") (by rw [typeLookup_type, builtinLookup_eq_fast]; kernel_rfl) (by decide +kernel) (by decide +kernel) (by decide +kernel)
    (by first | exact .inl (by decide +kernel) | exact .inr (by decide +kernel)) (by rw [isSubtype_type]; kernel_rfl)
theorem entry_seti_iter : entryFor table "set_iterator.__iter__" = some Builtin.«dict_keyiterator.__iter__» := entryFor_alias (id' := "dict_keyiterator.__iter__") (by kernel_rfl) rfl (by decide +kernel) (by kernel_rfl)
theorem args_seti_iter (a : Value) : argsOk "set_iterator.__iter__" ⟨[a], []⟩ := by unfold argsOk; kernel_rfl
theorem entry_set_iter : entryFor table "set.__iter__" = some Builtin.«frozenset.__iter__» := entryFor_alias (id' := "frozenset.__iter__") (by kernel_rfl) rfl (by decide +kernel) (by kernel_rfl)
theorem erase_perm {α : Type} : ∀ (l : List α) (i : Nat) (h : i < l.length), (l[i] :: l.eraseIdx i).Perm l
  | a :: r, 0, _ => .refl _
  | a :: r, i + 1, h => by
    have ih := erase_perm r i (Nat.lt_of_succ_lt_succ h)
    show (r[i]'(Nat.lt_of_succ_lt_succ h) :: a :: r.eraseIdx i).Perm (a :: r)
    exact (List.Perm.swap a _ _).trans (ih.cons a)
section
variable {prog : Program} {w : World} {A : Around} {E : Value → Shared → Prop} {s : Shared}
theorem wp_choose {M : Model} {src : Source} {n : Nat} {Q : Nat → Shared → Prop} (hn : n ≠ 0) (h : ∀ i d, i < n → Q i { s with drawn := d }) : wpAny M A (choose src n) Q E s :=
  fun _ _ _ => ⟨hn, h _ _ (Nat.mod_lt _ (Nat.pos_of_ne_zero hn))⟩
theorem wp_drawOrder {α : Type} : ∀ (n : Nat) (xs : List α) (s : Shared) (Q : List α → Shared → Prop), xs.length = n → (∀ ys d, ys.Perm xs → Q ys { s with drawn := d }) → wpAny (model prog w) A (drawOrder n xs) Q E s
  | 0, xs, s, Q, hl, h => by
    have e : xs = [] := List.length_eq_zero_iff.mp hl
    subst e
    exact wpAny_pure (by have := h [] s.drawn .nil; cases s; exact this)
  | n + 1, [], s, Q, hl, h => by cases hl
  | n + 1, a :: r, s, Q, hl, h => by
    show wpAny (model prog w) A (do
      let i ← choose .order (a :: r).length
      match (a :: r)[i]? with
      | some x => return x :: (← drawOrder n ((a :: r).eraseIdx i))
      | none => unsupported "internal:drawOrder") Q E s
    refine wpAny_bind (wp_choose (by simp) fun i d hi => ?_)
    have e : (a :: r)[i]? = some (a :: r)[i] := List.getElem?_eq_getElem hi
    rw [e]
    dsimp only
    refine wpAny_bind (wp_drawOrder n _ _ _ (by rw [List.length_eraseIdx_of_lt hi]; omega) fun ys d2 p => wpAny_pure ?_)
    exact h _ d2 ((List.Perm.cons _ p).trans (erase_perm _ i hi))
end
end L2

namespace L2
open PySem PySem.Spec PyProof.Rows
def placesT (ps : List Nat) : Array Value := (ps.map fun (i : Nat) => rawInt i).toArray
def sitObj (first : Value) (i : Nat) (a : Addr) (n ep : Nat) : Obj := { cls := .type "set_iterator", data := .fields #[first, .int i 0, .ref a, .int n 0, .int ep 0] }
def SIter (h : Heap) (I : Addr) (first : Value) (i : Nat) (a : Addr) (n ep : Nat) : Prop := ∃ o, h.get? I = some o ∧ o.cls = .type "set_iterator" ∧ o.data = .fields #[first, .int i 0, .ref a, .int n 0, .int ep 0]
structure RawS (h : Heap) (a : Addr) (es : Array (Int × Value)) (ep : Nat) (t : SetTable) : Prop where
  ex : ∃ o, h.get? a = some o ∧ o.ExactSet ∧ o.data = .set es ep t
  fits : t.fits es.size = true
theorem RawS.at {h h' : Heap} {a : Addr} {es : Array (Int × Value)} {ep : Nat} {t : SetTable} (r : RawS h a es ep t) (k : ∀ o, h.get? a = some o → h'.get? a = some o) : RawS h' a es ep t :=
  let ⟨⟨o, h1, h2⟩, h3⟩ := r; ⟨⟨o, k o h1, h2⟩, h3⟩
theorem SIter.typeIs {s : Shared} {I : Addr} {first : Value} {i : Nat} {a : Addr} {n ep : Nat} (q : SIter s.heap I first i a n ep) : s.TypeIs (.ref I) "set_iterator" := let ⟨o, h1, h2, _⟩ := q; ⟨o, h1, h2⟩
section
variable {prog : Program} {w : World} {A : Around} {E : Value → Shared → Prop} {s : Shared}
def drawnB (w : World) (es : Array (Int × Value)) (t : SetTable) : Bool := !(w.params.followText "set-order") && (!t.plain && decide (es.size > 1))
theorem iter_set {a : Addr} {es : Array (Int × Value)} {ep : Nat} {t : SetTable} {Q : Value → Shared → Prop} (hr : RawS s.heap a es ep t) (hz : es.size ≤ sizeLine)
    (hT : drawnB w es t = false → Q (.ref s.heap.objs.size) { s with heap := s.heap.push (sitObj (.int 0 0) 0 a es.size ep) })
    (hD : drawnB w es t = true → ∀ (ps : List Nat) (d : Drawn), ps.Perm (List.range es.size) → Q (.ref (s.heap.push { cls := .type "tuple", data := .seq (placesT ps) }).objs.size)
      { s with heap := (s.heap.push { cls := .type "tuple", data := .seq (placesT ps) }).push (sitObj (.ref s.heap.objs.size) 0 a es.size ep), drawn := d }) : wpAny (model prog w) A (pyIter (.ref a)) Q E s := by
  obtain ⟨⟨o, ho, hex, hd⟩, hf⟩ := id hr
  have T : s.TypeIs (.ref a) "set" := ⟨o, ho, hex.1⟩
  refine wpAny_pyIter_slot T PySem.F.slot_set_iter (wpAny_call_entry PySem.F.slot_set_iter T entry_set_iter ?_ (PySem.F.args_set_iter_1 _))
  unfold Builtin.«frozenset.__iter__»
  refine wpAny_bind ?_
  show wpAny (model prog w) _ (pure a) _ _ s
  refine wpAny_pure ?_
  refine wpAny_bind ?_
  unfold Builtin.Frozenset.sizeOf
  refine wpAny_bind (wpAny_setEntries_of ho hd hf (wpAny_pure ?_))
  refine wpAny_bind ?_
  unfold setDrawn
  refine wpAny_bind (wpAny_setState_of ho hd hf ?_)
  unfold setsByText
  refine wpAny_bind (wpAny_bind (wpAny_askSetting (wpAny_pure ?_)))
  refine wpAny_pure ?_
  show wpAny (model prog w) _ (if drawnB w es t = true then _ else _) _ _ s
  cases hb : drawnB w es t with
  | false =>
    rw [if_neg Bool.false_ne_true]
    refine wpAny_bind (wpAny_pure ?_)
    refine wpAny_bind (wpAny_setEpoch_of ho hd hf ?_)
    exact wpAny_bind (wpAny_newObj_type (wpAny_pure ⟨_, rfl, "set_iterator", _, ⟨_, Heap.get?_push_size _ rfl, rfl⟩, slot_seti_next.lookup, hT hb⟩))
  | true =>
    rw [if_pos rfl]
    refine wpAny_bind (wp_drawOrder _ _ _ _ (by simp) fun ps d p => ?_)
    have hl : ps.length = es.size := by rw [p.length_eq, List.length_range]
    refine wpAny_bind (m := newTuple (ps.map fun (i : Nat) => rawInt i)) ?_
    refine wpAny_newObj_type ?_ (by show (ps.map fun (i : Nat) => rawInt i).toArray.size ≤ sizeLine; rw [List.size_toArray, List.length_map, hl]; exact hz)
    have ho2 : (s.heap.push { cls := .type "tuple", data := .seq (ps.map fun (i : Nat) => rawInt i).toArray }).get? a = some o := Heap.get?_push_of_some _ ho
    refine wpAny_bind (wpAny_setEpoch_of (s := { s with heap := s.heap.push { cls := .type "tuple", data := .seq (ps.map fun (i : Nat) => rawInt i).toArray }, drawn := d }) ho2 hd hf ?_)
    exact wpAny_bind (wpAny_newObj_type (wpAny_pure ⟨_, rfl, "set_iterator", _, ⟨_, Heap.get?_push_size _ rfl, rfl⟩, slot_seti_next.lookup, hD hb ps d p⟩))
end
end L2

namespace L2
open PySem PySem.Spec PyProof.Rows
theorem pick_go {α : Type} (next : Nat → Nat) : ∀ (fuel k : Nat) (left : List α) (out : Array α), left.length = fuel → (pickOrder.go next fuel k left out).toList.Perm (out.toList ++ left)
  | 0, k, left, out, h => by
    have e : left = [] := List.length_eq_zero_iff.mp h
    subst e
    unfold pickOrder.go
    rw [List.append_nil]
  | fuel + 1, k, left, out, h => by
    have hl : next k % left.length < left.length := Nat.mod_lt _ (by omega)
    unfold pickOrder.go
    rw [List.getElem?_eq_getElem hl]
    refine (pick_go next fuel (k + 1) _ _ (by rw [List.length_eraseIdx_of_lt hl]; omega)).trans ?_
    rw [Array.toList_push, List.append_assoc]
    exact List.Perm.append_left _ (erase_perm left _ hl)
theorem pick_perm {α : Type} (next : Nat → Nat) (xs : Array α) : (pickOrder next xs).toList.Perm xs.toList := by
  have := pick_go next xs.size 0 xs.toList #[] (by simp)
  unfold pickOrder
  simpa using this
section
variable {prog : Program} {w : World} {A : Around} {E : Value → Shared → Prop} {s : Shared}
theorem nextObj {h : Heap} {I : Addr} {o : Obj} {vs : Array Value} (ho : h.get? I = some o) (hd : o.data = .fields vs) (j : Nat) (v : Value) :
    (h.update I (Obj.mapFields (·.setIfInBounds j v))).get? I = some (Obj.mapFields (·.setIfInBounds j v) o) ∧ (Obj.mapFields (·.setIfInBounds j v) o).data = .fields (vs.setIfInBounds j v) ∧ (Obj.mapFields (·.setIfInBounds j v) o).cls = o.cls :=
  ⟨Heap.get?_update_self _ ho (Obj.isFreed_of_fields (Obj.data_mapFields hd _)), Obj.data_mapFields hd _, Obj.cls_mapFields ..⟩
/-- the iterator goes on, over a set that is not drawn -/
theorem seti_item {I a : Addr} {slot nx i ep : Nat} {es : Array (Int × Value)} {t : SetTable} {x : Value} {Q : Option Value → Shared → Prop} (hit : SIter s.heap I (.int slot 0) i a es.size ep) (hr : RawS s.heap a es ep t)
    (hn : ∀ {A' : Around} {E' : Value → Shared → Prop} {Q' : Option (Value × Nat) → Shared → Prop}, Q' (some (x, nx)) s → wpAny (model prog w) A' (setNext a slot i ep) Q' E' s)
    (hQ : ∀ h1, SIter h1 I (.int nx 0) (i + 1) a es.size ep → Heap.SameBut I s.heap h1 → Q (some x) { s with heap := h1 }) : wpAny (model prog w) A (pyNext (.ref I)) Q E s := by
  obtain ⟨o, ho, hc, hd⟩ := id hit
  obtain ⟨⟨os, hos, hex, hds⟩, hf⟩ := id hr
  unfold pyNext
  refine wpAny_bind (wpAny_attempt (wpAny_callSpecial?_slot (name := Str.ofString "__next__") hit.typeIs slot_seti_next (wpAny_call_entry slot_seti_next hit.typeIs entry_seti_next ?_ (args_seti_next _))))
  unfold Builtin.«set_iterator.__next__»
  refine wpAny_bind (wpAny_pure (wpAny_bind (wpAny_fieldsOf ho hd ?_)))
  show wpAny (model prog w) _ (setEntries a >>= _) _ _ s
  refine wpAny_bind (wpAny_setEntries_of hos hds hf ?_)
  rw [if_neg (by simp)]
  show wpAny (model prog w) _ (setNext a slot i ep >>= _) _ _ s
  refine wpAny_bind (hn ?_)
  show wpAny (model prog w) _ (setField (.ref I) 0 (rawInt (nx : Int)) >>= _) _ _ s
  refine wpAny_bind (wpAny_setField ho hd (by simp) ?_)
  obtain ⟨g1, g2, g3⟩ := nextObj ho hd 0 (rawInt (nx : Int))
  show wpAny (model prog w) _ (setField (.ref I) 1 (rawInt ((i : Int) + 1)) >>= _) _ _ _
  refine wpAny_bind (wpAny_setField g1 g2 (by simp) ?_)
  obtain ⟨k1, k2, k3⟩ := nextObj g1 g2 1 (rawInt ((i : Int) + 1))
  refine wpAny_pure ⟨_, rfl, wpAny_pure (hQ _ ⟨_, k1, k3.trans (g3.trans hc), ?_⟩ ((Heap.SameBut.update ..).trans (Heap.SameBut.update ..)))⟩
  rw [k2]
  simp [rawInt]
theorem seti_end {I a : Addr} {slot i ep : Nat} {es : Array (Int × Value)} {t : SetTable} {Q : Option Value → Shared → Prop} (hh : A.handled = none) (hit : SIter s.heap I (.int slot 0) i a es.size ep) (hr : RawS s.heap a es ep t)
    (hn : ∀ {A' : Around} {E' : Value → Shared → Prop} {Q' : Option (Value × Nat) → Shared → Prop}, Q' none s → wpAny (model prog w) A' (setNext a slot i ep) Q' E' s)
    (hQ : ∀ h1, Heap.ExtBut I s.heap h1 → Q none { s with heap := h1 }) : wpAny (model prog w) A (pyNext (.ref I)) Q E s := by
  obtain ⟨o, ho, hc, hd⟩ := id hit
  obtain ⟨⟨os, hos, hex, hds⟩, hf⟩ := id hr
  unfold pyNext
  refine wpAny_bind (wpAny_attempt (wpAny_callSpecial?_slot (name := Str.ofString "__next__") hit.typeIs slot_seti_next (wpAny_call_entry slot_seti_next hit.typeIs entry_seti_next ?_ (args_seti_next _))))
  unfold Builtin.«set_iterator.__next__»
  refine wpAny_bind (wpAny_pure (wpAny_bind (wpAny_fieldsOf ho hd ?_)))
  show wpAny (model prog w) _ (setEntries a >>= _) _ _ s
  refine wpAny_bind (wpAny_setEntries_of hos hds hf ?_)
  rw [if_neg (by simp)]
  show wpAny (model prog w) _ (setNext a slot i ep >>= _) _ _ s
  refine wpAny_bind (hn ?_)
  show wpAny (model prog w) _ (setField (.ref I) 2 .none >>= _) _ _ s
  refine wpAny_bind (wpAny_setField ho hd (by simp) ?_)
  show wpAny (model prog w) _ (newExc (.type "StopIteration") [] >>= _) _ _ _
  refine wpAny_bind ?_
  simp only [newExc, newTuple]
  refine wpAny_bind (wpAny_newObj_type (wpAny_bind (m := firstArgMember _ _) (wpAny_of_eq (a := Value.none) (by first | rfl | (simp only [firstArgMember]; rfl)) (wpAny_newObj_type ?_ (by size_fits)))) (by size_fits))
  simp only [raiseNew]
  refine wpAny_bind (wpAny_handled ?_)
  rw [show A.in1.handled = none from hh]
  refine wpAny_bind (wpAny_pure (wpAny_throw ?_))
  exact wpAny_bind (wpAny_isInstance (T := "StopIteration") (b := true) ⟨_, Heap.get?_push_size _ rfl, rfl⟩ isSubtype_stop (wpAny_pure (hQ _ (((Heap.SameBut.update ..).extBut.push _).push _))))
/-- by the text's order -/
theorem next_text {a : Addr} {slot i ep : Nat} {es : Array (Int × Value)} {t : SetTable} (hw : w.params.followText "set-order" = true) (hr : RawS s.heap a es ep t)
    {A' : Around} {E' : Value → Shared → Prop} {Q' : Option (Value × Nat) → Shared → Prop} (hQ : Q' (((pickOrder (w.params.setOrder a ep) es)[i]?).map fun e => (e.2, slot)) s) : wpAny (model prog w) A' (setNext a slot i ep) Q' E' s := by
  obtain ⟨⟨os, hos, hex, hds⟩, hf⟩ := id hr
  unfold setNext
  refine wpAny_bind (wpAny_setState_of hos hds hf ?_)
  unfold setsByText
  refine wpAny_bind (wpAny_bind (wpAny_askSetting (wpAny_pure ?_)))
  show wpAny (model prog w) _ (if w.params.followText "set-order" = true then _ else _) _ _ s
  rw [if_pos hw, if_neg (by simp)]
  refine wpAny_bind ?_
  unfold setWalk
  refine wpAny_bind (wpAny_setState_of hos hds hf ?_)
  unfold setsByText
  refine wpAny_bind (wpAny_bind (wpAny_askSetting (wpAny_pure ?_)))
  show wpAny (model prog w) _ (if w.params.followText "set-order" = true then _ else _) _ _ s
  rw [if_pos hw]
  refine wpAny_bind (wpAny_askSetting (wpAny_pure ?_))
  exact wpAny_pure hQ
/-- a set of one or none, by its place -/
theorem next_few {a : Addr} {slot i ep : Nat} {es : Array (Int × Value)} {t : SetTable} (hw : w.params.followText "set-order" = false) (hr : RawS s.heap a es ep t) (hl : t.led = true) (h1 : es.size ≤ 1)
    {A' : Around} {E' : Value → Shared → Prop} {Q' : Option (Value × Nat) → Shared → Prop} (hQ : Q' (match es[SetTable.below t.place slot]?, t.place[SetTable.below t.place slot]? with | some (_, x), some j => some (x, j + 1) | _, _ => none) s) : wpAny (model prog w) A' (setNext a slot i ep) Q' E' s := by
  obtain ⟨⟨os, hos, hex, hds⟩, hf⟩ := id hr
  unfold setNext
  refine wpAny_bind (wpAny_setState_of hos hds hf ?_)
  unfold setsByText
  refine wpAny_bind (wpAny_bind (wpAny_askSetting (wpAny_pure ?_)))
  show wpAny (model prog w) _ (if w.params.followText "set-order" = true then _ else _) _ _ s
  rw [hw, if_neg Bool.false_ne_true]
  show wpAny (model prog w) _ (if (!t.plain && decide (es.size > 1)) = true then _ else _) _ _ s
  rw [decide_eq_false (by omega), Bool.and_false, if_neg Bool.false_ne_true]
  refine wpAny_bind ?_
  show wpAny (model prog w) _ (if (!t.led && !es.isEmpty) = true then _ else _) _ _ s
  rw [hl]
  show wpAny (model prog w) _ (if (false && !es.isEmpty) = true then _ else _) _ _ s
  rw [Bool.false_and, if_neg Bool.false_ne_true]
  exact wpAny_pure (wpAny_pure hQ)
end
end L2

namespace L2
open PySem PySem.Spec PyProof.Rows
section
variable {prog : Program} {w : World} {A : Around} {E : Value → Shared → Prop} {s : Shared}
theorem seti_itemD {I a T : Addr} {i ep j : Nat} {es : Array (Int × Value)} {t : SetTable} {e : Int × Value} {ps : List Nat} {Q : Option Value → Shared → Prop} (hit : SIter s.heap I (.ref T) i a es.size ep) (hr : RawS s.heap a es ep t)
    (ht : s.heap.IsTuple T (placesT ps)) (hp : ps[i]? = some j) (he : es[j]? = some e)
    (hQ : ∀ h1, SIter h1 I (.ref T) (i + 1) a es.size ep → Heap.SameBut I s.heap h1 → Q (some e.2) { s with heap := h1 }) : wpAny (model prog w) A (pyNext (.ref I)) Q E s := by
  obtain ⟨o, ho, hc, hd⟩ := id hit
  obtain ⟨⟨os, hos, hex, hds⟩, hf⟩ := id hr
  obtain ⟨ot, hot, hct, nt, hdt⟩ := id ht
  unfold pyNext
  refine wpAny_bind (wpAny_attempt (wpAny_callSpecial?_slot (name := Str.ofString "__next__") hit.typeIs slot_seti_next (wpAny_call_entry slot_seti_next hit.typeIs entry_seti_next ?_ (args_seti_next _))))
  unfold Builtin.«set_iterator.__next__»
  refine wpAny_bind (wpAny_pure (wpAny_bind (wpAny_fieldsOf ho hd ?_)))
  show wpAny (model prog w) _ (setEntries a >>= _) _ _ s
  refine wpAny_bind (wpAny_setEntries_of hos hds hf ?_)
  rw [if_neg (by simp)]
  show wpAny (model prog w) _ (seqItems? (.ref T) >>= _) _ _ s
  refine wpAny_bind (wpAny_seqItems hot hdt ?_)
  have e1 : (placesT ps)[(i : Int).toNat]? = some (rawInt (j : Int)) := by
    show (ps.map fun (i : Nat) => rawInt i).toArray[i]? = _
    simp [hp]
  show wpAny (model prog w) _ (match (placesT ps)[(i : Int).toNat]? with | some (.int place _) => _ | some _ => _ | none => _) _ _ s
  rw [e1]
  show wpAny (model prog w) _ (setNextDrawn a j ep >>= _) _ _ s
  refine wpAny_bind ?_
  unfold setNextDrawn
  refine wpAny_bind (wpAny_setState_of hos hds hf ?_)
  dsimp only
  rw [if_neg (by simp), he]
  refine wpAny_pure ?_
  show wpAny (model prog w) _ (setField (.ref I) 1 (rawInt ((i : Int) + 1)) >>= _) _ _ s
  refine wpAny_bind (wpAny_setField ho hd (by simp) ?_)
  obtain ⟨g1, g2, g3⟩ := nextObj ho hd 1 (rawInt ((i : Int) + 1))
  refine wpAny_pure ⟨_, rfl, wpAny_pure (hQ _ ⟨_, g1, g3.trans hc, ?_⟩ (Heap.SameBut.update ..))⟩
  rw [g2]
  simp [rawInt]
theorem seti_endD {I a T : Addr} {i ep : Nat} {es : Array (Int × Value)} {t : SetTable} {ps : List Nat} {Q : Option Value → Shared → Prop} (hh : A.handled = none) (hit : SIter s.heap I (.ref T) i a es.size ep) (hr : RawS s.heap a es ep t)
    (ht : s.heap.IsTuple T (placesT ps)) (hp : ps[i]? = none) (hQ : ∀ h1, Heap.ExtBut I s.heap h1 → Q none { s with heap := h1 }) : wpAny (model prog w) A (pyNext (.ref I)) Q E s := by
  obtain ⟨o, ho, hc, hd⟩ := id hit
  obtain ⟨⟨os, hos, hex, hds⟩, hf⟩ := id hr
  obtain ⟨ot, hot, hct, nt, hdt⟩ := id ht
  unfold pyNext
  refine wpAny_bind (wpAny_attempt (wpAny_callSpecial?_slot (name := Str.ofString "__next__") hit.typeIs slot_seti_next (wpAny_call_entry slot_seti_next hit.typeIs entry_seti_next ?_ (args_seti_next _))))
  unfold Builtin.«set_iterator.__next__»
  refine wpAny_bind (wpAny_pure (wpAny_bind (wpAny_fieldsOf ho hd ?_)))
  show wpAny (model prog w) _ (setEntries a >>= _) _ _ s
  refine wpAny_bind (wpAny_setEntries_of hos hds hf ?_)
  rw [if_neg (by simp)]
  show wpAny (model prog w) _ (seqItems? (.ref T) >>= _) _ _ s
  refine wpAny_bind (wpAny_seqItems hot hdt ?_)
  have e1 : (placesT ps)[(i : Int).toNat]? = none := by
    show (ps.map fun (i : Nat) => rawInt i).toArray[i]? = _
    simp [hp]
  show wpAny (model prog w) _ (match (placesT ps)[(i : Int).toNat]? with | some (.int place _) => _ | some _ => _ | none => _) _ _ s
  rw [e1]
  show wpAny (model prog w) _ (setField (.ref I) 0 (rawInt 0) >>= _) _ _ s
  refine wpAny_bind (wpAny_setField ho hd (by simp) ?_)
  obtain ⟨g1, g2, g3⟩ := nextObj ho hd 0 (rawInt 0)
  show wpAny (model prog w) _ (setField (.ref I) 2 .none >>= _) _ _ _
  refine wpAny_bind (wpAny_setField g1 g2 (by simp) ?_)
  show wpAny (model prog w) _ (newExc (.type "StopIteration") [] >>= _) _ _ _
  refine wpAny_bind ?_
  simp only [newExc, newTuple]
  refine wpAny_bind (wpAny_newObj_type (wpAny_bind (m := firstArgMember _ _) (wpAny_of_eq (a := Value.none) (by first | rfl | (simp only [firstArgMember]; rfl)) (wpAny_newObj_type ?_ (by size_fits)))) (by size_fits))
  simp only [raiseNew]
  refine wpAny_bind (wpAny_handled ?_)
  rw [show A.in1.handled = none from hh]
  refine wpAny_bind (wpAny_pure (wpAny_throw ?_))
  exact wpAny_bind (wpAny_isInstance (T := "StopIteration") (b := true) ⟨_, Heap.get?_push_size _ rfl, rfl⟩ isSubtype_stop (wpAny_pure (hQ _ ((((Heap.SameBut.update ..).trans (Heap.SameBut.update ..)).extBut.push _).push _))))
theorem seti_self {I : Addr} {first : Value} {i : Nat} {a : Addr} {n ep : Nat} {Q : Value → Shared → Prop} (hit : SIter s.heap I first i a n ep) (h : Q (.ref I) s) : wpAny (model prog w) A (pyIter (.ref I)) Q E s := by
  refine wpAny_pyIter_slot hit.typeIs slot_seti_iter (wpAny_call_entry slot_seti_iter hit.typeIs entry_seti_iter ?_ (args_seti_iter _))
  show wpAny _ _ (ret (.ref I)) _ _ s
  exact wpAny_pure ⟨_, rfl, "set_iterator", _, hit.typeIs, slot_seti_next.lookup, h⟩
theorem SIter.at {h h' : Heap} {I : Addr} {first : Value} {i : Nat} {a : Addr} {n ep : Nat} (q : SIter h I first i a n ep) (k : ∀ o, h.get? I = some o → h'.get? I = some o) : SIter h' I first i a n ep := let ⟨o, h1, h2⟩ := q; ⟨o, k o h1, h2⟩
/-- drawn -/
theorem walksD (hh : A.handled = none) (I a T : Addr) (ha : a ≠ I) (hT : T ≠ I) (es : Array (Int × Value)) (ep : Nat) (t : SetTable) (ps : List Nat) (hp : ps.Perm (List.range es.size)) :
    Walks prog w A I [I, a, T] [I] es.size (fun i v => ∃ j e, ps[i]? = some j ∧ es[j]? = some e ∧ v = e.2) (fun i h => SIter h I (.ref T) i a es.size ep ∧ RawS h a es ep t ∧ h.IsTuple T (placesT ps)) where
  sub := fun b hb => by simp at hb; simp [hb]
  frame := fun i h h' st k => ⟨st.1.at fun o e => k I (by simp) o e, st.2.1.at fun o e => k a (by simp) o e, st.2.2.at fun o e => k T (by simp) o e⟩
  item := fun i s Q E hi st hQ => by
    have hl : ps.length = es.size := by rw [hp.length_eq, List.length_range]
    have e1 : ps[i]? = some ps[i] := List.getElem?_eq_getElem (by omega)
    have hj : ps[i] < es.size := List.mem_range.mp (hp.mem_iff.mp (List.getElem_mem _))
    have e2 : es[ps[i]]? = some es[ps[i]] := Array.getElem?_eq_getElem hj
    exact seti_itemD st.1 st.2.1 st.2.2 e1 e2 fun h1 it' hs => hQ _ h1 s.toks ⟨_, _, e1, e2, rfl⟩ ⟨it', st.2.1.at fun o e => (hs.2 a ha).trans e, st.2.2.at fun o e => (hs.2 T hT).trans e⟩ fun b o hb e => (hs.2 b (fun h => hb (by simp [h]))).trans e
  done := fun s Q E st hQ => by
    have hl : ps.length = es.size := by rw [hp.length_eq, List.length_range]
    exact seti_endD hh st.1 st.2.1 st.2.2 (List.getElem?_eq_none (by omega)) fun h1 he => hQ h1 s.toks fun b o hb e => he b o (fun h => hb (by simp [h])) e
  self := fun _ _ _ _ st hQ => seti_self st.1 hQ
/-- by the text's order -/
theorem walksT (hh : A.handled = none) (hw : w.params.followText "set-order" = true) (I a : Addr) (ha : a ≠ I) (es : Array (Int × Value)) (ep : Nat) (t : SetTable) :
    Walks prog w A I [I, a] [I] es.size (fun i v => ∃ e, (pickOrder (w.params.setOrder a ep) es)[i]? = some e ∧ v = e.2) (fun i h => SIter h I (.int 0 0) i a es.size ep ∧ RawS h a es ep t) where
  sub := fun b hb => by simp at hb; simp [hb]
  frame := fun i h h' st k => ⟨st.1.at fun o e => k I (by simp) o e, st.2.at fun o e => k a (by simp) o e⟩
  item := fun i s Q E hi st hQ => by
    have hl : (pickOrder (w.params.setOrder a ep) es).size = es.size := by
      have := (pick_perm (w.params.setOrder a ep) es).length_eq
      simpa using this
    have e1 : (pickOrder (w.params.setOrder a ep) es)[i]? = some (pickOrder (w.params.setOrder a ep) es)[i] := Array.getElem?_eq_getElem (by omega)
    refine seti_item (slot := 0) (nx := 0) st.1 st.2 (fun hq => next_text hw st.2 (by rw [e1]; exact hq)) fun h1 it' hs => hQ _ h1 s.toks ⟨_, e1, rfl⟩ ⟨it', st.2.at fun o e => (hs.2 a ha).trans e⟩ fun b o hb e => (hs.2 b (fun h => hb (by simp [h]))).trans e
  done := fun s Q E st hQ => by
    have hl : (pickOrder (w.params.setOrder a ep) es).size = es.size := by
      have := (pick_perm (w.params.setOrder a ep) es).length_eq
      simpa using this
    have e1 : (pickOrder (w.params.setOrder a ep) es)[es.size]? = none := Array.getElem?_eq_none (by omega)
    exact seti_end (slot := 0) hh st.1 st.2 (fun hq => next_text hw st.2 (by rw [e1]; exact hq)) fun h1 he => hQ h1 s.toks fun b o hb e => he b o (fun h => hb (by simp [h])) e
  self := fun _ _ _ _ st hQ => seti_self st.1 hQ
theorem below_one (j k : Nat) : SetTable.below #[j] k = if j < k then 1 else 0 := by
  unfold SetTable.below
  show SetTable.below.go #[j] k 1 0 1 = _
  unfold SetTable.below.go
  simp
  unfold SetTable.below.go
  rfl
theorem one_place {xs : Array Nat} (h : xs.size = 1) : ∃ j, xs = #[j] := by
  cases xs with
  | mk l =>
    match l, h with
    | [j], _ => exact ⟨j, rfl⟩
def fewSlot (t : SetTable) (i : Nat) : Nat := if i = 0 then 0 else t.place.getD 0 0 + 1
/-- one or none -/
theorem walksS (hh : A.handled = none) (hw : w.params.followText "set-order" = false) (I a : Addr) (ha : a ≠ I) (es : Array (Int × Value)) (ep : Nat) (t : SetTable) (hl : t.led = true) (h1 : es.size ≤ 1) :
    Walks prog w A I [I, a] [I] es.size (fun i v => ∃ e, es[i]? = some e ∧ v = e.2) (fun i h => SIter h I (.int (fewSlot t i) 0) i a es.size ep ∧ RawS h a es ep t) where
  sub := fun b hb => by simp at hb; simp [hb]
  frame := fun i h h' st k => ⟨st.1.at fun o e => k I (by simp) o e, st.2.at fun o e => k a (by simp) o e⟩
  item := fun i s Q E hi st hQ => by
    have hi0 : i = 0 := by omega
    subst hi0
    have hz : es.size = 1 := by omega
    have hps : t.place.size = 1 := by
      have := st.2.fits
      unfold SetTable.fits at this
      rw [Bool.and_eq_true] at this
      rw [eq_of_beq this.1, hz]
    obtain ⟨j, hj⟩ := one_place hps
    have e0 : es[0]? = some es[0] := Array.getElem?_eq_getElem hi
    refine seti_item (slot := 0) (nx := j + 1) st.1 st.2 (fun hq => next_few hw st.2 hl h1 ?_) fun h' it' hs => hQ _ h' s.toks ⟨_, e0, rfl⟩ ⟨?_, st.2.at fun o e => (hs.2 a ha).trans e⟩ fun b o hb e => (hs.2 b (fun h => hb (by simp [h]))).trans e
    · rw [hj, below_one, if_neg (by omega), e0]
      exact hq
    · have : fewSlot t (0 + 1) = j + 1 := by unfold fewSlot; rw [hj]; rfl
      rw [this]
      exact it'
  done := fun s Q E st hQ => by
    refine seti_end (slot := fewSlot t es.size) hh st.1 st.2 (fun hq => next_few hw st.2 hl h1 ?_) fun h' he => hQ h' s.toks fun b o hb e => he b o (fun h => hb (by simp [h])) e
    have hps : t.place.size = es.size := by
      have := st.2.fits
      unfold SetTable.fits at this
      rw [Bool.and_eq_true] at this
      exact eq_of_beq this.1
    by_cases hz : es.size = 0
    · have e : es = #[] := Array.eq_empty_of_size_eq_zero hz
      subst e
      exact hq
    · have hz : es.size = 1 := by omega
      rw [hz] at hps
      obtain ⟨j, hj⟩ := one_place hps
      have : fewSlot t es.size = j + 1 := by unfold fewSlot; rw [if_neg (by omega), hj]; rfl
      rw [this, hj, below_one, if_pos (by omega), Array.getElem?_eq_none (by omega)]
      exact hq
  self := fun _ _ _ _ st hQ => seti_self st.1 hQ
end
end L2

/-! sorted(set(texts)). -/
namespace L2
open PySem PySem.Spec PyProof.Rows
section
variable {prog : Program} {w : World} {A : Around} {s : Shared} {R : Result → Shared → Prop} {I : Addr} {fp wr : List Addr} {n : Nat} {P : Nat → Value → Prop} {St : Nat → Heap → Prop}
theorem list_restR (W : Walks prog w A.in1 I fp wr n P St) (hn : n ≤ sizeLine) (S : Addr) (c : Nat) (hst : St 0 s.heap) (hS : S ∉ fp) (hl : s.heap.get? S = some { cls := .type "list", data := .seq #[] c }) (r : Value)
    (hR : ∀ s1 acc c1, Moved (S :: wr) (fun a b => b = a) s s1 → s1.heap.get? S = some { cls := .type "list", dict := none, data := .seq acc c1, slots := #[] } → ItemsOf P acc n → R (.ok (.ret r)) s1) :
    wpAny (model prog w) A.in1 (rule "list.extend.makes-room" >>= fun _ => Builtin.List.listTouch (.ref S) >>= fun _ => again (.builtin "list.extend.loop" ⟨[.ref S, .ref I, r], []⟩))
      (fun fin s1 => match fin with | .done f => R (.ok f) s1 | .again c1 => c1.quiet = true ∧ codeAny (model prog w) A c1 R s1) (fun e s1 => R (.error e) s1) s := by
  refine wpAny_bind (wpAny_rule (wpAny_bind ?_))
  show wpAny (model prog w) A.in1 (updateSeq S (·.push .none) >>= fun _ => updateSeq S (·.pop)) _ _ _
  refine wpAny_bind (wpAny_updateSeq hl rfl ?_)
  have l2 := Heap.get?_update_self (Obj.mapSeq (·.push Value.none)) hl rfl
  refine wpAny_updateSeq (hz := by seq_fits) l2 rfl ?_
  have l3 := Heap.get?_update_self (Obj.mapSeq (·.pop)) l2 rfl
  have oth : ∀ b o, b ≠ S → s.heap.get? b = some o → ((s.heap.update S (Obj.mapSeq (·.push Value.none))).update S (Obj.mapSeq (·.pop))).get? b = some o := fun b o hb e => (Heap.get?_update_other _ _ (Ne.symm hb)).trans ((Heap.get?_update_other _ _ (Ne.symm hb)).trans e)
  refine wpAny_pure ⟨plainId_quiet PySem.F.plain_extend_loop _, codeAny_extend_loopS W.toS hn _ hS _ n 0 _ _ _ rfl (Nat.zero_le _) (W.toS.frame 0 s _ s.toks hst (Nat.le_refl _) fun b hb o e => oth b o (fun h => hS (h ▸ hb)) e) l3 (ItemsOf.nil P) fun s1 acc c1 hm h1 h2 => ?_⟩
  have m0 : Moved (S :: wr) (fun (a b : Array GenState) => b = a) s { s with heap := (s.heap.update S (Obj.mapSeq (·.push Value.none))).update S (Obj.mapSeq (·.pop)) } := ⟨fun b o hb e => oth b o (fun h => hb (by simp [h])) e, rfl, rfl, rfl, Nat.le_refl _⟩
  exact hR s1 acc c1 (Moved.trans (fun _ _ _ h1 h2 => h2.trans h1) m0 hm) h1 h2
end
section
variable {prog : Program} {w : World} {A : Around} {E : Value → Shared → Prop} {s : Shared}
theorem hint_set {d : Addr} {Q : Bool → Shared → Prop} (T : s.TypeIs (.ref d) "set") (hq : Q false s) : wpAny (model prog w) A (Builtin.List.listLengthHint (.ref d)) Q E s := by
  unfold Builtin.List.listLengthHint
  refine wpAny_bind (wpAny_specialOf T PySem.F.slot_set_len.lookup ?_)
  have e : splitId "set.__len__" = some ("set", "__len__") := by kernel_rfl
  simp only [e]
  have sub : isSubtype (.type "set") (.type "set") = pure true := by rw [isSubtype_type]; kernel_rfl
  exact wpAny_bind (wpAny_isInstance (T := "set") (b := true) T sub (wpAny_bind (wpAny_typeOf T (wpAny_pure hq))))
theorem items_list {P : Nat → Value → Prop} {acc : Array Value} {n : Nat} (h : ItemsOf P acc n) (l : List Value) (hl : l.length = n) (hp : ∀ i v, P i v → l[i]? = some v) : acc.toList = l := by
  apply List.ext_getElem?
  intro i
  by_cases hi : i < n
  · have hs : i < acc.size := by rw [h.1]; exact hi
    have e : acc[i]? = some acc[i] := Array.getElem?_eq_getElem hs
    rw [hp i _ (h.2 i _ e), Array.getElem?_toList, e]
  · have h1 : acc.toList.length ≤ i := by rw [Array.length_toList, h.1]; omega
    have h2 : l.length ≤ i := by omega
    rw [List.getElem?_eq_none h1, List.getElem?_eq_none h2]
theorem perm_places {es : Array (Int × Value)} {ps : List Nat} (hp : ps.Perm (List.range es.size)) : (ps.filterMap fun j => (es[j]?).map (·.2)).Perm (es.toList.map (·.2)) := by
  refine (hp.filterMap _).trans (List.Perm.of_eq ?_)
  have gen : ∀ l : List (Int × Value), (List.range l.length).filterMap (fun j => (l[j]?).map (·.2)) = l.map (·.2) := by
    intro l
    induction l with
    | nil => rfl
    | cons x r ih =>
      rw [List.length_cons, List.range_succ_eq_map, List.filterMap_cons, List.filterMap_map]
      show x.2 :: _ = _
      rw [List.map_cons, ← ih]
      rfl
  rw [← Array.length_toList, ← gen es.toList]
  congr 1
  funext j
  rw [Array.getElem?_toList]
theorem map_filterMap {α β : Type} {f : α → β} {g : α → Option β} : ∀ {ps : List α}, (∀ j ∈ ps, g j = some (f j)) → ps.map f = ps.filterMap g
  | [], _ => rfl
  | j :: r, h => by
    rw [List.map_cons, List.filterMap_cons, h j (by simp)]
    show _ = f j :: _
    rw [map_filterMap fun i hi => h i (List.mem_cons_of_mem _ hi)]
theorem extend_set {S a : Addr} {es : Array (Int × Value)} {ep : Nat} {t : SetTable} {c : Nat} {r : Value} {R : Result → Shared → Prop} (hh : A.handled = none) (hr : RawS s.heap a es ep t) (hz : es.size ≤ sizeLine) (hl : t.led = ledW w) (hp : es.size ≠ 0 → t.plain = false)
    (hS : s.heap.get? S = some { cls := .type "list", data := .seq #[] c }) (hne : S ≠ a)
    (hR : ∀ h1 acc c1 d tk, (∀ b o, b ≠ S → s.heap.get? b = some o → h1.get? b = some o) → h1.get? S = some { cls := .type "list", dict := none, data := .seq acc c1, slots := #[] } → acc.toList.Perm (es.toList.map (·.2)) → R (.ok (.ret r)) { s with heap := h1, drawn := d, toks := tk }) :
    wpAny (model prog w) A.in1 (Builtin.List.listExtendWith (.ref S) (.ref a) r) (fun fin s1 => match fin with | .done f => R (.ok f) s1 | .again c1 => c1.quiet = true ∧ codeAny (model prog w) A c1 R s1) (fun e s1 => R (.error e) s1) s := by
  obtain ⟨oa, hoa, hexa, hda⟩ := id hr.ex
  have al : a < s.heap.objs.size := Heap.lt_size hoa
  have sl : S < s.heap.objs.size := Heap.lt_size hS
  have T : s.TypeIs (.ref a) "set" := ⟨oa, hoa, hexa.1⟩
  unfold Builtin.List.listExtendWith
  refine wpAny_bind (wpAny_typeOf T ?_)
  have sr : Builtin.List.listSameRef (.ref S) (.ref a) = false := by simp [Builtin.List.listSameRef, hne]
  have t1 : (Value.type "set" == Value.type "list") = false := by decide
  have t2 : (Value.type "set" == Value.type "tuple") = false := by decide
  simp only [sr, t1, t2, Bool.or_false, Bool.false_eq_true, if_false]
  refine wpAny_bind (iter_set hr hz (fun hb => ?_) (fun hb ps d p => ?_))
  · have old : ∀ b o, s.heap.get? b = some o → (s.heap.push (sitObj (.int 0 0) 0 a es.size ep)).get? b = some o := fun b o e => Heap.get?_push_of_some _ e
    have hr2 := hr.at (fun o e => old a o e)
    have hit : SIter (s.heap.push (sitObj (.int 0 0) 0 a es.size ep)) s.heap.objs.size (.int 0 0) 0 a es.size ep := ⟨_, Heap.get?_push_size _ rfl, rfl, rfl⟩
    have hS2 := old _ _ hS
    have T2 : ({ s with heap := s.heap.push (sitObj (.int 0 0) 0 a es.size ep) } : Shared).TypeIs (.ref a) "set" := ⟨oa, old _ _ hoa, hexa.1⟩
    have SI : S ∉ [s.heap.objs.size, a] := by
      simp only [List.mem_cons, List.not_mem_nil, or_false]
      exact fun z => z.elim (Nat.ne_of_lt sl) hne
    refine wpAny_bind (wpAny_holding (hint_set T2 ?_))
    have fin : ∀ (P : Nat → Value → Prop), (∀ acc, ItemsOf P acc es.size → acc.toList.Perm (es.toList.map (·.2))) → ∀ s1 acc c1, Moved (S :: [s.heap.objs.size]) (fun (a b : Array GenState) => b = a) { s with heap := s.heap.push (sitObj (.int 0 0) 0 a es.size ep) } s1 → s1.heap.get? S = some { cls := .type "list", dict := none, data := .seq acc c1, slots := #[] } → ItemsOf P acc es.size → R (.ok (.ret r)) s1 := by
      intro P hP s1 acc c1 hm h1 h2
      obtain ⟨hp1, ge, dr, tk, os⟩ := s1
      obtain ⟨m1, m2, m3, m4, m5⟩ := hm
      obtain rfl : ge = s.gens := m2
      obtain rfl : os = s.os := m4
      refine hR hp1 acc c1 dr tk (fun b o hb e => m1 b o ?_ (old b o e)) h1 (hP acc h2)
      intro z
      simp only [List.mem_cons, List.not_mem_nil, or_false] at z
      exact z.elim hb fun z => absurd (Heap.lt_size e) (by rw [z]; exact Nat.lt_irrefl _)
    cases hw : w.params.followText "set-order" with
    | true =>
      refine list_restR (A := A) (s := { s with heap := s.heap.push (sitObj (.int 0 0) 0 a es.size ep) }) (walksT (A := A.in1) hh hw s.heap.objs.size a (Nat.ne_of_lt al) es ep t) hz S c ⟨hit, hr2⟩ SI hS2 r (fin _ fun acc h => ?_)
      have e := items_list h ((pickOrder (w.params.setOrder a ep) es).toList.map (·.2)) (by rw [List.length_map, (pick_perm _ _).length_eq, Array.length_toList]) (fun i v ⟨e, h1, h2⟩ => by
        rw [List.getElem?_map, Array.getElem?_toList, h1, h2]; rfl)
      rw [e]
      exact (pick_perm _ _).map _
    | false =>
      have h1 : es.size ≤ 1 := by
        by_cases h0 : es.size = 0
        · omega
        · unfold drawnB at hb
          rw [hw, hp h0] at hb
          simp at hb
          exact hb
      have hled : t.led = true := by rw [hl]; unfold ledW; rw [hw]; rfl
      refine list_restR (A := A) (s := { s with heap := s.heap.push (sitObj (.int 0 0) 0 a es.size ep) }) (walksS (A := A.in1) hh hw s.heap.objs.size a (Nat.ne_of_lt al) es ep t hled h1) hz S c ⟨hit, hr2⟩ SI hS2 r (fin _ fun acc h => ?_)
      have e := items_list h (es.toList.map (·.2)) (by rw [List.length_map, Array.length_toList]) (fun i v ⟨e, h1, h2⟩ => by
        rw [List.getElem?_map, Array.getElem?_toList, h1, h2]; rfl)
      rw [e]
  · have old1 : ∀ b o, s.heap.get? b = some o → (s.heap.push { cls := .type "tuple", data := .seq (placesT ps) }).get? b = some o := fun b o e => Heap.get?_push_of_some _ e
    have zu : (s.heap.push { cls := .type "tuple", data := .seq (placesT ps) }).objs.size = s.heap.objs.size + 1 := Heap.size_push ..
    have hTp : (s.heap.push { cls := .type "tuple", data := .seq (placesT ps) }).IsTuple s.heap.objs.size (placesT ps) := ⟨_, Heap.get?_push_size _ rfl, rfl, 0, rfl⟩
    generalize s.heap.push { cls := .type "tuple", data := .seq (placesT ps) } = g at old1 zu hTp
    have old : ∀ b o, s.heap.get? b = some o → (g.push (sitObj (.ref s.heap.objs.size) 0 a es.size ep)).get? b = some o := fun b o e => Heap.get?_push_of_some _ (old1 b o e)
    have hr2 := hr.at (fun o e => old a o e)
    have hit : SIter (g.push (sitObj (.ref s.heap.objs.size) 0 a es.size ep)) g.objs.size (.ref s.heap.objs.size) 0 a es.size ep := ⟨_, Heap.get?_push_size _ rfl, rfl, rfl⟩
    have hS2 := old _ _ hS
    have hTp2 : (g.push (sitObj (.ref s.heap.objs.size) 0 a es.size ep)).IsTuple s.heap.objs.size (placesT ps) := hTp.at fun o e => Heap.get?_push_of_some _ e
    have T2 : ({ s with heap := g.push (sitObj (.ref s.heap.objs.size) 0 a es.size ep), drawn := d } : Shared).TypeIs (.ref a) "set" := ⟨oa, old _ _ hoa, hexa.1⟩
    have SI : S ∉ [g.objs.size, a, s.heap.objs.size] := by
      rw [zu]
      simp only [List.mem_cons, List.not_mem_nil, or_false]
      rintro (z | z | z)
      · exact absurd z (Nat.ne_of_lt (Nat.lt_succ_of_lt sl))
      · exact hne z
      · exact absurd z (Nat.ne_of_lt sl)
    refine wpAny_bind (wpAny_holding (hint_set T2 ?_))
    refine list_restR (A := A) (s := { s with heap := g.push (sitObj (.ref s.heap.objs.size) 0 a es.size ep), drawn := d }) (walksD (A := A.in1) hh g.objs.size a s.heap.objs.size (by rw [zu]; exact Nat.ne_of_lt (Nat.lt_succ_of_lt al)) (by rw [zu]; exact Nat.ne_of_lt (Nat.lt_succ_self _)) es ep t ps p) hz S c ⟨hit, hr2, hTp2⟩ SI hS2 r fun s1 acc c1 hm h1 h2 => ?_
    obtain ⟨hp1, ge, dr, tk, os⟩ := s1
    obtain ⟨m1, m2, m3, m4, m5⟩ := hm
    obtain rfl : ge = s.gens := m2
    obtain rfl : os = s.os := m4
    refine hR hp1 acc c1 dr tk (fun b o hb e => m1 b o ?_ (old b o e)) h1 ?_
    · intro z
      simp only [List.mem_cons, List.not_mem_nil, or_false] at z
      have bl := Heap.lt_size e
      rcases z with z | z
      · exact hb z
      · have z : b = g.objs.size := z
        rw [z, zu] at bl
        exact absurd bl (Nat.not_lt_of_le (Nat.le_succ _))
    · have hlp : ps.length = es.size := by rw [p.length_eq, List.length_range]
      have hall : ∀ j ∈ ps, j < es.size := fun j hj => List.mem_range.mp (p.mem_iff.mp hj)
      have e := items_list h2 (ps.map fun j => ((es[j]?).map (·.2)).getD .none) (by rw [List.length_map, hlp]) (fun i v ⟨j, e, h1, h2, h3⟩ => by
        rw [List.getElem?_map, h1, h3]
        show some (((es[j]?).map (·.2)).getD .none) = _
        rw [h2]; rfl)
      rw [e]
      refine List.Perm.trans (List.Perm.of_eq ?_) (perm_places p)
      exact map_filterMap fun j hj => by
        rw [Array.getElem?_eq_getElem (hall j hj)]; rfl
end
end L2

/-! set(texts), sorted(set of texts) as rules. -/
namespace L2
open PySem PySem.Spec PyProof.Rows
theorem strs_of : ∀ {vs : List Value}, (∀ v ∈ vs, ∃ x t, v = Value.str x t) → ∃ ks, StrsAre vs ks
  | [], _ => ⟨[], .nil⟩
  | v :: r, h => by
    obtain ⟨x, t, rfl⟩ := h v (by simp)
    obtain ⟨ks, hk⟩ := strs_of (vs := r) fun u hu => h u (List.mem_cons_of_mem _ hu)
    exact ⟨x :: ks, .cons x t hk⟩
theorem strs_mem {vs : List Value} {ks : List Str} (h : StrsAre vs ks) : ∀ y, y ∈ ks ↔ ∃ t, Value.str y t ∈ vs := by
  induction h with
  | nil => intro y; simp
  | cons x t hr ih =>
    intro y
    rw [List.mem_cons, ih y]
    constructor
    · rintro (rfl | ⟨u, hu⟩)
      · exact ⟨t, by simp⟩
      · exact ⟨u, List.mem_cons_of_mem _ hu⟩
    · rintro ⟨u, hu⟩
      rcases List.mem_cons.mp hu with e | hu
      · injection e with e1 e2; exact .inl e1
      · exact .inr ⟨u, hu⟩
theorem strs_len {vs : List Value} {ks : List Str} (h : StrsAre vs ks) : vs.length = ks.length := by
  induction h with
  | nil => rfl
  | cons x t hr ih => rw [List.length_cons, List.length_cons, ih]
/-- a list that covers another without doubles and is no longer: the same -/
theorem cover_perm {ds ks : List Str} (hn : ds.Nodup) (hs : ∀ x ∈ ds, x ∈ ks) (hl : ks.length = ds.length) : ks.Perm ds := by
  induction ds generalizing ks with
  | nil => rw [List.length_eq_zero_iff.mp hl]
  | cons d r ih =>
    rw [List.nodup_cons] at hn
    have hd := hs d (by simp)
    have h2 : ∀ x ∈ r, x ∈ ks.erase d := fun x hx => (List.mem_erase_of_ne (fun z => by subst z; exact hn.1 hx)).mpr (hs x (List.mem_cons_of_mem _ hx))
    have := ih hn.2 h2 (by rw [List.length_erase_of_mem hd, hl]; rfl)
    exact (List.perm_cons_erase hd).trans (this.cons d)
section
variable {prog : Program} {w : World} {A : Around} {E : Value → Shared → Prop} {s : Shared}
theorem collect_set {a : Addr} {es : Array (Int × Value)} {ep : Nat} {t : SetTable} {Q : List Value → Shared → Prop} (hh : A.handled = none) (hr : RawS s.heap a es ep t) (hz : es.size ≤ sizeLine) (hl : t.led = ledW w) (hp : es.size ≠ 0 → t.plain = false)
    (hQ : ∀ vs h1 d tk, vs.Perm (es.toList.map (·.2)) → (∀ b o, s.heap.get? b = some o → h1.get? b = some o) → s.heap.objs.size < h1.objs.size → Q vs { s with heap := h1, drawn := d, toks := tk }) : wpAny (model prog w) A (collect (.ref a)) Q E s := by
  obtain ⟨oa, hoa, hexa, hda⟩ := id hr.ex
  have al : a < s.heap.objs.size := Heap.lt_size hoa
  unfold collect
  refine wpAny_bind (wpAny_runValue (codeAny_builtin PySem.F.entry_proto_collect ?_))
  rw [Around.under_plainId PySem.F.plain_proto_collect _]
  show wpAny _ A.in1 (newList [] >>= fun l => again (.builtin "list.__iadd__" ⟨[l, .ref a], []⟩)) _ _ s
  refine wpAny_bind (wpAny_newObj_type ?_)
  refine wpAny_pure ⟨plainId_quiet PySem.F.plain_list_iadd _, codeAny_builtin PySem.F.entry_list_iadd ?_⟩
  rw [Around.under_plainId PySem.F.plain_list_iadd _]
  show wpAny _ A.in1 (Builtin.List.listExtendWith (.ref s.heap.objs.size) (.ref a) (.ref s.heap.objs.size)) _ _ _
  have hS : (s.heap.push { cls := .type "list", data := .seq ([] : List Value).toArray }).get? s.heap.objs.size = some { cls := .type "list", data := .seq #[] } := Heap.get?_push_size _ rfl
  have old : ∀ b o, s.heap.get? b = some o → (s.heap.push { cls := .type "list", data := .seq ([] : List Value).toArray }).get? b = some o := fun b o e => Heap.get?_push_of_some _ e
  have hr2 := hr.at (fun o e => old a o e)
  refine extend_set (prog := prog) (A := A) (r := .ref s.heap.objs.size) (R := fun r s' => match r with
    | .ok (.ret v) => wpAny (model prog w) A (match v with
      | .ref a => do
        let o ← load a
        match o.data with
        | .seq xs _ => pure xs.toList
        | _ => unsupported "internal:collect"
      | _ => unsupported "internal:collect") Q E s'
    | .ok _ => False
    | .error e => E e s') (s := { s with heap := s.heap.push { cls := .type "list", data := .seq ([] : List Value).toArray } }) hh hr2 hz hl hp hS (Ne.symm (Nat.ne_of_lt al)) fun h1 acc c1 d tk k e p => ?_
  show wpAny _ A (load s.heap.objs.size >>= _) _ _ _
  refine wpAny_bind (wpAny_load e ?_)
  exact wpAny_pure (hQ _ h1 d tk p (fun b o eb => k b o (fun z => Nat.lt_irrefl _ (z ▸ Heap.lt_size eb)) (old b o eb)) (Heap.lt_size e))
theorem sorted_setL {a : Addr} {S : Str → Bool} {n : Nat} {Q : Value → Shared → Prop} (hh : A.handled = none) (hS : SetL prog w s.heap a S n (ledW w)) (h64 : n < 64)
    (hQ : ∀ (D : Addr) (out : Array Value) (ks ms : List Str) (h' : Heap) (d : Drawn) (tk c : Nat), StrsAre out.toList ms → ms.Perm ks → sortedS ms = true → ks.length = n → (∀ y, y ∈ ks ↔ S y = true) →
      (∀ b o, s.heap.get? b = some o → h'.get? b = some o) → s.heap.objs.size ≤ D → h'.get? D = some (seqObj "list" out c) → Q (.ref D) { s with heap := h', drawn := d, toks := tk }) :
    wpAny (model prog w) A (call (.builtin "sorted") [.ref a]) Q E s := by
  obtain ⟨o, es, ep, t, ho, hex, hd, hel, hmem, hb, hf, hn, hld, hpl⟩ := hS
  have hr : RawS s.heap a es ep t := ⟨⟨o, ho, hex, hd⟩, hf⟩
  have hsz : es.size ≤ sizeLine := fits_of_scanBound hb
  refine Calls.call_function_entry kind_sorted plain_sorted entry_sorted (args_sorted1 _) ?_
  unfold Builtin.«sorted»
  refine wpAny_bind (m := checkCount "sorted" 1 1 _) (wpAny_pure ?_)
  refine wpAny_bind (collect_set (A := A.in1) hh hr hsz hld hpl fun vs h1 d tk p k sz => ?_)
  have hvl : vs.length = n := by rw [p.length_eq, List.length_map, Array.length_toList, hn]
  have hstr : ∀ v ∈ vs, ∃ x t, v = Value.str x t := by
    intro v hv
    obtain ⟨e, he, rfl⟩ := List.mem_map.mp (p.mem_iff.mp hv)
    obtain ⟨⟨kx, hk, _⟩, _⟩ := hel e he
    cases e2 : e.2 with
    | str x t =>
      exact ⟨x, t, rfl⟩
    | _ => rw [e2] at hk; simp [PySem.strKind, Value.isStrOf] at hk
  obtain ⟨ks, hks⟩ := strs_of hstr
  have hkl : ks.length = n := by rw [← strs_len hks, hvl]
  refine wpAny_bind (wpAny_newList ?_ (by rw [hvl, sizeLine_eq]; omega))
  have hoL : (h1.push (seqObj "list" vs.toArray 0)).get? h1.objs.size = some (seqObj "list" vs.toArray 0) := Heap.get?_push_size _ rfl
  show wpAny _ _ _ _ _ { s with heap := h1.push (seqObj "list" vs.toArray 0), drawn := d, toks := tk }
  refine wpAny_bind (wpAny_holding (wpAny_call_entry slot_list_sort ⟨_, hoL, rfl⟩ entry_list_sort (list_sort_treeK strKind_oneLt hoL hks.keysOf (fun v₁ v₂ rest e => keyKind_strs (by rw [← e]; exact hks)) (by omega) fun st' a1 a2 => ⟨_, rfl, ?_⟩) (args_list_sort _)))
  obtain ⟨ms, b1, b2, b3⟩ := sorted_out_str hks a1 a2
  obtain ⟨c, hc⟩ := sortedHeap_at (out := (arrOf st').map (·.2)) hoL
  refine wpAny_pure ⟨_, rfl, hQ h1.objs.size _ ks ms _ d tk c b1 b2 b3 hkl (fun y => ?_) (fun b o e => ?_) (Nat.le_of_lt sz) hc⟩
  · rw [strs_mem hks y, hmem y]
    constructor
    · rintro ⟨t, ht⟩
      obtain ⟨e, he, e2⟩ := List.mem_map.mp (p.mem_iff.mp ht)
      exact ⟨e, he, by rw [e2]; exact strKind_is _ _ _ _⟩
    · rintro ⟨e, he, hk⟩
      have hv : e.2 ∈ vs := p.mem_iff.mpr (List.mem_map.mpr ⟨e, he, rfl⟩)
      obtain ⟨x, t, ex⟩ := hstr _ hv
      rw [ex] at hk hv
      have : x = y := by
        have := hk
        simp [PySem.strKind, Value.isStrOf] at this
        first | exact this | exact this.symm
      subst this
      exact ⟨t, hv⟩
  · have e1 := k b o e
    have hlt := Heap.lt_size e1
    have e2 : (h1.push (seqObj "list" vs.toArray 0)).get? b = some o := Heap.get?_push_of_some _ e1
    rw [sortedHeap_old (Nat.ne_of_lt hlt) (Heap.lt_size e2)]
    exact e2
end
section
variable {X : Cx}
theorem Inv.drawn {pins : List (Addr × Obj)} {σ : St} {H : Hp} {s : Shared} {d : Drawn} (I : Inv X pins σ H s) : Inv X pins σ H { s with drawn := d } := ⟨I.ok, I.os, I.bare, I.base, I.loc, I.cell, I.free, I.freeC, I.pin, I.hok, I.len⟩
/-- a set of the texts ds -/
def setO (P : Program) (w : World) (D : Addr) (ds : List Str) : HO := .ext fun h => SetL P w h D (fun k => decide (k ∈ ds)) ds.length (ledW w)
theorem call_setS {P : Program} {w : World} {K : PySem.W.Frag} (hP : X.prog = P) (hw : X.w = w) (hK : X.K = K) (hc : X.calm = true) : CallR X (.type "set") (fun xs H Q => ∃ (p : Addr) (ys : List Str), xs = [.ref p] ∧ SqL K H p (ys.map V.str) ∧ ys.length ≤ 1000 ∧
    ∀ (D : Addr) (ds : List Str), H D = none → ds.Nodup → (∀ y, y ∈ ds ↔ y ∈ ys) → ds.length ≤ ys.length → Q (.ref D) (upd H D (setO P w D ds))) := by
  subst hP hw hK
  intro pins s σ H xs us Q I r h
  obtain ⟨p, ys, rfl, hp, hl, q⟩ := h
  obtain ⟨u, rfl, ru⟩ := vals1 r
  cases ru
  obtain ⟨its, rv, pl, hz⟩ := I.list hp
  have hlen := rv.length
  rw [List.length_map] at hlen
  have hv : ∀ i v, its.toArray[i]? = some v → ∃ t, v = Value.str (ys.getD i "") t := by
    intro i v e
    have e' : its[i]? = some v := by simpa using e
    have hi : i < ys.length := by have := (List.getElem?_eq_some_iff.mp e').1; omega
    obtain ⟨w', e2, rw'⟩ := rv.get (i := i) (x := .str ys[i]) (by simp [hi])
    rw [e'] at e2
    cases e2
    have : ys.getD i "" = ys[i] := by rw [List.getD_eq_getElem?_getD, List.getElem?_eq_getElem hi]; rfl
    rw [this]
    exact rw'
  have hsz : its.toArray.size = ys.length := by rw [List.size_toArray, hlen]
  refine set_of_strs (I.ok.hd hc) pl.isList hv (by rw [hsz]; unfold scanBound; omega) fun h' tk hS k => ?_
  have kp : ∀ b o, s.heap.get? b = some o → h'.get? b = some o := fun b o e => k b o (Heap.lt_size e) e
  rw [hsz] at hS
  refine ⟨.ref s.heap.objs.size, _, I.laid (t' := tk) (a := s.heap.objs.size) (o := setO X.prog X.w s.heap.objs.size (dd (fun i => ys.getD i "") ys.length)) kp (Nat.le_refl _) ⟨hS, ?_, fun h1 h2 hq k2 => hq.keep k2⟩, rfl, q _ _ (I.hok.fresh (Nat.le_refl _)) (dd_nodup _ _) (fun y => ?_) (dd_len _ _)⟩
  · obtain ⟨o, _, _, _, ho, _⟩ := hS
    exact ⟨o, ho⟩
  · rw [dd_mem]
    constructor
    · rintro ⟨j, hj, e⟩
      rw [← e, List.getD_eq_getElem?_getD, List.getElem?_eq_getElem hj]
      exact List.getElem_mem hj
    · intro hy
      obtain ⟨j, hj, e⟩ := List.mem_iff_getElem.mp hy
      exact ⟨j, hj, by rw [List.getD_eq_getElem?_getD, List.getElem?_eq_getElem hj]; exact e⟩
theorem call_sortedSet {P : Program} {w : World} (hP : X.prog = P) (hw : X.w = w) (hc : X.calm = true) : CallR X (.builtin "sorted") (fun xs H Q => ∃ (D : Addr) (ds : List Str), xs = [.ref D] ∧ H D = some (setO P w D ds) ∧ ds.Nodup ∧ ds.length < 64 ∧
    ∀ (p : Addr) (ms : List Str), H p = none → ms.Perm ds → ms.Pairwise (fun a b => ¬ b.cps.toList < a.cps.toList) → Q (.ref p) (upd H p (.lst (ms.map V.str)))) := by
  subst hP hw
  intro pins s σ H xs us Q I r h
  obtain ⟨D, ds, rfl, hD, nd, h64, q⟩ := h
  obtain ⟨u, rfl, ru⟩ := vals1 r
  cases ru
  obtain ⟨hS, _⟩ := (show ObjOk X.prog X.w H s.heap D (setO X.prog X.w D ds) from I.hok D _ hD)
  refine sorted_setL (I.ok.hd hc) hS h64 fun p out ks ms h' d tk c b1 b2 b3 hkl hmem kp hp hg => ?_
  have hperm : ks.Perm ds := cover_perm nd (fun x hx => (hmem x).mpr (decide_eq_true hx)) hkl
  have vs : ∀ {us : List Value} {ys : List Str}, StrsAre us ys → Vals (ys.map V.str) us := by
    intro us ys h
    induction h with
    | nil => exact .nil
    | cons x t _ ih => exact .cons ⟨t, rfl⟩ ih
  have hm : ms.length = ds.length := (b2.trans hperm).length_eq
  have hs : sizeLine = 16777216 := sizeLine_eq
  have I2 := I.laid (t' := tk) (h' := h') (a := p) (o := .lst (ms.map V.str)) kp hp ⟨by rw [List.length_map]; omega, out.toList, c, vs b1, by rw [hg]⟩
  exact ⟨.ref p, _, I2.drawn, rfl, q _ ms (I.hok.fresh hp) (b2.trans hperm) (sortedS_pairwise b3)⟩
end
end L2

/-! an if whose two ways meet again. -/
namespace L2
open PySem PySem.Spec PyProof.Rows
end L2

/-! a dict that is known to the object, walked; a dict made known. -/
namespace L2
open PySem PySem.Spec PyProof.Rows
section
variable {X : Cx} {tg : Expr}
end
end L2

/-! a known dict's values walked; sorted(dict); list.reverse; a comprehension over a known dict. -/
namespace L2
open PySem PySem.Spec PyProof.Rows
section
variable {X : Cx} {tg : Expr}
end
section
variable {prog : Program} {w : World} {A : Around} {E : Value → Shared → Prop} {s : Shared}
end
section
variable {X : Cx}
end
end L2

/-! max(ints, default=d). -/
namespace L2
open PySem PySem.Spec PyProof.Rows
section
variable {prog : Program} {w : World} {A : Around} {R : Result → Shared → Prop}
end
section
variable {prog : Program} {w : World} {A : Around} {E : Value → Shared → Prop} {s : Shared}
end
section
variable {X : Cx}
end
end L2

/-! Levels. -/
namespace Dm
open PySem PySem.NumText L2
end Dm
namespace L2
open PySem PySem.Spec PyProof.Rows
/-- an if whose two ways meet again, the heap changed or not -/
theorem ifS_meet {c : TT} {t u : TS} {D : Ends} {σ : St} {H : Hp} (P : St → Hp → Prop) (b : Bool) (ht : ∀ Q' : Bool → Hp → Prop, Q' b H → c σ H Q') (h1 : b = true → (∀ σ' H', P σ' H' → D.nx σ' H') → t D σ H) (h2 : b = false → (∀ σ' H', P σ' H' → D.nx σ' H') → u D σ H)
    (hn : ∀ σ' H', P σ' H' → D.nx σ' H') : tIfS c t u D σ H := by
  refine ifS_at b ht ?_
  cases b with
  | true => exact iteT (h1 rfl hn)
  | false => exact iteF (h2 rfl hn)
end L2
namespace Dm
open PySem PySem.NumText L2
end Dm

/-! Levels, row after row. -/
namespace Dm
open PySem PySem.NumText L2
end Dm

/-! Tuples of a number and a text, compared; the greatest and the least of a list of such. -/
namespace L2
open PySem PySem.Spec PyProof.Rows
section
variable {prog : Program} {w : World} {A : Around} {E : Value → Shared → Prop} {s : Shared}
end
theorem paired_at {α β : Type} {F : α → β → Prop} {as : List α} {bs : List β} (h : Paired F as bs) : ∀ {i : Nat} {a : α} {b : β}, as[i]? = some a → bs[i]? = some b → F a b := by
  induction h with
  | nil => intro i a b e _; simp at e
  | cons h _ ih =>
    intro i a b e1 e2
    cases i with
    | zero => simp at e1 e2; rw [← e1, ← e2]; exact h
    | succ i => exact ih (by simpa using e1) (by simpa using e2)
section
variable {prog : Program} {w : World} {A : Around} {R : Result → Shared → Prop}
end
section
variable {prog : Program} {w : World} {A : Around} {E : Value → Shared → Prop} {s : Shared}
end
section
variable {X : Cx}
end
section
variable {prog : Program} {w : World} {A : Around} {R : Result → Shared → Prop}
end
section
variable {prog : Program} {w : World} {A : Around} {E : Value → Shared → Prop} {s : Shared}
end
section
variable {X : Cx}
end
end L2

/-! dict(list of pairs). -/
namespace L2
open PySem PySem.Spec PyProof.Rows
section
variable {prog : Program} {w : World} {A : Around} {E : Value → Shared → Prop} {s : Shared}
end
section
variable {prog : Program} {w : World} {A : Around} {R : Result → Shared → Prop}
end
section
variable {prog : Program} {w : World} {A : Around} {E : Value → Shared → Prop} {s : Shared}
end
section
variable {X : Cx}
end
end L2

/-! Frames, finds, floors and ceilings. -/
namespace Dm
open PySem PySem.NumText L2
section
variable {K : PySem.W.Frag} {H H' : Hp} {p pm pu pt pf : Addr} {lo hi : Int} {us : List Str} {ads : List Addr} {ts : List Tie} {af : List Addr} {fs : List Fnd}
end
end Dm

/-! Datings. -/
namespace Dm
open PySem PySem.NumText L2
end Dm

/-! Bounds and spans as the laws reckon them. -/
namespace Dm
open PySem PySem.NumText L2
end Dm
namespace Dm
open PySem PySem.NumText L2
end Dm

/-! A dating, told in two ways. -/
namespace Dm
open PySem PySem.NumText L2
theorem Paired.mono {α β : Type} {F G : α → β → Prop} {as : List α} {bs : List β} (h : Paired F as bs) (k : ∀ a, ∀ b ∈ bs, F a b → G a b) : Paired G as bs := by
  induction h with
  | nil => exact .nil
  | cons h _ ih => exact .cons (k _ _ (by simp) h) (ih fun a b hb f => k a b (List.mem_cons_of_mem _ hb) f)
end Dm
namespace L2
open PySem
end L2

/-! The kit's tree of questions of a sort, answered by an order of things that all stand apart: the end is sorted. -/
namespace L2
open PySem PySem.W PyProof.Rows
/-- answers given by lt, for numbers below N -/
def askB (N : Nat) (lt : Nat → Nat → Bool) : Nat → Nat → (Bool → Shared → Prop) → Shared → Prop := fun i j C s => i < N ∧ j < N ∧ i ≠ j ∧ C (lt i j) s
structure Tot (N : Nat) (lt : Nat → Nat → Bool) : Prop where
  irr : ∀ a, a < N → lt a a = false
  tr : ∀ a b c, a < N → b < N → c < N → lt a b = true → lt b c = true → lt a c = true
  tot : ∀ a b, a < N → b < N → a ≠ b → lt a b = false → lt b a = true
structure Good (N : Nat) (p : Array Nat) : Prop where
  sz : p.size = N
  lt : ∀ i, i < N → p.getD i 0 < N
  inj : ∀ i j, i < N → j < N → p.getD i 0 = p.getD j 0 → i = j
def Asc (lt : Nat → Nat → Bool) (p : Array Nat) (k : Nat) : Prop := ∀ i j, i < j → j < k → lt (p.getD i 0) (p.getD j 0) = true
def Dsc (lt : Nat → Nat → Bool) (p : Array Nat) (k : Nat) : Prop := ∀ i j, i < j → j < k → lt (p.getD j 0) (p.getD i 0) = true
section
variable {N : Nat} {lt : Nat → Nat → Bool} {s : Shared}
theorem Asc.snoc (T : Tot N lt) {p : Array Nat} (G : Good N p) {n : Nat} (h : Asc lt p n) (hn : n < N) (h1 : 1 ≤ n) (q : lt (p.getD (n - 1) 0) (p.getD n 0) = true) : Asc lt p (n + 1) := by
  intro i j hij hj
  by_cases c : j < n
  · exact h i j hij c
  · have : j = n := by omega
    subst this
    by_cases c2 : i = j - 1
    · rw [c2]; exact q
    · exact T.tr _ _ _ (G.lt i (by omega)) (G.lt (j - 1) (by omega)) (G.lt j hn) (h i (j - 1) (by omega) (by omega)) q
theorem Dsc.snoc (T : Tot N lt) {p : Array Nat} (G : Good N p) {n : Nat} (h : Dsc lt p n) (hn : n < N) (h1 : 1 ≤ n) (q : lt (p.getD n 0) (p.getD (n - 1) 0) = true) : Dsc lt p (n + 1) := by
  intro i j hij hj
  by_cases c : j < n
  · exact h i j hij c
  · have : j = n := by omega
    subst this
    by_cases c2 : i = j - 1
    · rw [c2]; exact q
    · exact T.tr _ _ _ (G.lt j hn) (G.lt (j - 1) (by omega)) (G.lt i (by omega)) q (h i (j - 1) (by omega) (by omega))
theorem asc_wp (T : Tot N lt) {p : Array Nat} (G : Good N p) {Q : Nat → Shared → Prop} : ∀ (f n : Nat), 1 ≤ n → n + f ≤ N → Asc lt p n → (∀ m, n ≤ m → m ≤ n + f → Asc lt p m → (m < n + f → lt (p.getD m 0) (p.getD (m - 1) 0) = true) → Q m s) → (kas_asc p f n).kasWp (askB N lt) Q s
  | 0, n, _, _, a, k => k n (Nat.le_refl _) (Nat.le_refl _) a (fun z => absurd z (Nat.lt_irrefl _))
  | f + 1, n, h1, hn, a, k => by
    refine ⟨G.lt n (by omega), G.lt (n - 1) (by omega), fun z => by have := G.inj n (n - 1) (by omega) (by omega) z; omega, ?_⟩
    cases c : lt (p.getD n 0) (p.getD (n - 1) 0) with
    | true =>
      dsimp only
      rw [if_pos rfl]
      exact k n (Nat.le_refl _) (by omega) a fun _ => c
    | false =>
      dsimp only
      rw [if_neg (by simp)]
      have ne : p.getD n 0 ≠ p.getD (n - 1) 0 := fun z => by have := G.inj n (n - 1) (by omega) (by omega) z; omega
      have q := T.tot _ _ (G.lt n (by omega)) (G.lt (n - 1) (by omega)) ne c
      refine asc_wp T G f (n + 1) (by omega) (by omega) (a.snoc T G (by omega) h1 q) fun m m1 m2 am hm => k m (by omega) (by omega) am fun z => hm (by omega)
theorem desc_wp (T : Tot N lt) {p : Array Nat} (G : Good N p) {Q : Array Nat × Nat × Nat → Shared → Prop} : ∀ (f n : Nat), 1 ≤ n → n + f ≤ N → Dsc lt p n → (∀ m, n ≤ m → m ≤ n + f → Dsc lt p m → Q (p, m, 0) s) → (kas_desc f p n 0).kasWp (askB N lt) Q s
  | 0, n, _, _, a, k => k n (Nat.le_refl _) (Nat.le_refl _) a
  | f + 1, n, h1, hn, a, k => by
    refine ⟨G.lt n (by omega), G.lt (n - 1) (by omega), fun z => by have := G.inj n (n - 1) (by omega) (by omega) z; omega, ?_⟩
    cases c : lt (p.getD n 0) (p.getD (n - 1) 0) with
    | true =>
      dsimp only
      rw [if_pos rfl, if_neg (by omega)]
      exact desc_wp T G f (n + 1) (by omega) (by omega) (a.snoc T G (by omega) h1 c) fun m m1 m2 am => k m (by omega) (by omega) am
    | false =>
      dsimp only
      rw [if_neg (by simp)]
      have ne : p.getD n 0 ≠ p.getD (n - 1) 0 := fun z => by have := G.inj n (n - 1) (by omega) (by omega) z; omega
      have q := T.tot _ _ (G.lt n (by omega)) (G.lt (n - 1) (by omega)) ne c
      refine ⟨G.lt (n - 1) (by omega), G.lt n (by omega), Ne.symm ne, ?_⟩
      rw [q]
      dsimp only
      rw [if_pos rfl]
      exact k n (Nat.le_refl _) (by omega) a
theorem getD_of {p : Array Nat} {i : Nat} {q : Array Nat} {j : Nat} (h : p[i]? = q[j]?) : p.getD i 0 = q.getD j 0 := by
  rw [Array.getD_eq_getD_getElem?, Array.getD_eq_getD_getElem?, h]
theorem rev_get {p : Array Nat} {j : Nat} (hj : j ≤ p.size) (k : Nat) : (kas_rev p 0 j).getD k 0 = if k < j then p.getD (j - 1 - k) 0 else p.getD k 0 := by
  have e := getElem?_mirror_all (xs := p) (i := 0) hj k
  unfold kas_rev
  by_cases c : k < j
  · rw [if_pos c]
    rw [if_pos ⟨Nat.zero_le _, c⟩] at e
    rw [Nat.zero_add] at e
    exact getD_of e
  · rw [if_neg c]
    rw [if_neg (fun z => c z.2)] at e
    exact getD_of e
theorem Good.rev {p : Array Nat} (G : Good N p) {j : Nat} (hj : j ≤ N) : Good N (kas_rev p 0 j) := by
  have hz : j ≤ p.size := by rw [G.sz]; exact hj
  refine ⟨by rw [kas_rev_size]; exact G.sz, fun i hi => ?_, fun a b ha hb e => ?_⟩
  · rw [rev_get hz]
    split
    · exact G.lt _ (by omega)
    · exact G.lt _ hi
  · rw [rev_get hz, rev_get hz] at e
    by_cases c1 : a < j <;> by_cases c2 : b < j
    · rw [if_pos c1, if_pos c2] at e
      have := G.inj _ _ (by omega) (by omega) e
      omega
    · rw [if_pos c1, if_neg c2] at e
      have := G.inj _ _ (by omega) (by omega) e
      omega
    · rw [if_neg c1, if_pos c2] at e
      have := G.inj _ _ (by omega) (by omega) e
      omega
    · rw [if_neg c1, if_neg c2] at e
      exact G.inj _ _ (by omega) (by omega) e
theorem Dsc.rev {p : Array Nat} (G : Good N p) {j : Nat} (hj : j ≤ N) (h : Dsc lt p j) : Asc lt (kas_rev p 0 j) j := by
  have hz : j ≤ p.size := by rw [G.sz]; exact hj
  intro a b hab hb
  rw [rev_get hz, rev_get hz, if_pos (by omega), if_pos hb]
  exact h _ _ (by omega) (by omega)
theorem count_wp (T : Tot N lt) {p : Array Nat} (G : Good N p) (h2 : 2 ≤ N) {Q : Nat × Array Nat → Shared → Prop} (k : ∀ m p', 1 ≤ m → m ≤ N → Good N p' → Asc lt p' m → Q (m, p') s) : (kas_count N p).kasWp (askB N lt) Q s := by
  unfold kas_count
  rw [KasT.kasWp_bind]
  refine asc_wp T G (N - 1) 1 (Nat.le_refl _) (by omega) (fun i j a b => by omega) fun n n1 n2 an hn => ?_
  by_cases c : n = N
  · rw [if_pos (by rw [c]; simp)]
    exact k n p n1 (by omega) G an
  · rw [if_neg (by simpa using c)]
    by_cases c2 : n > 1
    · rw [if_pos c2]
      refine ⟨G.lt 0 (by omega), G.lt (n - 1) (by omega), fun z => by have := G.inj 0 (n - 1) (by omega) (by omega) z; omega, ?_⟩
      rw [an 0 (n - 1) (by omega) (by omega)]
      dsimp only
      rw [if_pos rfl]
      exact k n p n1 (by omega) G an
    · rw [if_neg c2]
      have e1 : n = 1 := by omega
      subst e1
      have h10 := hn (by omega)
      unfold kas_descPart
      rw [KasT.kasWp_bind]
      have d2 : Dsc lt p (1 + 1) := fun i j hij hj => by
        have : i = 0 := by omega
        have : j = 1 := by omega
        subst i j
        exact h10
      refine desc_wp T G (N - (1 + 1)) (1 + 1) (by omega) (by omega) d2 fun m m1 m2 dm => ?_
      show KasT.kasWp _ (if (0 : Nat) > 0 then _ else kas_tail3 m N p) _ _
      rw [if_neg (by omega)]
      unfold kas_tail3
      rw [KasT.kasWp_bind]
      refine asc_wp T (G.rev (j := m) (by omega)) (N - m) m (by omega) (by omega) (dm.rev G (by omega)) fun r r1 r2 ar _ => ?_
      exact k r _ (by omega) (by omega) (G.rev (by omega)) ar
theorem place_wp (T : Tot N lt) {p : Array Nat} (G : Good N p) {k : Nat} (hk : k < N) {Q : Nat → Shared → Prop} : ∀ (f l r : Nat), l ≤ r → r ≤ k → r - l ≤ f → (∀ i, i < l → lt (p.getD i 0) (p.getD k 0) = true) → (∀ i, r ≤ i → i < k → lt (p.getD k 0) (p.getD i 0) = true) → Asc lt p k →
      (∀ m, m ≤ k → (∀ i, i < m → lt (p.getD i 0) (p.getD k 0) = true) → (∀ i, m ≤ i → i < k → lt (p.getD k 0) (p.getD i 0) = true) → Q m s) → (kas_place p k f l r).kasWp (askB N lt) Q s
  | 0, l, r, h1, h2, h3, a, b, _, q => q l (by omega) a fun i hi hk' => b i (by omega) hk'
  | f + 1, l, r, h1, h2, h3, a, b, as, q => by
    unfold kas_place
    by_cases c : l ≥ r
    · rw [if_pos c]
      exact q l (by omega) a fun i hi hk' => b i (by omega) hk'
    · rw [if_neg c]
      have hm : (l + r) / 2 < r := by omega
      have hl : l ≤ (l + r) / 2 := by omega
      generalize (l + r) / 2 = m at hm hl
      refine ⟨G.lt k hk, G.lt m (by omega), fun z => by have := G.inj k m hk (by omega) z; omega, ?_⟩
      cases e : lt (p.getD k 0) (p.getD m 0) with
      | true =>
        dsimp only
        rw [if_pos rfl]
        refine place_wp T G hk f l m hl (by omega) (by omega) a (fun i hi hik => ?_) as q
        by_cases c3 : i = m
        · rw [c3]; exact e
        · exact T.tr _ _ _ (G.lt k hk) (G.lt m (by omega)) (G.lt i (by omega)) e (as m i (by omega) hik)
      | false =>
        dsimp only
        rw [if_neg (by simp)]
        have ne : p.getD k 0 ≠ p.getD m 0 := fun z => by have := G.inj k m hk (by omega) z; omega
        have e2 := T.tot _ _ (G.lt k hk) (G.lt m (by omega)) ne e
        refine place_wp T G hk f (m + 1) r (by omega) h2 (by omega) (fun i hi => ?_) b as q
        by_cases c3 : i = m
        · rw [c3]; exact e2
        · exact T.tr _ _ _ (G.lt i (by omega)) (G.lt m (by omega)) (G.lt k hk) (as i m (by omega) (by omega)) e2
theorem bub_get {p : Array Nat} {k d : Nat} (hk : k < p.size) (hd : d ≤ k) (j : Nat) : (bubble p k d).getD j 0 = if j = k - d then p.getD k 0 else if k - d < j ∧ j ≤ k then p.getD (j - 1) 0 else p.getD j 0 := by
  have e := getElem?_bubble hk d hd j
  by_cases c1 : j = k - d
  · rw [if_pos c1] at e ⊢
    exact getD_of e
  · rw [if_neg c1] at e ⊢
    by_cases c2 : k - d < j ∧ j ≤ k
    · rw [if_pos c2] at e ⊢
      exact getD_of e
    · rw [if_neg c2] at e ⊢
      exact getD_of e
/-- where the thing at j comes from -/
def bubI (k d j : Nat) : Nat := if j = k - d then k else if k - d < j ∧ j ≤ k then j - 1 else j
theorem bubI_get {p : Array Nat} {k d : Nat} (hk : k < p.size) (hd : d ≤ k) (j : Nat) : (bubble p k d).getD j 0 = p.getD (bubI k d j) 0 := by
  rw [bub_get hk hd]
  unfold bubI
  by_cases c1 : j = k - d
  · rw [if_pos c1, if_pos c1]
  · rw [if_neg c1, if_neg c1]
    by_cases c2 : k - d < j ∧ j ≤ k
    · rw [if_pos c2, if_pos c2]
    · rw [if_neg c2, if_neg c2]
theorem bubI_lt {N k d j : Nat} (hk : k < N) (hj : j < N) : bubI k d j < N := by
  unfold bubI
  split
  · exact hk
  · split <;> omega
theorem bubI_inj {k d a b : Nat} (hd : d ≤ k) (e : bubI k d a = bubI k d b) : a = b := by
  unfold bubI at e
  split at e <;> split at e <;> (try split at e) <;> (try split at e) <;> omega
theorem Good.bub {p : Array Nat} (G : Good N p) {k d : Nat} (hk : k < N) (hd : d ≤ k) : Good N (bubble p k d) := by
  have hz : k < p.size := by rw [G.sz]; exact hk
  refine ⟨by rw [bubble_size]; exact G.sz, fun i hi => ?_, fun a b ha hb e => ?_⟩
  · rw [bubI_get hz hd]
    exact G.lt _ (bubI_lt hk hi)
  · rw [bubI_get hz hd, bubI_get hz hd] at e
    exact bubI_inj hd (G.inj _ _ (bubI_lt hk ha) (bubI_lt hk hb) e)
theorem bin_wp (T : Tot N lt) {Q : Array Nat → Shared → Prop} : ∀ (f : Nat) (p : Array Nat) (k : Nat), Good N p → 1 ≤ k → k + f = N → Asc lt p k → (∀ p', Good N p' → Asc lt p' N → Q p' s) → (kas_bin f p k).kasWp (askB N lt) Q s
  | 0, p, k, G, h1, hk, a, q => q p G (by rw [← hk]; exact a)
  | f + 1, p, k, G, h1, hk, a, q => by
    unfold kas_bin
    rw [KasT.kasWp_bind]
    have hkN : k < N := by omega
    refine place_wp T G hkN k 0 k (Nat.zero_le _) (Nat.le_refl _) (by omega) (fun i hi => by omega) (fun i hi hik => by omega) a fun m hm lo hi => ?_
    have hz : k < p.size := by rw [G.sz]; exact hkN
    have hd : k - m ≤ k := by omega
    refine bin_wp T f _ (k + 1) (G.bub hkN hd) (by omega) (by omega) (fun i j hij hj => ?_) q
    rw [bub_get hz hd, bub_get hz hd]
    have em : k - (k - m) = m := by omega
    rw [em]
    by_cases c1 : i = m
    · rw [if_pos c1, if_neg (by omega), if_pos ⟨by omega, by omega⟩]
      exact hi (j - 1) (by omega) (by omega)
    · rw [if_neg c1]
      by_cases c2 : j = m
      · rw [if_pos c2, if_neg (by omega)]
        exact lo i (by omega)
      · rw [if_neg c2]
        by_cases c3 : m < i ∧ i ≤ k
        · rw [if_pos c3, if_pos ⟨by omega, by omega⟩]
          exact a _ _ (by omega) (by omega)
        · rw [if_neg c3]
          by_cases c4 : m < j ∧ j ≤ k
          · rw [if_pos c4]
            exact a _ _ (by omega) (by omega)
          · rw [if_neg c4]
            exact a _ _ (by omega) (by omega)
theorem good_range : Good N (List.toArray (List.range N)) := by
  have e : ∀ i, i < N → (List.toArray (List.range N)).getD i 0 = i := fun i hi => by
    rw [Array.getD_eq_getD_getElem?]
    simp [hi]
  refine ⟨by simp, fun i hi => by rw [e i hi]; exact hi, fun i j hi hj z => by rw [e i hi, e j hj] at z; exact z⟩
theorem sort_wp (T : Tot N lt) (h2 : 2 ≤ N) {Q : Array Nat → Shared → Prop} (q : ∀ p, Good N p → Asc lt p N → Q p s) : (kas_sort N).kasWp (askB N lt) Q s := by
  unfold kas_sort
  rw [KasT.kasWp_bind]
  refine count_wp T good_range h2 fun m p m1 m2 G a => ?_
  dsimp only
  by_cases c : m < N
  · rw [if_pos c]
    have e : max m 1 = m := by omega
    rw [e]
    exact bin_wp T (N - m) p m G m1 (by omega) a q
  · rw [if_neg c]
    have e : m = N := by omega
    subst e
    exact q p G a
end
/-- the questions answered in the machine -/
theorem ask_mono {α : Type} {cmp cmp' : Nat → Nat → (Bool → Shared → Prop) → Shared → Prop} {s : Shared} {Q : α → Shared → Prop} (h : ∀ i j (C : Bool → Shared → Prop), cmp i j (fun b s' => s' = s ∧ C b s) s → cmp' i j C s) (m : ∀ i j (C C' : Bool → Shared → Prop), (∀ b, C b s → C' b s) → cmp i j C s → cmp i j (fun b s' => s' = s ∧ C' b s) s) : ∀ (t : KasT α), t.kasWp cmp Q s → t.kasWp cmp' Q s
  | .ret a, q => q
  | .ask i j k, q => h i j _ (m i j (fun b s' => (k b).kasWp cmp Q s') _ (fun b z => ask_mono h m (k b) z) q)
end L2

/-! sorted(..) of things that lie on the heap and all stand apart. -/
namespace L2
open PySem PySem.W PyProof.Rows
section
variable {prog : Program} {w : World} {A : Around} {E : Value → Shared → Prop} {s : Shared}
/-- the heap behind the sort's first steps -/
def sortIn (h : Heap) (d : Addr) (us : List Value) : Heap := ((h.update d (Obj.mapSeq fun _ => #[])).push (seqObj "tuple" us.toArray 0)).push (seqObj "list" #[] 0)
theorem sortIn_old {h : Heap} {d b : Addr} {us : List Value} {o : Obj} (n : b ≠ d) (e : h.get? b = some o) : (sortIn h d us).get? b = some o := by
  unfold sortIn
  refine Heap.get?_push_of_some _ (Heap.get?_push_of_some _ ?_)
  rw [Heap.get?_update_other _ _ (Ne.symm n)]
  exact e
/-- things in an order -/
def Put (us : List Value) (lt : Nat → Nat → Bool) (out : List Value) : Prop := ∃ p : Array Nat, Good us.length p ∧ Asc lt p us.length ∧ out = p.toList.map fun i => us.getD i Value.none
theorem sort_heap {d : Addr} {us : List Value} {n : Nat} {κ : SortKind} {lt : Nat → Nat → Bool} {P : PySem.Fin → Shared → Prop} (T : Tot us.length lt) (hd : s.heap.get? d = some (seqObj "list" us.toArray n)) (small : us.length < 64)
    (kind : 2 ≤ us.length → ∀ (Q : SortKind → Shared → Prop) (E' : Value → Shared → Prop), Q κ { s with heap := sortIn s.heap d us } → wpAny (model prog w) A (keyKind' us.toArray) Q E' { s with heap := sortIn s.heap d us })
    (less : ∀ i j, i < us.length → j < us.length → i ≠ j → ∀ (Q : Bool → Shared → Prop), Q (lt i j) { s with heap := sortIn s.heap d us } → wpAny (model prog w) A (keyLt' κ (us.getD i Value.none) (us.getD j Value.none)) Q (fun _ _ => False) { s with heap := sortIn s.heap d us })
    (fin : ∀ out : List Value, out.length = us.length → Put us lt out → P (.done (.ret .none)) { s with heap := sortedHeap s.heap d us out.toArray }) :
    wpAny (model prog w) A (Builtin.«list.sort» ⟨[.ref d], []⟩) P E s := by
  rw [list_sort_plain]
  have dl : d < s.heap.objs.size := Heap.lt_size hd
  refine wpAny_bind (listItems_at hd rfl (wpAny_bind (listUpdate_at hd rfl ?_)))
  obtain ⟨n1, hd1⟩ : ∃ n1, (s.heap.update d (Obj.mapSeq fun _ => #[])).get? d = some (seqObj "list" #[] n1) := ⟨_, get?_update_seq hd (fun _ => #[])⟩
  refine wpAny_bind (seqEpoch_at hd1 rfl (wpAny_bind (wpAny_newTuple (wpAny_bind (wpAny_newList (wpAny_holding ?_))))))
  have hd6 : (sortIn s.heap d us).get? d = some (seqObj "list" #[] n1) := Heap.get?_push_of_some _ (Heap.get?_push_of_some _ hd1)
  show wpAny (model prog w) A _ P E { s with heap := sortIn s.heap d us }
  dsimp only
  have zl : us.toArray.size = us.length := by simp
  by_cases c : us.toArray.size < 2
  · rw [if_pos c, if_pos c]
    refine wpAny_bind (wpAny_pure ?_)
    rw [StateT.run_pure]
    refine wpAny_bind (wpAny_pure ?_)
    dsimp only
    have ez : (us.toArray.zip us.toArray).map (·.2) = us.toArray := by
      apply Array.ext'
      simp [List.map_snd_zip]
    refine wpAny_bind (seqEpoch_at hd6 rfl (wpAny_bind (listUpdate_at hd6 rfl ?_ (hsz2 := by rw [Array.size_map]; show (us.toArray.zip us.toArray).size ≤ _; rw [sizeLine_eq]; simp; omega))))
    simp only [bne_self_eq_false, Bool.false_eq_true, if_false]
    have go := fin us rfl ⟨_, good_range, fun i j a b => by omega, by
      apply List.ext_getElem?
      intro i
      by_cases hi : i < us.length
      · simp [hi]
      · simp [Nat.le_of_not_lt hi]⟩
    refine wpAny_pure ?_
    have e2 : (arrOf (SortSt.mk' general' (us.toArray.zip us.toArray) #[] 7 none)).map (·.2) = us.toArray := ez
    rw [e2]
    exact go
  · rw [if_neg c, if_neg c]
    have two : 2 ≤ us.length := by omega
    refine wpAny_bind (kind two _ _ ?_)
    refine wpAny_bind (wpAny_mono (kat_run (E := E) (ks := us) (vs := us) (G := fun p s' => s' = { s with heap := sortIn s.heap d us } ∧ Good us.length p ∧ Asc lt p us.length) (Q := fun st' s' => s' = { s with heap := sortIn s.heap d us } ∧ failedOf st' = none ∧ ∃ p, Good us.length p ∧ Asc lt p us.length ∧ arrOf st' = p.map (kas_item (us.toArray.zip us.toArray))) rfl two small (fun p st' s' _ e1 e2 g => ⟨g.1, e2, p, g.2.1, g.2.2, e1⟩) ?_) (fun r s' q => ?_) fun _ _ z => z)
    · refine ask_mono (cmp := askB us.length lt) (fun i j C h => ?_) (fun i j C C' h q => ⟨q.1, q.2.1, q.2.2.1, rfl, h _ q.2.2.2⟩) _ (sort_wp T two fun p g a => ⟨rfl, g, a⟩)
      obtain ⟨h1, h2, n12, _, h3⟩ := h
      exact less i j h1 h2 n12 _ h3
    · obtain ⟨⟨⟩, st'⟩ := r
      obtain ⟨rfl, nf, p, g, a, ea⟩ := q
      dsimp only at ea nf ⊢
      have eo : (arrOf st').map (·.2) = (p.toList.map fun i => us.getD i Value.none).toArray := by
        rw [ea]
        apply Array.ext'
        simp only [Array.toList_map, List.map_map]
        refine List.map_congr_left fun i _ => ?_
        show (kas_item (us.toArray.zip us.toArray) i).2 = _
        rw [kat_item rfl]
      have el : (p.toList.map fun i => us.getD i Value.none).length = us.length := by rw [List.length_map, Array.length_toList, g.sz]
      refine wpAny_bind (seqEpoch_at hd6 rfl (wpAny_bind (listUpdate_at hd6 rfl ?_ (hsz2 := by rw [eo]; show (p.toList.map fun i => us.getD i Value.none).toArray.size ≤ _; rw [List.size_toArray, el, sizeLine_eq]; omega))))
      rw [nf]
      simp only [bne_self_eq_false, Bool.false_eq_true, if_false]
      have go := fin _ el ⟨p, g, a, rfl⟩
      unfold sortedHeap at go
      rw [← eo] at go
      exact wpAny_pure go
/-- sorted(..) of what is gathered from l -/
theorem sorted_by {l : Addr} {us : List Value} {κ : SortKind} {lt : Nat → Nat → Bool} {Q : Value → Shared → Prop} (T : Tot us.length lt) (small : us.length < 64)
    (col : ∀ (E' : Value → Shared → Prop) (Q' : List Value → Shared → Prop), (∀ h1 tk, (∀ b o, s.heap.get? b = some o → h1.get? b = some o) → s.heap.objs.size < h1.objs.size → Q' us { s with heap := h1, toks := tk }) → wpAny (model prog w) A.in1 (collect (.ref l)) Q' E' s)
    (kind : 2 ≤ us.length → ∀ (s' : Shared), (∀ b o, s.heap.get? b = some o → s'.heap.get? b = some o) → ∀ {A' : Around} {E' : Value → Shared → Prop} {Q' : SortKind → Shared → Prop}, Q' κ s' → wpAny (model prog w) A' (keyKind' us.toArray) Q' E' s')
    (less : ∀ i j, i < us.length → j < us.length → i ≠ j → ∀ (s' : Shared), (∀ b o, s.heap.get? b = some o → s'.heap.get? b = some o) → ∀ {Q' : Bool → Shared → Prop}, Q' (lt i j) s' → wpAny (model prog w) A.in1.in1 (keyLt' κ (us.getD i Value.none) (us.getD j Value.none)) Q' (fun _ _ => False) s')
    (fin : ∀ (D : Addr) (out : List Value) (h' : Heap) (tk c : Nat), out.length = us.length → Put us lt out → (∀ b o, s.heap.get? b = some o → h'.get? b = some o) → s.heap.objs.size ≤ D → h'.get? D = some (seqObj "list" out.toArray c) → Q (.ref D) { s with heap := h', toks := tk }) :
    wpAny (model prog w) A (call (.builtin "sorted") [.ref l]) Q E s := by
  refine Calls.call_function_entry kind_sorted plain_sorted entry_sorted (args_sorted1 _) ?_
  show wpAny _ _ (Builtin.«sorted» ⟨[.ref l], []⟩) _ _ _
  unfold Builtin.«sorted»
  refine wpAny_bind (m := checkCount "sorted" 1 1 _) (wpAny_pure (wpAny_bind (col _ _ fun h1 tk k1 z1 => wpAny_bind (wpAny_newList ?_ (by rw [sizeLine_eq]; omega)))))
  have hd : (h1.push (seqObj "list" us.toArray 0)).get? h1.objs.size = some (seqObj "list" us.toArray 0) := Heap.get?_push_size _ rfl
  show wpAny _ _ _ _ _ { s with heap := h1.push (seqObj "list" us.toArray 0), toks := tk }
  have k2 : ∀ b o, s.heap.get? b = some o → (h1.push (seqObj "list" us.toArray 0)).get? b = some o := fun b o e => Heap.get?_push_of_some _ (k1 b o e)
  have nb : ∀ b o, s.heap.get? b = some o → b ≠ h1.objs.size := fun b o e => Nat.ne_of_lt (Heap.lt_size (k1 b o e))
  generalize h1.push (seqObj "list" us.toArray 0) = g at hd k2
  have kp : ∀ b o, s.heap.get? b = some o → (sortIn g h1.objs.size us).get? b = some o := fun b o e => sortIn_old (nb b o e) (k2 b o e)
  have kd : 2 ≤ us.length → ∀ (Q' : SortKind → Shared → Prop) (E' : Value → Shared → Prop), Q' κ { s with heap := sortIn g h1.objs.size us, toks := tk } → wpAny (model prog w) A.in1.in1 (keyKind' us.toArray) Q' E' { s with heap := sortIn g h1.objs.size us, toks := tk } := fun two Q' E' q => kind two { s with heap := sortIn g h1.objs.size us, toks := tk } kp q
  have ls : ∀ i j, i < us.length → j < us.length → i ≠ j → ∀ (Q' : Bool → Shared → Prop), Q' (lt i j) { s with heap := sortIn g h1.objs.size us, toks := tk } → wpAny (model prog w) A.in1.in1 (keyLt' κ (us.getD i Value.none) (us.getD j Value.none)) Q' (fun _ _ => False) { s with heap := sortIn g h1.objs.size us, toks := tk } := fun i j a b n Q' q => less i j a b n { s with heap := sortIn g h1.objs.size us, toks := tk } kp q
  refine wpAny_bind (wpAny_holding (wpAny_call_entry slot_list_sort ⟨_, hd, rfl⟩ entry_list_sort (sort_heap (s := { s with heap := g, toks := tk }) T hd small kd ls fun out lo po => ⟨_, rfl, ?_⟩) (args_list_sort _)))
  obtain ⟨c, hc⟩ := sortedHeap_at (out := out.toArray) hd
  refine wpAny_pure ⟨_, rfl, fin h1.objs.size out _ tk c lo po (fun b o e => ?_) (Nat.le_of_lt z1) hc⟩
  have e2 := k2 b o e
  rw [sortedHeap_old (nb b o e) (Heap.lt_size e2)]
  exact e2
theorem col_list {l : Addr} {us : List Value} (hl : s.heap.IsList l us.toArray) (hz : us.length ≤ sizeLine) : ∀ (E' : Value → Shared → Prop) (Q' : List Value → Shared → Prop), (∀ h1 tk, (∀ b o, s.heap.get? b = some o → h1.get? b = some o) → s.heap.objs.size < h1.objs.size → Q' us { s with heap := h1, toks := tk }) → wpAny (model prog w) A (collect (.ref l)) Q' E' s := fun E' Q' q => by
  refine collect_list hl (q _ s.toks (fun b o e => ?_) ?_) hz
  · rw [Heap.get?_update_other _ _ (Nat.ne_of_gt (Heap.lt_size e))]
    exact Heap.get?_push_of_some _ e
  · rw [Heap.size_update, size_push']
    exact Nat.lt_succ_self _
end
theorem nat_le : ∀ {rs us : List Nat}, rs.Nodup → (∀ x ∈ rs, x ∈ us) → rs.length ≤ us.length
  | [], us, _, _ => Nat.zero_le _
  | a :: r, us, hn, hs => by
    rw [List.nodup_cons] at hn
    have ha := hs a (by simp)
    have := nat_le (rs := r) (us := us.erase a) hn.2 fun x hx => by
      have : x ≠ a := fun z => hn.1 (z ▸ hx)
      exact (List.mem_erase_of_ne this).mpr (hs x (List.mem_cons_of_mem _ hx))
    rw [List.length_erase_of_mem ha] at this
    have := List.length_pos_of_mem ha
    rw [List.length_cons]
    omega
/-! ### pairs of texts -/
theorem cps_inj {a b : Str} (h : a.cps.toList = b.cps.toList) : a = b := by
  obtain ⟨x⟩ := a
  obtain ⟨y⟩ := b
  have : x = y := Array.toList_inj.mp h
  rw [this]
theorem lt_or {a b : Str} (h : a ≠ b) (n : ¬ a.cps.toList < b.cps.toList) : b.cps.toList < a.cps.toList := by
  rcases List.le_iff_lt_or_eq.mp (List.not_lt.mp n) with z | z
  · exact z
  · exact absurd (cps_inj z.symm) h
/-- what lies in order -/
theorem put_perm {us out : List Value} {lt : Nat → Nat → Bool} {α : Type} (xs : List α) (d : α) (h : Put us lt out) (hl : us.length = xs.length) : ∃ ys : List α, ys.Perm xs ∧ ys.length = out.length ∧ (∀ i : Nat, i < ys.length → ∃ j, j < xs.length ∧ out[i]? = us[j]? ∧ ys[i]? = xs[j]?) ∧
    ∀ i j (hi : i < ys.length) (hj : j < ys.length), i < j → ∃ a b, a < xs.length ∧ b < xs.length ∧ ys[i]? = xs[a]? ∧ ys[j]? = xs[b]? ∧ lt a b = true := by
  obtain ⟨p, G, A, rfl⟩ := h
  rw [hl] at G A
  have pl : p.toList.length = xs.length := by rw [Array.length_toList, G.sz]
  have pg : ∀ i (h : i < xs.length), p.toList[i]? = some (p.getD i 0) := fun i h => by
    have hi : i < p.size := by rw [G.sz]; exact h
    rw [Array.getElem?_toList, Array.getElem?_eq_getElem hi, Array.getD_eq_getD_getElem?, Array.getElem?_eq_getElem hi]
    rfl
  have pr : p.toList.Perm (List.range xs.length) := by
    rw [List.perm_ext_iff_of_nodup ?_ List.nodup_range]
    · intro a
      rw [List.mem_range]
      constructor
      · intro h
        obtain ⟨i, hi⟩ := List.mem_iff_getElem?.mp h
        have hl' := (List.getElem?_eq_some_iff.mp hi).1
        rw [pg i (by omega)] at hi
        cases hi
        exact G.lt i (by omega)
      · intro h
        -- a number is met, since they are all apart and below
        have inj : p.toList.Nodup := by
          rw [List.nodup_iff_pairwise_ne, List.pairwise_iff_getElem]
          intro i j hi hj hij z
          have e1 := pg i (by omega)
          have e2 := pg j (by omega)
          rw [List.getElem?_eq_getElem hi] at e1
          rw [List.getElem?_eq_getElem hj] at e2
          have := G.inj i j (by omega) (by omega) ((Option.some.inj e1).symm.trans (z.trans (Option.some.inj e2)))
          omega
        have sub : ∀ x ∈ p.toList, x ∈ List.range xs.length := fun x hx => by
          obtain ⟨i, hi⟩ := List.mem_iff_getElem?.mp hx
          have hl' := (List.getElem?_eq_some_iff.mp hi).1
          rw [pg i (by omega)] at hi
          cases hi
          exact List.mem_range.mpr (G.lt i (by omega))
        refine Decidable.byContradiction fun n => ?_
        have : (p.toList).length ≤ ((List.range xs.length).erase a).length := by
          refine nat_le inj fun x hx => ?_
          rw [List.Nodup.mem_erase_iff List.nodup_range]
          exact ⟨fun z => n (z ▸ hx), sub x hx⟩
        rw [List.length_erase_of_mem (List.mem_range.mpr h), List.length_range, pl] at this
        omega
    · rw [List.nodup_iff_pairwise_ne, List.pairwise_iff_getElem]
      intro i j hi hj hij z
      have e1 := pg i (by omega)
      have e2 := pg j (by omega)
      rw [List.getElem?_eq_getElem hi] at e1
      rw [List.getElem?_eq_getElem hj] at e2
      have := G.inj i j (by omega) (by omega) ((Option.some.inj e1).symm.trans (z.trans (Option.some.inj e2)))
      omega
  have ex : xs = (List.range xs.length).map fun i => xs.getD i d := by
    apply List.ext_getElem?
    intro i
    by_cases hi : i < xs.length
    · simp [hi]
    · simp [Nat.le_of_not_lt hi]
  refine ⟨p.toList.map fun i => xs.getD i d, ?_, by rw [List.length_map, List.length_map], fun i hi => ?_, fun i j hi hj hij => ?_⟩
  · have := pr.map fun i => xs.getD i d
    rw [← ex] at this
    exact this
  · rw [List.length_map] at hi
    have hlt := G.lt i (by omega)
    refine ⟨p.getD i 0, hlt, ?_, ?_⟩
    · rw [List.getElem?_map, pg i (by omega)]
      show some (us.getD _ _) = _
      rw [List.getD_eq_getElem?_getD, List.getElem?_eq_getElem (show p.getD i 0 < us.length by omega)]
      rfl
    · rw [List.getElem?_map, pg i (by omega)]
      show some (xs.getD _ _) = _
      rw [List.getD_eq_getElem?_getD, List.getElem?_eq_getElem hlt]
      rfl
  · rw [List.length_map] at hi hj
    have h1 := G.lt i (by omega)
    have h2 := G.lt j (by omega)
    refine ⟨p.getD i 0, p.getD j 0, h1, h2, ?_, ?_, A i j hij (by omega)⟩
    · rw [List.getElem?_map, pg i (by omega)]
      show some (xs.getD _ _) = _
      rw [List.getD_eq_getElem?_getD, List.getElem?_eq_getElem h1]
      rfl
    · rw [List.getElem?_map, pg j (by omega)]
      show some (xs.getD _ _) = _
      rw [List.getD_eq_getElem?_getD, List.getElem?_eq_getElem h2]
      rfl
end L2

/-! sorted(..) of pairs of texts, of a dict that has such for keys, of lists of texts. -/
namespace L2
open PySem PySem.W PyProof.Rows
theorem plain_elp : plainId "list.__eq__.loop" = true := by decide +kernel
theorem entry_elp : entryFor table "list.__eq__.loop" = some Builtin.«list.__eq__.loop» := entryFor_of_tree (by kernel_rfl)
theorem sub_ll : isSubtype (.type "list") (.type "list") = pure true := by rw [isSubtype_type]; kernel_rfl
section
variable {prog : Program} {w : World} {A : Around} {E : Value → Shared → Prop} {s : Shared}
/-- lists of texts, apart in their first -/
def LstS (h : Heap) (v : Value) (x : Str) : Prop := ∃ a t r, v = .ref a ∧ h.IsList a ((Value.str x t :: r).toArray)
theorem LstS.kept {h h' : Heap} {v : Value} {p : Str} (t : LstS h v p) (k : ∀ b o, h.get? b = some o → h'.get? b = some o) : LstS h' v p := by
  obtain ⟨a, x, y, rfl, o, ho, r⟩ := t
  exact ⟨a, x, y, rfl, o, k a o ho, r⟩
theorem less_ls {v1 v2 : Value} {p q : Str} {Q : Bool → Shared → Prop} (hu : A.units < cLine) (h1 : LstS s.heap v1 p) (h2 : LstS s.heap v2 q) (ne : p ≠ q) (h : Q (decide (p.cps.toList < q.cps.toList)) s) : wpAny (model prog w) A (keyLt' oneType' v1 v2) Q (fun _ _ => False) s := by
  obtain ⟨a, t1, r1, rfl, oa, hoa, hca, na, hda⟩ := h1
  obtain ⟨b, t2, r2, rfl, ob, hob, hcb, nb, hdb⟩ := h2
  have ta : s.TypeIs (.ref a) "list" := ⟨oa, hoa, hca⟩
  have tb : s.TypeIs (.ref b) "list" := ⟨ob, hob, hcb⟩
  rw [keyLt'_oneType, oneLt'_eq]
  simp only [if_true]
  refine wpAny_bind (wpAny_cRoomFor_or (.inr hu) ?_)
  refine wpAny_bind (wpAny_callSpecialIfBound?_slot ta F.slot_list_lt (wpAny_call (codeAny_call_builtin F.slot_list_lt.plain F.entry_list_lt (F.slot_list_lt.check _ _ _ _ _ _ _ _ ta (F.args_list_lt_2 _ _) ?_))))
  show wpAny _ _ (isInstance (.ref b) (.type "list") >>= _) _ _ s
  refine wpAny_bind (wpAny_isInstance tb sub_ll ?_)
  rw [if_neg (by decide), if_neg (by decide)]
  refine wpAny_pure ⟨plainId_quiet plain_elp _, codeAny_builtin entry_elp ?_⟩
  rw [Around.under_plainId plain_elp _]
  show wpAny _ A.in1 (Builtin.List.listItems (.ref a) >>= _) _ _ s
  refine wpAny_bind (listItems_at hoa hda (wpAny_bind (listItems_at hob hdb ?_)))
  show wpAny _ A.in1 (eqBool (Value.str p t1) (Value.str q t2) >>= _) _ _ s
  refine wpAny_bind (wpAny_eqBool_str ?_)
  rw [decide_eq_false ne, if_neg Bool.false_ne_true]
  refine wpAny_bind (listItems_at hoa hda (wpAny_bind (listItems_at hob hdb ?_)))
  show wpAny _ _ (richCompare .Lt (Value.str p t1) (Value.str q t2) >>= _) _ _ s
  refine wpAny_bind (lt_str (wpAny_pure ?_))
  exact wpAny_truthy_bool h
theorem kind_ls {vs : List Value} {ps : List Str} {Q : SortKind → Shared → Prop} (h : Paired (LstS s.heap) vs ps) (two : 2 ≤ vs.length) (q : Q oneType' s) : wpAny (model prog w) A (keyKind' vs.toArray) Q E s := by
  refine kas_kind (T := .type "list") two (fun v hv => ?_) rfl rfl q
  have : ∃ p, LstS s.heap v p := by
    clear two
    induction h with
    | nil => cases hv
    | cons h _ ih =>
      rcases List.mem_cons.mp hv with rfl | hv
      · exact ⟨_, h⟩
      · exact ih hv
  obtain ⟨_, a, t, r, rfl, o, ho, hc, _⟩ := this
  have L : Looks (model prog w) s.heap (typeOf (.ref a)) o.cls := (Looks.ld ho).andThen .now
  rw [hc] at L
  exact L
end
theorem paired_of {α β : Type} {F : α → β → Prop} : ∀ {as : List α} {bs : List β}, as.length = bs.length → (∀ (i : Nat) a b, as[i]? = some a → bs[i]? = some b → F a b) → Paired F as bs
  | [], [], _, _ => .nil
  | [], _ :: _, h, _ => by simp at h
  | _ :: _, [], h, _ => by simp at h
  | a :: as, b :: bs, h, k => .cons (k 0 a b rfl rfl) (paired_of (by simpa using h) fun i a b e1 e2 => k (i + 1) a b (by simpa using e1) (by simpa using e2))
/-- what lies in order, with what it stands for -/
theorem put_zip {us out : List Value} {lt : Nat → Nat → Bool} {α : Type} (as : List Addr) (xs : List α) (d : α) (hv : Vals (as.map V.ref) us) (h : Put us lt out) (la : as.length = xs.length) :
    ∃ (bs : List Addr) (ys : List α), Vals (bs.map V.ref) out ∧ bs.length = ys.length ∧ ys.Perm xs ∧ (∀ (i : Nat) b y, bs[i]? = some b → ys[i]? = some y → ∃ j : Nat, as[j]? = some b ∧ xs[j]? = some y) ∧ ys.Pairwise (fun y z => ∃ (a b : Nat), xs[a]? = some y ∧ xs[b]? = some z ∧ lt a b = true) := by
  have lu : us.length = (as.zip xs).length := by
    have := hv.length
    rw [List.length_map] at this
    rw [List.length_zip]
    omega
  obtain ⟨zs, pm, lz, at', up⟩ := put_perm (as.zip xs) (0, d) h lu
  have sn : (as.zip xs).map Prod.snd = xs := List.map_snd_zip (by omega)
  refine ⟨zs.map Prod.fst, zs.map Prod.snd, ?_, by rw [List.length_map, List.length_map], by have := pm.map Prod.snd; rwa [sn] at this, fun i b y e1 e2 => ?_, ?_⟩
  · refine paired_of (by rw [List.length_map, List.length_map, lz]) fun i x v e1 e2 => ?_
    rw [List.getElem?_map, List.getElem?_map] at e1
    cases ez : zs[i]? with
    | none => rw [ez] at e1; cases e1
    | some z =>
      rw [ez] at e1
      cases e1
      obtain ⟨j, hj, o1, o2⟩ := at' i (List.getElem?_eq_some_iff.mp ez).1
      rw [ez] at o2
      rw [e2] at o1
      obtain ⟨h1, h2⟩ := List.getElem?_zip_eq_some.mp o2.symm
      obtain ⟨v', e3, r⟩ := hv.get (i := j) (x := V.ref z.1) (by rw [List.getElem?_map, h1]; rfl)
      rw [← o1] at e3
      cases e3
      exact r
  · rw [List.getElem?_map] at e1 e2
    cases ez : zs[i]? with
    | none => rw [ez] at e1; cases e1
    | some z =>
      rw [ez] at e1 e2
      cases e1
      cases e2
      obtain ⟨j, hj, _, o2⟩ := at' i (List.getElem?_eq_some_iff.mp ez).1
      rw [ez] at o2
      exact ⟨j, List.getElem?_zip_eq_some.mp o2.symm⟩
  · rw [List.pairwise_iff_getElem]
    intro i j hi hj hij
    rw [List.length_map] at hi hj
    obtain ⟨a, b, ha, hb, e1, e2, l⟩ := up i j hi hj hij
    refine ⟨a, b, ?_, ?_, l⟩
    · rw [List.getElem?_eq_getElem hi] at e1
      have := (List.getElem?_zip_eq_some.mp e1.symm).2
      rw [List.getElem_map]
      exact this
    · rw [List.getElem?_eq_getElem hj] at e2
      have := (List.getElem?_zip_eq_some.mp e2.symm).2
      rw [List.getElem_map]
      exact this
section
variable {X : Cx}
/-- sorted(lists of texts), apart in their firsts -/
theorem call_sortedL {K : PySem.W.Frag} (h : X.K = K) (hu : X.A.units + 2 < cLine) : CallR X (.builtin "sorted") (fun xs H Q => ∃ (l : Addr) (as : List Addr) (gs : List (Str × List Str)), xs = [V.ref l] ∧ SqL K H l (as.map V.ref) ∧ Paired (fun a (g : Str × List Str) => SqL K H a ((g.1 :: g.2).map V.str)) as gs ∧ (gs.map Prod.fst).Nodup ∧ gs.length < 64 ∧
    ∀ (D : Addr) (bs : List Addr) (hs : List (Str × List Str)), H D = none → Paired (fun a (g : Str × List Str) => SqL K H a ((g.1 :: g.2).map V.str)) bs hs → hs.Perm gs → hs.Pairwise (fun a b => a.1.cps.toList < b.1.cps.toList) → Q (.ref D) (upd H D (.lst (bs.map V.ref)))) := by
  subst h
  intro pins s σ H xs us Q I r h
  obtain ⟨l, as, gs, rfl, hl, pr, nd, h64, q⟩ := h
  obtain ⟨u, rfl, ru⟩ := vals1 r
  cases ru
  obtain ⟨its, rv, pl, hz⟩ := I.list hl
  have len := rv.length
  rw [List.length_map] at len
  have lp : as.length = gs.length := Paired.length pr
  have lip : its.length = gs.length := by omega
  have hT : Paired (fun v (g : Str × List Str) => LstS s.heap v g.1) its gs := paired_of lip fun i v g e1 e2 => by
    have hi : i < as.length := by have := (List.getElem?_eq_some_iff.mp e1).1; omega
    obtain ⟨w', e3, r'⟩ := rv.get (i := i) (x := V.ref as[i]) (by simp [hi])
    rw [e1] at e3
    cases e3
    cases r'
    obtain ⟨ts, rt, it, _⟩ := I.list (paired_at pr (List.getElem?_eq_getElem hi) e2)
    rw [List.map_cons] at rt
    cases rt with
    | cons h t =>
      obtain ⟨t1, rfl⟩ := h
      exact ⟨as[i], t1, _, rfl, it.isList⟩
  have hT1 : Paired (LstS s.heap) its (gs.map Prod.fst) := paired_of (by rw [List.length_map]; exact lip) fun i v p e1 e2 => by
    rw [List.getElem?_map] at e2
    cases eg : gs[i]? with
    | none => rw [eg] at e2; cases e2
    | some g =>
      rw [eg] at e2
      cases e2
      exact paired_at hT e1 eg
  have gd : ∀ i (h : i < gs.length), gs[i]? = some (gs.getD i ("", [])) := fun i h => by rw [List.getD_eq_getElem?_getD, List.getElem?_eq_getElem h]; rfl
  have gi : ∀ i (h : i < its.length), its[i]? = some (its.getD i Value.none) := fun i h => by rw [List.getD_eq_getElem?_getD, List.getElem?_eq_getElem h]; rfl
  have ap : ∀ i j, i < gs.length → j < gs.length → i ≠ j → (gs.getD i ("", [])).1 ≠ (gs.getD j ("", [])).1 := fun i j hi hj n z => by
    have pw := List.pairwise_iff_getElem.mp nd
    have e : ∀ k (hk : k < gs.length), (gs.map Prod.fst)[k]'(by rw [List.length_map]; exact hk) = (gs.getD k ("", [])).1 := fun k hk => by
      rw [List.getElem_map, List.getD_eq_getElem?_getD, List.getElem?_eq_getElem hk]; rfl
    rcases Nat.lt_trichotomy i j with c | c | c
    · exact pw i j (by rw [List.length_map]; exact hi) (by rw [List.length_map]; exact hj) c (by rw [e i hi, e j hj]; exact z)
    · exact n c
    · exact pw j i (by rw [List.length_map]; exact hj) (by rw [List.length_map]; exact hi) c (by rw [e i hi, e j hj]; exact z.symm)
  have T : Tot its.length fun i j => decide ((gs.getD i ("", [])).1.cps.toList < (gs.getD j ("", [])).1.cps.toList) := by
    rw [lip]
    refine ⟨fun a _ => decide_eq_false (List.lt_irrefl _), fun a b c _ _ _ h1 h2 => decide_eq_true (List.lt_trans (of_decide_eq_true h1) (of_decide_eq_true h2)), fun a b ha hb n h => decide_eq_true (lt_or (ap a b ha hb n) (of_decide_eq_false h))⟩
  refine sorted_by (κ := oneType') T (by omega) (col_list pl.isList (by rw [sizeLine_eq]; omega)) (fun two s' kp _ _ Q' q' => kind_ls (Paired.mapP hT1 fun v p t => t.kept kp) two q') (fun i j hi hj n s' kp Q' q' => less_ls hu ((paired_at hT (gi i hi) (gd i (by omega))).kept kp) ((paired_at hT (gi j hj) (gd j (by omega))).kept kp) (ap i j (by omega) (by omega) n) q') fun D out h' tk c lo po kp hD hg => ?_
  obtain ⟨bs, ys, vb, lb, pm, ab, up⟩ := put_zip as gs ("", []) rv po lp
  have hn : H D = none := I.hok.fresh hD
  refine ⟨.ref D, _, I.laid (t' := tk) (h' := h') (a := D) (o := .lst (bs.map V.ref)) kp hD ⟨?_, out, c, vb, by rw [hg]⟩, rfl, q D bs ys hn ?_ pm (up.imp fun ⟨a, b, e1, e2, l⟩ => ?_)⟩
  · rw [List.length_map, lb, pm.length_eq, sizeLine_eq]; omega
  · refine paired_of lb fun i b y e1 e2 => ?_
    obtain ⟨j, h1, h2⟩ := ab i b y e1 e2
    exact paired_at pr h1 h2
  · rw [List.getD_eq_getElem?_getD, List.getD_eq_getElem?_getD, e1, e2] at l
    exact of_decide_eq_true l
end
end L2

/-! dict.update, any(..), many dicts made known at once, sorted(dict of pairs). -/
namespace L2
open PySem PySem.Spec PyProof.Rows
section
variable {X : Cx}
end
end L2

/-! What lies beneath in any number of steps; pairs that no others tell. -/
namespace Dm
open PySem PySem.NumText L2
/-! ### sets as lists -/
/-! ### dicts of dicts -/
end Dm

/-! Pairs of texts, compared. -/
namespace Dm
open PySem PySem.NumText L2
end Dm

/-! Walks along drawn pairs. -/
namespace Dm
open PySem PySem.NumText L2
end Dm

/-! A telling with the ties of the drawn pairs alone. -/
namespace Dm
open PySem PySem.NumText L2
theorem cn_iff {ts ts' : List Tie} (h : ∀ y z, Nb ts y z ↔ Nb ts' y z) {x y : Str} (c : Cn ts x y) : Cn ts' x y := by
  induction c with
  | refl => exact .refl _
  | step _ n ih => exact ih.step ((h _ _).mp n)
theorem labs_same {ts ts' : List Tie} (h : ∀ y z, Nb ts y z ↔ Nb ts' y z) : labs ts = labs ts' := by
  funext x
  exact labs_min (cn_iff h ((labs_good ts).to x)) fun y c => (labs_good ts).le x y (cn_iff (fun a b => (h a b).symm) c)
section
variable {ln ln' : Ln} {keys : List Str}
end
end Dm

/-! Ones by ties told in other orders, and with one same tie more. -/
namespace Dm
open PySem PySem.NumText L2
theorem ones_turn {us us' : List Str} {ts ts' : List Tie} (p : us'.Perm us) (h : ∀ y z, Nb ts' y z ↔ Nb ts y z) : onesOf us' ts' = onesOf us ts := by
  unfold onesOf keysOf grpOf
  rw [labs_same h, srt_congr p]
theorem ones_in {us : List Str} {ts : List Tie} {g : List Str} {x : Str} (hg : g ∈ onesOf us ts) (hx : x ∈ g) : x ∈ us ∧ labs ts x ∈ keysOf ts (srt us) ∧ g = grpOf ts (srt us) (labs ts x) := by
  unfold onesOf at hg
  obtain ⟨k, hk, rfl⟩ := List.mem_map.mp hg
  obtain ⟨h1, h2⟩ := grp_mem.mp hx
  subst h2
  exact ⟨h1, hk, rfl⟩
theorem ones_has {us : List Str} {ts : List Tie} (hts : ∀ t ∈ ts, t.a ∈ us ∧ t.b ∈ us) {x : Str} (hx : x ∈ us) : ∃ g ∈ onesOf us ts, x ∈ g := by
  refine ⟨grpOf ts (srt us) (labs ts x), ?_, grp_mem.mpr ⟨hx, rfl⟩⟩
  unfold onesOf
  exact List.mem_map.mpr ⟨_, labs_key hts hx, rfl⟩
theorem minS_self (x : Str) : minS x x = x := by unfold minS; split <;> rfl
/-- a tie told or told in addition -/
theorem labs_more {ts add : List Tie} {t : Tie} (hk : t.k = SAME) (h : (t ∈ ts ∧ add = []) ∨ add = [t]) : labs (ts ++ add) = jn (labs ts) (labs ts t.a) (labs ts t.b) := by
  rcases h with ⟨ht, rfl⟩ | rfl
  · rw [List.append_nil]
    have e : labs ts t.a = labs ts t.b := (labs_good ts).eq _ _ (Cn.one ⟨t, ht, hk, .inl ⟨rfl, rfl⟩⟩)
    funext x
    unfold jn
    rw [← e, minS_self]
    by_cases c : labs ts x = labs ts t.a ∨ labs ts x = labs ts t.a
    · rw [if_pos c]
      rcases c with c | c <;> exact c
    · rw [if_neg c]
  · unfold labs
    rw [List.foldl_append]
    show stp _ t = _
    unfold stp
    rw [if_pos hk]
theorem srt_selfL {ms : List Str} (h : ms.Pairwise (fun a b => co a < co b)) : srt ms = ms := (srt_eq (List.Perm.refl ms) (h.imp fun q => co_asymm q)).symm
theorem lt_nodup {ms : List Str} (h : ms.Pairwise (fun a b => co a < co b)) : ms.Nodup := by
  rw [List.nodup_iff_pairwise_ne]
  exact h.imp fun q e => by rw [e] at q; exact List.lt_irrefl _ q
theorem lt_unique {a b : List Str} (ha : a.Pairwise (fun a b => co a < co b)) (hb : b.Pairwise (fun a b => co a < co b)) (h : ∀ x, x ∈ a ↔ x ∈ b) : a = b := by
  rw [← srt_selfL ha, ← srt_selfL hb]
  exact srt_same (lt_nodup ha) (lt_nodup hb) h
/-- one same tie more joins two lists, and leaves all others -/
theorem ones_more {us : List Str} {ts ts2 : List Tie} (nd : us.Nodup) (hts : ∀ t ∈ ts, t.a ∈ us ∧ t.b ∈ us) {f s : Str} (hf : f ∈ us) (hs : s ∈ us) (hJ : labs ts2 = jn (labs ts) (labs ts f) (labs ts s)) {jo : List Str} (jlt : jo.Pairwise (fun a b => co a < co b)) (jm : ∀ x, x ∈ jo ↔ x ∈ us ∧ (labs ts x = labs ts f ∨ labs ts x = labs ts s))
    {hs' : List (Str × List Str)} (up : hs'.Pairwise (fun a b => co a.1 < co b.1)) (hm : ∀ g : List Str, g ∈ hs'.map (fun q => q.1 :: q.2) ↔ g = jo ∨ (g ∈ onesOf us ts ∧ g ≠ grpOf ts (srt us) (labs ts f) ∧ g ≠ grpOf ts (srt us) (labs ts s))) : hs'.map (fun q => q.1 :: q.2) = onesOf us ts2 := by
  have lfk := labs_key hts hf
  have lsk := labs_key hts hs
  generalize hlf : labs ts f = lf at *
  generalize hls : labs ts s = ls at *
  have il := labs_idem ts
  have mo := minS_or lf ls
  have J : ∀ x, labs ts2 x = if labs ts x = lf ∨ labs ts x = ls then minS lf ls else labs ts x := fun x => by rw [hJ]; rfl
  have lf1 : labs ts lf = lf := (keys_mem.mp lfk).2
  have ls1 : labs ts ls = ls := (keys_mem.mp lsk).2
  have Lm : labs ts (minS lf ls) = minS lf ls := by rcases mo with e | e <;> rw [e] <;> assumption
  have mu : minS lf ls ∈ us := by
    rcases mo with e | e <;> rw [e]
    · exact (keys_mem.mp lfk).1
    · exact (keys_mem.mp lsk).1
  have k2 : ∀ k, k ∈ keysOf ts2 (srt us) ↔ k = minS lf ls ∨ (k ∈ keysOf ts (srt us) ∧ k ≠ lf ∧ k ≠ ls) := fun k => by
    rw [keys_mem, keys_mem, J]
    constructor
    · rintro ⟨h1, h2⟩
      by_cases c : labs ts k = lf ∨ labs ts k = ls
      · rw [if_pos c] at h2
        exact .inl h2.symm
      · rw [if_neg c] at h2
        exact .inr ⟨⟨h1, h2⟩, fun e => c (.inl (by rw [h2]; exact e)), fun e => c (.inr (by rw [h2]; exact e))⟩
    · rintro (rfl | ⟨⟨h1, h2⟩, h3, h4⟩)
      · refine ⟨mu, ?_⟩
        rw [Lm, if_pos (by rcases mo with e | e <;> rw [e] <;> simp)]
      · refine ⟨h1, ?_⟩
        rw [h2, if_neg (fun z => z.elim h3 h4)]
  have g2 : ∀ k, k ∈ keysOf ts (srt us) → k ≠ lf → k ≠ ls → grpOf ts2 (srt us) k = grpOf ts (srt us) k := fun k hk h1 h2 => by
    unfold grpOf
    refine List.filter_congr fun x _ => ?_
    rw [J, decide_eq_decide]
    by_cases c : labs ts x = lf ∨ labs ts x = ls
    · rw [if_pos c]
      constructor
      · intro e
        rcases mo with q | q
        · exact absurd (e.symm.trans q) h1
        · exact absurd (e.symm.trans q) h2
      · intro e
        rcases c with c | c
        · exact absurd (e.symm.trans c) h1
        · exact absurd (e.symm.trans c) h2
    · rw [if_neg c]
  have gj : grpOf ts2 (srt us) (minS lf ls) = jo := by
    refine lt_unique (grp_lt nd _) jlt fun x => ?_
    rw [grp_mem, jm, J]
    by_cases c : labs ts x = lf ∨ labs ts x = ls
    · rw [if_pos c]
      exact ⟨fun h => ⟨h.1, c⟩, fun h => ⟨h.1, rfl⟩⟩
    · rw [if_neg c]
      constructor
      · rintro ⟨_, e⟩
        exact absurd (by rcases mo with q | q <;> rw [e, q] <;> simp) c
      · rintro ⟨_, e⟩
        exact absurd e c
  have heads : ∀ q ∈ hs', q.1 ∈ keysOf ts2 (srt us) ∧ q.1 :: q.2 = grpOf ts2 (srt us) q.1 := fun q hq => by
    have := (hm (q.1 :: q.2)).mp (List.mem_map.mpr ⟨q, hq, rfl⟩)
    rcases this with e | ⟨h1, h2, h3⟩
    · have k1 := (k2 (minS lf ls)).mpr (.inl rfl)
      obtain ⟨r, er⟩ := grp_head nd k1
      have e2 : q.1 :: q.2 = minS lf ls :: r := by rw [e, ← gj, er]
      have e3 : q.1 = minS lf ls := (List.cons.inj e2).1
      rw [e3]
      rw [e3] at e
      exact ⟨k1, by rw [e, gj]⟩
    · unfold onesOf at h1
      obtain ⟨k, hk, ek⟩ := List.mem_map.mp h1
      obtain ⟨r, er⟩ := grp_head nd hk
      have e3 : q.1 = k := by rw [er] at ek; exact (List.cons.inj ek).1.symm
      subst e3
      have n1 : q.1 ≠ lf := fun e => h2 (by rw [← ek, e])
      have n2 : q.1 ≠ ls := fun e => h3 (by rw [← ek, e])
      exact ⟨(k2 _).mpr (.inr ⟨hk, n1, n2⟩), by rw [g2 _ hk n1 n2, ek]⟩
  have hd : hs'.map Prod.fst = keysOf ts2 (srt us) := by
    refine lt_unique (List.pairwise_map.mpr up) (keys_lt nd) fun k => ?_
    constructor
    · intro h
      obtain ⟨q, hq, rfl⟩ := List.mem_map.mp h
      exact (heads q hq).1
    · intro h
      have : grpOf ts2 (srt us) k ∈ hs'.map fun q => q.1 :: q.2 := by
        rw [hm]
        rcases (k2 k).mp h with rfl | ⟨h1, h2, h3⟩
        · exact .inl gj
        · refine .inr ?_
          rw [g2 k h1 h2 h3]
          obtain ⟨r, er⟩ := grp_head nd h1
          obtain ⟨r1, er1⟩ := grp_head nd lfk
          obtain ⟨r2, er2⟩ := grp_head nd lsk
          refine ⟨List.mem_map.mpr ⟨k, h1, rfl⟩, fun e => h2 ?_, fun e => h3 ?_⟩
          · rw [er, er1] at e; exact (List.cons.inj e).1
          · rw [er, er2] at e; exact (List.cons.inj e).1
      obtain ⟨q, hq, eq⟩ := List.mem_map.mp this
      obtain ⟨r, er⟩ := grp_head nd h
      rw [er] at eq
      exact List.mem_map.mpr ⟨q, hq, (List.cons.inj eq).1⟩
  unfold onesOf
  rw [← hd, List.map_map]
  exact List.map_congr_left fun q hq => (heads q hq).2
/-- two lists of texts, alike or not -/
theorem deq_strs {K : PySem.W.Frag} {H : Hp} {n : Nat} {a b : Addr} {xs ys : List Str} (hx : SqL K H a (xs.map V.str)) (hy : SqL K H b (ys.map V.str)) : DEq K H (n + 1) (.ref a) (.ref b) (decide (xs = ys)) := by
  by_cases hl : xs.length = ys.length
  · have := DEq.lst (n := n) (fun i => decide (xs[i]? = ys[i]?)) hx hy (by rw [List.length_map, List.length_map]; exact hl) fun i x y e1 e2 => by
      rw [List.getElem?_map] at e1 e2
      cases ex : xs[i]? with
      | none => rw [ex] at e1; cases e1
      | some x' =>
        cases ey : ys[i]? with
        | none => rw [ey] at e2; cases e2
        | some y' =>
          rw [ex] at e1
          rw [ey] at e2
          cases e1
          cases e2
          have d := DEq.flat (K := K) (H := H) (n := n) (x := .str x') (y := .str y') rfl rfl
          have e : eqV (.str x') (.str y') = decide (some x' = some y') := by
            rw [Bool.eq_iff_iff, decide_eq_true_iff]
            simp [eqV]
          rw [e] at d
          exact d
    have e : ((List.range (xs.map V.str).length).all fun i => decide (xs[i]? = ys[i]?)) = decide (xs = ys) := by
      rw [Bool.eq_iff_iff, List.all_eq_true, decide_eq_true_iff]
      constructor
      · intro h
        apply List.ext_getElem?
        intro i
        by_cases hi : i < xs.length
        · exact of_decide_eq_true (h i (List.mem_range.mpr (by rw [List.length_map]; exact hi)))
        · rw [List.getElem?_eq_none (by omega), List.getElem?_eq_none (by omega)]
      · intro h i _
        rw [h]
        exact decide_eq_true rfl
    rw [e] at this
    exact this
  · rw [decide_eq_false (fun e => hl (by rw [e]))]
    exact DEq.lstN hx hy (by rw [List.length_map, List.length_map]; exact hl)
theorem paired_ins {α β : Type} {F : α → β → Prop} {a : α} {b : β} (h : F a b) : ∀ {as : List α} {bs : List β} (n : Nat), Paired F as bs → Paired F (as.take n ++ a :: as.drop n) (bs.take n ++ b :: bs.drop n)
  | _, _, 0, t => .cons h t
  | _, _, n + 1, .nil => .cons h .nil
  | _, _, n + 1, .cons h' t => .cons h' (paired_ins h n t)
def Lk1 (t : Tie) (y z : Str) : Prop := t.k = SAME ∧ ((t.a = y ∧ t.b = z) ∨ (t.b = y ∧ t.a = z))
theorem nb_iff {ts : List Tie} {y z : Str} : Nb ts y z ↔ ∃ t ∈ ts, Lk1 t y z := Iff.rfl
theorem nb_step {ts : List Tie} {i : Nat} {t : Tie} (h : ts[i]? = some t) {y z : Str} : Nb (ts.take (i + 1)) y z ↔ Nb (ts.take i) y z ∨ Lk1 t y z := by
  rw [nb_iff, nb_iff, List.take_add_one, h]
  constructor
  · rintro ⟨w, hw, q⟩
    rcases List.mem_append.mp hw with hw | hw
    · exact .inl ⟨w, hw, q⟩
    · have : w = t := by simpa using hw
      exact .inr (this ▸ q)
  · rintro (⟨w, hw, q⟩ | q)
    · exact ⟨w, List.mem_append_left _ hw, q⟩
    · exact ⟨t, List.mem_append_right _ (by simp), q⟩
theorem nb_ins {ts : List Tie} {n : Nat} {t : Tie} {y z : Str} : Nb (ts.take n ++ t :: ts.drop n) y z ↔ Nb ts y z ∨ Lk1 t y z := by
  rw [nb_iff, nb_iff]
  constructor
  · rintro ⟨w, hw, q⟩
    rcases List.mem_append.mp hw with hw | hw
    · exact .inl ⟨w, List.mem_of_mem_take hw, q⟩
    · rcases List.mem_cons.mp hw with rfl | hw
      · exact .inr q
      · exact .inl ⟨w, List.mem_of_mem_drop hw, q⟩
  · rintro (⟨w, hw, q⟩ | q)
    · rw [← List.take_append_drop n ts, List.mem_append] at hw
      rcases hw with hw | hw
      · exact ⟨w, List.mem_append_left _ hw, q⟩
      · exact ⟨w, List.mem_append_right _ (List.mem_cons_of_mem _ hw), q⟩
    · exact ⟨t, List.mem_append_right _ (by simp), q⟩
theorem lk1_turn {t t' : Tie} (h1 : t.k = SAME → t'.k = SAME ∧ ((t'.a = t.a ∧ t'.b = t.b) ∨ (t'.a = t.b ∧ t'.b = t.a))) (h2 : t.k ≠ SAME → t'.k ≠ SAME) {y z : Str} : Lk1 t' y z ↔ Lk1 t y z := by
  unfold Lk1
  by_cases c : t.k = SAME
  · obtain ⟨e, q⟩ := h1 c
    rcases q with ⟨q1, q2⟩ | ⟨q1, q2⟩
    · rw [q1, q2]
      exact ⟨fun h => ⟨c, h.2⟩, fun h => ⟨e, h.2⟩⟩
    · rw [q1, q2]
      exact ⟨fun h => ⟨c, h.2.elim .inr .inl⟩, fun h => ⟨e, h.2.elim .inr .inl⟩⟩
  · exact ⟨fun h => absurd h.1 (h2 c), fun h => absurd h.1 c⟩
end Dm

/-! Texts split; words of a line; what the reading of lines makes of a telling. -/
namespace Dm
open PySem PySem.NumText L2
/-! ### signs of words -/
/-! ### what a row may be -/
/-! ### the state of a reading -/
end Dm

/-! Keys of dicts; the reading object on the heap; a telling's lines in groups. -/
namespace Dm
open PySem PySem.NumText L2
theorem inV_strs (x : Str) (ks : List Str) : inV (.str x) (ks.map V.str) = decide (x ∈ ks) := by
  unfold inV
  induction ks with
  | nil => rfl
  | cons k r ih =>
    rw [List.map_cons, List.any_cons, ih]
    show ((k == x) || decide (x ∈ r)) = _
    by_cases h : k = x
    · subst h; simp
    · rw [beq_eq_false_iff_ne.mpr h, Bool.false_or]
      exact decide_eq_decide.mpr ⟨fun z => List.mem_cons_of_mem _ z, fun z => (List.mem_cons.mp z).resolve_left fun e => h e.symm⟩
/-! ### the reading object -/
end Dm

namespace LK13
open PySem L2 Dm PySem.NumText
def top (i : Nat) : Stmt := PySem.Challenge.pw_digmatrix_k13_whole_ones_in_any_order.main.body.getD i (.Pass ⟨0, 0, 0, 0⟩)
/-- what the top has left -/
structure Tx (K : PySem.W.Frag) (mg : Str → Option Value) (w : World) : Prop where
  d_one_names : Df K mg "one_names" (top 1) ["units", "ties"]
  d_join_ones : Df K mg "join_ones" (top 2) ["names", "first", "second"]
  d_one_of : Df K mg "one_of" (top 3) ["units", "ties", "name"]
  d_ones : Df K mg "ones" (top 4) ["units", "ties"]
  d__law_cell_at : Df K mg "_law_cell_at" (top 6) ["_law_script", "_law_k"]
  d__law_part : Df K mg "_law_part" (top 7) ["_law_cell", "_law_k", "_law_many"]
  d__law_names : Df K mg "_law_names" (top 8) ["_law_one", "_law_other", "_law_many"]
  d__law_units : Df K mg "_law_units" (top 9) ["_law_script"]
  d__law_ties : Df K mg "_law_ties" (top 10) ["_law_units_here", "_law_cells"]
  d__law_turned : Df K mg "_law_turned" (top 11) ["_law_units_here", "_law_cell"]
  d__law_other_ties : Df K mg "_law_other_ties" (top 12) ["_law_ties_here", "_law_cell"]
  d__law_list_of : Df K mg "_law_list_of" (top 13) ["_law_groups", "_law_name"]
  d_law : Df K mg "law" (top 14) ["_law_script"]
  min : mg "min" = none
  list : mg "list" = none
  sorted : mg "sorted" = none
  range : mg "range" = none
  len : mg "len" = none
  set : mg "set" = none
theorem Tx.ex {K : PySem.W.Frag} {mg : Str → Option Value} {w : World} (T : Tx K mg w) : Tx K mg w := T
theorem sc_one_names : FnScope ["units", "ties", "names", "unit", "tie"] ["units", "ties"] (defScope (top 1)) := ⟨rfl, rfl, rfl, by decide +kernel, rfl, by decide +kernel, by decide +kernel⟩
theorem sc_join_ones : FnScope ["names", "first", "second", "least", "unit"] ["names", "first", "second"] (defScope (top 2)) := ⟨rfl, rfl, rfl, by decide +kernel, rfl, by decide +kernel, by decide +kernel⟩
theorem sc_one_of : FnScope ["units", "ties", "name"] ["units", "ties", "name"] (defScope (top 3)) := ⟨rfl, rfl, rfl, by decide +kernel, rfl, by decide +kernel, by decide +kernel⟩
theorem sc_ones : FnScope ["units", "ties", "names", "members", "unit"] ["units", "ties"] (defScope (top 4)) := ⟨rfl, rfl, rfl, by decide +kernel, rfl, by decide +kernel, by decide +kernel⟩
theorem sc__law_cell_at : FnScope ["_law_script", "_law_k"] ["_law_script", "_law_k"] (defScope (top 6)) := ⟨rfl, rfl, rfl, by decide +kernel, rfl, by decide +kernel, by decide +kernel⟩
theorem sc__law_part : FnScope ["_law_cell", "_law_k", "_law_many"] ["_law_cell", "_law_k", "_law_many"] (defScope (top 7)) := ⟨rfl, rfl, rfl, by decide +kernel, rfl, by decide +kernel, by decide +kernel⟩
theorem sc__law_names : FnScope ["_law_one", "_law_other", "_law_many", "_law_signs", "_law_size", "_law_at", "_law_names_here", "_law_k", "_law_name", "_law_j", "_law_number"] ["_law_one", "_law_other", "_law_many"] (defScope (top 8)) := ⟨rfl, rfl, rfl, by decide +kernel, rfl, by decide +kernel, by decide +kernel⟩
theorem sc__law_units : FnScope ["_law_script"] ["_law_script"] (defScope (top 9)) := ⟨rfl, rfl, rfl, by decide +kernel, rfl, by decide +kernel, by decide +kernel⟩
theorem sc__law_ties : FnScope ["_law_units_here", "_law_cells", "_law_ties_here", "_law_cell", "_law_one", "_law_other", "_law_kind", "_law_tie"] ["_law_units_here", "_law_cells"] (defScope (top 10)) := ⟨rfl, rfl, rfl, by decide +kernel, rfl, by decide +kernel, by decide +kernel⟩
theorem sc__law_turned : FnScope ["_law_units_here", "_law_cell", "_law_turned_here", "_law_k"] ["_law_units_here", "_law_cell"] (defScope (top 11)) := ⟨rfl, rfl, rfl, by decide +kernel, rfl, by decide +kernel, by decide +kernel⟩
theorem sc__law_other_ties : FnScope ["_law_ties_here", "_law_cell", "_law_other", "_law_k", "_law_tie"] ["_law_ties_here", "_law_cell"] (defScope (top 12)) := ⟨rfl, rfl, rfl, by decide +kernel, rfl, by decide +kernel, by decide +kernel⟩
theorem sc__law_list_of : FnScope ["_law_groups", "_law_name", "_law_group"] ["_law_groups", "_law_name"] (defScope (top 13)) := ⟨rfl, rfl, rfl, by decide +kernel, rfl, by decide +kernel, by decide +kernel⟩
theorem sc_law : FnScope ["_law_script", "_law_units_here", "_law_ties_here", "_law_cell", "_law_turned_here", "_law_other", "_law_groups", "_law_name", "_law_due", "_law_first", "_law_second", "_law_here", "_law_there", "_law_rest", "_law_joined_list", "_law_added"] ["_law_script"] (defScope (top 14)) := ⟨rfl, rfl, rfl, by decide +kernel, rfl, by decide +kernel, by decide +kernel⟩
section
variable {P : Program} {w : World} {K : PySem.W.Frag} {mg : Str → Option Value} {base : Heap}
local macro_rules | `(tactic| walk_at "rd") => `(tactic| repeat (first | refine ⟨_, rfl, ?_⟩ | refine ⟨_, _, rfl, rfl, ?_⟩ | refine ⟨_, _, _, rfl, ?_⟩))
local macro_rules | `(tactic| walk_at "rd") => `(tactic| repeat (first | refine ⟨_, rfl, ?_⟩ | refine ⟨_, _, rfl, rfl, ?_⟩ | refine ⟨_, _, _, rfl, ?_⟩))
/-! ### cells and parts -/
def sp_cell : Sp := fun vs H Q _ => ∃ (a : Addr) (ns : List Int) (i : Int), vs = [.ref a, .int i] ∧ SqL K H a (ns.map V.int) ∧ 0 ≤ i ∧ Q (.int (cellI ns i)) H
theorem h__law_cell_at (T : Tx K mg w) : Has P w K mg base "_law_cell_at" ["_law_script", "_law_k"] 1 (sp_cell (K := K)) := by
  refine T.d__law_cell_at.has sc__law_cell_at (fun vs H Q E h => ?_) (fun f cdv A outer s H vs Q E hr h => ?_)
  · obtain ⟨a, ns, i, rfl, _⟩ := h; rfl
  · obtain ⟨a, ns, i, rfl, ha, h0, k⟩ := h
    refine ⟨_, (pss_cons (ps_if (pt_cmpR op_lt (pv 1) (pe_callB (call_len_seqK K rfl) (by rfl) T.len boot_len (pa_cons (pv 0) pa_nil)) (nomark _)) (pss_one (ps_ret (pe_ix (ix_listK K rfl) (pv 0) (pv 1) (fun _ _ => rfl)))) pss_nil)
      (pss_one (ps_ret pe_int))), ?_⟩
    refine ⟨_, rfl, _, rfl, a, _, rfl, .inl ha, _, _, rfl, rfl, _, rfl, ?_⟩
    refine ite2 (fun c => ?_) (fun c => ?_)
    · have c := of_decide_eq_true c
      rw [List.length_map] at c
      have hi : i.toNat < ns.length := by omega
      refine ⟨_, rfl, _, rfl, a, _, i, .int (cellI ns i), rfl, rfl, ha, ?_, k⟩
      have e : cellI ns i = ns[i.toNat] := by unfold cellI; rw [List.getD_eq_getElem?_getD, List.getElem?_eq_getElem hi]; rfl
      have := atI_nat (xs := ns.map V.int) (j := i.toNat) (v := .int (cellI ns i)) (by rw [e]; simp [hi])
      rw [Int.toNat_of_nonneg h0] at this
      exact this
    · have c : ¬ i < ((ns.map V.int).length : Int) := fun z => c (decide_eq_true z)
      rw [List.length_map] at c
      have e : cellI ns i = 0 := by unfold cellI; rw [List.getD_eq_getElem?_getD, List.getElem?_eq_none (by omega)]; rfl
      rw [e] at k
      exact k
def sp_part : Sp := fun vs H Q _ => ∃ c k m : Int, vs = [.int c, .int k, .int m] ∧ 0 < m ∧ Q (.int (pt c k m)) H
theorem h__law_part (T : Tx K mg w) : Has P w K mg base "_law_part" ["_law_cell", "_law_k", "_law_many"] 1 sp_part := by
  refine T.d__law_part.has sc__law_part (fun vs H Q E h => ?_) (fun f cdv A outer s H vs Q E hr h => ?_)
  · obtain ⟨c, i, m, rfl, _⟩ := h; rfl
  · obtain ⟨c, i, m, rfl, hm, k⟩ := h
    refine ⟨_, (pss_one (ps_ret (pe_op op_mod (pe_op op_mod (pe_op op_mul (pe_op op_mod (pe_op op_mul (pe_op op_add (pe_op op_mod (pv 0) pe_int) pe_int) (pe_op op_add pe_int (pe_op op_mul pe_int (pv 1)))) pe_int) (pe_op op_add (pv 1) pe_int)) pe_int) (pv 2)))), ?_⟩
    have b1 := Int.emod_nonneg c (show (99991 : Int) ≠ 0 by decide)
    have b2 := Int.emod_lt_of_pos c (show (0 : Int) < 99991 by decide)
    have b3 := Int.emod_nonneg ((c % 99991 + 17) * (48271 + 7919 * i)) (show (65537 : Int) ≠ 0 by decide)
    have b4 := Int.emod_lt_of_pos ((c % 99991 + 17) * (48271 + 7919 * i)) (show (0 : Int) < 65537 by decide)
    walk_at "rd"
    refine ⟨(by decide : (0 : Int) < 99991), ?_⟩
    walk_at "rd"
    refine ⟨.inl ⟨by decide, by decide⟩, ?_⟩
    walk_at "rd"
    refine ⟨.inl ⟨by omega, by omega⟩, ?_⟩
    walk_at "rd"
    refine ⟨(by decide : (0 : Int) < 65537), ?_⟩
    walk_at "rd"
    refine ⟨.inl ⟨by omega, by omega⟩, ?_⟩
    walk_at "rd"
    refine ⟨(by decide : (0 : Int) < 8191), ?_⟩
    walk_at "rd"
    exact ⟨hm, k⟩
/-! ### ones -/
def sp_join : Sp := fun vs H Q _ => ∃ (pd : Addr) (us : List Str) (lab : Str → Str) (f s : Str), vs = [.ref pd, .str f, .str s] ∧ H pd = some (.dK (dN us lab)) ∧ us.Nodup ∧ us.length ≤ 1000 ∧
  ∀ H' : Hp, H' pd = some (.dK (dN us (jn lab f s))) → (∀ b o, b ≠ pd → H b = some o → H' b = some o) → Q .non H'
set_option maxHeartbeats 4000000 in
theorem h_join_ones (T : Tx K mg w) : Has P w K mg base "join_ones" ["names", "first", "second"] 1 sp_join := by
  refine T.d_join_ones.has sc_join_ones (fun vs H Q E h => ?_) (fun f cdv A outer s H vs Q E hr h => ?_)
  · obtain ⟨pd, us, lab, f, s, rfl, _⟩ := h; rfl
  · obtain ⟨pd, us, lab, f, s', rfl, hd, nd, hl, k⟩ := h
    have hu := hu_of hr
    refine ⟨_, (pss_cons (ps_set (i := 3) sc_join_ones.nd rfl (Or.inl rfl) (pe_callB (call_min2s rfl) (by rfl) T.min PyProof.Rows.boot_min (pa_cons (pv 1) (pa_cons (pv 2) pa_nil))))
      (pss_one (ps_for PassesOwn.never rfl (pi_listK K rfl (pe_callTy (call_list_dK rfl) (by rfl) T.list PyProof.Rows.boot_list (pa_cons (pv 0) pa_nil))) (pg_name (i := 4) sc_join_ones.nd rfl (Or.inl rfl)) (pss_one (ps_if (pt_cmpR (op_in_seqK K rfl) (pe_dget hu (pv 0) (pv 4) (fun _ _ => rfl)) (pe_tup (pa_cons (pv 1) (pa_cons (pv 2) pa_nil))) (by with_unfolding_all rfl)) (pss_one (ps_dput hu (pv 0) (pv 4) (pv 3) rfl)) pss_nil))))), ?_⟩
    refine ⟨_, rfl, _, rfl, _, _, rfl, ?_⟩
    refine ⟨_, rfl, pd, _, rfl, hd, fun l hl' => ?_⟩
    rw [dN_keys]
    have npl : pd ≠ l := ne_of_none hd hl'
    refine ⟨l, rfl, ⟨_, SqL.of upd_same⟩, for_list (xs := us.map V.str) (fun i σ H' => ∃ v4, σ = [some (.ref pd), some (.str f), some (.str s'), some (.str (minS f s')), v4] ∧ (∀ b o, b ≠ pd → H b = some o → H' b = some o) ∧ H' l = some (.lst (us.map V.str)) ∧
      H' pd = some (.dK (dN us fun x => if x ∈ us.take i then jn lab f s' x else lab x)))
      ⟨none, rfl, fun b o _ e => Same.new hl' _ _ e, upd_same, ?_⟩ (fun i σ H' _ h => by obtain ⟨_, _, _, q, _⟩ := h; exact SqL.of q) ?_ ?_⟩
    · rw [upd_ne npl, hd, dN_congr (f := fun x => if x ∈ us.take 0 then jn lab f s' x else lab x) (g := lab) fun x _ => by simp]
    · rintro i x σ H1 hx ⟨v4, rfl, kp, hl1, hd1⟩
      rw [List.getElem?_map] at hx
      cases eu : us[i]? with
      | none => rw [eu] at hx; cases hx
      | some u =>
        rw [eu] at hx
        cases hx
        have hu' : u ∈ us := List.mem_of_getElem? eu
        have hi := get_lt eu
        have hfr : u ∉ us.take i := by
          have := take_fresh nd i hi
          rw [show us[i] = u from (List.getElem?_eq_some_iff.mp eu).2] at this
          exact this
        have hg := DGet.k (k := Sum.inr u) hd1
        rw [dN_val hu', if_neg hfr] at hg
        dsimp only [gName]
        refine ifS_same (decide (lab u = f ∨ lab u = s')) (fun Q' hQ => ?_) (fun H2 t2 => ?_)
        · refine ⟨_, rfl, _, rfl, pd, _, rfl, hg, _, rfl, _, rfl, (by show 2 ≤ sizeLine; decide), fun p hp => ?_⟩
          refine ⟨p, _, rfl, .inr (SqT.of upd_same), rfl, rfl, _, rfl, ?_⟩
          have e : inV (.str (lab u)) [.str f, .str s'] = decide (lab u = f ∨ lab u = s') := by
            rw [show ([.str f, .str s'] : List V) = [f, s'].map V.str from rfl, inV_strs]
            apply decide_eq_decide.mpr
            simp
          show Q' (inV (.str (lab u)) [.str f, .str s']) _
          rw [e]
          exact hQ _ (Same.new hp)
        · have hd2 := t2 _ _ hd1
          have kp2 : ∀ b o, b ≠ pd → H b = some o → H2 b = some o := fun b o n e => t2 _ _ (kp b o n e)
          refine ite2 (fun c => ?_) (fun c => ?_)
          · have c := of_decide_eq_true c
            refine ⟨_, rfl, _, rfl, _, rfl, pd, _, rfl, DPut.k (k := Sum.inr u) hd2 (by rw [dN_len]; exact small1000 hl), ?_⟩
            refine ⟨_, rfl, fun b o n e => by rw [upd_ne n]; exact kp2 b o n e, ?_, ?_⟩
            · rw [upd_ne npl.symm]; exact t2 _ _ hl1
            · rw [upd_same, dN_put hu']
              congr 2
              refine dN_congr fun z hz => ?_
              have ht : z ∈ us.take (i + 1) ↔ z ∈ us.take i ∨ z = u := by
                rw [List.take_add_one, eu]; simp
              by_cases e : z = u
              · subst e
                rw [if_pos rfl, if_pos (ht.mpr (.inr rfl))]
                exact (if_pos c).symm
              · rw [if_neg e]
                by_cases e2 : z ∈ us.take i
                · rw [if_pos e2, if_pos (ht.mpr (.inl e2))]
                · rw [if_neg e2, if_neg (fun q => (ht.mp q).elim e2 e)]
          · have c : ¬ (lab u = f ∨ lab u = s') := fun z => c (decide_eq_true z)
            refine ⟨_, rfl, kp2, t2 _ _ hl1, ?_⟩
            rw [hd2]
            congr 2
            refine dN_congr fun z hz => ?_
            have ht : z ∈ us.take (i + 1) ↔ z ∈ us.take i ∨ z = u := by
              rw [List.take_add_one, eu]; simp
            by_cases e : z = u
            · subst e
              rw [if_neg hfr, if_pos (ht.mpr (.inr rfl))]
              exact (if_neg c).symm
            · by_cases e2 : z ∈ us.take i
              · rw [if_pos e2, if_pos (ht.mpr (.inl e2))]
              · rw [if_neg e2, if_neg (fun q => (ht.mp q).elim e2 e)]
    · rintro σ H1 ⟨v4, rfl, kp, hl1, hd1⟩
      refine k _ ?_ kp
      rw [hd1, List.length_map, List.take_length]
      congr 2
      exact dN_congr fun z hz => if_pos hz
def sp_lab : Sp := fun vs H Q _ => ∃ (pu pt : Addr) (us : List Str) (ads : List Addr) (ts : List Tie), vs = [.ref pu, .ref pt] ∧ SqL K H pu (us.map V.str) ∧ SqL K H pt (ads.map V.ref) ∧ Tups H ads (ts.map tieV) ∧
  us.Nodup ∧ us.length ≤ 1000 ∧ (∀ t ∈ ts, t.a ∈ us ∧ t.b ∈ us) ∧
  ∀ (pd : Addr) (H' : Hp), H pd = none → H' pd = some (.dK (dN us (labs ts))) → Same H H' → Q (.ref pd) H'
set_option maxHeartbeats 4000000 in
theorem h_one_names (T : Tx K mg w) : Has P w K mg base "one_names" ["units", "ties"] 2 (sp_lab (K := K)) := by
  refine T.d_one_names.has sc_one_names (fun vs H Q E h => ?_) (fun f cdv A outer s H vs Q E hr h => ?_)
  · obtain ⟨pu, pt, us, ads, ts, rfl, _⟩ := h; rfl
  · obtain ⟨pu, pt, us, ads, ts, rfl, hu1, ht1, tp, nd, hl, hts, k⟩ := h
    have hu := hu_of hr
    refine ⟨_, (pss_cons (ps_set (i := 2) sc_one_names.nd rfl (Or.inl rfl) pe_dnewK)
      (pss_cons (ps_for PassesOwn.never rfl (pi_listK K rfl (pv 0)) (pg_name (i := 3) sc_one_names.nd rfl (Or.inl rfl)) (pss_one (ps_dput hu (pv 2) (pv 3) (pv 3) rfl)))
      (pss_cons (ps_for PassesOwn.never rfl (pi_listK K rfl (pv 1)) (pg_name (i := 4) sc_one_names.nd rfl (Or.inl rfl)) (pss_one (ps_if (pt_cmpR op_eq (pe_ix (ix_tupK K rfl) (pv 4) pe_int (fun _ _ => rfl)) pe_str (nomark _)) (pss_one (ps_expr (pe_fn (h_join_ones T) (hr.mono (by decide)) (by rfl) (pa_cons (pv 2) (pa_cons (pe_dget hu (pv 2) (pe_ix (ix_tupK K rfl) (pv 4) pe_int (fun _ _ => rfl)) (fun _ _ => rfl)) (pa_cons (pe_dget hu (pv 2) (pe_ix (ix_tupK K rfl) (pv 4) pe_int (fun _ _ => rfl)) (fun _ _ => rfl)) pa_nil)))))) pss_nil)))
      (pss_one (ps_ret (pv 2)))))), ?_⟩
    have hlen : ads.length = ts.length := by have := tp.len; rw [List.length_map] at this; exact this
    refine fun pd hpd => ?_
    have s0 := Same.new (o := .dK []) hpd
    refine ⟨_, rfl, pu, rfl, ⟨_, s0.seq hu1⟩, for_list (xs := us.map V.str) (fun i σ H' => ∃ v3, σ = [some (.ref pu), some (.ref pt), some (.ref pd), v3, none] ∧ Same H H' ∧ H' pd = some (.dK (dN (us.take i) id)))
      ⟨none, rfl, s0, upd_same⟩ (fun i σ H' _ h => by obtain ⟨_, _, q, _⟩ := h; exact q.seq hu1) ?_ ?_⟩
    · rintro i x σ H1 hx ⟨v3, rfl, q, hd⟩
      rw [List.getElem?_map] at hx
      cases eu : us[i]? with
      | none => rw [eu] at hx; cases hx
      | some u =>
        rw [eu] at hx
        cases hx
        have hi := get_lt eu
        have hfr : u ∉ us.take i := by
          have := take_fresh nd i hi
          rw [show us[i] = u from (List.getElem?_eq_some_iff.mp eu).2] at this
          exact this
        dsimp only [gName]
        refine ⟨_, rfl, _, rfl, _, rfl, pd, _, rfl, DPut.k (k := Sum.inr u) hd (by rw [dN_len, List.length_take]; exact small1000 (by omega)), ?_⟩
        refine ⟨_, rfl, q.upd hpd, ?_⟩
        rw [upd_same, List.take_add_one, eu]
        congr 2
        exact dN_new hfr
    · rintro σ H1 ⟨v3, rfl, q, hd⟩
      rw [List.length_map, List.take_length] at hd
      refine ⟨_, rfl, pt, rfl, ⟨_, q.seq ht1⟩, for_list (xs := ads.map V.ref) (fun i σ H' => ∃ v4, σ = [some (.ref pu), some (.ref pt), some (.ref pd), v3, v4] ∧ Same H H' ∧ H' pd = some (.dK (dN us (labs (ts.take i)))))
        ⟨none, rfl, q, hd⟩ (fun i σ H' _ h => by obtain ⟨_, _, q, _⟩ := h; exact q.seq ht1) ?_ ?_⟩
      · rintro i x σ H2 hx ⟨v4, rfl, q2, hd2⟩
        obtain ⟨r, t, rfl, ht, _, hr⟩ := rows_at tp hx
        have hr2 := q2 _ _ hr
        have hab := hts t (List.mem_of_getElem? ht)
        dsimp only [gName]
        refine ⟨_, rfl, r, _, _, _, rfl, rfl, SqT.of hr2, tieV_0 t, rfl, _, rfl, ?_⟩
        refine ite2 (fun c => ?_) (fun c => ?_)
        · have c : t.k = SAME := V.str.inj (of_decide_eq_true c)
          have g1 := DGet.k (k := Sum.inr t.a) hd2
          have g2 := DGet.k (k := Sum.inr t.b) hd2
          rw [dN_val hab.1] at g1
          rw [dN_val hab.2] at g2
          refine ⟨_, rfl, _, rfl, _, rfl, r, _, _, _, rfl, rfl, SqT.of hr2, tieV_1 t, pd, _, rfl, g1, _, rfl, _, rfl, r, _, _, _, rfl, rfl, SqT.of hr2, tieV_2 t, pd, _, rfl, g2, ?_⟩
          refine ⟨pd, us, _, _, _, rfl, hd2, nd, hl, fun H3 hd3 kp => ?_⟩
          refine ⟨_, rfl, fun b o e => kp b o (ne_of_none e hpd) (q2 b o e), ?_⟩
          rw [hd3, labs_step ht]
          unfold stp
          rw [if_pos c]
        · have c : ¬ t.k = SAME := fun z => c (decide_eq_true (congrArg V.str z))
          refine ⟨_, rfl, q2, ?_⟩
          rw [hd2, labs_step ht]
          unfold stp
          rw [if_neg c]
      · rintro σ H2 ⟨v4, rfl, q2, hd2⟩
        rw [List.length_map, hlen, List.take_length] at hd2
        exact ⟨_, rfl, k pd _ hpd hd2 q2⟩
def sp_oneof : Sp := fun vs H Q _ => ∃ (pu pt : Addr) (us : List Str) (ads : List Addr) (ts : List Tie) (x : Str), vs = [.ref pu, .ref pt, .str x] ∧ SqL K H pu (us.map V.str) ∧ SqL K H pt (ads.map V.ref) ∧ Tups H ads (ts.map tieV) ∧
  us.Nodup ∧ us.length ≤ 1000 ∧ (∀ t ∈ ts, t.a ∈ us ∧ t.b ∈ us) ∧ x ∈ us ∧ ∀ H' : Hp, Same H H' → Q (.str (labs ts x)) H'
theorem h_one_of (T : Tx K mg w) : Has P w K mg base "one_of" ["units", "ties", "name"] 3 (sp_oneof (K := K)) := by
  refine T.d_one_of.has sc_one_of (fun vs H Q E h => ?_) (fun f cdv A outer s H vs Q E hr h => ?_)
  · obtain ⟨pu, pt, us, ads, ts, x, rfl, _⟩ := h; rfl
  · obtain ⟨pu, pt, us, ads, ts, x, rfl, hu1, ht1, tp, nd, hl, hts, hx, k⟩ := h
    have hu := hu_of hr
    refine ⟨_, (pss_one (ps_ret (pe_dget hu (pe_fn (h_one_names T) (hr.mono (by decide)) (by rfl) (pa_cons (pv 0) (pa_cons (pv 1) pa_nil))) (pv 2) (fun _ _ => rfl)))), ?_⟩
    refine ⟨_, rfl, _, rfl, pu, pt, us, ads, ts, rfl, hu1, ht1, tp, nd, hl, hts, fun pd H1 _ hd q => ?_⟩
    have g := DGet.k (k := Sum.inr x) hd
    rw [dN_val hx] at g
    exact ⟨_, rfl, pd, _, rfl, g, k _ q⟩
/-! ### the groups -/
abbrev Lsts (H : Hp) : List Addr → List (List Str) → Prop := Paired fun a g => H a = some (.lst (g.map V.str))
theorem Lsts.same {H H' : Hp} (s : Same H H') : ∀ {as : List Addr} {gs : List (List Str)}, Lsts H as gs → Lsts H' as gs
  | _, _, .nil => .nil
  | _, _, .cons h t => .cons (s _ _ h) (Lsts.same s t)
theorem lsts_mk {H : Hp} {ad : Str → Addr} {g : Str → List Str} : ∀ {ks : List Str}, (∀ k ∈ ks, H (ad k) = some (.lst ((g k).map V.str))) → Lsts H (ks.map ad) (ks.map g)
  | [], _ => .nil
  | k :: r, h => .cons (h k (by simp)) (lsts_mk fun z hz => h z (List.mem_cons_of_mem _ hz))
def sp_ones : Sp := fun vs H Q _ => ∃ (pu pt : Addr) (us : List Str) (ads : List Addr) (ts : List Tie), vs = [.ref pu, .ref pt] ∧ SqL K H pu (us.map V.str) ∧ SqL K H pt (ads.map V.ref) ∧ Tups H ads (ts.map tieV) ∧
  us.Nodup ∧ us.length < 64 ∧ (∀ t ∈ ts, t.a ∈ us ∧ t.b ∈ us) ∧
  ∀ (p : Addr) (as : List Addr) (H' : Hp), H p = none → (∀ a ∈ as, H a = none) → p ∉ as → as.Nodup → H' p = some (.lst (as.map V.ref)) → Lsts H' as (onesOf us ts) → Same H H' → Q (.ref p) H'
set_option maxHeartbeats 8000000 in
theorem h_ones (T : Tx K mg w) : Has P w K mg base "ones" ["units", "ties"] 3 (sp_ones (K := K)) := by
  refine T.d_ones.has sc_ones (fun vs H Q E h => ?_) (fun f cdv A outer s H vs Q E hr h => ?_)
  · obtain ⟨pu, pt, us, ads, ts, rfl, _⟩ := h; rfl
  · obtain ⟨pu, pt, us, ads, ts, rfl, hu1, ht1, tp, nd, hl, hts, k⟩ := h
    have hu := hu_of hr
    refine ⟨_, (pss_cons (ps_set (i := 2) sc_ones.nd rfl (Or.inl rfl) (pe_fn (h_one_names T) (hr.mono (by decide)) (by rfl) (pa_cons (pv 0) (pa_cons (pv 1) pa_nil))))
      (pss_cons (ps_set (i := 3) sc_ones.nd rfl (Or.inl rfl) pe_dnewK)
      (pss_cons (ps_for PassesOwn.never rfl (pi_listK K rfl (pe_callB (call_sortedS (K := K) rfl) (by rfl) T.sorted PyProof.Rows.boot_sorted (pa_cons (pv 0) pa_nil))) (pg_name (i := 4) sc_ones.nd rfl (Or.inl rfl)) (pss_one (ps_expr (pe_bmK K rfl PySem.F.plainAttrs_list PySem.F.slot_list_append PySem.F.type_list_append mt_append (pe_dsetdef (pv 3) (pe_dget hu (pv 2) (pv 4) (fun _ _ => rfl)) (pe_lst pa_nil) ⟨rfl, rfl, rfl, rfl⟩) (pa_cons (pv 4) pa_nil)))))
      (pss_one (ps_ret (pe_callTy (call_list_vw rfl) (by rfl) T.list PyProof.Rows.boot_list (pa_cons (pe_bm0K K rfl PySem.F.plainAttrs_dict PySem.F.slot_dict_values PySem.F.type_dict_values mt_values (pv 3)) pa_nil))))))), ?_⟩
    refine ⟨_, rfl, _, rfl, pu, pt, us, ads, ts, rfl, hu1, ht1, tp, nd, by omega, hts, fun pn H1 fpn hn s1 => ?_⟩
    try dsimp only [gName]
    refine fun pd hpd => ?_
    have s2 := Same.new (o := .dK []) hpd
    refine ⟨_, rfl, pu, us, rfl, (s1.trans s2).seq hu1, hl, fun l ms hl' pm rs => ?_⟩
    have em := srt_eq pm rs
    subst em
    have s3 := Same.new (o := .lst ((srt us).map V.str)) hl'
    have fpd : H pd = none := s1.free hpd
    have fl : H l = none := (s1.trans s2).free hl'
    have n1 : pd ≠ l := ne_of_none upd_same hl'
    have n2 : pn ≠ pd := ne_of_none hn hpd
    have n3 : pn ≠ l := ne_of_none (s2 _ _ hn) hl'
    refine ⟨l, rfl, ⟨_, SqL.of upd_same⟩, for_list (xs := (srt us).map V.str) (fun i σ H' => ∃ v4 ad, σ = [some (.ref pu), some (.ref pt), some (.ref pn), some (.ref pd), v4] ∧ Same H H' ∧ H' l = some (.lst ((srt us).map V.str)) ∧ H' pn = some (.dK (dN us (labs ts))) ∧
      H' pd = some (.dK (dV (keysOf ts ((srt us).take i)) fun k => .ref (ad k))) ∧ (∀ k ∈ keysOf ts ((srt us).take i), H' (ad k) = some (.lst ((grpOf ts ((srt us).take i) k).map V.str)) ∧ H (ad k) = none ∧ ad k ≠ pd ∧ ad k ≠ l ∧ ad k ≠ pn) ∧
      (∀ k ∈ keysOf ts ((srt us).take i), ∀ k' ∈ keysOf ts ((srt us).take i), ad k = ad k' → k = k'))
      ⟨none, fun _ => 0, rfl, s1.trans (s2.trans s3), upd_same, s3 _ _ (s2 _ _ hn), s3 _ _ upd_same, (fun k hk => by simp [keysOf] at hk), fun k hk => by simp [keysOf] at hk⟩ (fun i σ H' _ h => by obtain ⟨_, _, _, _, q, _⟩ := h; exact SqL.of q) ?_ ?_⟩
    · rintro i v σ H2 hx ⟨v4, ad, rfl, q, hl2, hn2, hd2, hk2, hin⟩
      rw [List.getElem?_map] at hx
      cases eu : (srt us)[i]? with
      | none => rw [eu] at hx; cases hx
      | some u =>
        rw [eu] at hx
        cases hx
        have hu' : u ∈ us := srt_mem.mp (List.mem_of_getElem? eu)
        have hi := get_lt eu
        have hkl : (keysOf ts ((srt us).take i)).length ≤ 63 := by
          have h1 : (keysOf ts ((srt us).take i)).length ≤ ((srt us).take i).length := List.length_filter_le _ _
          have h2 : ((srt us).take i).length ≤ (srt us).length := by rw [List.length_take]; omega
          rw [srt_len] at h2
          omega
        have hgl : ∀ k, (grpOf ts ((srt us).take i) k).length ≤ 63 := fun k => by
          have h1 : (grpOf ts ((srt us).take i) k).length ≤ ((srt us).take i).length := List.length_filter_le _ _
          have h2 : ((srt us).take i).length ≤ (srt us).length := by rw [List.length_take]; omega
          rw [srt_len] at h2
          omega
        have g := DGet.k (k := Sum.inr u) hn2
        rw [dN_val hu'] at g
        obtain ⟨knew, gnew⟩ := key_new (ts := ts) nd eu
        try dsimp only [gName]
        refine ⟨_, rfl, pd, rfl, .inl ⟨_, .inl hd2⟩, _, rfl, _, rfl, pn, _, rfl, g, by decide, fun q0 hq0 => ?_⟩
        have t0 := Same.new (o := .lst []) hq0
        have hd3 := t0 _ _ hd2
        have nq : pd ≠ q0 := ne_of_none hd2 hq0
        refine ⟨_, Sum.inr (labs ts u), hd3, rfl, by rw [dV_len]; exact small1000 (by omega), fun v hv => ?_, fun hv => ?_⟩
        · have hmem : labs ts u ∈ keysOf ts ((srt us).take i) := Decidable.byContradiction fun z => by rw [dV_none z] at hv; cases hv
          rw [dV_val hmem] at hv
          cases hv
          obtain ⟨h1, h2, h3, h4, h5⟩ := hk2 _ hmem
          have hne : ¬ labs ts u = u := fun e => by rw [e] at hmem; exact knew hmem
          have h1' := t0 _ _ h1
          refine ⟨.inl ⟨rfl, _, SqL.of h1'⟩, _, rfl, ad (labs ts u), _, _, rfl, rfl, h1', by rw [List.length_map]; exact small1000 (by have := hgl (labs ts u); omega), ?_⟩
          have ks : keysOf ts ((srt us).take (i + 1)) = keysOf ts ((srt us).take i) := by rw [keys_step eu, if_neg hne, List.append_nil]
          refine ⟨_, ad, rfl, (q.trans t0).upd h2, ?_, ?_, ?_, ?_, ?_⟩
          · rw [upd_ne (Ne.symm h4)]; exact t0 _ _ hl2
          · rw [upd_ne (Ne.symm h5)]; exact t0 _ _ hn2
          · rw [upd_ne (Ne.symm h3), ks]; exact hd3
          · rw [ks]
            intro k hk
            obtain ⟨b1, b2, b3, b4, b5⟩ := hk2 k hk
            refine ⟨?_, b2, b3, b4, b5⟩
            rw [grp_step eu]
            by_cases e : labs ts u = k
            · subst e
              rw [if_pos rfl, upd_same, List.map_append]; rfl
            · rw [if_neg e, List.append_nil, upd_ne (fun z => e (hin _ hmem _ hk z.symm))]
              exact t0 _ _ b1
          · rw [ks]; exact hin
        · have hmem : labs ts u ∉ keysOf ts ((srt us).take i) := fun z => by rw [dV_val z] at hv; cases hv
          have he : labs ts u = u := Decidable.byContradiction fun z => hmem (key_met nd hts eu z)
          rw [he]
          rw [he] at hmem
          have e3 : upd (upd H2 q0 (.lst [])) pd (.dK (putK (dV (keysOf ts ((srt us).take i)) fun k => .ref (ad k)) (Sum.inr u) (.ref q0))) q0 = some (.lst []) := by rw [upd_ne (Ne.symm nq), upd_same]
          refine ⟨.inl ⟨rfl, _, SqL.of e3⟩, _, rfl, q0, _, _, rfl, rfl, e3, by decide, ?_⟩
          have ks : keysOf ts ((srt us).take (i + 1)) = keysOf ts ((srt us).take i) ++ [u] := by rw [keys_step eu, if_pos he]
          have nl : l ≠ q0 := ne_of_none hl2 hq0
          have nn : pn ≠ q0 := ne_of_none hn2 hq0
          have fq0 : H q0 = none := q.free hq0
          refine ⟨_, fun z => if z = u then q0 else ad z, rfl, ((q.trans t0).upd fpd).upd fq0, ?_, ?_, ?_, ?_, ?_⟩
          · rw [upd_ne nl, upd_ne (Ne.symm n1)]; exact t0 _ _ hl2
          · rw [upd_ne nn, upd_ne n2]; exact t0 _ _ hn2
          · rw [upd_ne nq, upd_same, dV_new hmem, ks]
            congr 2
            refine dV_congr fun z hz => ?_
            dsimp only
            by_cases e : z = u
            · rw [if_pos e, if_pos e]
            · rw [if_neg e, if_neg e]
          · rw [ks]
            intro k hk
            dsimp only
            by_cases e : k = u
            · subst e
              rw [if_pos rfl]
              refine ⟨?_, fq0, Ne.symm nq, Ne.symm nl, Ne.symm nn⟩
              rw [upd_same, grp_step eu, if_pos he, gnew he]
              rfl
            · rw [if_neg e]
              have hk' : k ∈ keysOf ts ((srt us).take i) := by
                rcases List.mem_append.mp hk with h | h
                · exact h
                · exact absurd (by simpa using h) e
              obtain ⟨b1, b2, b3, b4, b5⟩ := hk2 k hk'
              refine ⟨?_, b2, b3, b4, b5⟩
              have nk : ad k ≠ q0 := ne_of_none b1 hq0
              rw [upd_ne nk, upd_ne b3, grp_step eu, if_neg (fun z => e (z.symm.trans he)), List.append_nil]
              exact t0 _ _ b1
          · rw [ks]
            intro k hk k' hk' z
            dsimp only at z
            have inold : ∀ z, z ∈ keysOf ts ((srt us).take i) ++ [u] → z ≠ u → z ∈ keysOf ts ((srt us).take i) := fun z hz e => by
              rcases List.mem_append.mp hz with h | h
              · exact h
              · exact absurd (by simpa using h) e
            by_cases e : k = u
            · by_cases e' : k' = u
              · rw [e, e']
              · rw [if_pos e, if_neg e'] at z
                have := (hk2 k' (inold _ hk' e')).1
                exact absurd z.symm (ne_of_none this hq0)
            · by_cases e' : k' = u
              · rw [if_neg e, if_pos e'] at z
                have := (hk2 k (inold _ hk e)).1
                exact absurd z (ne_of_none this hq0)
              · rw [if_neg e, if_neg e'] at z
                exact hin k (inold _ hk e) k' (inold _ hk' e') z
    · rintro σ H2 ⟨v4, ad, rfl, q, hl2, hn2, hd2, hk2, hin⟩
      rw [List.length_map, List.take_length] at hd2 hk2 hin
      refine ⟨_, rfl, .inr (.inr (.inl ⟨rfl, .inl ⟨_, hd2⟩⟩)), pd, _, rfl, rfl, hd2, fun pv hpv => ?_⟩
      have s3 := Same.new (o := vwO pv pd) hpv
      refine ⟨pv, pd, _, rfl, upd_same, s3 _ _ hd2, fun pf hpf => ?_⟩
      rw [dV_vals]
      have em : (keysOf ts (srt us)).map (fun k => V.ref (ad k)) = ((keysOf ts (srt us)).map ad).map V.ref := by rw [List.map_map]; rfl
      rw [em]
      have s4 := Same.new (o := .lst (((keysOf ts (srt us)).map ad).map V.ref)) hpf
      have q4 := s3.trans s4
      have knd : (keysOf ts (srt us)).Nodup := (srt_nodup nd).sublist (List.filter_sublist ..)
      refine k pf ((keysOf ts (srt us)).map ad) _ (q.free (s3.free hpf)) (fun a ha => ?_) (fun z => ?_) ?_ upd_same (lsts_mk fun x hx => q4 _ _ (hk2 x hx).1) (q.trans q4)
      · obtain ⟨x, hx, rfl⟩ := List.mem_map.mp ha
        exact (hk2 x hx).2.1
      · obtain ⟨x, hx, e⟩ := List.mem_map.mp z
        have := s3 _ _ (hk2 x hx).1
        rw [e, hpf] at this
        cases this
      · clear hk2 hd2 s4 q4 em
        generalize keysOf ts (srt us) = ks at hin knd
        induction ks with
        | nil => exact List.nodup_nil
        | cons x r ih =>
          rw [List.nodup_cons] at knd
          rw [List.map_cons, List.nodup_cons]
          refine ⟨fun z => ?_, ih (fun a ha b hb => hin a (List.mem_cons_of_mem _ ha) b (List.mem_cons_of_mem _ hb)) knd.2⟩
          obtain ⟨y, hy, e⟩ := List.mem_map.mp z
          have := hin y (List.mem_cons_of_mem _ hy) x (by simp) e
          subst this
          exact knd.1 hy
/-! ### names -/
theorem at37 (z : Int) (one at' : Int) (k j : Nat) (h : z = nmI one at' k j) : atI NAMES.cps.toList (z % 37) = some (nmN one at' k j) := by
  obtain ⟨h0, h1⟩ := ix37 z
  subst h
  have := atI_nat (xs := co NAMES) (j := (nmI one at' k j % 37).toNat) (v := nmN one at' k j) (by unfold nmN; rw [List.getD_eq_getElem?_getD, List.getElem?_eq_getElem h1]; rfl)
  rw [Int.toNat_of_nonneg h0] at this
  exact this
def cutF (l : List Nat) (size : Int) : V → V
  | .int z => .str (Txt.slice (strOf l) none (some (size - z)))
  | _ => .non
def sp_names : Sp := fun vs H Q _ => ∃ one other : Int, vs = [.int one, .int other, .int 9] ∧ ∀ (p : Addr) (xs : List Str) (H' : Hp), xs.length = 9 → xs.Nodup → (∀ x ∈ xs, nameB x = true) → H p = none → H' p = some (.lst (xs.map V.str)) → Same H H' → Q (.ref p) H'
set_option maxHeartbeats 4000000 in
theorem h__law_names (T : Tx K mg w) : Has P w K mg base "_law_names" ["_law_one", "_law_other", "_law_many"] 2 sp_names := by
  refine T.d__law_names.has sc__law_names (fun vs H Q E h => ?_) (fun f cdv A outer s H vs Q E hr h => ?_)
  · obtain ⟨one, other, rfl, _⟩ := h; rfl
  · obtain ⟨one, other, rfl, k⟩ := h
    refine ⟨_, (pss_cons (ps_set (i := 3) sc__law_names.nd rfl (Or.inl rfl) pe_str)
      (pss_cons (ps_set (i := 4) sc__law_names.nd rfl (Or.inr rfl) (pe_op op_add pe_int (pe_fn (h__law_part T) (hr.mono (by decide)) (by rfl) (pa_cons (pv 0) (pa_cons pe_int (pa_cons pe_int pa_nil))))))
      (pss_cons (ps_set (i := 5) sc__law_names.nd rfl (Or.inl rfl) (pe_fn (h__law_part T) (hr.mono (by decide)) (by rfl) (pa_cons (pv 1) (pa_cons pe_int (pa_cons (pv 4) pa_nil)))))
      (pss_cons (ps_set (i := 6) sc__law_names.nd rfl (Or.inr rfl) (pe_lst pa_nil))
      (pss_cons (ps_for PassesOwn.never rfl (pi_range1 (by rfl) T.range (pa_cons (pv 2) pa_nil)) (pg_name (i := 7) sc__law_names.nd rfl (Or.inl rfl)) (pss_cons (ps_set (i := 8) sc__law_names.nd rfl (Or.inl rfl) pe_str)
        (pss_cons (ps_for PassesOwn.never rfl (pi_range1 (by rfl) T.range (pa_cons (pv 4) pa_nil)) (pg_name (i := 9) sc__law_names.nd rfl (Or.inl rfl)) (pss_cons (ps_set (i := 10) sc__law_names.nd rfl (Or.inl rfl) (pe_fn (h__law_part T) (hr.mono (by decide)) (by rfl) (pa_cons (pv 0) (pa_cons (pe_op op_add (pv 9) pe_int) (pa_cons pe_int pa_nil)))))
          (pss_cons (ps_if (pt_cmpR op_eq (pv 9) (pv 5) (nomark _)) (pss_one (ps_set (i := 10) sc__law_names.nd rfl (Or.inl rfl) (pe_op op_add (pv 10) (pv 7)))) pss_nil)
          (pss_one (ps_set (i := 8) sc__law_names.nd rfl (Or.inl rfl) (pe_op op_add_str (pv 8) (pe_ix ix_str (pv 3) (pe_op op_mod (pv 10) pe_int) (fun _ _ => rfl))))))))
        (pss_one (ps_expr (pe_bmK K rfl PySem.F.plainAttrs_list PySem.F.slot_list_append PySem.F.type_list_append mt_append (pv 6) (pa_cons (pv 8) pa_nil)))))))
      (pss_cons (ps_if (PW.pt (pw_and (pt_cmpR op_ge (pv 4) (pv 2) (nomark _)) (pw_and1 (pt_cmpR op_eq (pe_op op_mod (pv 1) pe_int) pe_int (nomark _))))) (pss_one (ps_ret (pe_comp (own := ["_law_k"]) (cap := ["_law_names_here", "_law_size"]) (ix := [6, 4]) (osc := defScope (top 8)) rfl ⟨rfl, by decide +kernel, by decide +kernel, by decide +kernel, by decide +kernel⟩ rfl (pi_range1 (by rfl) T.range (pa_cons (pv 2) pa_nil)) (fun _ _ _ _ => pg_name (i := 0) (show List.Nodup (["_law_k", "_law_names_here", "_law_size"] : List Str) by decide +kernel) rfl (Or.inl rfl)) (fun _ _ _ _ => pif_nil) (fun _ _ _ _ => (pe_slice sl_str (pe_ix (ix_listK K rfl) (pv 1) pe_int (fun _ _ => rfl)) po_none (po_some (pe_op op_sub (pv 2) (pv 0)))))))) pss_nil)
      (pss_one (ps_ret (pv 6))))))))), ?_⟩
    walk_at "rd"
    refine ⟨by decide, ?_⟩
    walk_at "rd"
    obtain ⟨s1, s2⟩ := pt_bd one 0 12 (by decide)
    have hs : ∃ size : Nat, 1 + pt one 0 12 = (size : Int) ∧ 1 ≤ size ∧ size ≤ 12 := ⟨(1 + pt one 0 12).toNat, by omega, by omega, by omega⟩
    obtain ⟨size, es, z1, z2⟩ := hs
    rw [es]
    refine ⟨by omega, ?_⟩
    obtain ⟨a1, a2⟩ := pt_bd other 1 (size : Int) (by omega)
    generalize pt other 1 (size : Int) = at' at a1 a2
    refine ⟨by decide, fun p hp => ?_⟩
    refine ⟨_, rfl, 9, rfl, by decide, by decide, for_range (lo := 0) (n := 9) (fun i σ H' => ∃ v7 v8 v9 v10, σ = [some (.int one), some (.int other), some (.int 9), some (.str NAMES), some (.int size), some (.int at'), some (.ref p), v7, v8, v9, v10] ∧ Same H H' ∧
      H' p = some (.lst (((List.range i).map fun k => strOf (nmC one at' k size)).map V.str))) ⟨none, none, none, none, (by rw [← es]; rfl), Same.new hp, upd_same⟩ ?_ ?_⟩
    · rintro i σ H1 hi ⟨v7, v8, v9, v10, rfl, q1, q2⟩
      simp only [Int.zero_add]
      refine ⟨_, rfl, (size : Int), rfl, by omega, by omega, for_range (lo := 0) (n := size) (fun j σ H2 => ∃ v9 v10, σ = [some (.int one), some (.int other), some (.int 9), some (.str NAMES), some (.int size), some (.int at'), some (.ref p), some (.int i), some (.str (strOf ((List.range j).map (nmN one at' i)))), v9, v10] ∧ H2 = H1)
        ⟨v9, v10, by rw [emp_is]; rfl, rfl⟩ ?_ ?_⟩
      · rintro j σ H2 hj ⟨v9, v10, rfl, rfl⟩
        simp only [Int.zero_add]
        walk_at "rd"
        refine ⟨by decide, ?_⟩
        refine ⟨_, rfl, _, rfl, rfl, _, rfl, ?_⟩
        refine ite2 (fun c => ?_) (fun c => ?_)
        all_goals
          walk_at "rd"
          refine ⟨(by decide : (0 : Int) < 37), NAMES, _, nmN one at' i j, rfl, rfl, by decide, ?_, ?_⟩
        · refine at37 _ one at' i j ?_
          have c := of_decide_eq_true c
          have c : (j : Int) = at' := V.int.inj c
          unfold nmI
          rw [if_pos c]
        · refine ⟨_, _, rfl, rfl, ?_, some (.int j), some (.int (pt one ((j : Int) + 2) 37 + i)), ?_, rfl⟩
          · rw [len_strOf, List.length_map, List.length_range]
            exact Nat.le_trans (show j + 1 ≤ 100 by omega) (by decide)
          · rw [show (⟨#[nmN one at' i j]⟩ : Str) = strOf [nmN one at' i j] from rfl, app_strOf, List.range_succ, List.map_append]
            rfl
        · refine at37 _ one at' i j ?_
          have c : ¬ (j : Int) = at' := fun z => c (decide_eq_true (congrArg V.int z))
          unfold nmI
          rw [if_neg c]
        · refine ⟨_, _, rfl, rfl, ?_, some (.int j), some (.int (pt one ((j : Int) + 2) 37)), ?_, rfl⟩
          · rw [len_strOf, List.length_map, List.length_range]
            exact Nat.le_trans (show j + 1 ≤ 100 by omega) (by decide)
          · rw [show (⟨#[nmN one at' i j]⟩ : Str) = strOf [nmN one at' i j] from rfl, app_strOf, List.range_succ, List.map_append]
            rfl
      · rintro σ H2 ⟨v9, v10, rfl, rfl⟩
        refine ⟨_, rfl, .inl ⟨rfl, _, SqL.of q2⟩, _, rfl, p, _, _, rfl, rfl, q2, ?_, ?_⟩
        · rw [List.length_map, List.length_map, List.length_range]
          exact small1000 (by omega)
        · refine ⟨_, _, _, _, rfl, q1.upd hp, ?_⟩
          rw [upd_same, List.range_succ, List.map_append, List.map_append]
          rfl
    · rintro σ H1 ⟨v7, v8, v9, v10, rfl, q1, q2⟩
      obtain ⟨n1, n2, n3⟩ := names1_ok (one := one) a1 a2 z1 z2
      have fin : Q (.ref p) H1 := k p _ H1 n3 n1 n2 hp q2 q1
      refine ⟨_, rfl, _, rfl, _, _, rfl, rfl, _, rfl, ?_⟩
      refine ite2 (fun c => ?_) (fun c => ?_)
      · have c := of_decide_eq_true c
        walk_at "rd"
        refine ⟨(by decide : (0 : Int) < 2), ?_⟩
        refine ⟨rfl, _, rfl, ?_⟩
        refine ite2 (fun c2 => ?_) (fun c2 => ?_)
        · obtain ⟨m1, m2, m3⟩ := names2_ok (one := one) (at' := at') (size := size) (by omega) z2
          refine ⟨_, rfl, 9, rfl, by decide, by decide, fun D hD => ?_⟩
          have npD : p ≠ D := ne_of_none q2 hD
          refine comp_pure (fix_rng (lo := 0) (n := 9)) (fun _ => true) (cutF (nmC one at' 0 size) size) (fun _ => trivial) (by decide) (fun v hv ys Q' q => q) (fun v hv _ ys Q' q => ?_) ?_
          · obtain ⟨z, hz, rfl⟩ := List.mem_map.mp hv
            refine ⟨_, rfl, p, _, 0, .str (strOf (nmC one at' 0 size)), rfl, rfl, SqL.of (by rw [upd_ne npD]; exact q2), rfl, ?_⟩
            refine ⟨_, rfl, _, rfl, _, _, rfl, rfl, _, rfl, _, rfl, ?_, q⟩
            rw [len_strOf, nmC_len]
            exact Nat.le_trans z2 (by decide)
          · refine k D _ _ m3 m1 m2 (q1.free hD) ?_ (q1.trans (Same.new hD))
            rw [upd_same]
            congr 2
            unfold names2
            rw [List.filter_eq_self.mpr (fun _ _ => rfl), List.map_map, List.map_map]
            apply List.map_congr_left
            intro i hi
            have hi := List.mem_range.mp hi
            show V.str (Txt.slice (strOf (nmC one at' 0 size)) none (some ((size : Int) - (0 + (i : Int))))) = V.str (strOf ((nmC one at' 0 size).take (size - i)))
            rw [slice_take _ _ (by omega) (by rw [nmC_len]; omega)]
            congr 3
            omega
        · exact ⟨_, rfl, fin⟩
      · exact iteF ⟨_, rfl, fin⟩
/-! ### units, ties -/
theorem c60' : CPow 10 60 := ⟨by decide, by decide, by decide⟩
theorem m60' : (0 : Int) < 10 ^ (60 : Int).toNat := by decide
def sp_units : Sp := fun vs H Q _ => ∃ (a : Addr) (ns : List Int), vs = [.ref a] ∧ SqL K H a (ns.map V.int) ∧
  ∀ (p : Addr) (us : List Str) (H' : Hp), us.Nodup → (∀ x ∈ us, nameB x = true) → 1 ≤ us.length → us.length ≤ 9 → H p = none → H' p = some (.lst (us.map V.str)) → Same H H' → Q (.ref p) H'
set_option maxHeartbeats 4000000 in
theorem h__law_units (T : Tx K mg w) : Has P w K mg base "_law_units" ["_law_script"] 3 (sp_units (K := K)) := by
  refine T.d__law_units.has sc__law_units (fun vs H Q E h => ?_) (fun f cdv A outer s H vs Q E hr h => ?_)
  · obtain ⟨a, ns, rfl, _⟩ := h; rfl
  · obtain ⟨a, ns, rfl, ha, k⟩ := h
    refine ⟨_, (pss_one (ps_ret (pe_slice (sl_listK K rfl) (pe_fn (h__law_names T) (hr.mono (by decide)) (by rfl) (pa_cons (pe_fn (h__law_cell_at T) (hr.mono (by decide)) (by rfl) (pa_cons (pv 0) (pa_cons pe_int pa_nil))) (pa_cons (pe_fn (h__law_cell_at T) (hr.mono (by decide)) (by rfl) (pa_cons (pv 0) (pa_cons pe_int pa_nil))) (pa_cons pe_int pa_nil)))) po_none (po_some (pe_op op_add pe_int (pe_op op_mod (pe_fn (h__law_cell_at T) (hr.mono (by decide)) (by rfl) (pa_cons (pv 0) (pa_cons pe_int pa_nil))) pe_int)))))), ?_⟩
    refine ⟨_, rfl, a, ns, _, rfl, ha, by decide, _, rfl, a, ns, _, rfl, ha, by decide, _, _, rfl, fun p xs H1 h1 h2 h3 fp hp s1 => ?_⟩
    refine ⟨_, rfl, a, ns, _, rfl, s1.seq ha, by decide, ?_⟩
    refine ⟨_, _, rfl, rfl, (by decide : (0 : Int) < 9), _, _, rfl, rfl, ?_⟩
    have b1 := Int.emod_nonneg (cellI ns 2) (show (9 : Int) ≠ 0 by decide)
    have b2 := Int.emod_lt_of_pos (cellI ns 2) (show (0 : Int) < 9 by decide)
    obtain ⟨z, hz⟩ : ∃ z, z = 1 + cellI ns 2 % 9 := ⟨_, rfl⟩
    have z1 : 1 ≤ z := by omega
    have z2 : z ≤ 9 := by omega
    subst hz
    refine ⟨_, rfl, p, _, rfl, SqL.of hp, fun pc hpc => ?_⟩
    rw [cutV_to (by omega) (by rw [List.length_map, h1]; omega)]
    refine k pc (xs.take (1 + cellI ns 2 % 9).toNat) _ (h2.sublist (List.take_sublist _ _)) (fun x hx => h3 x (List.mem_of_mem_take hx)) ?_ ?_ (s1.free hpc) ?_ (s1.trans (Same.new hpc))
    · rw [List.length_take, h1]; omega
    · rw [List.length_take, h1]; omega
    · rw [upd_same, List.map_take]
theorem perm_ins {us ys : List Str} {i n : Nat} {x : Str} (h : ys.Perm (us.take i)) (hx : us[i]? = some x) : (ys.take n ++ x :: ys.drop n).Perm (us.take (i + 1)) := by
  rw [List.take_add_one, hx]
  refine List.Perm.trans List.perm_middle ?_
  rw [List.take_append_drop]
  refine List.Perm.trans (h.cons x) ?_
  exact (List.perm_append_singleton x (us.take i)).symm
def sp_turned : Sp := fun vs H Q _ => ∃ (p : Addr) (us : List Str) (c : Int), vs = [.ref p, .int c] ∧ SqL K H p (us.map V.str) ∧ us.length ≤ 100 ∧
  ∀ (q : Addr) (ys : List Str) (H' : Hp), ys.Perm us → H q = none → H' q = some (.lst (ys.map V.str)) → Same H H' → Q (.ref q) H'
set_option maxHeartbeats 4000000 in
theorem h__law_turned (T : Tx K mg w) : Has P w K mg base "_law_turned" ["_law_units_here", "_law_cell"] 2 (sp_turned (K := K)) := by
  refine T.d__law_turned.has sc__law_turned (fun vs H Q E h => ?_) (fun f cdv A outer s H vs Q E hr h => ?_)
  · obtain ⟨p, us, c, rfl, _⟩ := h; rfl
  · obtain ⟨p, us, c, rfl, hp, hl, k⟩ := h
    refine ⟨_, (pss_cons (ps_set (i := 2) sc__law_turned.nd rfl (Or.inl rfl) (pe_lst pa_nil))
      (pss_cons (ps_for PassesOwn.never rfl (pi_range1 (by rfl) T.range (pa_cons (pe_callB (call_len_seqK K rfl) (by rfl) T.len boot_len (pa_cons (pv 0) pa_nil)) pa_nil)) (pg_name (i := 3) sc__law_turned.nd rfl (Or.inl rfl)) (pss_one (ps_expr (pe_bmK K rfl PySem.F.plainAttrs_list PySem.F.slot_list_insert PySem.F.type_list_insert mt_insert (pv 2) (pa_cons (pe_fn (h__law_part T) (hr.mono (by decide)) (by rfl) (pa_cons (pv 1) (pa_cons (pv 3) (pa_cons (pe_op op_add (pe_callB (call_len_seqK K rfl) (by rfl) T.len boot_len (pa_cons (pv 2) pa_nil)) pe_int) pa_nil)))) (pa_cons (pe_ix (ix_listK K rfl) (pv 0) (pv 3) (fun _ _ => rfl)) pa_nil))))))
      (pss_one (ps_ret (pv 2))))), ?_⟩
    refine ⟨by decide, fun pt' hpt => ?_⟩
    have lu : (us.map V.str).length = us.length := List.length_map _
    refine ⟨_, rfl, p, _, rfl, .inl ((Same.new hpt).seq hp), ((us.map V.str).length : Int), rfl, by omega, by omega, for_range (lo := 0) (n := (us.map V.str).length) (fun i σ H' => ∃ v3 ys, σ = [some (.ref p), some (.int c), some (.ref pt'), v3] ∧ Same H H' ∧ H' pt' = some (.lst (ys.map V.str)) ∧ ys.Perm (us.take i))
      ⟨none, [], rfl, Same.new hpt, upd_same, by simp⟩ ?_ ?_⟩
    · rintro i σ H1 hi ⟨v3, ys, rfl, q, hy, pm⟩
      rw [lu] at hi
      have hyl : ys.length = i := by rw [pm.length_eq, List.length_take]; omega
      have ly : (ys.map V.str).length = ys.length := List.length_map _
      have ex : us[i]? = some us[i] := List.getElem?_eq_getElem hi
      have hpos : (0 : Int) < ((ys.map V.str).length : Int) + 1 := by omega
      obtain ⟨b1, b2⟩ := pt_bd c (0 + (i : Int)) _ hpos
      try dsimp only [gName]
      refine ⟨_, rfl, .inl ⟨rfl, _, SqL.of hy⟩, _, rfl, _, rfl, _, rfl, pt', _, rfl, .inl (SqL.of hy), _, _, rfl, rfl, _, _, _, rfl, hpos, ?_⟩
      refine ⟨_, rfl, _, rfl, p, _, _, .str us[i], rfl, rfl, q.seq hp, ?_, ?_⟩
      · have := atI_nat (xs := us.map V.str) (j := i) (v := .str us[i]) (by simp [hi])
        rw [Int.zero_add]
        exact this
      · generalize pt c (0 + (i : Int)) (((ys.map V.str).length : Int) + 1) = z at b1 b2
        refine ⟨pt', _, z, _, rfl, rfl, hy, b1, by omega, small1000 (by omega), ?_⟩
        refine ⟨_, _, rfl, q.upd hpt, ?_, perm_ins (n := z.toNat) pm ex⟩
        rw [upd_same, List.map_append, List.map_cons, List.map_take, List.map_drop]
    · rintro σ H1 ⟨v3, ys, rfl, q, hy, pm⟩
      rw [lu, List.take_length] at pm
      exact ⟨_, rfl, k pt' ys _ pm hpt hy q⟩
def kinds6 : List V := [.str "over", .str "cuts", .str "fills", .str "after", .str "same", .str "same"]
theorem kind6_at {i : Int} (h0 : 0 ≤ i) (h1 : i < 6) : ∃ kd : Str, atI kinds6 i = some (.str kd) ∧ (kd = "after" ∨ kd ∈ KINDS) := by
  have h : i = 0 ∨ i = 1 ∨ i = 2 ∨ i = 3 ∨ i = 4 ∨ i = 5 := by omega
  rcases h with rfl | rfl | rfl | rfl | rfl | rfl
  · exact ⟨_, rfl, .inr (by decide +kernel)⟩
  · exact ⟨_, rfl, .inr (by decide +kernel)⟩
  · exact ⟨_, rfl, .inr (by decide +kernel)⟩
  · exact ⟨_, rfl, .inl rfl⟩
  · exact ⟨_, rfl, .inr (by decide +kernel)⟩
  · exact ⟨_, rfl, .inr (by decide +kernel)⟩
theorem at_strs {us : List Str} {i : Int} (h0 : 0 ≤ i) (h1 : i < (us.length : Int)) : ∃ x ∈ us, atI (us.map V.str) i = some (.str x) := by
  have hi : i.toNat < us.length := by omega
  refine ⟨us[i.toNat], List.getElem_mem hi, ?_⟩
  have := atI_nat (xs := us.map V.str) (j := i.toNat) (v := .str us[i.toNat]) (by simp [hi])
  rw [Int.toNat_of_nonneg h0] at this
  exact this
def sp_ties : Sp := fun vs H Q _ => ∃ (pu pc : Addr) (us : List Str) (cs : List Int), vs = [.ref pu, .ref pc] ∧ SqL K H pu (us.map V.str) ∧ SqL K H pc (cs.map V.int) ∧ 1 ≤ us.length ∧ (∀ x ∈ us, nameB x = true) ∧ cs.length ≤ 100 ∧
  ∀ (p : Addr) (ads : List Addr) (ts : List Tie) (H' : Hp), (∀ t ∈ ts, TOk us t) → ts.length ≤ cs.length → H p = none → H' p = some (.lst (ads.map V.ref)) → Tups H' ads (ts.map tieV) → Same H H' → Q (.ref p) H'
set_option maxHeartbeats 8000000 in
theorem h__law_ties (T : Tx K mg w) : Has P w K mg base "_law_ties" ["_law_units_here", "_law_cells"] 2 (sp_ties (K := K)) := by
  refine T.d__law_ties.has sc__law_ties (fun vs H Q E h => ?_) (fun f cdv A outer s H vs Q E hr h => ?_)
  · obtain ⟨pu, pc, us, cs, rfl, _⟩ := h; rfl
  · obtain ⟨pu, pc, us, cs, rfl, hu1, hc1, hl, hnm, hlc, k⟩ := h
    refine ⟨_, (pss_cons (ps_set (i := 2) sc__law_ties.nd rfl (Or.inl rfl) (pe_lst pa_nil))
      (pss_cons (ps_for PassesOwn.never rfl (pi_listK K rfl (pv 1)) (pg_name (i := 3) sc__law_ties.nd rfl (Or.inl rfl)) (pss_cons (ps_set (i := 4) sc__law_ties.nd rfl (Or.inl rfl) (pe_ix (ix_listK K rfl) (pv 0) (pe_fn (h__law_part T) (hr.mono (by decide)) (by rfl) (pa_cons (pv 3) (pa_cons pe_int (pa_cons (pe_callB (call_len_seqK K rfl) (by rfl) T.len boot_len (pa_cons (pv 0) pa_nil)) pa_nil)))) (fun _ _ => rfl)))
        (pss_cons (ps_set (i := 5) sc__law_ties.nd rfl (Or.inl rfl) (pe_ix (ix_listK K rfl) (pv 0) (pe_fn (h__law_part T) (hr.mono (by decide)) (by rfl) (pa_cons (pv 3) (pa_cons pe_int (pa_cons (pe_callB (call_len_seqK K rfl) (by rfl) T.len boot_len (pa_cons (pv 0) pa_nil)) pa_nil)))) (fun _ _ => rfl)))
        (pss_cons (ps_set (i := 6) sc__law_ties.nd rfl (Or.inl rfl) (pe_ix (ix_listK K rfl) (pe_lst (pa_cons pe_str (pa_cons pe_str (pa_cons pe_str (pa_cons pe_str (pa_cons pe_str (pa_cons pe_str pa_nil))))))) (pe_fn (h__law_part T) (hr.mono (by decide)) (by rfl) (pa_cons (pv 3) (pa_cons pe_int (pa_cons pe_int pa_nil)))) (fun _ _ => rfl)))
        (pss_cons (ps_set (i := 7) sc__law_ties.nd rfl (Or.inl rfl) (pe_tup (pa_cons (pv 6) (pa_cons (pv 4) (pa_cons (pv 5) pa_nil)))))
        (pss_cons (ps_if (pt_cmpR op_eq (pv 6) pe_str (nomark _)) (pss_one (ps_set (i := 7) sc__law_ties.nd rfl (Or.inl rfl) (pe_tup (pa_cons (pv 6) (pa_cons (pv 4) (pa_cons (pv 5) (pa_cons (pe_op op_mod (pe_op op_mul (pv 3) pe_int) (pe_op op_pow pe_int pe_int)) pa_nil))))))) pss_nil)
        (pss_one (ps_if (pt_cmpR (op_notInDK K rfl (hu11 hr)) (pv 7) (pv 2) (by with_unfolding_all rfl)) (pss_one (ps_expr (pe_bmK K rfl PySem.F.plainAttrs_list PySem.F.slot_list_append PySem.F.type_list_append mt_append (pv 2) (pa_cons (pv 7) pa_nil)))) pss_nil))))))))
      (pss_one (ps_ret (pv 2))))), ?_⟩
    refine ⟨by decide, fun p hp => ?_⟩
    have lu : (us.map V.str).length = us.length := List.length_map _
    refine ⟨_, rfl, pc, rfl, ⟨_, (Same.new hp).seq hc1⟩, for_list (xs := cs.map V.int) (fun i σ H' => ∃ v3 v4 v5 v6 v7 ads ts, σ = [some (.ref pu), some (.ref pc), some (.ref p), v3, v4, v5, v6, v7] ∧ Same H H' ∧ H' p = some (.lst (ads.map V.ref)) ∧ Tups H' ads (ts.map tieV) ∧ (∀ t ∈ ts, TOk us t) ∧ ts.length ≤ i)
      ⟨none, none, none, none, none, [], [], rfl, Same.new hp, upd_same, .nil, by simp, Nat.le_refl _⟩ (fun i σ H' _ h => by obtain ⟨_, _, _, _, _, _, _, _, q, _⟩ := h; exact q.seq hc1) ?_ ?_⟩
    · rintro i x σ H1 hx ⟨v3, v4, v5, v6, v7, ads, ts, rfl, q, hp1, tp, hok, hlt⟩
      have hi := get_lt hx
      rw [List.length_map] at hi
      have hlen : ads.length = ts.length := by have := tp.len; rw [List.length_map] at this; exact this
      obtain ⟨c, rfl⟩ : ∃ z, x = V.int z := by
        rw [List.getElem?_map] at hx
        cases e : cs[i]? with
        | none => rw [e] at hx; cases hx
        | some z => rw [e] at hx; exact ⟨z, (Option.some.inj hx).symm⟩
      have hn : (0 : Int) < (us.length : Int) := by omega
      try dsimp only [gName]
      refine ⟨_, rfl, _, rfl, _, rfl, pu, _, rfl, .inl (q.seq hu1), ?_⟩
      rw [lu]
      refine ⟨_, _, _, rfl, hn, ?_⟩
      obtain ⟨x, hx', ex⟩ := at_strs (pt_bd c 2 _ hn).1 (pt_bd c 2 _ hn).2
      refine ⟨pu, _, _, _, rfl, rfl, q.seq hu1, ex, ?_⟩
      refine ⟨_, rfl, _, rfl, _, rfl, pu, _, rfl, .inl (q.seq hu1), ?_⟩
      rw [lu]
      refine ⟨_, _, _, rfl, hn, ?_⟩
      obtain ⟨y, hy', ey⟩ := at_strs (pt_bd c 3 _ hn).1 (pt_bd c 3 _ hn).2
      refine ⟨pu, _, _, _, rfl, rfl, q.seq hu1, ey, ?_⟩
      refine ⟨(by show 6 ≤ sizeLine; decide), fun p1 hp1' => ?_⟩
      refine ⟨_, rfl, _, _, _, rfl, by decide, ?_⟩
      obtain ⟨kd, ek, hk⟩ := kind6_at (pt_bd c 4 6 (by decide)).1 (pt_bd c 4 6 (by decide)).2
      have s1 : Same H1 (upd H1 p1 (.lst kinds6)) := Same.new hp1'
      refine ⟨p1, kinds6, _, _, rfl, rfl, SqL.of upd_same, ek, ?_⟩
      try dsimp only [gName]
      show tSeq _ _ _ _ (upd H1 p1 (.lst kinds6))
      generalize upd H1 p1 (.lst kinds6) = H2 at s1
      refine ⟨_, rfl, _, rfl, _, rfl, (by show 3 ≤ sizeLine; decide), fun p2 hp2 => ?_⟩
      have s2 : Same H2 (upd H2 p2 (.tup [.str kd, .str x, .str y])) := Same.new hp2
      have e2 : upd H2 p2 (.tup [.str kd, .str x, .str y]) p2 = some (.tup [.str kd, .str x, .str y]) := upd_same
      try dsimp only [gName]
      show tSeq _ _ _ _ (upd H2 p2 (.tup [.str kd, .str x, .str y]))
      generalize upd H2 p2 (.tup [.str kd, .str x, .str y]) = H3 at s2 e2
      have q3 := q.trans (s1.trans s2)
      refine ⟨_, rfl, rfl, _, rfl, ?_⟩
      refine ite2 (fun c1 => ?A) (fun c1 => ?B)
      case' A =>
        have c1 : kd = "after" := V.str.inj (of_decide_eq_true c1)
        subst c1
        refine ⟨_, rfl, _, rfl, _, rfl, _, rfl, _, _, rfl, rfl, .inr ⟨by decide, by decide⟩, _, _, rfl, rfl, c60', _, _, rfl, rfl, m60', (by show 4 ≤ sizeLine; decide), fun p4 hp4 => ?_⟩
        have d5 := Int.emod_nonneg (c * 48271) (show (10 ^ (60 : Int).toNat : Int) ≠ 0 by decide)
        have d6 := Int.emod_lt_of_pos (c * 48271) m60'
        have e60 : (10 : Int) ^ (60 : Int).toNat = 10 ^ 60 := rfl
        have tok : TieOk us [.str "after", .str x, .str y, .int (c * 48271 % 10 ^ (60 : Int).toNat)] := .after hx' hy' d5 (by
          show (c * 48271 % 10 ^ (60 : Int).toNat).natAbs < 10 ^ 60
          rw [e60] at d5 d6 ⊢
          omega)
        obtain ⟨t, et, htk⟩ := tok.tie
        have s4 : Same H3 (upd H3 p4 (.tup [.str "after", .str x, .str y, .int (c * 48271 % 10 ^ (60 : Int).toNat)])) := Same.new hp4
        have e4 : upd H3 p4 (.tup [.str "after", .str x, .str y, .int (c * 48271 % 10 ^ (60 : Int).toNat)]) p4 = some (.tup (tieV t)) := by rw [upd_same, et]
        generalize upd H3 p4 (.tup [.str "after", .str x, .str y, .int (c * 48271 % 10 ^ (60 : Int).toNat)]) = H4 at s4 e4
      case' B =>
        have hk' : kd ∈ KINDS := by
          rcases hk with hk | hk
          · exact absurd (decide_eq_true (congrArg V.str hk)) c1
          · exact hk
        have tok : TieOk us [.str kd, .str x, .str y] := .plain hk' hx' hy'
        obtain ⟨t, et, htk⟩ := tok.tie
        rw [et] at e2
        obtain ⟨p4, ep⟩ : ∃ p4, p4 = p2 := ⟨_, rfl⟩
        obtain ⟨H4, eH⟩ : ∃ H4, H4 = H3 := ⟨_, rfl⟩
        have s4 : Same H3 H4 := by rw [eH]; exact (Same.refl _)
        have e4 : H4 p4 = some (.tup (tieV t)) := by rw [eH, ep]; exact e2
        rw [← eH, ← ep]
      all_goals
        have q4 := q3.trans s4
        have tp4 := ((tp.same s1).same s2).same s4
        have hp4' := s4 _ _ (s2 _ _ (s1 _ _ hp1))
        have hw : ∀ vs ∈ ts.map tieV, ∀ v ∈ vs, Wd v := fun vs hv => by
          obtain ⟨u, hu, rfl⟩ := List.mem_map.mp hv
          exact ((hok u hu).ok.words hnm).1
        try dsimp only [gName]
        refine ⟨_, rfl, _, rfl, p, _, _, rfl, .inl (SqL.of hp4'), tp4.deq (n := 7) hw e4 (htk.ok.words hnm).1, _, rfl, ?_⟩
        rw [if_pos rfl, tp4.anyE]
        refine ite2 (fun c3 => ?_) (fun c3 => ?_)
        · refine ⟨_, rfl, .inl ⟨rfl, _, SqL.of hp4'⟩, _, rfl, p, _, _, rfl, rfl, hp4', by rw [List.length_map]; exact small1000 (by omega), ?_⟩
          refine ⟨_, _, _, _, _, ads ++ [p4], ts ++ [t], rfl, q4.upd hp, ?_, ?_, ?_, ?_⟩
          · rw [upd_same, List.map_append]; rfl
          · rw [List.map_append]
            exact Tups.snoc (tp4.stay (tup_stay hp4')) (tup_stay hp4' _ _ e4)
          · intro u hu
            rcases List.mem_append.mp hu with hu | hu
            · exact hok u hu
            · have : u = t := by simpa using hu
              subst this; exact htk
          · rw [List.length_append]; exact Nat.succ_le_succ hlt
        · exact ⟨_, _, _, _, _, ads, ts, rfl, q4, hp4', tp4, hok, by omega⟩
    · rintro σ H1 ⟨v3, v4, v5, v6, v7, ads, ts, rfl, q, hp1, tp, hok, hlt⟩
      rw [List.length_map] at hlt
      exact ⟨_, rfl, k p ads ts _ hok hlt hp hp1 tp q⟩
/-! ### ties told otherwise; the list of a unit -/
theorem tups_ins {H : Hp} {a : Addr} {ws : List V} (h : H a = some (.tup ws)) {as : List Addr} {wss : List (List V)} (n : Nat) (t : Tups H as wss) : Tups H (as.take n ++ a :: as.drop n) (wss.take n ++ ws :: wss.drop n) := paired_ins (F := fun a ws => H a = some (.tup ws)) h n t
def sp_other : Sp := fun vs H Q _ => ∃ (pt' : Addr) (us : List Str) (ads : List Addr) (ts : List Tie) (c : Int), vs = [.ref pt', .int c] ∧ SqL K H pt' (ads.map V.ref) ∧ Tups H ads (ts.map tieV) ∧ (∀ t ∈ ts, TOk us t) ∧ (∀ x ∈ us, nameB x = true) ∧ ts.length ≤ 63 ∧
  ∀ (q : Addr) (ads' : List Addr) (ts' : List Tie) (H' : Hp), Same H H' → H q = none → H' q = some (.lst (ads'.map V.ref)) → Tups H' ads' (ts'.map tieV) → (∀ t ∈ ts', TOk us t) → (∀ y z, Nb ts' y z ↔ Nb ts y z) → Q (.ref q) H'
set_option maxHeartbeats 8000000 in
theorem h__law_other_ties (T : Tx K mg w) : Has P w K mg base "_law_other_ties" ["_law_ties_here", "_law_cell"] 2 (sp_other (K := K)) := by
  refine T.d__law_other_ties.has sc__law_other_ties (fun vs H Q E h => ?_) (fun f cdv A outer s H vs Q E hr h => ?_)
  · obtain ⟨pt', us, ads, ts, c, rfl, _⟩ := h; rfl
  · obtain ⟨pt', us, ads, ts, c, rfl, hp, tp, tok, nm, tl, k⟩ := h
    refine ⟨_, (pss_cons (ps_set (i := 2) sc__law_other_ties.nd rfl (Or.inl rfl) (pe_lst pa_nil))
      (pss_cons (ps_for PassesOwn.never rfl (pi_range1 (by rfl) T.range (pa_cons (pe_callB (call_len_seqK K rfl) (by rfl) T.len boot_len (pa_cons (pv 0) pa_nil)) pa_nil)) (pg_name (i := 3) sc__law_other_ties.nd rfl (Or.inl rfl)) (pss_cons (ps_set (i := 4) sc__law_other_ties.nd rfl (Or.inl rfl) (pe_ix (ix_listK K rfl) (pv 0) (pv 3) (fun _ _ => rfl)))
        (pss_cons (ps_if (PW.pt (pw_and (pt_cmpR op_eq (pe_ix (ix_tupK K rfl) (pv 4) pe_int (fun _ _ => rfl)) pe_str (nomark _)) (pw_and1 (pt_cmpR op_eq (pe_op op_mod (pe_op op_mod (pe_op op_mul (pe_op op_add (pv 1) (pv 3)) pe_int) pe_int) pe_int) pe_int (nomark _))))) (pss_one (ps_set (i := 4) sc__law_other_ties.nd rfl (Or.inl rfl) (pe_tup (pa_cons pe_str (pa_cons (pe_ix (ix_tupK K rfl) (pv 4) pe_int (fun _ _ => rfl)) (pa_cons (pe_ix (ix_tupK K rfl) (pv 4) pe_int (fun _ _ => rfl)) pa_nil)))))) pss_nil)
        (pss_one (ps_if (PW.pt (pw_and (pt_cmpR op_eq (pe_ix (ix_tupK K rfl) (pv 4) pe_int (fun _ _ => rfl)) pe_str (nomark _)) (pw_and1 (pt_cmpR (op_notInDK K rfl (hu11 hr)) (pv 4) (pv 2) (by with_unfolding_all rfl))))) (pss_one (ps_expr (pe_bmK K rfl PySem.F.plainAttrs_list PySem.F.slot_list_insert PySem.F.type_list_insert mt_insert (pv 2) (pa_cons (pe_fn (h__law_part T) (hr.mono (by decide)) (by rfl) (pa_cons (pv 1) (pa_cons (pv 3) (pa_cons (pe_op op_add (pe_callB (call_len_seqK K rfl) (by rfl) T.len boot_len (pa_cons (pv 2) pa_nil)) pe_int) pa_nil)))) (pa_cons (pv 4) pa_nil))))) pss_nil)))))
      (pss_one (ps_ret (pv 2))))), ?_⟩
    have hl : ads.length = ts.length := by have := tp.len; rw [List.length_map] at this; exact this
    have lam : (ads.map V.ref).length = ads.length := List.length_map _
    have hw : ∀ {l : List Tie}, (∀ t ∈ l, TOk us t) → ∀ vs ∈ l.map tieV, ∀ v ∈ vs, Wd v := fun h vs hv => by
      obtain ⟨u, hu, rfl⟩ := List.mem_map.mp hv
      exact ((h u hu).ok.words nm).1
    refine ⟨by decide, fun q hq => ?_⟩
    have s1 := Same.new (o := .lst []) hq
    try dsimp only [gName]
    refine ⟨_, rfl, pt', _, rfl, .inl (s1.seq hp), ((ads.map V.ref).length : Int), rfl, by omega, by omega, for_range (lo := 0) (n := (ads.map V.ref).length) (fun n σ H' => ∃ (v3 v4 : Option V) (ads' : List Addr) (ts' : List Tie), σ = [some (.ref pt'), some (.int c), some (.ref q), v3, v4] ∧ Same H H' ∧ H' q = some (.lst (ads'.map V.ref)) ∧ Tups H' ads' (ts'.map tieV) ∧ (∀ t ∈ ts', TOk us t) ∧ ts'.length ≤ n ∧ ∀ y z, Nb ts' y z ↔ Nb (ts.take n) y z)
      ⟨none, none, [], [], rfl, s1, upd_same, .nil, by simp, Nat.le_refl _, fun y z => by rw [List.take_zero]⟩ ?_ ?_⟩
    · rintro n σ H2 hn ⟨v3, v4, ads', ts', rfl, q2, hq2, tp2, tok2, tl2, nb2⟩
      rw [lam] at hn
      have ea : ads[n]? = some ads[n] := List.getElem?_eq_getElem hn
      have et : ts[n]? = some ts[n] := List.getElem?_eq_getElem (by omega)
      have hr := paired_at tp ea (by rw [List.getElem?_map, et]; rfl)
      have tokn := tok _ (List.mem_of_getElem? et)
      generalize ads[n] = r at ea hr
      generalize ts[n] = t at et hr tokn
      have hr2 := q2 _ _ hr
      try dsimp only [gName]
      refine ⟨_, rfl, _, rfl, pt', _, _, .ref r, rfl, rfl, q2.seq hp, ?_, ?_⟩
      · rw [Int.zero_add]
        exact atI_nat (by rw [List.getElem?_map, ea]; rfl)
      try dsimp only
      unfold tSeq
      refine ifS_meet (fun σ' H' => ∃ (r' : Addr) (t' : Tie), σ' = [some (.ref pt'), some (.int c), some (.ref q), some (.int (0 + (n : Int))), some (.ref r')] ∧ Same H2 H' ∧ H' r' = some (.tup (tieV t')) ∧ TOk us t' ∧ (t.k = SAME → t'.k = SAME ∧ ((t'.a = t.a ∧ t'.b = t.b) ∨ (t'.a = t.b ∧ t'.b = t.a))) ∧ (t.k ≠ SAME → t'.k ≠ SAME))
        (decide (t.k = SAME) && decide (V.int ((c + (0 + (n : Int))) * 48271 % 65537 % 2) = V.int 1)) (fun Q' hQ => ?_) (fun cc hN => ?_) (fun cc hN => hN _ _ ⟨r, t, rfl, Same.refl _, hr2, tokn, fun h => ⟨h, .inl ⟨rfl, rfl⟩⟩, id⟩) ?_
      · refine ⟨_, rfl, r, _, _, _, rfl, rfl, SqT.of hr2, tieV_0 t, rfl, _, rfl, ?_⟩
        refine ite2 (fun c1 => ?_) (fun c1 => ?_)
        · have c1 : t.k = SAME := V.str.inj (of_decide_eq_true c1)
          rw [decide_eq_true c1, Bool.true_and] at hQ
          exact ⟨_, rfl, _, rfl, _, _, rfl, rfl, _, _, rfl, rfl, .inr ⟨by decide, by decide⟩, _, _, rfl, rfl, (by show (0:Int) < 65537; decide), _, _, rfl, rfl, (by show (0:Int) < 2; decide), rfl, _, rfl, hQ⟩
        · have c1 : ¬ t.k = SAME := fun w => c1 (decide_eq_true (congrArg V.str w))
          rw [decide_eq_false c1, Bool.false_and] at hQ
          exact hQ
      · rw [Bool.and_eq_true, decide_eq_true_iff] at cc
        obtain ⟨ck, _⟩ := cc
        refine ⟨_, rfl, r, _, _, _, rfl, rfl, SqT.of hr2, tieV_2 t, _, rfl, r, _, _, _, rfl, rfl, SqT.of hr2, tieV_1 t, (by show 3 ≤ sizeLine; decide), fun b0 hb0 => ?_⟩
        refine hN _ _ ⟨b0, ⟨SAME, t.b, t.a, none⟩, rfl, Same.new hb0, upd_same, ⟨TieOk.plain (show SAME ∈ KINDS by decide) tokn.b tokn.a, tokn.b, tokn.a⟩, fun _ => ⟨rfl, .inr ⟨rfl, rfl⟩⟩, fun h => absurd ck h⟩
      · rintro σ' H3 ⟨r', t', rfl, q3, hr3, tok', h1, h2⟩
        have hq3 := q3 _ _ hq2
        have tp3 := tp2.same q3
        have la : ads'.length = ts'.length := by have := tp3.len; rw [List.length_map] at this; exact this
        have lk := fun (y z : Str) => lk1_turn h1 h2 (y := y) (z := z)
        have stay : ∀ {x : Prop}, True := trivial
        have don : t'.k ≠ SAME ∨ t' ∈ ts' → ∀ y z, Nb ts' y z ↔ Nb (ts.take (n + 1)) y z := fun h y z => by
          rw [nb_step et, ← nb2, ← lk]
          constructor
          · exact .inl
          · rintro (w | w)
            · exact w
            · rcases h with h | h
              · exact absurd w.1 h
              · exact ⟨t', h, w⟩
        try dsimp only
        refine ifS_at (decide (t'.k = SAME) && !decide (tieV t' ∈ ts'.map tieV)) (fun Q' hQ => ?_) ?_
        · refine ⟨_, rfl, r', _, _, _, rfl, rfl, SqT.of hr3, tieV_0 t', rfl, _, rfl, ?_⟩
          refine ite2 (fun c1 => ?_) (fun c1 => ?_)
          · have c1 : t'.k = SAME := V.str.inj (of_decide_eq_true c1)
            rw [decide_eq_true c1, Bool.true_and] at hQ
            refine ⟨_, rfl, _, rfl, q, _, _, rfl, .inl (SqL.of hq3), tp3.deq (n := 7) (hw tok2) hr3 (tok'.ok.words nm).1, _, rfl, ?_⟩
            rw [if_pos rfl, tp3.anyE]
            exact hQ
          · have c1 : ¬ t'.k = SAME := fun w => c1 (decide_eq_true (congrArg V.str w))
            rw [decide_eq_false c1, Bool.false_and] at hQ
            exact hQ
        · refine ite2 (fun c1 => ?_) (fun c1 => ?_)
          · have lam' : (ads'.map V.ref).length = ads'.length := List.length_map _
            obtain ⟨b1, b2⟩ := pt_bd c (0 + (n : Int)) (((ads'.map V.ref).length : Int) + 1) (by omega)
            refine ⟨_, rfl, .inl ⟨rfl, _, SqL.of hq3⟩, _, rfl, _, rfl, _, rfl, q, _, rfl, .inl (SqL.of hq3), _, _, rfl, rfl, c, 0 + (n : Int), _, rfl, by omega, _, rfl, q, _, _, _, rfl, rfl, hq3, b1, by omega, by rw [lam']; exact small1000 (by omega), ?_⟩
            refine ⟨_, _, ads'.take (pt c (0 + (n : Int)) (((ads'.map V.ref).length : Int) + 1)).toNat ++ r' :: ads'.drop (pt c (0 + (n : Int)) (((ads'.map V.ref).length : Int) + 1)).toNat, ts'.take (pt c (0 + (n : Int)) (((ads'.map V.ref).length : Int) + 1)).toNat ++ t' :: ts'.drop (pt c (0 + (n : Int)) (((ads'.map V.ref).length : Int) + 1)).toNat, rfl, (q2.trans q3).upd hq, ?_, ?_, fun w hw' => ?_, ?_, fun y z => ?_⟩
            · rw [upd_same, List.map_append, List.map_cons, List.map_take, List.map_drop]
            · rw [List.map_append, List.map_cons, List.map_take, List.map_drop]
              exact tups_ins (tup_stay hq3 _ _ hr3) _ (tp3.stay (tup_stay hq3))
            · rcases List.mem_append.mp hw' with hw' | hw'
              · exact tok2 w (List.mem_of_mem_take hw')
              · rcases List.mem_cons.mp hw' with rfl | hw'
                · exact tok'
                · exact tok2 w (List.mem_of_mem_drop hw')
            · rw [List.length_append, List.length_cons, List.length_take, List.length_drop]
              omega
            · rw [nb_ins, nb_step et, nb2, lk]
          · refine ⟨_, _, ads', ts', rfl, q2.trans q3, hq3, tp3, tok2, by omega, don ?_⟩
            by_cases ck : t'.k = SAME
            · refine .inr (Classical.byContradiction fun nin => c1 ?_)
              rw [decide_eq_true ck, decide_eq_false (fun w => by
                obtain ⟨u, hu, e⟩ := List.mem_map.mp w
                exact nin (tieV_inj e ▸ hu))]
              rfl
            · exact .inl ck
    · rintro σ H2 ⟨v3, v4, ads', ts', rfl, q2, hq2, tp2, tok2, tl2, nb2⟩
      rw [lam, hl, List.take_length] at nb2
      exact ⟨_, rfl, k q ads' ts' _ q2 hq hq2 tp2 tok2 nb2⟩
def sp_listof : Sp := fun vs H Q _ => ∃ (pg : Addr) (as : List Addr) (gs : List (List Str)) (x : Str), vs = [.ref pg, .str x] ∧ H pg = some (.lst (as.map V.ref)) ∧ Lsts H as gs ∧ (∃ g ∈ gs, x ∈ g) ∧
  ∀ (i : Nat) (r : Addr) (g : List Str) (H' : Hp), Same H H' → as[i]? = some r → gs[i]? = some g → x ∈ g → Q (.ref r) H'
set_option maxHeartbeats 8000000 in
theorem h__law_list_of (T : Tx K mg w) : Has P w K mg base "_law_list_of" ["_law_groups", "_law_name"] 1 sp_listof := by
  refine T.d__law_list_of.has sc__law_list_of (fun vs H Q E h => ?_) (fun f cdv A outer s H vs Q E hr h => ?_)
  · obtain ⟨pg, as, gs, x, rfl, _⟩ := h; rfl
  · obtain ⟨pg, as, gs, x, rfl, hp, ls, hx, k⟩ := h
    refine ⟨_, (pss_cons (ps_for PassesOwn.never rfl (pi_listK K rfl (pv 0)) (pg_name (i := 2) sc__law_list_of.nd rfl (Or.inl rfl)) (pss_one (ps_if (pt_cmpR (op_in_seqK K rfl) (pv 1) (pv 2) (by with_unfolding_all rfl)) (pss_one (ps_ret (pv 2))) pss_nil)))
      (pss_one (ps_ret (pe_lst pa_nil)))), ?_⟩
    have la : as.length = gs.length := Paired.length ls
    refine ⟨_, rfl, pg, rfl, ⟨_, SqL.of hp⟩, for_list (xs := as.map V.ref) (fun i σ H' => ∃ (v2 : Option V), σ = [some (.ref pg), some (.str x), v2] ∧ Same H H' ∧ ∀ g ∈ gs.take i, x ∉ g)
      ⟨none, rfl, Same.refl _, by simp⟩ (fun i σ H' _ h => by obtain ⟨_, _, q, _⟩ := h; exact SqL.of (q _ _ hp)) ?_ ?_⟩
    · rintro i v σ H1 hx' ⟨v2, rfl, q1, no⟩
      obtain ⟨r, g, rfl, hg, har, hr⟩ := pairs_at ls hx'
      have hr1 := q1 _ _ hr
      try dsimp only [gName]
      refine ifS_at (decide (x ∈ g)) (fun Q' hQ => ?_) ?_
      · refine ⟨_, rfl, _, rfl, r, _, rfl, .inl (SqL.of hr1), rfl, ?_⟩
        refine ⟨by rw [List.all_map]; exact List.all_eq_true.mpr fun _ _ => rfl, _, rfl, ?_⟩
        rw [if_neg Bool.false_ne_true, inV_strs]
        exact hQ
      · refine ite2 (fun c => ?_) (fun c => ?_)
        · exact ⟨_, rfl, k i r g _ q1 har hg (of_decide_eq_true c)⟩
        · refine ⟨_, rfl, q1, fun g' hg' => ?_⟩
          rw [List.take_add_one, hg, List.mem_append] at hg'
          rcases hg' with hg' | hg'
          · exact no g' hg'
          · have : g' = g := by simpa using hg'
            rw [this]
            exact fun w => c (decide_eq_true w)
    · rintro σ H1 ⟨v2, rfl, q1, no⟩
      rw [List.length_map, la, List.take_length] at no
      obtain ⟨g, hg, hxg⟩ := hx
      exact absurd hxg (no g hg)
/-! ### the law -/
def kLaw : Nat := 5
def sp_law : Sp := fun vs H Q _ => ∃ (a : Addr) (ns : List Int), vs = [.ref a] ∧ SqL K H a (ns.map V.int) ∧ ns.length ≤ 63 ∧ ∀ H', Q (.bl true) H'
theorem strs_deq {H : Hp} {n : Nat} {xs : List Str} : ∀ x ∈ xs.map V.str, DEq K H n x x true := by
  intro x hx
  obtain ⟨s, _, rfl⟩ := List.mem_map.mp hx
  have := DEq.flat (K := K) (H := H) (n := n) (x := .str s) (y := .str s) rfl rfl
  rwa [eqV_refl rfl] at this
/-- two lists of lists, alike -/
theorem lsts_deq {H : Hp} {n : Nat} {p q : Addr} {as bs : List Addr} {gs : List (List Str)} (hp : SqL K H p (as.map V.ref)) (hq : SqL K H q (bs.map V.ref)) (la : Lsts H as gs) (lb : Lsts H bs gs) : DEq K H (n + 1 + 1) (.ref p) (.ref q) true := by
  have l1 : as.length = gs.length := Paired.length la
  have l2 : bs.length = gs.length := Paired.length lb
  have := DEq.lst (n := n + 1) (fun _ => true) hp hq (by rw [List.length_map, List.length_map, l1, l2]) fun i x y e1 e2 => by
    obtain ⟨r, g, rfl, eg, _, hr⟩ := pairs_at la e1
    obtain ⟨r', g', rfl, eg', _, hr'⟩ := pairs_at lb e2
    rw [eg] at eg'
    cases eg'
    exact DEq.sameL (SqL.of hr) (SqL.of hr') strs_deq
  rwa [show (List.range (as.map V.ref).length).all (fun _ => true) = true from List.all_eq_true.mpr fun _ _ => rfl] at this
theorem lsts_deqS {H : Hp} {n : Nat} {p q : Addr} {as bs : List Addr} {gs : List (List Str)} {hs : List (Str × List Str)} (hp : SqL K H p (as.map V.ref)) (hq : SqL K H q (bs.map V.ref)) (la : Lsts H as gs) (lb : Paired (fun a (g : Str × List Str) => SqL K H a ((g.1 :: g.2).map V.str)) bs hs) (e : hs.map (fun q => q.1 :: q.2) = gs) : DEq K H (n + 1 + 1) (.ref p) (.ref q) true := by
  have l1 : as.length = gs.length := Paired.length la
  have l2 : bs.length = hs.length := Paired.length lb
  have l3 : hs.length = gs.length := by rw [← e, List.length_map]
  have := DEq.lst (n := n + 1) (fun _ => true) hp hq (by rw [List.length_map, List.length_map]; omega) fun i x y e1 e2 => by
    obtain ⟨r, g, rfl, eg, _, hr⟩ := pairs_at la e1
    obtain ⟨r', g', rfl, eg', _, hr'⟩ := pairs_at lb e2
    rw [← e, List.getElem?_map, eg'] at eg
    cases eg
    exact DEq.sameL (SqL.of hr) hr' strs_deq
  rwa [show (List.range (as.map V.ref).length).all (fun _ => true) = true from List.all_eq_true.mpr fun _ _ => rfl] at this
def hdt (g : List Str) : Str × List Str := (g.headD "", g.tail)
theorem hdt_eq {g : List Str} (h : g ≠ []) : (hdt g).1 :: (hdt g).2 = g := by
  cases g with
  | nil => exact absurd rfl h
  | cons x r => rfl
theorem ones_heads {us : List Str} {ts : List Tie} (nd : us.Nodup) : (onesOf us ts).map (fun g => g.headD "") = keysOf ts (srt us) := by
  unfold onesOf
  rw [List.map_map]
  refine (List.map_congr_left fun k hk => ?_).trans (List.map_id _)
  obtain ⟨r, er⟩ := grp_head nd hk
  show (grpOf ts (srt us) k).headD "" = k
  rw [er]
  rfl
theorem ones_ne {us : List Str} {ts : List Tie} (nd : us.Nodup) {g : List Str} (h : g ∈ onesOf us ts) : g ≠ [] := by
  unfold onesOf at h
  obtain ⟨k, hk, rfl⟩ := List.mem_map.mp h
  obtain ⟨r, er⟩ := grp_head nd hk
  rw [er]
  exact List.cons_ne_nil _ _
theorem lsts_hdt {H : Hp} : ∀ {as : List Addr} {gs : List (List Str)}, Lsts H as gs → (∀ g ∈ gs, g ≠ []) → Paired (fun a (g : Str × List Str) => SqL K H a ((g.1 :: g.2).map V.str)) as (gs.map hdt)
  | _, _, .nil, _ => .nil
  | _, g :: _, .cons h t, n => .cons (by
      show SqL K H _ (((hdt g).1 :: (hdt g).2).map V.str)
      rw [hdt_eq (n _ (by simp))]
      exact SqL.of h) (lsts_hdt t fun z hz => n z (List.mem_cons_of_mem _ hz))
theorem paired_app {α β : Type} {F : α → β → Prop} : ∀ {as as' : List α} {bs bs' : List β}, Paired F as bs → Paired F as' bs' → Paired F (as ++ as') (bs ++ bs')
  | _, _, _, _, .nil, h => h
  | _, _, _, _, .cons h t, h' => .cons h (paired_app t h')
/-- the heads of the lists left and of the joined one differ -/
theorem rest_heads {us : List Str} {ts : List Tie} (nd : us.Nodup) {lf ls : Str} {jo : List Str} (hne : jo ≠ []) (jm : ∀ x ∈ jo, labs ts x = lf ∨ labs ts x = ls) (p : List Str → Bool) (hp : ∀ g, p g = true → g ≠ grpOf ts (srt us) lf ∧ g ≠ grpOf ts (srt us) ls) :
    (((((onesOf us ts).filter p) ++ [jo]).map hdt).map Prod.fst).Nodup := by
  rw [List.map_map, List.map_append, List.map_cons, List.map_nil]
  show (((onesOf us ts).filter p).map (fun g => g.headD "") ++ [jo.headD ""]).Nodup
  rw [List.nodup_append]
  refine ⟨?_, by simp, ?_⟩
  · have s : (((onesOf us ts).filter p).map (fun g => g.headD "")).Sublist ((onesOf us ts).map fun g => g.headD "") := (List.filter_sublist ..).map _
    rw [ones_heads nd] at s
    exact (keys_nodup nd).sublist s
  · intro x hx y hy e
    have hy : y = jo.headD "" := by simpa using hy
    obtain ⟨g, hg, rfl⟩ := List.mem_map.mp hx
    obtain ⟨hg1, hg2⟩ := List.mem_filter.mp hg
    unfold onesOf at hg1
    obtain ⟨k, hk, rfl⟩ := List.mem_map.mp hg1
    obtain ⟨r, er⟩ := grp_head nd hk
    have hk2 := (keys_mem.mp hk).2
    have : k ∈ jo := by
      rw [er] at e
      have e2 : k = jo.headD "" := by rw [← hy, ← e]; rfl
      cases jo with
      | nil => exact absurd rfl hne
      | cons z zs => rw [e2]; exact List.mem_cons_self ..
    have h3 := hp _ hg2
    rcases jm k this with w | w
    · exact h3.1 (by rw [← w, hk2])
    · exact h3.2 (by rw [← w, hk2])
set_option maxHeartbeats 8000000 in
theorem h_law (T : Tx K mg w) : Has P w K mg base "law" ["_law_script"] kLaw (sp_law (K := K)) := by
  refine T.d_law.has sc_law (fun vs H Q E h => ?_) (fun f cdv A outer s H vs Q E hr h => ?_)
  · obtain ⟨a, ns, rfl, _⟩ := h; rfl
  · obtain ⟨a, ns, rfl, ha, hl, k⟩ := h
    refine ⟨_, (pss_cons (ps_set (i := 1) sc_law.nd rfl (Or.inl rfl) (pe_fn (h__law_units T) (hr.mono (by decide)) (by rfl) (pa_cons (pv 0) pa_nil)))
      (pss_cons (ps_set (i := 2) sc_law.nd rfl (Or.inr rfl) (pe_fn (h__law_ties T) (hr.mono (by decide)) (by rfl) (pa_cons (pv 1) (pa_cons (pe_slice (sl_listK K rfl) (pv 0) (po_some pe_int) (po_some pe_int)) pa_nil))))
      (pss_cons (ps_set (i := 3) sc_law.nd rfl (Or.inl rfl) (pe_fn (h__law_cell_at T) (hr.mono (by decide)) (by rfl) (pa_cons (pv 0) (pa_cons pe_int pa_nil))))
      (pss_cons (ps_set (i := 4) sc_law.nd rfl (Or.inl rfl) (pe_fn (h__law_turned T) (hr.mono (by decide)) (by rfl) (pa_cons (pv 1) (pa_cons (pv 3) pa_nil))))
      (pss_cons (ps_set (i := 5) sc_law.nd rfl (Or.inl rfl) (pe_fn (h__law_other_ties T) (hr.mono (by decide)) (by rfl) (pa_cons (pv 2) (pa_cons (pv 3) pa_nil))))
      (pss_cons (ps_set (i := 6) sc_law.nd rfl (Or.inl rfl) (pe_fn (h_ones T) (hr.mono (by decide)) (by rfl) (pa_cons (pe_callTy (call_list_ofK K rfl) (by rfl) T.list PyProof.Rows.boot_list (pa_cons (pv 1) pa_nil)) (pa_cons (pe_callTy (call_list_ofK K rfl) (by rfl) T.list PyProof.Rows.boot_list (pa_cons (pv 2) pa_nil)) pa_nil))))
      (pss_cons (ps_if (pt_cmpR (op_neDK K rfl (hu10 hr)) (pe_fn (h_ones T) (hr.mono (by decide)) (by rfl) (pa_cons (pe_callTy (call_list_ofK K rfl) (by rfl) T.list PyProof.Rows.boot_list (pa_cons (pv 4) pa_nil)) (pa_cons (pe_callTy (call_list_ofK K rfl) (by rfl) T.list PyProof.Rows.boot_list (pa_cons (pv 5) pa_nil)) pa_nil))) (pv 6) (nomark _)) (pss_one (ps_ret pe_bl)) pss_nil)
      (pss_cons (ps_for PassesOwn.never rfl (pi_listK K rfl (pv 1)) (pg_name (i := 7) sc_law.nd rfl (Or.inl rfl)) (pss_cons (ps_set (i := 8) sc_law.nd rfl (Or.inl rfl) (pe_fn (h__law_list_of T) (hr.mono (by decide)) (by rfl) (pa_cons (pv 6) (pa_cons (pv 7) pa_nil))))
        (pss_cons (ps_if (PW.pt (pw_or (pt_cmpR (op_eqDK K rfl (hu10 hr)) (pv 8) (pe_lst pa_nil) (nomark _)) (pw_or1 (pt_cmpR op_ne (pe_fn (h_one_of T) (hr.mono (by decide)) (by rfl) (pa_cons (pe_callTy (call_list_ofK K rfl) (by rfl) T.list PyProof.Rows.boot_list (pa_cons (pv 1) pa_nil)) (pa_cons (pe_callTy (call_list_ofK K rfl) (by rfl) T.list PyProof.Rows.boot_list (pa_cons (pv 2) pa_nil)) (pa_cons (pv 7) pa_nil)))) (pe_ix (ix_listK K rfl) (pv 8) pe_int (fun _ _ => rfl)) (nomark _))))) (pss_one (ps_ret pe_bl)) pss_nil)
        (pss_one (ps_if (pt_cmpR op_ne (pe_fn (h_one_of T) (hr.mono (by decide)) (by rfl) (pa_cons (pe_callTy (call_list_ofK K rfl) (by rfl) T.list PyProof.Rows.boot_list (pa_cons (pv 4) pa_nil)) (pa_cons (pe_callTy (call_list_ofK K rfl) (by rfl) T.list PyProof.Rows.boot_list (pa_cons (pv 5) pa_nil)) (pa_cons (pv 7) pa_nil)))) (pe_ix (ix_listK K rfl) (pv 8) pe_int (fun _ _ => rfl)) (nomark _)) (pss_one (ps_ret pe_bl)) pss_nil)))))
      (pss_cons (ps_set (i := 9) sc_law.nd rfl (Or.inl rfl) (pe_ix (ix_listK K rfl) (pv 1) (pe_fn (h__law_part T) (hr.mono (by decide)) (by rfl) (pa_cons (pv 3) (pa_cons pe_int (pa_cons (pe_callB (call_len_seqK K rfl) (by rfl) T.len boot_len (pa_cons (pv 1) pa_nil)) pa_nil)))) (fun _ _ => rfl)))
      (pss_cons (ps_set (i := 10) sc_law.nd rfl (Or.inl rfl) (pe_ix (ix_listK K rfl) (pv 1) (pe_fn (h__law_part T) (hr.mono (by decide)) (by rfl) (pa_cons (pv 3) (pa_cons pe_int (pa_cons (pe_callB (call_len_seqK K rfl) (by rfl) T.len boot_len (pa_cons (pv 1) pa_nil)) pa_nil)))) (fun _ _ => rfl)))
      (pss_cons (ps_set (i := 11) sc_law.nd rfl (Or.inr rfl) (pe_fn (h__law_list_of T) (hr.mono (by decide)) (by rfl) (pa_cons (pv 6) (pa_cons (pv 9) pa_nil))))
      (pss_cons (ps_set (i := 12) sc_law.nd rfl (Or.inr rfl) (pe_fn (h__law_list_of T) (hr.mono (by decide)) (by rfl) (pa_cons (pv 6) (pa_cons (pv 10) pa_nil))))
      (pss_cons (ps_setC (i := 13) (own := ["_law_group"]) (cap := ["_law_here", "_law_there"]) (ix := [11, 12]) (osc := defScope (top 14)) rfl sc_law.nd rfl rfl rfl ⟨rfl, by decide +kernel, by decide +kernel, by decide +kernel, by decide +kernel⟩ rfl (pi_listK K rfl (pv 6)) (fun _ _ _ _ => pg_name (i := 0) (show List.Nodup (["_law_group", "_law_here", "_law_there"] : List Str) by decide +kernel) rfl (Or.inl rfl)) (fun _ _ _ _ => pif_one (PW.pt (pw_and (pt_cmpR (op_neDK K rfl (hu10 hr)) (pv 0) (pv 1) (nomark _)) (pw_and1 (pt_cmpR (op_neDK K rfl (hu10 hr)) (pv 0) (pv 2) (nomark _)))))) (fun _ _ _ _ => (pv 0)))
      (pss_cons (ps_set (i := 14) sc_law.nd rfl (Or.inl rfl) (pe_callB (call_sortedSet (P := P) (w := w) rfl rfl rfl) (by rfl) T.sorted PyProof.Rows.boot_sorted (pa_cons (pe_callTy (call_setS (P := P) (w := w) (K := K) rfl rfl rfl rfl) (by rfl) T.set PyProof.Rows.boot_set (pa_cons (pe_op op_cat (pv 11) (pv 12)) pa_nil)) pa_nil)))
      (pss_cons (ps_setC (i := 15) (own := ["_law_tie"]) (cap := ["_law_ties_here"]) (ix := [2]) (osc := defScope (top 14)) rfl sc_law.nd rfl rfl rfl ⟨rfl, by decide +kernel, by decide +kernel, by decide +kernel, by decide +kernel⟩ rfl (pi_listK K rfl (pe_lst (pa_cons (pe_tup (pa_cons pe_str (pa_cons (pv 9) (pa_cons (pv 10) pa_nil)))) pa_nil))) (fun _ _ _ _ => pg_name (i := 0) (show List.Nodup (["_law_tie", "_law_ties_here"] : List Str) by decide +kernel) rfl (Or.inl rfl)) (fun _ _ _ _ => pif_one (pt_cmpR (op_notInDK K rfl (hu11 hr)) (pv 0) (pv 1) (by with_unfolding_all rfl))) (fun _ _ _ _ => (pv 0)))
      (pss_one (ps_ret (pe_cmpR (op_eqDK K rfl (hu10 hr)) (pe_fn (h_ones T) (hr.mono (by decide)) (by rfl) (pa_cons (pe_callTy (call_list_ofK K rfl) (by rfl) T.list PyProof.Rows.boot_list (pa_cons (pv 4) pa_nil)) (pa_cons (pe_op op_cat (pe_callTy (call_list_ofK K rfl) (by rfl) T.list PyProof.Rows.boot_list (pa_cons (pv 2) pa_nil)) (pv 15)) pa_nil))) (pe_callB (call_sortedL (K := K) rfl (Nat.lt_trans (Nat.add_lt_add_left (by decide : 2 < 9) _) (hu10 hr))) (by rfl) T.sorted PyProof.Rows.boot_sorted (pa_cons (pe_op op_cat (pv 13) (pe_lst (pa_cons (pv 14) pa_nil))) pa_nil)) (nomark _))))))))))))))))))), ?_⟩
    refine ⟨_, rfl, a, ns, rfl, ha, fun pu us H0 nd nm l1 l2 fpu hpu s0 => ?_⟩
    try dsimp only [gName]
    obtain ⟨cs, ec, lc⟩ := cutV_ints ns (some 4) (some 63)
    refine ⟨_, rfl, _, rfl, _, rfl, _, rfl, a, _, rfl, s0.seq ha, fun pc hpc => ?_⟩
    rw [ec]
    have s2 := Same.new (o := .lst (cs.map V.int)) hpc
    refine ⟨pu, pc, us, cs, rfl, SqL.of (s2 _ _ hpu), SqL.of upd_same, by omega, nm, by omega, fun pt ads ts H3 tok tl fpt hpt tp s3 => ?_⟩
    have hpu3 := s3 _ _ (s2 _ _ hpu)
    have hts : ∀ t ∈ ts, t.a ∈ us ∧ t.b ∈ us := fun t ht => ⟨(tok t ht).a, (tok t ht).b⟩
    have hw : ∀ vs ∈ ts.map tieV, ∀ v ∈ vs, Wd v := fun vs hv => by
      obtain ⟨u, hu, rfl⟩ := List.mem_map.mp hv
      exact ((tok u hu).ok.words nm).1
    have ha3 := (s0.trans (s2.trans s3)).seq ha
    try dsimp only [gName]
    refine ⟨_, rfl, a, ns, _, rfl, ha3, by decide, ?_⟩
    try dsimp only [gName]
    generalize cellI ns 3 = c
    refine ⟨_, rfl, _, rfl, pu, us, c, rfl, SqL.of hpu3, by omega, fun pw ws H4 pm fpw hpw s4 => ?_⟩
    try dsimp only [gName]
    refine ⟨_, rfl, _, rfl, pt, us, ads, ts, c, rfl, SqL.of (s4 _ _ hpt), tp.same s4, tok, nm, by omega, fun po oads os H5 s5 fpo hpo tpo oko nbo => ?_⟩
    have ndw := pm.nodup_iff.mpr nd
    have lw := pm.length_eq
    have htsw : ∀ t ∈ ts, t.a ∈ ws ∧ t.b ∈ ws := fun t ht => ⟨pm.mem_iff.mpr (hts t ht).1, pm.mem_iff.mpr (hts t ht).2⟩
    have htso : ∀ t ∈ os, t.a ∈ ws ∧ t.b ∈ ws := fun t ht => ⟨pm.mem_iff.mpr (oko t ht).a, pm.mem_iff.mpr (oko t ht).b⟩
    have hpu5 := s5 _ _ (s4 _ _ hpu3)
    have hpt5 := s5 _ _ (s4 _ _ hpt)
    have hpw5 := s5 _ _ hpw
    have tp5 := tp.same (s4.trans s5)
    have labo : ∀ x, labs os x = labs ts x := fun x => by rw [labs_same nbo]
    try dsimp only [gName]
    -- the groups
    refine ⟨_, rfl, pu, _, rfl, .inl (SqL.of hpu5), fun b1 hb1 => ?_⟩
    have t1 := Same.new (o := .lst (us.map V.str)) hb1
    refine ⟨_, rfl, pt, _, rfl, .inl (SqL.of (t1 _ _ hpt5)), fun b2 hb2 => ?_⟩
    have t2 := Same.new (o := .lst (ads.map V.ref)) hb2
    refine ⟨b1, b2, us, ads, ts, rfl, SqL.of (t2 _ _ upd_same), SqL.of upd_same, tp5.same (t1.trans t2), nd, by omega, hts, fun pg as H6 fpg fas npg nas hpg ls s6 => ?_⟩
    have lal : as.length = (onesOf us ts).length := Paired.length ls
    have onl := ones_len (ts := ts) nd
    have q56 := (t1.trans t2).trans s6
    have hpu6 := q56 _ _ hpu5
    have hpt6 := q56 _ _ hpt5
    have hpw6 := q56 _ _ hpw5
    have hpo6 := q56 _ _ hpo
    have tp6 := tp5.same q56
    have tpo6 := tpo.same q56
    try dsimp only [gName]
    clear hb1 hb2 t1 t2 s6 q56
    refine ifS_same false (fun Q' hQ => ?_) (fun H8 s8 => iteF ?_)
    · refine ⟨_, rfl, pw, _, rfl, .inl (SqL.of hpw6), fun b1 hb1 => ?_⟩
      have t1 := Same.new (o := .lst (ws.map V.str)) hb1
      refine ⟨_, rfl, po, _, rfl, .inl (SqL.of (t1 _ _ hpo6)), fun b2 hb2 => ?_⟩
      have t2 := Same.new (o := .lst (oads.map V.ref)) hb2
      refine ⟨b1, b2, ws, oads, os, rfl, SqL.of (t2 _ _ upd_same), SqL.of upd_same, tpo6.same (t1.trans t2), ndw, by omega, htso, fun px es H7 _ _ _ _ hpx lx s7 => ?_⟩
      rw [ones_turn pm nbo] at lx
      have q67 := (t1.trans t2).trans s7
      exact ⟨_, rfl, px, pg, true, rfl, rfl, lsts_deq (n := 6) (SqL.of hpx) (SqL.of (q67 _ _ hpg)) lx (Lsts.same q67 ls), _, rfl, hQ _ q67⟩
    have hpu8 := s8 _ _ hpu6
    have hpt8 := s8 _ _ hpt6
    have hpw8 := s8 _ _ hpw6
    have hpo8 := s8 _ _ hpo6
    have tp8 := tp6.same s8
    have tpo8 := tpo6.same s8
    have hpg8 := s8 _ _ hpg
    have ls8 := Lsts.same s8 ls
    unfold tNext
    dsimp only
    refine ⟨_, rfl, pu, rfl, ⟨_, SqL.of hpu8⟩, for_list (xs := us.map V.str) (fun i σ H' => ∃ (v7 v8 : Option V), σ = [some (.ref a), some (.ref pu), some (.ref pt), some (.int c), some (.ref pw), some (.ref po), some (.ref pg), v7, v8, none, none, none, none, none, none, none] ∧ Same H8 H')
      ⟨none, none, rfl, Same.refl _⟩ (fun i σ H' _ h => by obtain ⟨_, _, _, q⟩ := h; exact SqL.of (q _ _ hpu8)) ?_ ?_⟩
    · rintro i v σ H9 hx ⟨v7, v8, rfl, q9⟩
      obtain ⟨x, hxu, rfl⟩ : ∃ x ∈ us, v = .str x := by
        rw [List.getElem?_map] at hx
        cases e : us[i]? with
        | none => rw [e] at hx; cases hx
        | some y => rw [e] at hx; cases hx; exact ⟨y, List.mem_of_getElem? e, rfl⟩
      try dsimp only [gName]
      refine ⟨_, rfl, _, rfl, pg, as, onesOf us ts, x, rfl, q9 _ _ hpg8, Lsts.same q9 ls8, ones_has hts hxu, fun j r g H10 s10 har hg hxg => ?_⟩
      have hr : H8 r = some (.lst (g.map V.str)) := paired_at ls8 har hg
      obtain ⟨_, hk, eg⟩ := ones_in (List.mem_of_getElem? hg) hxg
      obtain ⟨gr, egr⟩ := grp_head nd hk
      rw [eg, egr] at hr
      have q10 := q9.trans s10
      try dsimp only [gName]
      refine ifS_same false (fun Q' hQ => ?_) (fun H11 s11 => iteF ?_)
      · refine ⟨_, rfl, by decide, fun pe hpe => ?_⟩
        have te := Same.new (o := .lst []) hpe
        refine ⟨r, pe, _, rfl, rfl, DEq.nilL (SqL.of (te _ _ (q10 _ _ hr))) (SqL.of upd_same), _, rfl, ?_⟩
        rw [show decide (List.map V.str (labs ts x :: gr) = []) = false from decide_eq_false (by simp)]
        refine iteF ?_
        have hpu' := te _ _ (q10 _ _ hpu8)
        have hpt' := te _ _ (q10 _ _ hpt8)
        refine ⟨_, rfl, pu, _, rfl, .inl (SqL.of hpu'), fun b1 hb1 => ?_⟩
        have t1 := Same.new (o := .lst (us.map V.str)) hb1
        refine ⟨_, rfl, pt, _, rfl, .inl (SqL.of (t1 _ _ hpt')), fun b2 hb2 => ?_⟩
        have t2 := Same.new (o := .lst (ads.map V.ref)) hb2
        have qq := (te.trans t1).trans t2
        refine ⟨_, rfl, b1, b2, us, ads, ts, x, rfl, SqL.of (t2 _ _ upd_same), SqL.of upd_same, tp8.same (q10.trans qq), nd, by omega, hts, hxu, fun H12 s12 => ?_⟩
        refine ⟨_, rfl, r, _, _, .str (labs ts x), rfl, rfl, SqL.of (s12 _ _ (qq _ _ (q10 _ _ hr))), atI_0, ?_⟩
        exact ⟨rfl, _, rfl, by rw [decide_eq_true rfl]; exact hQ _ (qq.trans s12)⟩
      · have q11 := q10.trans s11
        try unfold tNext
        try dsimp only
        refine ifS_same false (fun Q' hQ => ?_) (fun H12 s12 => iteF ?_)
        · have hpw' := q11 _ _ hpw8
          have hpo' := q11 _ _ hpo8
          refine ⟨_, rfl, pw, _, rfl, .inl (SqL.of hpw'), fun b1 hb1 => ?_⟩
          have t1 := Same.new (o := .lst (ws.map V.str)) hb1
          refine ⟨_, rfl, po, _, rfl, .inl (SqL.of (t1 _ _ hpo')), fun b2 hb2 => ?_⟩
          have t2 := Same.new (o := .lst (oads.map V.ref)) hb2
          have qq := t1.trans t2
          refine ⟨_, rfl, b1, b2, ws, oads, os, x, rfl, SqL.of (t2 _ _ upd_same), SqL.of upd_same, tpo8.same (q11.trans qq), ndw, by omega, htso, pm.mem_iff.mpr hxu, fun H13 s13 => ?_⟩
          rw [labo]
          refine ⟨_, rfl, r, _, _, .str (labs ts x), rfl, rfl, SqL.of (s13 _ _ (qq _ _ (q11 _ _ hr))), atI_0, ?_⟩
          exact ⟨rfl, _, rfl, by rw [decide_eq_true rfl]; exact hQ _ (qq.trans s13)⟩
        · exact ⟨_, _, rfl, q11.trans s12⟩
    · rintro σ H9 ⟨v7, v8, rfl, q9⟩
      try unfold tNext
      try dsimp only
      have hpu9 := q9 _ _ hpu8
      have hpg9 := q9 _ _ hpg8
      have ls9 := Lsts.same q9 ls8
      have lu : (us.map V.str).length = us.length := List.length_map _
      have hn : (0 : Int) < (us.length : Int) := by omega
      refine ⟨_, rfl, _, rfl, _, rfl, pu, _, rfl, .inl (SqL.of hpu9), ?_⟩
      rw [lu]
      refine ⟨_, _, _, rfl, hn, ?_⟩
      obtain ⟨f, hf, ef⟩ := at_strs (pt_bd c 20 _ hn).1 (pt_bd c 20 _ hn).2
      refine ⟨pu, _, _, _, rfl, rfl, SqL.of hpu9, ef, ?_⟩
      try dsimp only [gName]
      refine ⟨_, rfl, _, rfl, _, rfl, pu, _, rfl, .inl (SqL.of hpu9), ?_⟩
      rw [lu]
      refine ⟨_, _, _, rfl, hn, ?_⟩
      obtain ⟨e, he, ee⟩ := at_strs (pt_bd c 21 _ hn).1 (pt_bd c 21 _ hn).2
      refine ⟨pu, _, _, _, rfl, rfl, SqL.of hpu9, ee, ?_⟩
      try dsimp only [gName]
      refine ⟨_, rfl, _, rfl, pg, as, onesOf us ts, f, rfl, hpg9, ls9, ones_has hts hf, fun j1 r1 g1 H10 s10 har1 hg1 hfg => ?_⟩
      obtain ⟨_, hk1, eg1⟩ := ones_in (List.mem_of_getElem? hg1) hfg
      have hr1 : H9 r1 = some (.lst (g1.map V.str)) := paired_at ls9 har1 hg1
      try dsimp only [gName]
      refine ⟨_, rfl, _, rfl, pg, as, onesOf us ts, e, rfl, s10 _ _ hpg9, Lsts.same s10 ls9, ones_has hts he, fun j2 r2 g2 H11 s11 har2 hg2 heg => ?_⟩
      obtain ⟨_, hk2, eg2⟩ := ones_in (List.mem_of_getElem? hg2) heg
      have hr2 : H9 r2 = some (.lst (g2.map V.str)) := paired_at ls9 har2 hg2
      have q11 := s10.trans s11
      have hpg11 := q11 _ _ hpg9
      have ls11 := Lsts.same q11 ls9
      have gl1 : g1.length ≤ us.length := by
        rw [eg1]; unfold grpOf
        exact Nat.le_trans (List.length_filter_le _ _) (Nat.le_of_eq (srt_perm us).length_eq)
      have gl2 : g2.length ≤ us.length := by
        rw [eg2]; unfold grpOf
        exact Nat.le_trans (List.length_filter_le _ _) (Nat.le_of_eq (srt_perm us).length_eq)
      try dsimp only [gName]
      -- the lists left
      refine ⟨_, rfl, pg, rfl, ⟨_, SqL.of hpg11⟩, fun D hDn => ?_⟩
      refine comp_gen (fix_list (K := K) (a := pg) (xs := as.map V.ref)) (fun i σ' ys H' => ∃ (w0 : Option V) (es : List Addr), σ' = [w0, some (.ref r1), some (.ref r2)] ∧ ys = es.map V.ref ∧ Lsts H11 es (((onesOf us ts).take i).filter fun z => !decide (z = g1) && !decide (z = g2)) ∧ Same H11 H' ∧ H' D = some (.lst ys))
        ⟨none, [], rfl, rfl, .nil, Same.new hDn, upd_same⟩ (fun i σ' ys H' h => ?_) (by rw [List.length_map]; exact le_line (by omega)) ?_ ?_
      · obtain ⟨_, es, _, rfl, te, q, hd⟩ := h
        refine ⟨SqL.of (q _ _ hpg11), hd, ?_⟩
        have h1 := Paired.length te
        have h2 := List.length_filter_le (fun z => !decide (z = g1) && !decide (z = g2)) ((onesOf us ts).take i)
        rw [List.length_take] at h2
        rw [List.length_map]
        omega
      · rintro i v σ' ys H' hx ⟨w0, es, rfl, rfl, te, q, hd⟩
        have hix := get_lt hx
        obtain ⟨b1, z, rfl, hz, _, hb1⟩ := pairs_at ls11 hx
        have hb1' := q _ _ hb1
        have hr1' := q _ _ (q11 _ _ hr1)
        have hr2' := q _ _ (q11 _ _ hr2)
        have step : ((onesOf us ts).take (i + 1)).filter (fun z => !decide (z = g1) && !decide (z = g2)) = ((onesOf us ts).take i).filter (fun z => !decide (z = g1) && !decide (z = g2)) ++ [z].filter (fun z => !decide (z = g1) && !decide (z = g2)) := by
          rw [List.take_add_one, hz, List.filter_append]; rfl
        have no : (!decide (z = g1) && !decide (z = g2)) = false → [z].filter (fun z => !decide (z = g1) && !decide (z = g2)) = [] := fun h => by
          rw [List.filter_cons, h]; rfl
        try dsimp only [gName]
        refine ⟨_, rfl, _, rfl, b1, r1, _, rfl, rfl, deq_strs (n := 7) (SqL.of hb1') (SqL.of hr1'), _, rfl, ?_⟩
        refine ite2 (fun c1 => ?_) (fun c1 => ?_)
        · refine ⟨_, rfl, _, rfl, b1, r2, _, rfl, rfl, deq_strs (n := 7) (SqL.of hb1') (SqL.of hr2'), _, rfl, ?_⟩
          refine ite2 (fun c2 => ?_) (fun c2 => ?_)
          · refine ⟨_, rfl, hd, cstep hix ⟨_, es ++ [b1], rfl, by rw [List.map_append]; rfl, ?_, q.upd hDn, upd_same⟩⟩
            rw [step, List.filter_cons, c1, c2]
            exact Paired.snoc te hb1
          · refine ⟨hd, cstep hix ⟨_, es, rfl, rfl, ?_, q, hd⟩⟩
            rw [step, no (by rw [Bool.eq_false_iff.mpr c2, Bool.and_false]), List.append_nil]
            exact te
        · refine ⟨hd, cstep hix ⟨_, es, rfl, rfl, ?_, q, hd⟩⟩
          rw [step, no (by rw [Bool.eq_false_iff.mpr c1, Bool.false_and]), List.append_nil]
          exact te
      rintro σ' ys H12 ⟨w0, es, rfl, rfl, te, s12, hD12⟩
      rw [List.length_map, lal, List.take_length] at te
      have q12 := q11.trans s12
      try dsimp only [gName]
      -- the joined list
      refine ⟨_, rfl, _, rfl, r1, r2, _, _, rfl, rfl, q12 _ _ hr1, q12 _ _ hr2, by rw [List.length_map, List.length_map]; exact le_line (by omega), fun pj hpj => ?_⟩
      rw [← List.map_append]
      have u1 := Same.new (o := .lst ((g1 ++ g2).map V.str)) hpj
      refine ⟨pj, g1 ++ g2, rfl, SqL.of upd_same, by rw [List.length_append]; omega, fun E ds hE dnd dmem dlen => ?_⟩
      rw [List.length_append] at dlen
      refine ⟨E, ds, rfl, upd_same, dnd, by omega, fun pjo jo hpjo jperm jpw => ?_⟩
      have u2 := Same.new (o := setO P w E ds) hE
      have u3 := Same.new (o := .lst (jo.map V.str)) hpjo
      have q13 := (u1.trans u2).trans u3
      have ejo := srt_eq jperm jpw
      have jlt : jo.Pairwise (fun a b => co a < co b) := by rw [ejo]; exact srt_lt dnd
      have jm : ∀ x, x ∈ jo ↔ x ∈ us ∧ (labs ts x = labs ts f ∨ labs ts x = labs ts e) := fun x => by
        rw [jperm.mem_iff, dmem, List.mem_append, eg1, eg2, grp_mem, grp_mem]
        constructor
        · rintro (⟨h1, h2⟩ | ⟨h1, h2⟩)
          · exact ⟨h1, .inl h2⟩
          · exact ⟨h1, .inr h2⟩
        · rintro ⟨h1, h2 | h2⟩
          · exact .inl ⟨h1, h2⟩
          · exact .inr ⟨h1, h2⟩
      have jne : jo ≠ [] := fun z => by
        have := (jm f).mpr ⟨hf, .inl rfl⟩
        rw [z] at this
        cases this
      have hjo : upd (upd (upd H12 pj (.lst ((g1 ++ g2).map V.str))) E (setO P w E ds)) pjo (.lst (jo.map V.str)) pjo = some (.lst (jo.map V.str)) := upd_same
      generalize upd (upd (upd H12 pj (.lst ((g1 ++ g2).map V.str))) E (setO P w E ds)) pjo (.lst (jo.map V.str)) = H13 at q13 hjo
      have r13 := (q9.trans q12).trans q13
      have hpt13 := r13 _ _ hpt8
      have hpw13 := r13 _ _ hpw8
      have tp13 := tp8.same r13
      have hD13 := q13 _ _ hD12
      have te13 := Lsts.same (s12.trans q13) te
      clear u1 u2 u3
      try dsimp only [gName]
      -- the tie added
      refine ⟨_, rfl, _, rfl, (by show 3 ≤ sizeLine; decide), fun b0 hb0 => ?_⟩
      refine ⟨(by show 1 ≤ sizeLine; decide), fun l0 hl0 => ?_⟩
      have tok0 : TOk us ⟨SAME, f, e, none⟩ := ⟨TieOk.plain (show SAME ∈ KINDS by decide) hf he, hf, he⟩
      have u1 := Same.new (o := .tup [V.str (Str.ofString "same"), V.str f, V.str e]) hb0
      have u2 := Same.new (o := .lst [.ref b0]) hl0
      have q14 := u1.trans u2
      have hb14 : upd (upd H13 b0 (.tup [V.str (Str.ofString "same"), V.str f, V.str e])) l0 (.lst [.ref b0]) b0 = some (.tup (tieV ⟨SAME, f, e, none⟩)) := u2 _ _ upd_same
      have hl14 : upd (upd H13 b0 (.tup [V.str (Str.ofString "same"), V.str f, V.str e])) l0 (.lst [.ref b0]) l0 = some (.lst [.ref b0]) := upd_same
      refine ⟨l0, rfl, ⟨_, SqL.of hl14⟩, fun D2 hD2 => ?_⟩
      generalize hH14 : upd (upd H13 b0 (.tup [V.str (Str.ofString "same"), V.str f, V.str e])) l0 (.lst [.ref b0]) = H14 at hb14 hl14 q14 hD2 ⊢
      have hJ' : ∀ add : List Tie, (tieV ⟨SAME, f, e, none⟩ ∈ ts.map tieV ∧ add = []) ∨ add = [⟨SAME, f, e, none⟩] → labs (ts ++ add) = jn (labs ts) (labs ts f) (labs ts e) := fun add h => labs_more (t := ⟨SAME, f, e, none⟩) rfl (h.imp (fun ⟨h1, h2⟩ => ⟨by
        obtain ⟨u, hu, eu⟩ := List.mem_map.mp h1
        exact tieV_inj eu ▸ hu, h2⟩) id)
      have htok0 := tok0
      generalize ht0 : (⟨SAME, f, e, none⟩ : Tie) = t0 at hb14 htok0 hJ'
      refine comp_gen (fix_list (K := K) (a := l0) (xs := [V.ref b0])) (fun i σ' ys H' => ∃ (w0 : Option V), σ' = [w0, some (.ref pt)] ∧ ys = ([V.ref b0].take i).filter (fun _ => !decide (tieV t0 ∈ ts.map tieV)) ∧ Same H14 H' ∧ H' D2 = some (.lst ys))
        ⟨none, rfl, rfl, Same.new hD2, upd_same⟩ (fun i σ' ys H' h => ?_) (by show 1 ≤ sizeLine; decide) ?_ ?_
      · obtain ⟨_, _, rfl, q, hd⟩ := h
        refine ⟨SqL.of (q _ _ hl14), hd, ?_⟩
        exact Nat.le_trans (List.length_filter_le _ _) (by rw [List.length_take]; omega)
      · rintro i v σ' ys H' hx ⟨w0, rfl, rfl, q, hd⟩
        have hix := get_lt hx
        have i0 : i = 0 := by
          have : i < 1 := hix
          omega
        subst i0
        cases hx
        have tpq := tp13.same (q14.trans q)
        try dsimp only [gName]
        refine ⟨_, rfl, _, rfl, pt, _, _, rfl, .inl (SqL.of (q _ _ (q14 _ _ hpt13))), tpq.deq (n := 7) hw (q _ _ hb14) (htok0.ok.words nm).1, _, rfl, ?_⟩
        rw [if_pos rfl, tpq.anyE]
        refine ite2 (fun c1 => ?_) (fun c1 => ?_)
        · refine ⟨_, rfl, hd, cstep hix ⟨_, rfl, ?_, q.upd hD2, upd_same⟩⟩
          show _ = [V.ref b0].filter _
          rw [List.filter_cons, c1]
          rfl
        · refine ⟨hd, cstep hix ⟨_, rfl, ?_, q, hd⟩⟩
          show _ = [V.ref b0].filter _
          rw [List.filter_cons, Bool.eq_false_iff.mpr c1]
          rfl
      rintro σ' ys H15 ⟨w0, rfl, rfl, s15, hd15⟩
      have q15 := q14.trans s15
      obtain ⟨aa, add, eaa, tpa, hadd⟩ : ∃ (aa : List Addr) (add : List Tie), ([V.ref b0].take [V.ref b0].length).filter (fun _ => !decide (tieV t0 ∈ ts.map tieV)) = aa.map V.ref ∧ Tups H15 aa (add.map tieV) ∧ ((tieV t0 ∈ ts.map tieV ∧ add = []) ∨ add = [t0]) := by
        by_cases c1 : tieV t0 ∈ ts.map tieV
        · exact ⟨[], [], by rw [decide_eq_true c1]; rfl, .nil, .inl ⟨c1, rfl⟩⟩
        · exact ⟨[b0], [t0], by rw [decide_eq_false c1]; rfl, .cons (s15 _ _ hb14) .nil, .inr rfl⟩
      rw [eaa] at hd15
      have alen : aa.length ≤ 1 := by
        have h1 : aa.length = add.length := by have := tpa.len; rw [List.length_map] at this; exact this
        rcases hadd with ⟨_, h⟩ | h <;> rw [h1, h] <;> simp
      have adts : ∀ t ∈ ts ++ add, t.a ∈ ws ∧ t.b ∈ ws := fun t ht => by
        rcases List.mem_append.mp ht with ht | ht
        · exact htsw t ht
        · have : t = t0 := by
            rcases hadd with ⟨_, h⟩ | h
            · rw [h] at ht; cases ht
            · rw [h] at ht; simpa using ht
          rw [this]
          exact ⟨pm.mem_iff.mpr htok0.a, pm.mem_iff.mpr htok0.b⟩
      have adl : ads.length = ts.length := by have := tp.len; rw [List.length_map] at this; exact this
      have hpw15 := q15 _ _ hpw13
      have hpt15 := q15 _ _ hpt13
      try dsimp only [gName]
      refine ⟨_, rfl, pw, _, rfl, .inl (SqL.of hpw15), fun b1 hb1 => ?_⟩
      have t1 := Same.new (o := .lst (ws.map V.str)) hb1
      refine ⟨_, rfl, pt, _, rfl, .inl (SqL.of (t1 _ _ hpt15)), fun b2 hb2 => ?_⟩
      have t2 := Same.new (o := .lst (ads.map V.ref)) hb2
      refine ⟨_, rfl, b2, D2, _, _, rfl, rfl, upd_same, t2 _ _ (t1 _ _ hd15), by rw [List.length_map, List.length_map]; exact le_line (by omega), fun b3 hb3 => ?_⟩
      rw [← List.map_append]
      have t3 := Same.new (o := .lst ((ads ++ aa).map V.ref)) hb3
      have q16 := (t1.trans t2).trans t3
      have hb16 := t3 _ _ (t2 _ _ (upd_same (H := H15) (a := b1) (o := .lst (ws.map V.str))))
      refine ⟨b1, b3, ws, ads ++ aa, ts ++ add, rfl, SqL.of hb16, SqL.of upd_same, ?_, ndw, by omega, adts, fun px xs H17 _ _ _ _ hpx lx s17 => ?_⟩
      · rw [List.map_append (f := tieV)]
        exact paired_app (tp13.same (q15.trans q16)) (tpa.same q16)
      rw [ones_turn (ts := ts ++ add) pm (fun _ _ => Iff.rfl)] at lx
      have q17 := q16.trans s17
      have q1317 := q15.trans q17
      have hD17 := q1317 _ _ hD13
      have te17 := Lsts.same q1317 te13
      have hjo17 := q1317 _ _ hjo
      have esl : es.length ≤ 9 := by
        have h1 := Paired.length te
        have h2 := List.length_filter_le (fun z => !decide (z = g1) && !decide (z = g2)) (onesOf us ts)
        omega
      have rp : ∀ g, (!decide (g = g1) && !decide (g = g2)) = true → g ≠ grpOf ts (srt us) (labs ts f) ∧ g ≠ grpOf ts (srt us) (labs ts e) := fun g h => by
        rw [Bool.and_eq_true, Bool.not_eq_true', Bool.not_eq_true', decide_eq_false_iff_not, decide_eq_false_iff_not, eg1, eg2] at h
        exact h
      have ne : ∀ g ∈ (onesOf us ts).filter (fun z => !decide (z = g1) && !decide (z = g2)) ++ [jo], g ≠ [] := fun g hg => by
        rcases List.mem_append.mp hg with hg | hg
        · exact ones_ne nd (List.mem_filter.mp hg).1
        · rw [List.mem_singleton.mp hg]; exact jne
      try dsimp only [gName]
      refine ⟨_, rfl, _, rfl, (by show 1 ≤ sizeLine; decide), fun l2 hl2 => ?_⟩
      have t4 := Same.new (o := .lst [.ref pjo]) hl2
      refine ⟨D, l2, _, _, rfl, rfl, t4 _ _ hD17, upd_same, by rw [List.length_map]; exact le_line (by show es.length + 1 ≤ 1000; omega), fun l3 hl3 => ?_⟩
      have t5 := Same.new (o := .lst (es.map V.ref ++ [.ref pjo])) hl3
      have q18 := t4.trans t5
      refine ⟨l3, es ++ [pjo], ((onesOf us ts).filter (fun z => !decide (z = g1) && !decide (z = g2)) ++ [jo]).map hdt, rfl, ?_, ?_, rest_heads nd jne (fun x hx => ((jm x).mp hx).2) _ rp, ?_, fun D3 bs hs hD3 pr hperm hup => ?_⟩
      · rw [List.map_append]
        exact SqL.of upd_same
      · exact lsts_hdt (Paired.snoc (Lsts.same q18 te17) (q18 _ _ hjo17)) ne
      · rw [List.length_map, List.length_append, ← Paired.length te]
        show es.length + 1 < 64
        omega
      have t6 := Same.new (o := .lst (bs.map V.ref)) hD3
      refine ⟨px, D3, true, rfl, rfl, lsts_deqS (n := 6) (SqL.of ((q18.trans t6) _ _ hpx)) (SqL.of upd_same) (Lsts.same (q18.trans t6) lx) (Paired.mono pr fun a g _ h => t6.seq h) ?_, k _⟩
      refine ones_more nd hts hf he (hJ' add hadd) jlt jm hup fun g => ?_
      have p2 := hperm.map (fun q => q.1 :: q.2)
      rw [p2.mem_iff, List.map_map, show ((onesOf us ts).filter (fun z => !decide (z = g1) && !decide (z = g2)) ++ [jo]).map ((fun q => q.1 :: q.2) ∘ hdt) = (onesOf us ts).filter (fun z => !decide (z = g1) && !decide (z = g2)) ++ [jo] from (List.map_congr_left fun z hz => hdt_eq (ne z hz)).trans (List.map_id _), List.mem_append, List.mem_filter, List.mem_singleton, Bool.and_eq_true, Bool.not_eq_true', Bool.not_eq_true', decide_eq_false_iff_not, decide_eq_false_iff_not, eg1, eg2]
      exact Or.comm

end
end LK13
open PySem PySem.W PyProof.Rows
set_option maxRecDepth 100000 in
set_option maxHeartbeats 0 in
theorem PySem.Challenge.cw_digmatrix_k13_whole_ones_in_any_order_holds : PySem.Challenge.rw_digmatrix_k13_whole_ones_in_any_order.Holds := by
  w_on; o_law; k_head; (case hw => w_witness2)
  k_fill
  refine L2.law_walk (l := PySem.Challenge.rw_digmatrix_k13_whole_ones_in_any_order) (k := LK13.kLaw) (x := "_law_script") (sp := fun K => LK13.sp_law (K := K)) rfl rfl ⟨rfl, by decide, by decide⟩ (fun w h Y => PySem.W.kIn_of Y) (fun K H a ns hl hS => ⟨a, ns, rfl, hS, hl, fun _ => rfl⟩) ?F
  case F =>
    intro w mg h KX G
    have T : LK13.Tx (L2.KOf KX) mg w := by
      dsimp only [L2.KOf]
      refine' LK13.Tx.ex ⟨?z0, ?z1, ?z2, ?z3, ?z4, ?z5, ?z6, ?z7, ?z8, ?z9, ?z10, ?z11, ?z12, ?z13, ?z14, ?z15, ?z16, ?z17, ?z18⟩
      case z0 => refine' L2.df_mk KX G (fun _ _ _ _ _ _ => L2.len2 fun _ _ => rfl) ?p0 ?q0 ?r0 ?s0; (case p0 => k_is); (case q0 => k_is); (case r0 => k_is); (case s0 => k_is)
      case z1 => refine' L2.df_mk KX G (fun _ _ _ _ _ _ => L2.len3 fun _ _ _ => rfl) ?p1 ?q1 ?r1 ?s1; (case p1 => k_is); (case q1 => k_is); (case r1 => k_is); (case s1 => k_is)
      case z2 => refine' L2.df_mk KX G (fun _ _ _ _ _ _ => L2.len3 fun _ _ _ => rfl) ?p2 ?q2 ?r2 ?s2; (case p2 => k_is); (case q2 => k_is); (case r2 => k_is); (case s2 => k_is)
      case z3 => refine' L2.df_mk KX G (fun _ _ _ _ _ _ => L2.len2 fun _ _ => rfl) ?p3 ?q3 ?r3 ?s3; (case p3 => k_is); (case q3 => k_is); (case r3 => k_is); (case s3 => k_is)
      case z4 => refine' L2.df_mk KX G (fun _ _ _ _ _ _ => L2.len2 fun _ _ => rfl) ?p4 ?q4 ?r4 ?s4; (case p4 => k_is); (case q4 => k_is); (case r4 => k_is); (case s4 => k_is)
      case z5 => refine' L2.df_mk KX G (fun _ _ _ _ _ _ => L2.len3 fun _ _ _ => rfl) ?p5 ?q5 ?r5 ?s5; (case p5 => k_is); (case q5 => k_is); (case r5 => k_is); (case s5 => k_is)
      case z6 => refine' L2.df_mk KX G (fun _ _ _ _ _ _ => L2.len3 fun _ _ _ => rfl) ?p6 ?q6 ?r6 ?s6; (case p6 => k_is); (case q6 => k_is); (case r6 => k_is); (case s6 => k_is)
      case z7 => refine' L2.df_mk KX G (fun _ _ _ _ _ _ => L2.len1 fun _ => rfl) ?p7 ?q7 ?r7 ?s7; (case p7 => k_is); (case q7 => k_is); (case r7 => k_is); (case s7 => k_is)
      case z8 => refine' L2.df_mk KX G (fun _ _ _ _ _ _ => L2.len2 fun _ _ => rfl) ?p8 ?q8 ?r8 ?s8; (case p8 => k_is); (case q8 => k_is); (case r8 => k_is); (case s8 => k_is)
      case z9 => refine' L2.df_mk KX G (fun _ _ _ _ _ _ => L2.len2 fun _ _ => rfl) ?p9 ?q9 ?r9 ?s9; (case p9 => k_is); (case q9 => k_is); (case r9 => k_is); (case s9 => k_is)
      case z10 => refine' L2.df_mk KX G (fun _ _ _ _ _ _ => L2.len2 fun _ _ => rfl) ?p10 ?q10 ?r10 ?s10; (case p10 => k_is); (case q10 => k_is); (case r10 => k_is); (case s10 => k_is)
      case z11 => refine' L2.df_mk KX G (fun _ _ _ _ _ _ => L2.len2 fun _ _ => rfl) ?p11 ?q11 ?r11 ?s11; (case p11 => k_is); (case q11 => k_is); (case r11 => k_is); (case s11 => k_is)
      case z12 => refine' L2.df_mk KX G (fun _ _ _ _ _ _ => L2.len1 fun _ => rfl) ?p12 ?q12 ?r12 ?s12; (case p12 => k_is); (case q12 => k_is); (case r12 => k_is); (case s12 => k_is)
      case z13 => refine' L2.blt_mk KX G ?_; k_is
      case z14 => refine' L2.blt_mk KX G ?_; k_is
      case z15 => refine' L2.blt_mk KX G ?_; k_is
      case z16 => refine' L2.blt_mk KX G ?_; k_is
      case z17 => refine' L2.blt_mk KX G ?_; k_is
      case z18 => refine' L2.blt_mk KX G ?_; k_is
    exact fun base _ _ => LK13.h_law T
#print axioms PySem.Challenge.cw_digmatrix_k13_whole_ones_in_any_order_holds

