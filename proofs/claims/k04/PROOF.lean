import PyProof.Rows.All
import Wide.All
import OpenK.AllK
import Wide.FinOn
import Lean
import PyProof.EqAt
import PyProof.EqKinds
import PyProof.TupleCall
import KE.IntTextLaws
import PyProof.StrBlockI
import PyProof.StrLawsIn
import PyProof.ZipIter
import PyProof.DictWalks
import PyProof.StrLawsChain
import PyProof.StrLawsTight
import PyProof.Rows.StrItems
import PyProof.StrOps2
import PyProof.AutoSeq1
import PyProof.WalkInts
import PySem.Challenge.RW_digmatrix_k04_a_telling_read_freely
set_option Elab.async false
set_option linter.all false
set_option maxRecDepth 100000
/-! no twins are wanted of these: the compiled file would be too large -/
def PySem.W.Fast.tw11308156847605398320 : Unit := ()
def PySem.W.Fast.tw9189929613156154751 : Unit := ()
def PySem.W.Fast.tw9944443719040817509 : Unit := ()
def PySem.W.Fast.tw10992081502476555240 : Unit := ()
def PySem.W.Fast.tw4136358950382160602 : Unit := ()
def PySem.W.Fast.tw16125499438932582495 : Unit := ()
def PySem.W.Fast.tw10621486131471406931 : Unit := ()
def PySem.W.Fast.tw373863933046512074 : Unit := ()
def PySem.W.Fast.tw15662050641763617201 : Unit := ()
def PySem.W.Fast.tw8462807382220736416 : Unit := ()
def PySem.W.Fast.tw14185950633062870405 : Unit := ()
def PySem.W.Fast.tw3408845216008976841 : Unit := ()
def PySem.W.Fast.tw1894157600810620418 : Unit := ()
def PySem.W.Fast.tw15294634004962761526 : Unit := ()
def PySem.W.Fast.tw15202731731039679980 : Unit := ()
def PySem.W.Fast.tw12299092544616635109 : Unit := ()
def PySem.W.Fast.tw13135682364326441145 : Unit := ()
def PySem.W.Fast.tw1959850934616546521 : Unit := ()
def PySem.W.Fast.tw9872675419371042773 : Unit := ()
def PySem.W.Fast.tw9888841130184637808 : Unit := ()
-- CHANGE: your row's module here, as the last of these rows
/-! THE HAND LAYER, for ints, bools, texts, own classes, LISTS and tuples (index, slices, in, append, pop ..), calls, loops. Paste it whole ahead of your own text; what your proof does not reach may be deleted. -/
namespace L2
open PySem PySem.Spec PyProof.Rows

/-- a key: an int or a str -/
abbrev Key := Sum Int Str
def keyIs : Key → Value → Bool
  | .inl k, v => Value.isInt k v
  | .inr x, v => Value.isStrOf x v
def keyH (w : World) : Key → Int
  | .inl k => hashInt k
  | .inr x => hashStr w x
theorem keyIs_shape : ∀ {k : Key} {v : Value}, keyIs k v = true → (∃ i t, k = Sum.inl i ∧ v = Value.int i t) ∨ (∃ x t, k = Sum.inr x ∧ v = Value.str x t)
  | .inl i, v, h => by
    obtain ⟨t, e⟩ := Value.isInt_shape (k := i) (v := v) h
    exact .inl ⟨i, t, rfl, e⟩
  | .inr x, v, h => by
    obtain ⟨t, e⟩ := Value.isStrOf_shape (x := x) (v := v) h
    exact .inr ⟨x, t, rfl, e⟩
theorem keyIs_int (i : Int) (t : Tok) : keyIs (.inl i) (.int i t) = true := by simp [keyIs, Value.isInt]
theorem keyIs_str (x : Str) (t : Tok) : keyIs (.inr x) (.str x t) = true := by simp [keyIs, Value.isStrOf]
theorem key_ll (a b : Int) : decide ((Sum.inl a : Key) = Sum.inl b) = (a == b) := by
  by_cases e : a = b
  · subst e; simp
  · have h : ¬ (Sum.inl a : Key) = Sum.inl b := fun q => e (Sum.inl.inj q)
    rw [decide_eq_false h]
    exact (beq_eq_false_iff_ne.mpr e).symm
theorem key_rr (a b : Str) : decide ((Sum.inr a : Key) = Sum.inr b) = decide (a = b) := by
  by_cases e : a = b
  · subst e; simp
  · have h : ¬ (Sum.inr a : Key) = Sum.inr b := fun q => e (Sum.inr.inj q)
    rw [decide_eq_false h, decide_eq_false e]
theorem key_lr (a : Int) (b : Str) : decide ((Sum.inl a : Key) = Sum.inr b) = false := decide_eq_false (fun q => nomatch q)
theorem key_rl (a : Str) (b : Int) : decide ((Sum.inr a : Key) = Sum.inl b) = false := decide_eq_false (fun q => nomatch q)

def mixKind (prog : Program) (w : World) : PySem.KeyKind prog w Key where
  is := keyIs
  hash := keyH w
  inj := fun v a b ha hb => by
    rcases keyIs_shape ha with ⟨i, t, rfl, rfl⟩ | ⟨x, t, rfl, rfl⟩
    · rcases keyIs_shape hb with ⟨j, u, rfl, e⟩ | ⟨y, u, rfl, e⟩
      · injection e with e1 _; rw [e1]
      · exact nomatch e
    · rcases keyIs_shape hb with ⟨j, u, rfl, e⟩ | ⟨y, u, rfl, e⟩
      · exact nomatch e
      · injection e with e1 _; rw [e1]
  byValue := fun k v h => by
    rcases keyIs_shape h with ⟨i, t, rfl, rfl⟩ | ⟨x, t, rfl, rfl⟩ <;> rfl
  pyHash := fun hv h => by
    rcases keyIs_shape hv with ⟨i, t, rfl, rfl⟩ | ⟨x, t, rfl, rfl⟩
    · exact wpAny_pyHash_int h
    · exact wpAny_pyHash_str h
  eqBool := fun hu hv h => by
    rcases keyIs_shape hu with ⟨i, t, rfl, rfl⟩ | ⟨x, t, rfl, rfl⟩
    · rcases keyIs_shape hv with ⟨j, u, rfl, rfl⟩ | ⟨y, u, rfl, rfl⟩
      · rw [key_ll] at h; exact wpAny_eqBool_int h
      · rw [key_lr] at h; exact SeqAt.EqAt.int_str i t y u _ _ _ _ h
    · rcases keyIs_shape hv with ⟨j, u, rfl, rfl⟩ | ⟨y, u, rfl, rfl⟩
      · rw [key_rl] at h; exact SeqAt.EqAt.str_int x t j u _ _ _ _ h
      · rw [key_rr] at h; exact wpAny_eqBool_str h
  «strs» := fun k x t v h => by
    rcases keyIs_shape h with ⟨i, u, rfl, e⟩ | ⟨y, u, rfl, e⟩
    · exact nomatch e
    · injection e with e1 _
      subst e1
      cases v <;> rfl

theorem mixKind_int (prog : Program) (w : World) (i : Int) (t : Tok) : (mixKind prog w).is (.inl i) (.int i t) = true := keyIs_int i t
theorem mixKind_str (prog : Program) (w : World) (x : Str) (t : Tok) : (mixKind prog w).is (.inr x) (.str x t) = true := keyIs_str x t
end L2

namespace L2
open PySem PySem.Spec PyProof.Rows

/-- a value, without the heap -/
inductive V where
  | non | bl (b : Bool) | int (i : Int) | str (x : Str) | byt (b : Array UInt8) | flt (b : UInt64) | ref (a : Addr) | ty (n : String)
  deriving DecidableEq

def RelV : V → Value → Prop
  | .non, u => u = Value.none
  | .bl b, u => u = Value.bool b
  | .int i, u => ∃ t, u = Value.int i t
  | .str x, u => ∃ t, u = Value.str x t
  | .byt b, u => ∃ t, u = Value.bytes b t
  | .flt b, u => ∃ t, u = Value.float b t
  | .ref a, u => u = Value.ref a
  | .ty n, u => u = Value.type n

abbrev Vals : List V → List Value → Prop := Paired RelV
theorem Vals.length {xs : List V} {us : List Value} (r : Vals xs us) : xs.length = us.length := Paired.length r
theorem Vals.get : ∀ {xs : List V} {us : List Value} {i : Nat} {x : V}, Vals xs us → xs[i]? = some x → ∃ u, us[i]? = some u ∧ RelV x u
  | _, _, _, _, .nil, e => by simp at e
  | _, _, 0, _, .cons r _, e => by simp at e; subst e; exact ⟨_, rfl, r⟩
  | _, _, i + 1, x, .cons _ t, e => by
    obtain ⟨u, h1, h2⟩ := Vals.get (i := i) (x := x) t (by simpa using e)
    exact ⟨u, by simpa using h1, h2⟩
theorem Vals.append : ∀ {xs ys : List V} {us ws : List Value}, Vals xs us → Vals ys ws → Vals (xs ++ ys) (us ++ ws)
  | _, _, _, _, .nil, s => s
  | _, _, _, _, .cons r t, s => .cons r (Vals.append t s)
theorem Vals.take : ∀ {xs : List V} {us : List Value} (n : Nat), Vals xs us → Vals (xs.take n) (us.take n)
  | _, _, 0, _ => .nil
  | _, _, _ + 1, .nil => .nil
  | _, _, n + 1, .cons r t => .cons r (Vals.take n t)
theorem Vals.drop : ∀ {xs : List V} {us : List Value} (n : Nat), Vals xs us → Vals (xs.drop n) (us.drop n)
  | _, _, 0, r => r
  | _, _, _ + 1, .nil => .nil
  | _, _, n + 1, .cons _ t => Vals.drop n t

def RelO : Option V → Option Value → Prop
  | some v, some u => RelV v u
  | none, none => True
  | _, _ => False
def KV {κ : Type} : List (κ × V) → List (κ × Value) → Prop := Paired fun (p : κ × V) (q : κ × Value) => p.1 = q.1 ∧ RelV p.2 q.2

/-- a key of a dict (00_mix): an int or a text -/
def kV : Key → V
  | .inl i => .int i
  | .inr x => .str x

/-- what stands at a tracked address -/
inductive HO where
  /-- a list -/
  | lst (xs : List V)
  /-- a tuple (never changes) -/
  | tup (xs : List V)
  /-- a dict whose keys are ints and texts; one whose keys are tuples of ints and texts (the empty one is both) -/
  | dK (kvs : List (Key × V)) | dT (kvs : List (List Key × V))
  /-- a set of ints: its members, its size -/
  | set (S : Int → Bool) (n : Nat)
  /-- an instance of the class at C, its dict at dx, its attributes -/
  | ins (C dx : Addr) (fs : List (Str × V))
  /-- the dict of the instance at x -/
  | own (x : Addr)
  /-- the dict of an exception -/
  | xd (fs : List (Str × V))
  /-- a bound method, f of x -/
  | met (f x : Addr)
  /-- a range object lo, lo + 1, .. below hi -/
  | rng (lo hi : Int)
  /-- a thing that is known to the object (the script; a dict while a loop walks it): read, never written while it is so -/
  | frz (o : Obj) (u : HO)
  /-- a code object's table -/
  | tbl (ps : Array Value)
  /-- any other thing, by what is true of its one object (a def of one's own: SetO a S n := HO.ext fun h => ..) -/
  | ext (φ : Heap → Prop)

abbrev Hp := Addr → Option HO
def upd (H : Hp) (a : Addr) (o : HO) : Hp := fun b => if b = a then some o else H b
theorem upd_same {H : Hp} {a : Addr} {o : HO} : upd H a o a = some o := by unfold upd; rw [if_pos rfl]
theorem upd_ne {H : Hp} {a b : Addr} {o : HO} (h : b ≠ a) : upd H a o b = H b := by unfold upd; rw [if_neg h]
theorem upd_upd {H : Hp} {a : Addr} {o u : HO} : upd (upd H a o) a u = upd H a u := by
  funext b; unfold upd; split <;> rfl
/-- two objects of different content stand apart -/
theorem ne_of {H : Hp} {a b : Addr} {o u : HO} (h : H a = some o) (h' : H b = some u) (d : o ≠ u) : a ≠ b := by
  intro e; subst e; rw [h] at h'; exact d (Option.some.inj h')
theorem ne_of_none {H : Hp} {a b : Addr} {o : HO} (h : H a = some o) (h' : H b = none) : a ≠ b := by
  intro e; subst e; rw [h] at h'; cases h'

section
variable (P : Program) (w : World)
def ObjOk (H : Hp) (h : Heap) (a : Addr) : HO → Prop
  | .lst xs => xs.length ≤ sizeLine ∧ ∃ (its : List Value) (n : Nat), Vals xs its ∧ h.get? a = some { cls := .type "list", data := .seq its.toArray n }
  | .tup xs => xs.length ≤ sizeLine ∧ ∃ its : List Value, Vals xs its ∧ IsTup h a its.toArray
  | .dK kvs => kvs.length ≤ sizeLine ∧ (a == sysModules) = false ∧ ∃ vs, KV kvs vs ∧ h.DictOf (mixKind P w) a vs
  | .dT kvs => kvs.length ≤ sizeLine ∧ (a == sysModules) = false ∧ ∃ xs : List (List Key × Addr × Value),
      Paired (fun (p : List Key × V) (q : List Key × Addr × Value) => p.1 = q.1 ∧ H q.2.1 = some (.tup (p.1.map kV)) ∧ RelV p.2 q.2.2) kvs xs ∧
      ∃ o es ep, h.get? a = some o ∧ o.ExactDict ∧ o.data = .dict es ep ∧ es.toList = xs.map (entryOfKey (tupleKind (mixKind P w))) ∧ (xs.map (·.1)).Nodup
  | .set S n => h.SetOf (intKind P w) a S n
  | .ins C dx fs => H dx = some (.own a) ∧ fs.length ≤ 1000 ∧ dx ≠ a ∧ h.get? a = some (PySem.W.instObj C dx) ∧
      ∃ mA, h.Ns1 dx mA ∧ (∀ f, RelO (fs.lookup f) (mA f)) ∧ PySem.Within mA (fs.map (·.1))
  | .own _ => ∃ o, h.get? a = some o
  | .xd fs => ∃ mA, h.Ns1 a mA ∧ ∀ f, RelO (fs.lookup f) (mA f)
  | .rng lo hi => ∃ t u v, h.get? a = some { cls := .type "range", data := .fields #[.int lo t, .int hi u, .int 1 v] }
  | .frz o u => h.get? a = some o ∧ ObjOk H h a u
  | .tbl ps => h.get? a = some { cls := .none, data := .fields ps }
  | .met f x => h.get? a = some (PySem.W.methodObj (.ref f) (.ref x))
  | .ext φ => φ h ∧ (∃ o, h.get? a = some o) ∧ ∀ h1 h2 : Heap, φ h1 → (∀ o, h1.get? a = some o → h2.get? a = some o) → φ h2
/-- the abstract heap is held -/
def HOk (H : Hp) (h : Heap) : Prop := ∀ a o, H a = some o → ObjOk P w H h a o
end

section
variable {P : Program} {w : World} {H H' : Hp} {h h' : Heap} {a : Addr} {o : HO}
theorem ObjOk.lt (x : ObjOk P w H h a o) : a < h.objs.size := by
  cases o with
  | lst xs => obtain ⟨_, _, _, _, e⟩ := x; exact Heap.lt_size e
  | tup xs => obtain ⟨_, _, _, p⟩ := x; exact p.lt
  | dK kvs => obtain ⟨_, _, _, _, o, _, _, e, _⟩ := x; exact Heap.lt_size e
  | dT kvs => obtain ⟨_, _, _, _, o, _, _, e, _⟩ := x; exact Heap.lt_size e
  | set S n => obtain ⟨o, _, _, _, e, _⟩ := x; exact Heap.lt_size e
  | ins C dx fs => obtain ⟨_, _, _, e, _⟩ := x; exact Heap.lt_size e
  | own y => obtain ⟨_, e⟩ := x; exact Heap.lt_size e
  | xd fs => obtain ⟨_, ⟨_, _, _, e, _⟩, _⟩ := x; exact Heap.lt_size e
  | rng lo hi => obtain ⟨_, _, _, e⟩ := x; exact Heap.lt_size e
  | frz ob u => obtain ⟨e, _⟩ := x; exact Heap.lt_size e
  | tbl ps => exact Heap.lt_size (show h.get? a = some _ from x)
  | met f y => exact Heap.lt_size (show h.get? a = some _ from x)
  | ext φ => obtain ⟨_, ⟨_, e⟩, _⟩ := x; exact Heap.lt_size e
theorem Paired.mapP {α β : Type} {F G : α → β → Prop} : ∀ {l₁ : List α} {l₂ : List β}, Paired F l₁ l₂ → (∀ a b, F a b → G a b) → Paired G l₁ l₂
  | _, _, .nil, _ => .nil
  | _, _, .cons r t, f => .cons (f _ _ r) (Paired.mapP t f)
/-- what an object's description leans on: its own object, its own dict, the tuples -/
theorem ObjOk.stay (x : ObjOk P w H h a o) (k : ∀ b u, (b = a ∨ H b = some (.own a)) → h.get? b = some u → h'.get? b = some u)
    (ho : ∀ b, H b = some (.own a) → H' b = some (.own a)) (ht : ∀ b xs, H b = some (.tup xs) → H' b = some (.tup xs)) : ObjOk P w H' h' a o := by
  induction o with
  | lst xs => obtain ⟨z, its, n, r, e⟩ := x; exact ⟨z, its, n, r, k _ _ (.inl rfl) e⟩
  | tup xs => obtain ⟨z, its, r, ob, e, c⟩ := x; exact ⟨z, its, r, ob, k _ _ (.inl rfl) e, c⟩
  | dK kvs => obtain ⟨z, y, vs, r, ob, es, ep, e, c⟩ := x; exact ⟨z, y, vs, r, ob, es, ep, k _ _ (.inl rfl) e, c⟩
  | dT kvs =>
    obtain ⟨z, y, xs, r, ob, es, ep, e, c⟩ := x
    exact ⟨z, y, xs, Paired.mapP r fun p q z => ⟨z.1, ht _ _ z.2.1, z.2.2⟩, ob, es, ep, k _ _ (.inl rfl) e, c⟩
  | set S n => obtain ⟨ob, es, ep, t, e, c⟩ := x; exact ⟨ob, es, ep, t, k _ _ (.inl rfl) e, c⟩
  | ins C dx fs =>
    obtain ⟨d, z, ne, e, mA, ⟨od, es, ep, e2, c⟩, r⟩ := x
    exact ⟨ho _ d, z, ne, k _ _ (.inl rfl) e, mA, ⟨od, es, ep, k _ _ (.inr d) e2, c⟩, r⟩
  | own y => obtain ⟨ob, e⟩ := x; exact ⟨ob, k _ _ (.inl rfl) e⟩
  | xd fs => obtain ⟨mA, ⟨od, es, ep, e, c⟩, r⟩ := x; exact ⟨mA, ⟨od, es, ep, k _ _ (.inl rfl) e, c⟩, r⟩
  | rng lo hi => obtain ⟨t, u, v, e⟩ := x; exact ⟨t, u, v, k _ _ (.inl rfl) e⟩
  | frz ob u ih => obtain ⟨e, q⟩ := x; exact ⟨k _ _ (.inl rfl) e, ih q⟩
  | tbl ps =>
    have e : h.get? a = some { cls := .none, data := .fields ps } := x
    show h'.get? a = some { cls := .none, data := .fields ps }
    exact k a _ (.inl rfl) e
  | met f y =>
    have e : h.get? a = some (PySem.W.methodObj (.ref f) (.ref y)) := x
    show h'.get? a = some (PySem.W.methodObj (.ref f) (.ref y))
    exact k a _ (.inl rfl) e
  | ext φ => obtain ⟨p, ⟨o, e⟩, st⟩ := x; exact ⟨st _ _ p fun o q => k _ _ (.inl rfl) q, ⟨o, k _ _ (.inl rfl) e⟩, st⟩
theorem HOk.lt (x : HOk P w H h) (e : H a = some o) : a < h.objs.size := (x a o e).lt
theorem HOk.fresh (x : HOk P w H h) (e : h.objs.size ≤ a) : H a = none := by
  cases q : H a with
  | none => rfl
  | some u => exact absurd (Nat.lt_of_lt_of_le (x.lt q) e) (Nat.lt_irrefl _)
/-- every object of the heap is kept -/
theorem HOk.kept (x : HOk P w H h) (k : ∀ b u, h.get? b = some u → h'.get? b = some u) : HOk P w H h' := fun a o e =>
  (x a o e).stay (fun b u _ q => k b u q) (fun _ q => q) fun _ _ q => q
/-- a new object is laid and tracked -/
theorem HOk.laid (x : HOk P w H h) (k : ∀ b u, h.get? b = some u → h'.get? b = some u) (hp : h.objs.size ≤ a) (new : ObjOk P w (upd H a o) h' a o) : HOk P w (upd H a o) h' := fun b u e => by
  have hn := x.fresh hp
  by_cases hb : b = a
  · subst hb; rw [upd_same] at e; cases e; exact new
  · rw [upd_ne hb] at e
    exact (x b u e).stay (fun c v _ q => k c v q) (fun c q => by rw [upd_ne (ne_of_none q hn)]; exact q) fun c xs q => by rw [upd_ne (ne_of_none q hn)]; exact q
end

/-- what may be read as u: it is u, or a known u -/
def Rd (H : Hp) (a : Addr) (u : HO) : Prop := H a = some u ∨ ∃ o, H a = some (.frz o u)
theorem Rd.ok {P : Program} {w : World} {H : Hp} {h : Heap} {a : Addr} {u : HO} (r : Rd H a u) (x : HOk P w H h) : ObjOk P w H h a u := by
  rcases r with r | ⟨o, r⟩
  · exact x a u r
  · obtain ⟨_, q⟩ := x a _ r
    exact q
/-- what may be written -/
def Mut : Option HO → Prop
  | some (.lst _) => True
  | some (.dK _) => True
  | some (.dT _) => True
  | some (.set _ _) => True
  | some (.ins _ _ _) => True
  | some (.ext _) => True
  | _ => False
section
variable {P : Program} {w : World} {H : Hp} {h h' : Heap} {x e : Addr} {o' : HO}
/-- the object at e is changed: x itself, or the dict of the instance x -/
theorem HOk.write (ok : HOk P w H h) (mu : Mut (H x)) (he : e = x ∨ H e = some (.own x)) (k : ∀ b u, b ≠ e → h.get? b = some u → h'.get? b = some u) (heo : ∃ u, h'.get? e = some u)
    (new : ObjOk P w (upd H x o') h' x o') : HOk P w (upd H x o') h' := fun b u q => by
  have nown : ∀ c y, H c = some (.own y) → c ≠ x := fun c y r z => by subst z; rw [r] at mu; exact mu
  have ntup : ∀ c xs, H c = some (.tup xs) → c ≠ x := fun c xs r z => by subst z; rw [r] at mu; exact mu
  by_cases hb : b = x
  · subst hb; rw [upd_same] at q; cases q; exact new
  · rw [upd_ne hb] at q
    by_cases hbe : b = e
    · have q' : H b = some (.own x) := by
        rcases he with z | z
        · exact absurd (hbe.trans z) hb
        · rw [hbe]; exact z
      rw [q] at q'; cases q'
      obtain ⟨v, hv⟩ := heo
      exact ⟨v, by rw [hbe]; exact hv⟩
    · refine (ok b u q).stay (fun c v hc r => k c v ?_ r) (fun c r => by rw [upd_ne (nown c b r)]; exact r) fun c xs r => by rw [upd_ne (ntup c xs r)]; exact r
      rcases hc with rfl | hc
      · exact hbe
      · rintro rfl
        rcases he with z | z
        · exact nown c b hc z
        · rw [hc] at z; cases z; exact hb rfl
end

/-! ### kept unless tracked; of the frames at fs (the callers') the slots may change (an exception that passes writes there); of the records at ex (iterators) nothing is said -/
structure Un (fs ex : List Addr) (H H' : Hp) (h h' : Heap) : Prop where
  keep : ∀ b o, h.get? b = some o → H b = none → b ∉ fs → b ∉ ex → h'.get? b = some o
  slot : ∀ b o, h.get? b = some o → H b = none → b ∈ fs → b ∉ ex → ∃ sl, h'.get? b = some { o with slots := sl }
  free : ∀ b o, h.get? b = some o → H b = none → b ∉ ex → H' b = none
  there : ∀ b o, h.get? b = some o → b ∉ ex → ∃ o', h'.get? b = some o'
  tups : ∀ b xs, H b = some (.tup xs) → H' b = some (.tup xs)
  frzs : ∀ b o u, H b = some (.frz o u) → H' b = some (.frz o u)
  tbls : ∀ b ps, H b = some (.tbl ps) → ∃ more, H' b = some (.tbl (ps ++ more))
section
variable {fs fs' ex ex' : List Addr} {H H1 H2 : Hp} {h h1 h2 h' : Heap} {a x e : Addr} {o : HO}
theorem Un.any (u : Un fs ex H H1 h h1) {b : Addr} {ob : Obj} (q : h.get? b = some ob) (n : H b = none) (hx : b ∉ ex) : ∃ sl, h1.get? b = some { ob with slots := sl } := by
  by_cases hb : b ∈ fs
  · exact u.slot b ob q n hb hx
  · exact ⟨ob.slots, u.keep b ob q n hb hx⟩
theorem Un.kept (k : ∀ b u, h.get? b = some u → h'.get? b = some u) : Un fs ex H H h h' :=
  ⟨fun b ob q _ _ _ => k b ob q, fun b ob q _ _ _ => ⟨ob.slots, k b ob q⟩, fun _ _ _ n _ => n, fun b ob q _ => ⟨ob, k b ob q⟩, fun _ _ q => q, fun _ _ _ q => q, fun _ ps q => ⟨#[], by rw [q]; simp⟩⟩
theorem Un.refl : Un fs ex H H h h := Un.kept fun _ _ q => q
theorem Un.laid (k : ∀ b u, h.get? b = some u → h'.get? b = some u) (hp : h.objs.size ≤ a) (hn : H a = none) : Un fs ex H (upd H a o) h h' where
  keep := fun b u q _ _ _ => k b u q
  slot := fun b u q _ _ _ => ⟨u.slots, k b u q⟩
  free := fun b u q n _ => by rw [upd_ne (Nat.ne_of_lt (Nat.lt_of_lt_of_le (Heap.lt_size q) hp))]; exact n
  there := fun b u q _ => ⟨u, k b u q⟩
  tups := fun b xs q => by rw [upd_ne (ne_of_none q hn)]; exact q
  frzs := fun b u xs q => by rw [upd_ne (ne_of_none q hn)]; exact q
  tbls := fun b ps q => ⟨#[], by rw [upd_ne (ne_of_none q hn), q]; simp⟩
theorem Un.write (mu : Mut (H x)) (he : e = x ∨ H e = some (.own x)) (k : ∀ b u, b ≠ e → h.get? b = some u → h'.get? b = some u) (heo : ∃ u, h'.get? e = some u) : Un fs ex H (upd H x o) h h' := by
  have hx : ∀ b, H b = none → b ≠ x := fun b n z => by subst z; rw [n] at mu; exact mu
  have hb : ∀ b, H b = none → b ≠ e := fun b n z => by
    subst z
    rcases he with r | r
    · exact hx b n r
    · rw [n] at r; cases r
  have hm : ∀ b u, H b = some u → ¬ Mut (some u) → b ≠ x := fun b u q nm z => by subst z; rw [q] at mu; exact nm mu
  refine ⟨fun b u q n _ _ => k b u (hb b n) q, fun b u q n _ _ => ⟨u.slots, k b u (hb b n) q⟩, fun b u q n _ => by rw [upd_ne (hx b n)]; exact n, fun b u q _ => ?_,
    fun b xs q => by rw [upd_ne (hm b _ q fun z => z)]; exact q, fun b u xs q => by rw [upd_ne (hm b _ q fun z => z)]; exact q, fun b ps q => ⟨#[], by rw [upd_ne (hm b _ q fun z => z), q]; simp⟩⟩
  by_cases hbe : b = e
  · subst hbe; exact heo
  · exact ⟨u, k b u hbe q⟩
end

/-! ### the heap without what is tracked -/
def trk (h : Heap) (H : Hp) : List Addr := (List.range h.objs.size).filter fun a => (H a).isSome
def hidT (h : Heap) (H : Hp) : Heap := PySem.W.hideAll h (trk h H)
theorem hidT_size (h : Heap) (H : Hp) : (hidT h H).objs.size = h.objs.size := PySem.W.hideAll_size _ _
theorem hidT_get {h : Heap} {H : Hp} {b : Addr} {o : Obj} (e : h.get? b = some o) (n : H b = none) : (hidT h H).get? b = some o :=
  PySem.W.hideAll_get _ e fun hm => by
    have q : (H b).isSome = true := (List.mem_filter.mp hm).2
    rw [n] at q; simp at q
theorem of_hidT {h : Heap} {H : Hp} {b : Addr} {o : Obj} (e : (hidT h H).get? b = some o) : h.get? b = some o ∧ H b = none := by
  have e' : h.get? b = some o := PySem.W.of_hideAll (trk h H) e
  refine ⟨e', ?_⟩
  cases q : H b with
  | none => rfl
  | some x =>
    have hm : b ∈ trk h H := List.mem_filter.mpr ⟨List.mem_range.mpr (Heap.lt_size e'), by simp [q]⟩
    have z : (hidT h H).get? b = none := PySem.W.hideAll_none (trk h H) hm
    rw [z] at e; cases e

/-! ### OpenK's ledger, filled with every new object but one -/
def allNews (g h : Heap) (L : Addr) : List (Addr × Obj) := (List.range h.objs.size).filterMap fun a => if a = L ∨ (g.get? a).isSome = true then none else (h.get? a).map fun o => (a, o)
def rest (g h : Heap) (L d : Addr) : List (Addr × Obj) := (allNews g h L).filter fun p => decide (p.1 ≠ d)
end L2

namespace L2
open PySem PySem.Spec PyProof.Rows

/-- the module's facts, over the base: the heap at the law's entry without what is tracked there -/
structure Mod (K : PySem.W.Frag) (mg : Str → Option Value) (base : Heap) : Prop where
  kin : K.In base
  glob : base.Ns mainGlobals mg
  blt : ∃ mb, base.Ns builtinsNs mb ∧ ∀ x : Str, x ≠ "__name__" → mb x = bootBuiltins x
  nolimit : base.NoLimit

/-- the context: a def's body (or a comprehension's block) running. base: fixed through the whole law; s₀, H₀: the entry; outer: the frames whose slots others may change (a def's callers); stack: all frames that run;
   ex: iterators that were made ahead of the entry and are walked here (a comprehension's); fn: the names whose cells were made at the entry (a def: all; a comprehension's block: its own); calm: not within an except suite; pn: pins that every state bears; xe: what is wanted of an exception that leaves the code -/
structure Cx where
  prog : Program
  w : World
  K : PySem.W.Frag
  mg : Str → Option Value
  base : Heap
  A : Around
  N : List Str
  s₀ : Shared
  H₀ : Hp
  env : Env
  outer : List Env
  stack : List Env
  ex : List Addr
  fn : Str → Bool
  calm : Bool
  pn : List (Addr × Obj)
  xe : Value → Shared → Prop
/-- the callers' frames -/
def frs (l : List Env) : List Addr := l.filterMap (·.frame)
abbrev Cx.fs (X : Cx) : List Addr := frs X.outer

def Vis (sc : Scope) (x : Str) : Prop := sc.names.lookup x = some .local ∨ sc.names.lookup x = some .cell ∨ sc.names.lookup x = some .free
def Loc (sc : Scope) (x : Str) : Prop := sc.names.lookup x = some .local ∨ sc.names.lookup x = some .cell
def Look (env : Env) (h : Heap) (m : Str → Option Value) (x : Str) (u : Value) : Prop :=
  (env.kindOf x = some .local ∧ m x = some u) ∨ ((env.kindOf x = some .cell ∨ env.kindOf x = some .free) ∧ ∃ c, env.cells.lookup x = some c ∧ h.IsCell c (some u))

structure Cx.Ok (X : Cx) : Prop where
  mod : Mod X.K X.mg X.base
  kind : X.env.scope.kind = .function
  glob : X.env.globals = mainGlobals
  blt : X.env.builtins = builtinsNs
  above : X.s₀.heap.objs.size ≤ X.env.locals
  inj : ∀ x y c, X.env.cells.lookup x = some c → X.env.cells.lookup y = some c → x = y
  has : ∀ x, (X.env.kindOf x = some .cell ∨ X.env.kindOf x = some .free) → ∃ c, X.env.cells.lookup x = some c
  cab : ∀ x c, X.fn x = true → X.env.cells.lookup x = some c → X.s₀.heap.objs.size ≤ c
  hd : X.calm = true → X.A.handled = none
  frames : X.A.frames = some X.stack
  stk : X.stack = X.outer ∨ (X.stack = X.env :: X.outer ∧ X.env.frame = some X.env.locals)
  exf : ∀ b ∈ X.ex, b ≠ X.env.locals ∧ ∀ x c, X.env.cells.lookup x = some c → c ≠ b
  bs : ∀ b o, X.base.get? b = some o → X.s₀.heap.get? b = some o ∧ X.H₀ b = none
  bsz : X.base.objs.size ≤ X.s₀.heap.objs.size
  noex : ∀ b o, X.base.get? b = some o → b ∉ X.ex
  exfs : ∀ b ∈ X.ex, b ∉ X.fs
  funs : X.s₀.heap.FunFrames X.base X.outer
  frf : ∀ b ∈ X.fs, X.H₀ b = none

structure Inv (X : Cx) (pins : List (Addr × Obj)) (σ : List (Option V)) (H : Hp) (s : Shared) : Prop where
  ok : X.Ok
  os : s.os = X.s₀.os
  bare : AllBare s.gens
  base : Un X.fs X.ex X.H₀ H X.s₀.heap s.heap
  loc : ∃ m, s.heap.Ns X.env.locals m ∧ ∀ (i : Nat) (x : Str) (v : V), X.N[i]? = some x → σ[i]? = some (some v) → Vis X.env.scope x → ∃ u, RelV v u ∧ Look X.env s.heap m x u
  cell : ∀ x c, X.env.cells.lookup x = some c → ∃ v, s.heap.IsCell c v
  free : H X.env.locals = none
  freeC : ∀ x c, X.env.cells.lookup x = some c → H c = none
  pin : ∀ p ∈ X.pn ++ pins, s.heap.get? p.1 = some p.2 ∧ H p.1 = none ∧ p.1 ≠ X.env.locals ∧ p.1 ∉ X.fs ∧ ∀ v, p.2.data ≠ .cell v
  hok : HOk X.prog X.w H s.heap
  len : σ.length = X.N.length

section
variable {X : Cx} {pins : List (Addr × Obj)} {σ : List (Option V)} {H H' : Hp} {s : Shared} {h' : Heap}

theorem Cx.Ok.nofr (ok : X.Ok) {b : Addr} {o : Obj} (e : X.base.get? b = some o) : b ∉ X.fs := fun hb => by
  have := (ok.funs.mem hb).1
  rw [e] at this; cases this
theorem Inv.bs (I : Inv X pins σ H s) : ∀ b o, X.base.get? b = some o → s.heap.get? b = some o ∧ H b = none := fun b o e =>
  ⟨I.base.keep b o (I.ok.bs b o e).1 (I.ok.bs b o e).2 (I.ok.nofr e) (I.ok.noex b o e), I.base.free b o (I.ok.bs b o e).1 (I.ok.bs b o e).2 (I.ok.noex b o e)⟩
theorem Inv.bk (I : Inv X pins σ H s) : ∀ b o, X.base.get? b = some o → s.heap.get? b = some o := fun b o e => (I.bs b o e).1
theorem Inv.mod (I : Inv X pins σ H s) : Mod X.K X.mg X.base := I.ok.mod
theorem Inv.kIn (I : Inv X pins σ H s) : X.K.In s.heap := I.ok.mod.kin.keeps I.bk
theorem Inv.lt (I : Inv X pins σ H s) : X.env.locals < s.heap.objs.size := let ⟨_, hn, _⟩ := I.loc; hn.lt
theorem Inv.sz (I : Inv X pins σ H s) : X.s₀.heap.objs.size ≤ s.heap.objs.size := Nat.le_trans I.ok.above (Nat.le_of_lt I.lt)
theorem Inv.nofs (I : Inv X pins σ H s) {a : Addr} (h : s.heap.objs.size ≤ a) : a ∉ X.fs := fun hb => by
  obtain ⟨_, o, ho, _⟩ := I.ok.funs.mem hb
  exact absurd (Nat.lt_of_lt_of_le (Heap.lt_size ho) (Nat.le_trans I.sz h)) (Nat.lt_irrefl _)
theorem Inv.cne (I : Inv X pins σ H s) : ∀ x c, X.env.cells.lookup x = some c → c ≠ X.env.locals := fun x c e z => by
  obtain ⟨v, o, ho, hd⟩ := I.cell x c e
  obtain ⟨m, ⟨o', es, ep, ho', hd', _⟩, _⟩ := I.loc
  rw [z, ho'] at ho; cases ho; rw [hd'] at hd; cases hd
theorem Inv.funs (I : Inv X pins σ H s) : s.heap.FunFrames X.base X.outer := by
  have all : ∀ (l : List Env), (∀ b ∈ frs l, b ∈ X.fs) → X.s₀.heap.FunFrames X.base l → s.heap.FunFrames X.base l := by
    intro l
    induction l with
    | nil => intro _ _; trivial
    | cons env r ih =>
      intro hs hl
      obtain ⟨hk, ⟨L, o, hf, hn, ho, hd⟩, hr⟩ := hl
      have hL : L ∈ X.fs := hs L (by unfold frs; rw [List.filterMap_cons, hf]; exact List.mem_cons_self)
      obtain ⟨sl, e⟩ := I.base.slot L o ho (I.ok.frf L hL) hL fun z => I.ok.exfs L z hL
      exact ⟨hk, ⟨L, _, hf, hn, e, hd⟩, ih (fun b hb => hs b (by unfold frs; rw [List.filterMap_cons, hf]; exact List.mem_cons_of_mem _ hb)) hr⟩
  exact all X.outer (fun _ hb => hb) I.ok.funs

/-- the frames that run, for a call -/
theorem Inv.stack (I : Inv X pins σ H s) : s.heap.FunFrames X.base X.stack := by
  rcases I.ok.stk with e | ⟨e, hf⟩
  · rw [e]; exact I.funs
  · rw [e]
    obtain ⟨m, hn, _⟩ := I.loc
    refine .cons (by rw [I.ok.kind]; decide) hf hn ?_ I.funs
    exact Heap.get?_none_of_le (Nat.le_trans I.ok.bsz I.ok.above)
theorem Inv.stkSub (I : Inv X pins σ H s) : ∀ b ∈ frs X.stack, b ∈ X.env.locals :: X.fs := fun b hb => by
  rcases I.ok.stk with e | ⟨e, hf⟩
  · rw [e] at hb; exact List.mem_cons_of_mem _ hb
  · rw [e] at hb
    unfold frs at hb
    rw [List.filterMap_cons, hf] at hb
    exact hb
theorem Inv.stkFree (I : Inv X pins σ H s) : ∀ b ∈ frs X.stack, H b = none := fun b hb => by
  rcases List.mem_cons.mp (I.stkSub b hb) with e | hb
  · rw [e]; exact I.free
  · obtain ⟨_, o, ho, _⟩ := I.ok.funs.mem hb
    exact I.base.free b o ho (I.ok.frf b hb) fun z => I.ok.exfs b z hb

/-- THE STEP: the untracked objects but the frame and the records at ch are kept (the callers' frames up to slots), the frame's map is kept, the new abstract heap is held -/
theorem Inv.step {g' : Array GenState} {t' : Nat} {d' : Drawn} {ch : List Addr} (I : Inv X pins σ H s)
    (hch : ∀ b ∈ ch, (b ∈ X.ex ∨ X.s₀.heap.objs.size ≤ b) ∧ b ≠ X.env.locals ∧ (∀ x c, X.env.cells.lookup x = some c → c ≠ b) ∧ ∀ p ∈ X.pn ++ pins, p.1 ≠ b)
    (keep : ∀ b o, b ≠ X.env.locals → b ∉ X.fs → b ∉ ch → s.heap.get? b = some o → H b = none → h'.get? b = some o)
    (slot : ∀ b o, b ≠ X.env.locals → b ∈ X.fs → b ∉ ch → s.heap.get? b = some o → H b = none → ∃ sl, h'.get? b = some { o with slots := sl }) (free : ∀ b o, b ∉ ch → s.heap.get? b = some o → H b = none → H' b = none)
    (there : ∀ b o, b ∉ ch → s.heap.get? b = some o → ∃ o', h'.get? b = some o')
    (tups : ∀ b xs, H b = some (.tup xs) → H' b = some (.tup xs)) (frzs : ∀ b o u, H b = some (.frz o u) → H' b = some (.frz o u)) (tbls : ∀ b ps, H b = some (.tbl ps) → ∃ more, H' b = some (.tbl (ps ++ more)))
    (ns : ∀ m, s.heap.Ns X.env.locals m → h'.Ns X.env.locals m) (hok : HOk X.prog X.w H' h') (hg : AllBare g') :
    Inv X pins σ H' { s with heap := h', gens := g', drawn := d', toks := t' } := by
  have neL : ∀ b o, X.s₀.heap.get? b = some o → b ≠ X.env.locals := fun b o e => Nat.ne_of_lt (Nat.lt_of_lt_of_le (Heap.lt_size e) I.ok.above)
  have neC : ∀ b o, X.s₀.heap.get? b = some o → b ∉ X.ex → b ∉ ch := fun b o e hx hb => by
    rcases (hch b hb).1 with z | z
    · exact hx z
    · exact absurd (Nat.lt_of_lt_of_le (Heap.lt_size e) z) (Nat.lt_irrefl _)
  have cellK : ∀ x c, X.env.cells.lookup x = some c → ∀ v, s.heap.IsCell c v → h'.IsCell c v := fun x c e v ⟨o, ho, hd⟩ => by
    have nch : c ∉ ch := fun z => (hch c z).2.2.1 x c e rfl
    by_cases hc : c ∈ X.fs
    · obtain ⟨sl, q⟩ := slot c o (I.cne x c e) hc nch ho (I.freeC x c e)
      exact ⟨_, q, hd⟩
    · exact ⟨o, keep c o (I.cne x c e) hc nch ho (I.freeC x c e), hd⟩
  refine ⟨I.ok, I.os, hg, ⟨fun b o e n hb hx => ?_, fun b o e n hb hx => ?_, fun b o e n hx => ?_, fun b o e hx => ?_, fun b xs e => tups b xs (I.base.tups b xs e), fun b o xs e => frzs b o xs (I.base.frzs b o xs e), fun b ps e => ?_⟩, ?_, fun x c e => ?_, ?_, fun x c e => ?_, fun p hp => ?_, hok, I.len⟩
  · exact keep b o (neL b o e) hb (neC b o e hx) (I.base.keep b o e n hb hx) (I.base.free b o e n hx)
  · obtain ⟨sl, e1⟩ := I.base.slot b o e n hb hx
    obtain ⟨sl', e2⟩ := slot b _ (neL b o e) hb (neC b o e hx) e1 (I.base.free b o e n hx)
    exact ⟨sl', e2⟩
  · obtain ⟨o', e1⟩ := I.base.there b o e hx
    exact free b o' (neC b o e hx) e1 (I.base.free b o e n hx)
  · obtain ⟨o', e1⟩ := I.base.there b o e hx
    exact there b o' (neC b o e hx) e1
  · obtain ⟨m1, e1⟩ := I.base.tbls b ps e
    obtain ⟨m2, e2⟩ := tbls b _ e1
    exact ⟨m1 ++ m2, by rw [e2, Array.append_assoc]⟩
  · obtain ⟨m, hn, hl⟩ := I.loc
    refine ⟨m, ns m hn, fun i x v e1 e2 e3 => ?_⟩
    obtain ⟨u, r, l⟩ := hl i x v e1 e2 e3
    refine ⟨u, r, ?_⟩
    rcases l with l | ⟨k, c, e, z⟩
    · exact .inl l
    · exact .inr ⟨k, c, e, cellK x c e _ z⟩
  · obtain ⟨v, z⟩ := I.cell x c e
    exact ⟨v, cellK x c e v z⟩
  · obtain ⟨m, ⟨o, _, _, ho, _⟩, _⟩ := I.loc
    exact free _ o (fun z => (hch _ z).2.1 rfl) ho I.free
  · obtain ⟨v, o, ho, hd⟩ := I.cell x c e
    exact free c o (fun z => (hch c z).2.2.1 x c e rfl) ho (I.freeC x c e)
  · obtain ⟨e, n, ne, nf, d⟩ := I.pin p hp
    have nch : p.1 ∉ ch := fun z => (hch p.1 z).2.2.2 p hp rfl
    exact ⟨keep p.1 p.2 ne nf nch e n, free p.1 p.2 nch e n, ne, nf, d⟩
/-- .. where the frame's own object is kept too -/
theorem Inv.un {t' : Nat} (I : Inv X pins σ H s) (u : Un X.fs [] H H' s.heap h') (hok : HOk X.prog X.w H' h') : Inv X pins σ H' { s with heap := h', toks := t' } := by
  obtain ⟨m, ⟨o, es, ep, ho, r⟩, _⟩ := id I.loc
  obtain ⟨sl, hL⟩ := u.any ho I.free (by simp)
  exact I.step (g' := s.gens) (d' := s.drawn) (ch := []) (fun _ z => nomatch z) (fun b o _ hb _ e n => u.keep b o e n hb (by simp)) (fun b o _ hb _ e n => u.slot b o e n hb (by simp)) (fun b o _ e n => u.free b o e n (by simp)) (fun b o _ e => u.there b o e (by simp)) u.tups u.frzs u.tbls (fun m' hm => by
    obtain ⟨o', es', ep', ho', r'⟩ := hm
    rw [ho] at ho'; cases ho'
    exact ⟨_, es', ep', hL, r'⟩) hok I.bare
/-- behind a call (or a comprehension's block): the slots of this frame may have changed too, the records at ch may have turned -/
theorem Inv.call {g' : Array GenState} {t' : Nat} {d' : Drawn} {ch : List Addr} (I : Inv X pins σ H s) (u : Un (frs X.stack) ch H H' s.heap h') (hok : HOk X.prog X.w H' h') (hg : AllBare g')
    (hch : ∀ b ∈ ch, (b ∈ X.ex ∨ X.s₀.heap.objs.size ≤ b) ∧ b ≠ X.env.locals ∧ (∀ x c, X.env.cells.lookup x = some c → c ≠ b) ∧ ∀ p ∈ X.pn ++ pins, p.1 ≠ b) :
    Inv X pins σ H' { s with heap := h', gens := g', drawn := d', toks := t' } := by
  obtain ⟨m, ⟨o, es, ep, ho, r⟩, _⟩ := id I.loc
  obtain ⟨sl, hL⟩ := u.any ho I.free fun z => (hch _ z).2.1 rfl
  exact I.step (ch := ch) hch (fun b o hL hb hc e n => u.keep b o e n (fun z => (List.mem_cons.mp (I.stkSub b z)).elim hL hb) hc) (fun b o _ _ hc e n => u.any e n hc) (fun b o hc e n => u.free b o e n hc) (fun b o hc e => u.there b o e hc) u.tups u.frzs u.tbls (fun m' hm => by
    obtain ⟨o', es', ep', ho', r'⟩ := hm
    rw [ho] at ho'; cases ho'
    exact ⟨_, es', ep', hL, r'⟩) hok hg
/-- an untracked record of ours (an iterator) has turned -/
theorem Inv.turned {t' : Nat} {it : Addr} (I : Inv X pins σ H s) (k : ∀ b o, b ≠ it → s.heap.get? b = some o → h'.get? b = some o) (hn : H it = none) (hL : it ≠ X.env.locals)
    (h1 : it ∈ X.ex ∨ X.s₀.heap.objs.size ≤ it) (h2 : ∀ x c, X.env.cells.lookup x = some c → c ≠ it) (h3 : ∀ p ∈ X.pn ++ pins, p.1 ≠ it) : Inv X pins σ H { s with heap := h', toks := t' } := by
  have nit : ∀ b u, H b = some u → b ≠ it := fun b u e z => by rw [z, hn] at e; cases e
  refine I.step (g' := s.gens) (d' := s.drawn) (ch := [it]) (fun b hb => ?_) (fun b o _ _ hc e _ => k b o (fun z => hc (by simp [z])) e) (fun b o _ _ hc e _ => ⟨o.slots, k b o (fun z => hc (by simp [z])) e⟩) (fun _ _ _ _ n => n)
    (fun b o hc e => ⟨o, k b o (fun z => hc (by simp [z])) e⟩) (fun _ _ e => e) (fun _ _ _ e => e) (fun b ps e => ⟨#[], by rw [e]; simp⟩) (fun m hm => ?_) (fun b u e => ?_) I.bare
  · have e : b = it := by simpa using hb
    subst e
    exact ⟨h1, hL, h2, h3⟩
  · obtain ⟨o, es, ep, ho, r⟩ := hm
    exact ⟨o, es, ep, k _ o (Ne.symm hL) ho, r⟩
  · refine (I.hok b u e).stay (fun c v hc q => k c v ?_ q) (fun _ q => q) fun _ _ q => q
    rcases hc with z | z
    · rw [z]; exact nit b u e
    · exact nit c _ z
theorem Inv.tok (I : Inv X pins σ H s) (t : Nat) : Inv X pins σ H { s with toks := t } := I.un (h' := s.heap) (t' := t) Un.refl I.hok
/-- all objects kept -/
theorem Inv.kept {t' : Nat} (I : Inv X pins σ H s) (k : ∀ b u, s.heap.get? b = some u → h'.get? b = some u) : Inv X pins σ H { s with heap := h', toks := t' } := I.un (Un.kept k) (I.hok.kept k)
/-- a new object laid and tracked -/
theorem Inv.laid {a : Addr} {o : HO} {t' : Nat} (I : Inv X pins σ H s) (k : ∀ b u, s.heap.get? b = some u → h'.get? b = some u) (hp : s.heap.objs.size ≤ a) (new : ObjOk X.prog X.w (upd H a o) h' a o) :
    Inv X pins σ (upd H a o) { s with heap := h', toks := t' } := I.un (Un.laid k hp (I.hok.fresh hp)) (I.hok.laid k hp new)
/-- an object written -/
theorem Inv.write {x e : Addr} {o : HO} {t' : Nat} (I : Inv X pins σ H s) (mu : Mut (H x)) (he : e = x ∨ H e = some (.own x)) (k : ∀ b u, b ≠ e → s.heap.get? b = some u → h'.get? b = some u) (heo : ∃ u, h'.get? e = some u)
    (new : ObjOk X.prog X.w (upd H x o) h' x o) : Inv X pins σ (upd H x o) { s with heap := h', toks := t' } := I.un (Un.write mu he k heo) (I.hok.write mu he k heo new)
theorem Inv.pins_of {pins' : List (Addr × Obj)} (I : Inv X pins σ H s) (h : ∀ p ∈ pins', s.heap.get? p.1 = some p.2 ∧ H p.1 = none ∧ p.1 ≠ X.env.locals ∧ p.1 ∉ X.fs ∧ ∀ v, p.2.data ≠ .cell v) : Inv X pins' σ H s :=
  ⟨I.ok, I.os, I.bare, I.base, I.loc, I.cell, I.free, I.freeC, fun p hp => (List.mem_append.mp hp).elim (fun z => I.pin p (List.mem_append_left _ z)) (h p), I.hok, I.len⟩

theorem nodup_ix {N : List Str} (hN : N.Nodup) {i j : Nat} {x : Str} (a : N[i]? = some x) (b : N[j]? = some x) : i = j := by
  obtain ⟨h1, e1⟩ := List.getElem?_eq_some_iff.mp a
  obtain ⟨h2, e2⟩ := List.getElem?_eq_some_iff.mp b
  exact (List.getElem_inj hN).mp (e1.trans e2.symm)

/-- a name is stored; what changed -/
theorem store_ok2 {M : Model} {A : Around} {E : Value → Shared → Prop} {i : Nat} {x : Str} {v : V} {u : Value} {Q : Unit → Shared → Prop} (I : Inv X pins σ H s) (hN : X.N.Nodup) (hi : X.N[i]? = some x) (hx : Loc X.env.scope x) (r : RelV v u)
    (h : ∀ s', Inv X pins (σ.set i (some v)) H s' → (∃ a, Heap.SameBut a s.heap s'.heap ∧ (a = X.env.locals ∨ X.env.cells.lookup x = some a)) → Q () s') (hf : X.fn x = true ∨ X.env.scope.names.lookup x = some .local := by first | exact .inl rfl | exact .inr rfl | assumption) : wpAny M A (storeName X.env x u) Q E s := by
  obtain ⟨m, hn, hl⟩ := id I.loc
  have hcls : (X.env.scope.kind == .class || (X.env.scope.kind == .module && X.env.locals != X.env.globals)) = false := by rw [I.ok.kind]; rfl
  have hiσ : i < σ.length := by rw [I.len]; exact (List.getElem?_eq_some_iff.mp hi).1
  have cne := I.cne
  have tracked : ∀ {a : Addr} {h' : Heap}, (∃ o, s.heap.get? a = some o ∧ H a = none) → Heap.SameBut a s.heap h' → HOk X.prog X.w H h' := fun {a h'} ha hs b ob e => by
    obtain ⟨_, _, hfree⟩ := ha
    refine (I.hok b ob e).stay (fun c w' hc q => (hs.2 c ?_).trans q) (fun _ q => q) fun _ _ q => q
    rintro rfl
    rcases hc with rfl | hc
    · rw [hfree] at e; cases e
    · rw [hfree] at hc; cases hc
  rcases hx with hk | hk
  · refine wpAny_storeName_local hk hn (fun h' hn' hs => ?_) hcls
    obtain ⟨oL, _, _, hoL, _⟩ := id hn
    refine h _ ⟨I.ok, I.os, I.bare, ⟨fun b o e n hb hx => ?_, fun b o e n hb hx => ?_, I.base.free, fun b o e hx => ?_, I.base.tups, I.base.frzs, I.base.tbls⟩, ⟨_, hn', fun j y v' e1 e2 e3 => ?_⟩, fun y c e => ?_, I.free, I.freeC, fun p hp => ?_, tracked ⟨oL, hoL, I.free⟩ hs, by simpa using I.len⟩ ⟨_, hs, .inl rfl⟩
    · exact (hs.2 b (Nat.ne_of_lt (Nat.lt_of_lt_of_le (Heap.lt_size e) I.ok.above))).trans (I.base.keep b o e n hb hx)
    · obtain ⟨sl, e1⟩ := I.base.slot b o e n hb hx
      exact ⟨sl, (hs.2 b (Nat.ne_of_lt (Nat.lt_of_lt_of_le (Heap.lt_size e) I.ok.above))).trans e1⟩
    · obtain ⟨o', e1⟩ := I.base.there b o e hx
      exact ⟨o', (hs.2 b (Nat.ne_of_lt (Nat.lt_of_lt_of_le (Heap.lt_size e) I.ok.above))).trans e1⟩
    · by_cases hj : j = i
      · subst hj
        rw [hi] at e1; cases e1
        rw [List.getElem?_set_self hiσ] at e2
        cases e2
        exact ⟨u, r, .inl ⟨hk, by simp⟩⟩
      · rw [List.getElem?_set_ne (Ne.symm hj)] at e2
        obtain ⟨u', r', q⟩ := hl j y v' e1 e2 e3
        refine ⟨u', r', ?_⟩
        rcases q with ⟨k, e⟩ | ⟨k, c, e, z⟩
        · refine .inl ⟨k, ?_⟩
          have : y ≠ x := fun e => hj (nodup_ix hN e1 (e ▸ hi))
          simp [this, e]
        · exact .inr ⟨k, c, e, z.sameBut hs (cne y c e)⟩
    · obtain ⟨w', z⟩ := I.cell y c e
      exact ⟨w', z.sameBut hs (cne y c e)⟩
    · obtain ⟨e, n, ne, nf, d⟩ := I.pin p hp
      exact ⟨(hs.2 p.1 ne).trans e, n, ne, nf, d⟩
  · have hfn : X.fn x = true := by
      rcases hf with z | z
      · exact z
      · rw [z] at hk; cases hk
    obtain ⟨c, hc⟩ := I.ok.has x (.inl hk)
    obtain ⟨w', z⟩ := I.cell x c hc
    refine wpAny_storeName_cell I.ok.kind hk hc z (fun h' hc' hs => ?_)
    obtain ⟨oc, hoc, hocd⟩ := id z
    refine h { s with heap := h' } ⟨I.ok, I.os, I.bare, ⟨fun b o e n hb hx => ?_, fun b o e n hb hx => ?_, I.base.free, fun b o e hx => ?_, I.base.tups, I.base.frzs, I.base.tbls⟩, ⟨m, hn.sameBut hs (Ne.symm (cne x c hc)), fun j y v' e1 e2 e3 => ?_⟩, fun y c' e => ?_, I.free, I.freeC, fun p hp => ?_, tracked ⟨oc, hoc, I.freeC x c hc⟩ hs, by simpa using I.len⟩ ⟨c, hs, .inr hc⟩
    · exact (hs.2 b (Nat.ne_of_lt (Nat.lt_of_lt_of_le (Heap.lt_size e) (I.ok.cab x c hfn hc)))).trans (I.base.keep b o e n hb hx)
    · obtain ⟨sl, e1⟩ := I.base.slot b o e n hb hx
      exact ⟨sl, (hs.2 b (Nat.ne_of_lt (Nat.lt_of_lt_of_le (Heap.lt_size e) (I.ok.cab x c hfn hc)))).trans e1⟩
    · obtain ⟨o', e1⟩ := I.base.there b o e hx
      exact ⟨o', (hs.2 b (Nat.ne_of_lt (Nat.lt_of_lt_of_le (Heap.lt_size e) (I.ok.cab x c hfn hc)))).trans e1⟩
    · by_cases hj : j = i
      · subst hj
        rw [hi] at e1; cases e1
        rw [List.getElem?_set_self hiσ] at e2
        cases e2
        exact ⟨u, r, .inr ⟨.inl hk, c, hc, hc'⟩⟩
      · rw [List.getElem?_set_ne (Ne.symm hj)] at e2
        obtain ⟨u', r', q⟩ := hl j y v' e1 e2 e3
        refine ⟨u', r', ?_⟩
        rcases q with q | ⟨k, c', e, z'⟩
        · exact .inl q
        · refine .inr ⟨k, c', e, z'.sameBut hs ?_⟩
          rintro rfl
          exact hj (nodup_ix hN e1 (I.ok.inj _ _ _ e hc ▸ hi))
    · by_cases hcc : c' = c
      · subst hcc; exact ⟨_, hc'⟩
      · obtain ⟨w2, z2⟩ := I.cell y c' e
        exact ⟨w2, z2.sameBut hs hcc⟩
    · obtain ⟨e, n, ne, nf, d⟩ := I.pin p hp
      refine ⟨(hs.2 p.1 ?_).trans e, n, ne, nf, d⟩
      intro q
      rw [q, hoc] at e
      have q' : oc = p.2 := Option.some.inj e
      exact d w' (by rw [← q']; exact hocd)
theorem store_ok {M : Model} {A : Around} {E : Value → Shared → Prop} {i : Nat} {x : Str} {v : V} {u : Value} {Q : Unit → Shared → Prop} (I : Inv X pins σ H s) (hN : X.N.Nodup) (hi : X.N[i]? = some x) (hx : Loc X.env.scope x) (r : RelV v u)
    (h : ∀ s', Inv X pins (σ.set i (some v)) H s' → Q () s') (hf : X.fn x = true ∨ X.env.scope.names.lookup x = some .local := by first | exact .inl rfl | exact .inr rfl | assumption) : wpAny M A (storeName X.env x u) Q E s :=
  store_ok2 I hN hi hx r (fun s' I' _ => h s' I') hf
/-- behind a call or a block, the state as it is -/
theorem Inv.call' {s' : Shared} {ch : List Addr} (I : Inv X pins σ H s) (ho : s'.os = s.os) (u : Un (frs X.stack) ch H H' s.heap s'.heap) (hok : HOk X.prog X.w H' s'.heap) (hg : AllBare s'.gens)
    (hch : ∀ b ∈ ch, (b ∈ X.ex ∨ X.s₀.heap.objs.size ≤ b) ∧ b ≠ X.env.locals ∧ (∀ x c, X.env.cells.lookup x = some c → c ≠ b) ∧ ∀ p ∈ X.pn ++ pins, p.1 ≠ b) : Inv X pins σ H' s' := by
  obtain ⟨h', g', d', t', o'⟩ := s'
  have e : o' = s.os := ho
  subst e
  exact I.call (g' := g') (t' := t') (d' := d') u hok hg hch
end

/-! ### the judgements -/
/-- an exception: its class, its own dict's address (where it has one), the abstract heap behind it -/
abbrev XK := Value → Option Addr → Hp → Prop
abbrev St := List (Option V)
abbrev VK := V → Hp → Prop
/-- an expression's reading; a test's; an argument list's -/
abbrev TE := St → Hp → VK → Prop
abbrev TT := St → Hp → (Bool → Hp → Prop) → Prop
abbrev TA := St → Hp → (List V → Hp → Prop) → Prop
/-- what is wanted behind a statement -/
structure Ends where
  nx : St → Hp → Prop
  rt : VK
  bk : St → Hp → Prop := fun _ _ => False
  ct : St → Hp → Prop := fun _ _ => False
abbrev TS := Ends → St → Hp → Prop

def EP (X : Cx) (pins : List (Addr × Obj)) (σ : St) (Q : VK) (u : Value) (s' : Shared) : Prop := ∃ v H', Inv X pins σ H' s' ∧ RelV v u ∧ Q v H'
def TP (X : Cx) (pins : List (Addr × Obj)) (σ : St) (Q : Bool → Hp → Prop) (b : Bool) (s' : Shared) : Prop := ∃ H', Inv X pins σ H' s' ∧ Q b H'
def AP (X : Cx) (pins : List (Addr × Obj)) (σ : St) (Q : List V → Hp → Prop) (us : List Value) (s' : Shared) : Prop := ∃ vs H', Inv X pins σ H' s' ∧ Vals vs us ∧ Q vs H'
def SP (X : Cx) (pins : List (Addr × Obj)) (D : Ends) (f : Flow) (s' : Shared) : Prop :=
  match f with
  | .next => ∃ σ' H', Inv X pins σ' H' s' ∧ D.nx σ' H'
  | .brk => ∃ σ' H', Inv X pins σ' H' s' ∧ D.bk σ' H'
  | .cont => ∃ σ' H', Inv X pins σ' H' s' ∧ D.ct σ' H'
  | .ret u => ∃ v σ' H', Inv X pins σ' H' s' ∧ RelV v u ∧ D.rt v H'

def PE (X : Cx) (e : Expr) (t : TE) : Prop :=
  ∀ (pins : List (Addr × Obj)) (s : Shared) (σ : St) (H : Hp) (Q : VK), Inv X pins σ H s → t σ H Q → wpAny (model X.prog X.w) X.A (eval e X.env) (EP X pins σ Q) X.xe s
def PT (X : Cx) (e : Expr) (t : TT) : Prop :=
  ∀ (pins : List (Addr × Obj)) (s : Shared) (σ : St) (H : Hp) (Q : Bool → Hp → Prop), Inv X pins σ H s → t σ H Q → wpAny (model X.prog X.w) X.A (isTrue e X.env (eval e X.env)) (TP X pins σ Q) X.xe s
/-- a test whatever its 'whole' is (and, or) -/
def PW (X : Cx) (e : Expr) (t : TT) : Prop :=
  ∀ (whole : Sem Value) (pins : List (Addr × Obj)) (s : Shared) (σ : St) (H : Hp) (Q : Bool → Hp → Prop), Inv X pins σ H s → t σ H Q → wpAny (model X.prog X.w) X.A (isTrue e X.env whole) (TP X pins σ Q) X.xe s
theorem PW.pt {X : Cx} {e : Expr} {t : TT} (h : PW X e t) : PT X e t := h _
/-- an argument list (no star), from the left -/
def PA (X : Cx) (es : List Expr) (t : TA) : Prop :=
  ∀ (pos : Pos) (pins : List (Addr × Obj)) (s : Shared) (σ : St) (H : Hp) (Q : List V → Hp → Prop), Inv X pins σ H s → t σ H Q → wpAny (model X.prog X.w) X.A (spliced (backTo pos (starEach es X.env))) (AP X pins σ Q) X.xe s
def PS (X : Cx) (st : Stmt) (t : TS) : Prop :=
  ∀ (pins : List (Addr × Obj)) (s : Shared) (σ : St) (H : Hp) (D : Ends), Inv X pins σ H s → t D σ H → wpAny (model X.prog X.w) X.A (exec st X.env) (SP X pins D) X.xe s
def PSs (X : Cx) (st : List Stmt) (t : TS) : Prop :=
  ∀ (pins : List (Addr × Obj)) (s : Shared) (σ : St) (H : Hp) (D : Ends), Inv X pins σ H s → t D σ H → wpAny (model X.prog X.w) X.A (execs st X.env) (SP X pins D) X.xe s
/-- weaken the end -/
theorem thn {α : Type} {t : Sem α} {Q Q' : α → Shared → Prop} {M : Model} {A : Around} {E : Value → Shared → Prop} {s : Shared} (h : wpAny M A t Q E s) (hQ : ∀ a s, Q a s → Q' a s) : wpAny M A t Q' E s := wpAny_mono h hQ fun _ _ x => x
end L2

namespace L2
open PySem PySem.Spec PyProof.Rows
section
variable {X : Cx}

/-- two expressions in a row -/
theorem bin {a b : Expr} {ta tb : TE} (ha : PE X a ta) (hb : PE X b tb) {pins : List (Addr × Obj)} {s : Shared} {σ : St} {H : Hp} {R : V → V → Hp → Prop} (I : Inv X pins σ H s) (h : ta σ H fun x H1 => tb σ H1 fun y H2 => R x y H2)
    {α : Type} {Q : α → Shared → Prop} {f : Value → Value → Sem α}
    (hf : ∀ v u s2 x y H2, Inv X pins σ H2 s2 → RelV x v → RelV y u → R x y H2 → wpAny (model X.prog X.w) X.A (f v u) Q X.xe s2) :
    wpAny (model X.prog X.w) X.A (eval a X.env) (fun v s₁ => wpAny (model X.prog X.w) X.A (eval b X.env) (fun u s₂ => wpAny (model X.prog X.w) X.A (f v u) Q X.xe s₂) X.xe s₁) X.xe s := by
  refine thn (ha pins s σ H _ I h) fun v s1 hq0 => ?_
  obtain ⟨x, H1, I1, r1, q1⟩ := hq0
  refine thn (hb pins s1 σ H1 _ I1 q1) fun u s2 hq0 => ?_
  obtain ⟨y, H2, I2, r2, q2⟩ := hq0
  exact hf v u s2 x y H2 I2 r1 r2 q2

/-! ### names and constants -/
def tVar (i : Nat) : TE := fun σ H Q => ∃ v, σ[i]? = some (some v) ∧ Q v H
def tC (v : V) : TE := fun _ H Q => Q v H
theorem pe_var {i : Nat} {x : Str} {pos : Pos} (hN : X.N[i]? = some x) (hv : Vis X.env.scope x) (hd : (x == ("__debug__" : Str)) = false := by decide) (hcd : (x == ("__classdict__" : Str)) = false := by decide) : PE X (.Name x pos) (tVar i) := by
  intro pins s σ H Q I h
  obtain ⟨v, e, h⟩ := h
  obtain ⟨m, hn, hl⟩ := I.loc
  obtain ⟨u, r, l⟩ := hl i x v hN e hv
  have fin : EP X pins σ Q u s := ⟨v, H, I, r, h⟩
  rcases l with ⟨hk, hm⟩ | ⟨hk, c, hc, hcell⟩
  · exact wpAny_Name (wpAny_loadName_local I.ok.kind hk hn hm fin) hd
  · rcases hk with hk | hk
    · exact wpAny_Name (wpAny_loadName_cell I.ok.kind hk hc hcell fin) hd
    · exact wpAny_Name (wpAny_loadName_free I.ok.kind hk hc hcell fin hcd) hd
theorem pe_int {i j pos} : PE X (.Constant (.int i) j pos) (tC (.int i)) := fun _ _ _ H _ I h => wpAny_Constant_int ⟨.int i, H, I.tok _, ⟨_, rfl⟩, h⟩
theorem pe_bl {b j pos} : PE X (.Constant (.bool b) j pos) (tC (.bl b)) := fun _ _ _ H _ I h => Constant_bool ⟨.bl b, H, I, rfl, h⟩
theorem pe_non {j pos} : PE X (.Constant .none j pos) (tC .non) := fun _ _ _ H _ I h => Constant_none ⟨.non, H, I, rfl, h⟩
theorem pe_str {x j pos} : PE X (.Constant (.str x) j pos) (tC (.str x)) := fun _ _ _ H _ I h => Calls.Constant_str ⟨.str x, H, I.tok _, ⟨_, rfl⟩, h⟩

/-- a global name of the def -/
def Gl (X : Cx) (x : Str) : Prop := X.env.kindOf x = some .globalImplicit
theorem ld_glob {E : Value → Shared → Prop} {pins : List (Addr × Obj)} {s : Shared} {σ : St} {H : Hp} {x : Str} {u : Value} {pos : Pos} {Q : Value → Shared → Prop} (I : Inv X pins σ H s) (hg : Gl X x) (hm : X.mg x = some u) (h : Q u s)
    (hd : (x == ("__debug__" : Str)) = false := by decide) : wpAny (model X.prog X.w) X.A (eval (.Name x pos) X.env) Q E s :=
  Calls.Name_function_global I.ok.kind hg (Calls.loadGlobal_global (by rw [I.ok.glob]; exact I.mod.glob.keeps I.bk) hm h) hd
theorem ld_blt {E : Value → Shared → Prop} {pins : List (Addr × Obj)} {s : Shared} {σ : St} {H : Hp} {x : Str} {u : Value} {pos : Pos} {Q : Value → Shared → Prop} (I : Inv X pins σ H s) (hg : Gl X x) (hm : X.mg x = none) (hv : bootBuiltins x = some u) (h : Q u s)
    (hn : x ≠ "__name__" := by decide) (hd : (x == ("__debug__" : Str)) = false := by decide) : wpAny (model X.prog X.w) X.A (eval (.Name x pos) X.env) Q E s := by
  obtain ⟨mb, h1, h2⟩ := I.mod.blt
  exact Calls.Name_function_global I.ok.kind hg (Calls.loadGlobal_builtin (by rw [I.ok.glob]; exact I.mod.glob.keeps I.bk) hm (by rw [I.ok.blt]; exact h1.keeps I.bk) ((h2 x hn).trans hv) h) hd
/-- a module's constant, a class, a function, as a value -/
theorem pe_glob {x : Str} {v : V} {u : Value} {pos : Pos} (hg : Gl X x) (hm : X.mg x = some u) (r : RelV v u) (hd : (x == ("__debug__" : Str)) = false := by decide) : PE X (.Name x pos) (tC v) :=
  fun _ _ _ H _ I h => ld_glob I hg hm ⟨v, H, I, r, h⟩ hd
theorem pe_bltn {x : Str} {v : V} {u : Value} {pos : Pos} (hg : Gl X x) (hm : X.mg x = none) (hv : bootBuiltins x = some u) (r : RelV v u) (hn : x ≠ "__name__" := by decide) (hd : (x == ("__debug__" : Str)) = false := by decide) : PE X (.Name x pos) (tC v) :=
  fun _ _ _ H _ I h => ld_blt I hg hm hv ⟨v, H, I, r, h⟩ hn hd

/-! ### arithmetic -/
variable {a b : Expr} {ta tb : TE} {pos : Pos}

/-! ### comparisons -/
def PC (X : Cx) (op : CmpOp) (a b : Expr) (t : TE) : Prop :=
  ∀ (pins : List (Addr × Obj)) (s : Shared) (σ : St) (H : Hp) (Q : VK), Inv X pins σ H s → t σ H Q →
    wpAny (model X.prog X.w) X.A (eval a X.env) (fun v s₁ => wpAny (model X.prog X.w) X.A (eval b X.env) (fun u s₂ => wpAny (model X.prog X.w) X.A (compareOp op v u) (EP X pins σ Q) X.xe s₂) X.xe s₁) X.xe s
theorem nobehind (b : Expr) {op : CmpOp} (h : op ≠ .In) (h2 : op ≠ .NotIn) : behindInMarks op b = false := by
  have e1 : (op == CmpOp.In) = false := by cases op <;> first | rfl | exact absurd rfl h
  have e2 : (op == CmpOp.NotIn) = false := by cases op <;> first | rfl | exact absurd rfl h2
  cases b <;> simp [behindInMarks, e1, e2]
/-- is None -/
def tIsN (ta : TE) : TE := fun σ H Q => ta σ H fun x H1 => Q (.bl (decide (x = .non))) H1
theorem RelV.none_iff {x : V} {v : Value} (r : RelV x v) : (v == Value.none) = decide (x = .non) := by
  cases x with
  | non => cases r; rfl
  | bl _ => cases r; rfl
  | int _ => obtain ⟨t, rfl⟩ := r; rfl
  | str _ => obtain ⟨t, rfl⟩ := r; rfl
  | byt _ => obtain ⟨t, rfl⟩ := r; rfl
  | flt _ => obtain ⟨t, rfl⟩ := r; rfl
  | ref _ => cases r; rfl
  | ty _ => cases r; rfl
theorem pc_isN {j pos'} (ha : PE X a ta) : PC X .Is a (.Constant .none j pos') (tIsN ta) := by
  intro pins s σ H Q I h
  refine thn (ha pins s σ H _ I h) fun v s1 hq0 => ?_
  obtain ⟨x, H1, I1, r1, q1⟩ := hq0
  exact Constant_none (is_none_gen ⟨.bl _, H1, I1, by rw [r1.none_iff]; rfl, q1⟩)
/-- a comparison as a value, as a test -/
def tB (t : TE) : TT := fun σ H Q => t σ H fun x H1 => ∃ c, x = .bl c ∧ Q c H1
theorem pe_cmp {op : CmpOp} {t : TE} (h : PC X op a b t) (h1 : behindInMarks op b = false := by first | exact nobehind _ (by decide) (by decide) | rfl) : PE X (.Compare a [op] [b] pos) t := fun pins s σ H Q I hw => wpAny_Compare1 (h pins s σ H Q I hw) h1
theorem pt_cmp {op : CmpOp} {t : TE} (h : PC X op a b t) (h1 : behindInMarks op b = false := by first | exact nobehind _ (by decide) (by decide) | rfl) : PT X (.Compare a [op] [b] pos) (tB t) := by
  intro pins s σ H Q I hw
  refine wpAny_isTrue_Compare1 (thn (h pins s σ H _ I hw) fun v s1 h1 => thn h1 fun u s2 h2 => thn h2 fun c s3 hq0 => ?_) h1
  obtain ⟨x, H1, I1, r1, q1⟩ := hq0
  obtain ⟨d, rfl, q⟩ := q1
  cases r1
  exact wpAny_truthy_bool ⟨H1, I1, q⟩
/-- an expression whose value is a bool, as a test -/
theorem pt_val {e : Expr} {t : TE} (h : PE X e t) (he : ∀ whole, isTrue e X.env whole = (do let v ← whole; standAt e.pos; holding [v] (truthy v)) := by intro _; rfl) : PT X e (tB t) := by
  intro pins s σ H Q I hw
  refine isTrue_plain (thn (h pins s σ H _ I hw) fun v s1 hq0 => ?_) (he _)
  obtain ⟨x, H1, I1, r1, q1⟩ := hq0
  obtain ⟨d, rfl, q⟩ := q1
  cases r1
  exact wpAny_truthy_bool ⟨H1, I1, q⟩

/-! ### and, or, not -/
variable {tA tB' : TT} {rest : List Expr}
def tAnd (t u : TT) : TT := fun σ H Q => t σ H fun c H1 => if c = true then u σ H1 Q else Q false H1
def tOr (t u : TT) : TT := fun σ H Q => t σ H fun c H1 => if c = true then Q true H1 else u σ H1 Q
def tNot (t : TT) : TT := fun σ H Q => t σ H fun c H1 => Q (!c) H1
theorem pw_and1 (ha : PT X a tA) : PW X (.BoolOp .And [a] pos) tA := by
  intro wh pins s σ H Q I h
  refine isTrue_and (thn (ha pins s σ H Q I h) fun c s1 e => ?_)
  cases c with
  | true => exact isTrue_and_nil e
  | false => exact e
theorem pw_or1 (ha : PT X a tA) : PW X (.BoolOp .Or [a] pos) tA := by
  intro wh pins s σ H Q I h
  refine isTrue_or (thn (ha pins s σ H Q I h) fun c s1 e => ?_)
  cases c with
  | false => exact isTrue_or_nil e
  | true => exact e
theorem pw_and (ha : PT X a tA) (hb : PW X (.BoolOp .And (b :: rest) pos) tB') : PW X (.BoolOp .And (a :: b :: rest) pos) (tAnd tA tB') := by
  intro wh pins s σ H Q I h
  refine isTrue_and (thn (ha pins s σ H _ I h) fun c s1 hq0 => ?_)
  obtain ⟨H1, I1, q1⟩ := hq0
  cases c with
  | true => exact hb wh pins s1 σ H1 Q I1 q1
  | false => exact ⟨H1, I1, q1⟩
theorem pw_or (ha : PT X a tA) (hb : PW X (.BoolOp .Or (b :: rest) pos) tB') : PW X (.BoolOp .Or (a :: b :: rest) pos) (tOr tA tB') := by
  intro wh pins s σ H Q I h
  refine isTrue_or (thn (ha pins s σ H _ I h) fun c s1 hq0 => ?_)
  obtain ⟨H1, I1, q1⟩ := hq0
  cases c with
  | true => exact ⟨H1, I1, q1⟩
  | false => exact hb wh pins s1 σ H1 Q I1 q1
theorem pt_not (ha : PT X a tA) : PT X (.UnaryOp .Not a pos) (tNot tA) := by
  intro pins s σ H Q I h
  exact isTrue_not (ha pins s σ H (fun c H1 => Q (!c) H1) I h)
/-- .. as values (bools) -/
def tAndV (ta tb : TE) : TE := fun σ H Q => ta σ H fun x H1 => ∃ c, x = .bl c ∧ if c = true then tb σ H1 Q else Q (.bl false) H1
def tOrV (ta tb : TE) : TE := fun σ H Q => ta σ H fun x H1 => ∃ c, x = .bl c ∧ if c = true then Q (.bl true) H1 else tb σ H1 Q
def tNotV (ta : TE) : TE := fun σ H Q => ta σ H fun x H1 => ∃ c, x = .bl c ∧ Q (.bl (!c)) H1
theorem pe_one {op} {t : TE} (h : PE X a t) : PE X (.BoolOp op [a] pos) t := fun pins s σ H Q I hw => BoolOp_one (h pins s σ H Q I hw)
theorem pe_and (ha : PE X a ta) (hb : PE X (.BoolOp .And (b :: rest) pos) tb) : PE X (.BoolOp .And (a :: b :: rest) pos) (tAndV ta tb) := by
  intro pins s σ H Q I h
  refine BoolOp_and (thn (ha pins s σ H _ I h) fun v s1 hq0 => ?_)
  obtain ⟨x, H1, I1, r1, q1⟩ := hq0
  obtain ⟨c, rfl, q1⟩ := q1
  cases r1
  refine wpAny_truthy_bool ?_
  cases c with
  | true => exact hb pins s1 σ H1 Q I1 q1
  | false => exact ⟨.bl false, H1, I1, rfl, q1⟩
theorem pe_or (ha : PE X a ta) (hb : PE X (.BoolOp .Or (b :: rest) pos) tb) : PE X (.BoolOp .Or (a :: b :: rest) pos) (tOrV ta tb) := by
  intro pins s σ H Q I h
  refine BoolOp_or (thn (ha pins s σ H _ I h) fun v s1 hq0 => ?_)
  obtain ⟨x, H1, I1, r1, q1⟩ := hq0
  obtain ⟨c, rfl, q1⟩ := q1
  cases r1
  refine wpAny_truthy_bool ?_
  cases c with
  | false => exact hb pins s1 σ H1 Q I1 q1
  | true => exact ⟨.bl true, H1, I1, rfl, q1⟩
theorem pe_not (ha : PE X a ta) : PE X (.UnaryOp .Not a pos) (tNotV ta) := by
  intro pins s σ H Q I h
  refine UnaryOp_ (thn (ha pins s σ H _ I h) fun v s1 hq0 => ?_)
  obtain ⟨x, H1, I1, r1, q1⟩ := hq0
  obtain ⟨c, rfl, q1⟩ := q1
  cases r1
  exact not_of (wpAny_truthy_bool ⟨.bl (!c), H1, I1, rfl, q1⟩)
/-- a if t else b -/
def tIf (t : TT) (ta tb : TE) : TE := fun σ H Q => t σ H fun c H1 => if c = true then ta σ H1 Q else tb σ H1 Q
theorem pe_ifExp {c : Expr} (hc : PT X c tA) (ha : PE X a ta) (hb : PE X b tb) : PE X (.IfExp c a b pos) (tIf tA ta tb) := by
  intro pins s σ H Q I h
  refine wpAny_IfExp (thn (hc pins s σ H _ I h) fun d s1 hq0 => ?_)
  obtain ⟨H1, I1, q1⟩ := hq0
  cases d with
  | true => exact ha pins s1 σ H1 Q I1 q1
  | false => exact hb pins s1 σ H1 Q I1 q1
end
end L2

namespace L2
open PySem PySem.Spec PyProof.Rows

/-! ### a list, a tuple that is read: tracked, frozen, or an object of the module -/
def SqL (K : PySem.W.Frag) (H : Hp) (a : Addr) (xs : List V) : Prop :=
  Rd H a (.lst xs) ∨
    ∃ (o : Obj) (its : Array Value) (n : Nat), K.lookup a = some o ∧ o.cls = .type "list" ∧ o.dict = none ∧ o.data = .seq its n ∧ its.size ≤ sizeLine ∧ Vals xs its.toList
def SqT (K : PySem.W.Frag) (H : Hp) (a : Addr) (xs : List V) : Prop :=
  Rd H a (.tup xs) ∨
    ∃ (o : Obj) (its : Array Value) (n : Nat), K.lookup a = some o ∧ o.cls = .type "tuple" ∧ o.data = .seq its n ∧ its.size ≤ sizeLine ∧ Vals xs its.toList
def absV : Value → Option V
  | .none => some .non
  | .bool b => some (.bl b)
  | .int i _ => some (.int i)
  | .str x _ => some (.str x)
  | .bytes b _ => some (.byt b)
  | .float b _ => some (.flt b)
  | .ref a => some (.ref a)
  | .type n => some (.ty n)
  | _ => none
theorem RelV.abs {x : V} {u : Value} (r : RelV x u) : absV u = some x := by
  cases x with
  | non => cases r; rfl
  | bl _ => cases r; rfl
  | int _ => obtain ⟨t, rfl⟩ := r; rfl
  | str _ => obtain ⟨t, rfl⟩ := r; rfl
  | byt _ => obtain ⟨t, rfl⟩ := r; rfl
  | flt _ => obtain ⟨t, rfl⟩ := r; rfl
  | ref _ => cases r; rfl
  | ty _ => cases r; rfl
theorem RelV.inj {x y : V} {u : Value} (r : RelV x u) (q : RelV y u) : x = y := Option.some.inj (r.abs.symm.trans q.abs)
theorem Vals.inj : ∀ {xs ys : List V} {us : List Value}, Vals xs us → Vals ys us → xs = ys
  | _, _, _, .nil, .nil => rfl
  | _, _, _, .cons r t, .cons r' t' => by rw [r.inj r', Vals.inj t t']
section
variable {X : Cx} {pins : List (Addr × Obj)} {σ : St} {H : Hp} {s : Shared} {a : Addr} {xs ys : List V}
theorem SqL.of {K : PySem.W.Frag} (h : H a = some (.lst xs)) : SqL K H a xs := .inl (.inl h)
theorem SqT.of {K : PySem.W.Frag} (h : H a = some (.tup xs)) : SqT K H a xs := .inl (.inl h)
theorem Inv.list (I : Inv X pins σ H s) (h : SqL X.K H a xs) : ∃ its : List Value, Vals xs its ∧ PlainL s.heap a its.toArray ∧ xs.length ≤ sizeLine := by
  rcases h with h | ⟨o, its, n, hk, hc, hd, hs, hz, r⟩
  · obtain ⟨z, its, n, r, e⟩ := h.ok I.hok
    exact ⟨its, r, ⟨_, n, e, rfl, rfl, rfl⟩, z⟩
  · refine ⟨its.toList, r, ⟨o, n, I.kIn a o hk, hc, hd, by simpa using hs⟩, ?_⟩
    have e := r.length
    simp only [Array.length_toList] at e
    omega
theorem Inv.tuple (I : Inv X pins σ H s) (h : SqT X.K H a xs) : ∃ its : List Value, Vals xs its ∧ IsTup s.heap a its.toArray ∧ xs.length ≤ sizeLine := by
  rcases h with h | ⟨o, its, n, hk, hc, hs, hz, r⟩
  · obtain ⟨z, its, r, p⟩ := h.ok I.hok
    exact ⟨its, r, p, z⟩
  · refine ⟨its.toList, r, ⟨o, I.kIn a o hk, hc, n, by simpa using hs⟩, ?_⟩
    have e := r.length
    simp only [Array.length_toList] at e
    omega
theorem Inv.list_inj (I : Inv X pins σ H s) (h : SqL X.K H a xs) (h' : SqL X.K H a ys) : xs = ys := by
  obtain ⟨its, r, ⟨o, n, e, _, _, d⟩, _⟩ := I.list h
  obtain ⟨its', r', ⟨o', n', e', _, _, d'⟩, _⟩ := I.list h'
  rw [e] at e'; cases e'
  rw [d] at d'
  injection d' with d1 _
  have : its = its' := by simpa using congrArg Array.toList d1
  subst this
  exact r.inj r'
theorem Inv.tuple_inj (I : Inv X pins σ H s) (h : SqT X.K H a xs) (h' : SqT X.K H a ys) : xs = ys := by
  obtain ⟨its, r, ⟨o, e, _, n, d⟩, _⟩ := I.tuple h
  obtain ⟨its', r', ⟨o', e', _, n', d'⟩, _⟩ := I.tuple h'
  rw [e] at e'; cases e'
  rw [d] at d'
  injection d' with d1 _
  have : its = its' := by simpa using congrArg Array.toList d1
  subst this
  exact r.inj r'
end

/-! ### another wish about exceptions -/
abbrev Cx.wish (X : Cx) (E : Value → Shared → Prop) : Cx := { X with xe := E }
/-- no exception leaves -/
abbrev Cx.nox (X : Cx) : Cx := X.wish fun _ _ => False
theorem Cx.Ok.wish {X : Cx} (ok : X.Ok) (E : Value → Shared → Prop) : (X.wish E).Ok :=
  ⟨ok.mod, ok.kind, ok.glob, ok.blt, ok.above, ok.inj, ok.has, ok.cab, ok.hd, ok.frames, ok.stk, ok.exf, ok.bs, ok.bsz, ok.noex, ok.exfs, ok.funs, ok.frf⟩
theorem Cx.Ok.unwish {X : Cx} {E : Value → Shared → Prop} (ok : (X.wish E).Ok) : X.Ok :=
  ⟨ok.mod, ok.kind, ok.glob, ok.blt, ok.above, ok.inj, ok.has, ok.cab, ok.hd, ok.frames, ok.stk, ok.exf, ok.bs, ok.bsz, ok.noex, ok.exfs, ok.funs, ok.frf⟩
section
variable {X : Cx} {pins : List (Addr × Obj)} {σ : St} {H : Hp} {s : Shared} {E : Value → Shared → Prop}
theorem Inv.wish (I : Inv X pins σ H s) (E : Value → Shared → Prop) : Inv (X.wish E) pins σ H s := ⟨I.ok.wish E, I.os, I.bare, I.base, I.loc, I.cell, I.free, I.freeC, I.pin, I.hok, I.len⟩
theorem Inv.unwish (I : Inv (X.wish E) pins σ H s) : Inv X pins σ H s := ⟨I.ok.unwish, I.os, I.bare, I.base, I.loc, I.cell, I.free, I.freeC, I.pin, I.hok, I.len⟩
theorem SP.unwish {D : Ends} {f : Flow} {s' : Shared} (h : SP (X.wish E) pins D f s') : SP X pins D f s' := by
  cases f with
  | next => obtain ⟨σ', H', I, q⟩ := h; exact ⟨σ', H', I.unwish, q⟩
  | brk => obtain ⟨σ', H', I, q⟩ := h; exact ⟨σ', H', I.unwish, q⟩
  | cont => obtain ⟨σ', H', I, q⟩ := h; exact ⟨σ', H', I.unwish, q⟩
  | ret u => obtain ⟨v, σ', H', I, r, q⟩ := h; exact ⟨v, σ', H', I.unwish, r, q⟩
theorem PSs.nox {st : List Stmt} {t : TS} (h : PSs X.nox st t) : PSs X st t := fun pins s σ H D I hw =>
  wpAny_mono (h pins s σ H D (I.wish _) hw) (fun _ _ q => q.unwish) fun _ _ z => False.elim z
end

/-! ### blocks and small statements -/
section
variable {X : Cx} {st : Stmt} {rest : List Stmt} {t u : TS} {e : Expr} {te : TE} {pos : Pos}
def tNext : TS := fun D σ H => D.nx σ H
def tSeq (t u : TS) : TS := fun D σ H => t { D with nx := u D } σ H
theorem pss_nil : PSs X [] tNext := fun _ _ σ H _ I h => wpAny_execs_nil ⟨σ, H, I, h⟩
theorem pss_cons (h1 : PS X st t) (h2 : PSs X rest u) : PSs X (st :: rest) (tSeq t u) := by
  intro pins s σ H D I h
  refine wpAny_execs_cons (thn (h1 pins s σ H { D with nx := u D } I h) fun f s1 q => ?_)
  cases f with
  | next =>
    obtain ⟨σ', H', I', q⟩ := q
    exact h2 pins s1 σ' H' D I' q
  | ret v => exact q
  | brk => exact q
  | cont => exact q
theorem pss_one (h1 : PS X st t) : PSs X [st] t := by
  intro pins s σ H D I h
  refine wpAny_execs_cons (thn (h1 pins s σ H D I h) fun f s1 q => ?_)
  cases f with
  | next => exact wpAny_execs_nil q
  | ret v => exact q
  | brk => exact q
  | cont => exact q
/-- in a def's body nothing is shown -/
theorem Inv.quiet {pins : List (Addr × Obj)} {σ : St} {H : Hp} {s : Shared} (I : Inv X pins σ H s) : interactive X.env = false := by simp [interactive, I.ok.kind]
/-- an expression whose value is dropped -/
def tDrop (te : TE) : TS := fun D σ H => te σ H fun _ H1 => D.nx σ H1
theorem ps_expr (he : PE X e te) (hs : swapsWith e none pos.line X.env = pure false := by rfl) : PS X (.Expr e pos) (tDrop te) := by
  intro pins s σ H D I h
  exact wpAny_Expr_any (thn (he pins s σ H _ I h) fun v s1 ⟨x, H1, I1, r1, q1⟩ => ⟨σ, H1, I1, q1⟩) I.quiet hs
def tRet (te : TE) : TS := fun D σ H => te σ H D.rt
theorem ps_ret (he : PE X e te) : PS X (.Return (some e) pos) (tRet te) := by
  intro pins s σ H D I h
  exact wpAny_Return_some (thn (he pins s σ H _ I h) fun v s1 ⟨x, H1, I1, r1, q1⟩ => ⟨x, σ, H1, I1, r1, q1⟩)
def tIfS (c : TT) (t u : TS) : TS := fun D σ H => c σ H fun b H1 => if b = true then t D σ H1 else u D σ H1
theorem ps_if {c : Expr} {a b : List Stmt} {tc : TT} (hc : PT X c tc) (ha : PSs X a t) (hb : PSs X b u) : PS X (.If c a b pos) (tIfS tc t u) := by
  intro pins s σ H D I h
  refine wpAny_If (thn (hc pins s σ H _ I h) fun d s1 hq0 => ?_)
  obtain ⟨H1, I1, q1⟩ := hq0
  cases d with
  | true => exact ha pins s1 σ H1 D I1 q1
  | false => exact hb pins s1 σ H1 D I1 q1
/-- code that the proof never comes to -/
def tNever : TS := fun _ _ _ => False
theorem ps_never : PS X st tNever := fun _ _ _ _ _ _ h => h.elim
theorem pss_never {sts : List Stmt} : PSs X sts tNever := fun _ _ _ _ _ _ h => h.elim
end

/-! ### targets -/
abbrev TG := V → St → Hp → (St → Hp → Prop) → Prop
abbrev TGs := List V → St → Hp → (St → Hp → Prop) → Prop
def PG (X : Cx) (target : Expr) (t : TG) : Prop :=
  ∀ (pins : List (Addr × Obj)) (s : Shared) (σ : St) (H : Hp) (v : V) (u : Value) (Q : St → Hp → Prop), Inv X pins σ H s → RelV v u → t v σ H Q →
    wpAny (model X.prog X.w) X.A (assign target X.env u) (fun _ s' => ∃ σ' H', Inv X pins σ' H' s' ∧ Q σ' H') X.xe s
/-- several targets, one after another -/
def PGs (X : Cx) (ts : List Expr) (t : TGs) : Prop :=
  ∀ (pins : List (Addr × Obj)) (s : Shared) (σ : St) (H : Hp) (vs : List V) (us : List Value) (Q : St → Hp → Prop), Inv X pins σ H s → Vals vs us → t vs σ H Q →
    wpAny (model X.prog X.w) X.A (assignInOrder ((assignEach ts X.env).map (·.2)) us) (fun _ s' => ∃ σ' H', Inv X pins σ' H' s' ∧ Q σ' H') X.xe s
section
variable {X : Cx} {pos : Pos}
def gName (i : Nat) : TG := fun v σ H Q => Q (σ.set i (some v)) H
theorem pg_name {i : Nat} {x : Str} (hN : X.N.Nodup) (hi : X.N[i]? = some x) (hx : Loc X.env.scope x) (hf : X.fn x = true ∨ X.env.scope.names.lookup x = some .local := by first | exact .inl rfl | exact .inr rfl | assumption) : PG X (.Name x pos) (gName i) := by
  intro pins s σ H v u Q I r h
  exact wpAny_assign_Name (store_ok I hN hi hx r (fun s' I' => ⟨_, H, I', h⟩) hf)
def gNil : TGs := fun vs σ H Q => vs = [] ∧ Q σ H
def gCons (t : TG) (u : TGs) : TGs := fun vs σ H Q => ∃ v r, vs = v :: r ∧ t v σ H fun σ' H' => u r σ' H' Q
theorem pgs_nil : PGs X [] gNil := by
  intro pins s σ H vs us Q I r h
  obtain ⟨e, h⟩ := h
  subst e
  cases r
  exact assignInOrder_nil ⟨σ, H, I, h⟩
theorem pgs_cons {e : Expr} {es : List Expr} {t : TG} {u : TGs} (h1 : PG X e t) (h2 : PGs X es u)
    (hs : (assignEach (e :: es) X.env).map (·.2) = assign e X.env :: (assignEach es X.env).map (·.2) := by rfl) : PGs X (e :: es) (gCons t u) := by
  intro pins s σ H vs us Q I r h
  obtain ⟨v, vr, e1, h⟩ := h
  subst e1
  cases r with
  | cons r rr =>
    rw [hs]
    refine assignInOrder_cons (thn (h1 pins s σ H _ _ _ I r h) fun _ s1 hq0 => ?_)
    obtain ⟨σ1, H1, I1, q1⟩ := hq0
    exact h2 pins s1 σ1 H1 _ _ Q I1 rr q1
/-- (a, b, ..) = a tuple of that length -/
def gTup (K : PySem.W.Frag) (n : Nat) (t : TGs) : TG := fun v σ H Q => ∃ a xs, v = .ref a ∧ SqT K H a xs ∧ xs.length = n ∧ t xs σ H Q
theorem pg_tup {es : List Expr} {k : Nat} {t : TGs} {n : Nat} (hc : X.calm = true) (h : PGs X es t)
    (hn : (assignEach es X.env).length = n := by rfl) (hst : (assignEach es X.env).findIdx? (·.1) = none := by rfl) : PG X (.Tuple es k pos) (gTup X.K n t) := by
  intro pins s σ H v u Q I r hw
  obtain ⟨a, xs, e1, hq, hl, hw⟩ := hw
  subst e1
  cases r
  obtain ⟨its, rv, ht, hz⟩ := I.tuple hq
  refine assign_Tuple_tuple (I.ok.hd hc) ht (by simp [hn, ← hl, rv.length]) hst fun h' hx => ?_
  have I1 : Inv X pins σ H { s with heap := h' } := I.kept (t' := s.toks) fun b o e => hx b o (Nat.ne_of_lt (Heap.lt_size e)) e
  exact h pins _ σ H xs _ Q I1 (by simpa using rv) hw
/-- target = value -/
def tAsg (te : TE) (g : TG) : TS := fun D σ H => te σ H fun x H1 => g x σ H1 D.nx
theorem ps_asg {tg e : Expr} {te : TE} {g : TG} (he : PE X e te) (hg : PG X tg g) (hs : swapsWithSole [tg] e pos.line X.env = pure false := by rfl) (hw : swappedStores [tg] e X.env = pure none := by rfl)
    (h1 : (assignEach [tg] X.env).map (·.2) = [assign tg X.env] := by rfl) : PS X (.Assign [tg] e pos) (tAsg te g) := by
  intro pins s σ H D I h
  refine wpAny_Assign_stores (thn (he pins s σ H _ I h) fun v s1 hq0 => ?_) hs hw
  obtain ⟨x, H1, I1, r1, q1⟩ := hq0
  rw [h1]
  exact thn (hg pins s1 σ H1 x v _ I1 r1 q1) fun _ s2 q => q
/-- name = value -/
theorem ps_set {i : Nat} {x : Str} {e : Expr} {te : TE} {pos' : Pos} (hN : X.N.Nodup) (hi : X.N[i]? = some x) (hx : Loc X.env.scope x) (he : PE X e te) (hs : swapsWith e (some (.Name x pos')) pos.line X.env = pure false := by rfl) (hf : X.fn x = true ∨ X.env.scope.names.lookup x = some .local := by first | exact .inl rfl | exact .inr rfl | assumption) :
    PS X (.Assign [.Name x pos'] e pos) (tAsg te (gName i)) := by
  intro pins s σ H D I h
  refine wpAny_Assign_Name (thn (he pins s σ H _ I h) fun v s1 hq0 => ?_) hs
  obtain ⟨y, H1, I1, r1, q1⟩ := hq0
  exact store_ok I1 hN hi hx r1 (fun s2 I2 => ⟨_, H1, I2, q1⟩) hf
end

/-! ### while -/
section
variable {X : Cx} {pos : Pos}
end

/-! ### what a loop or a comprehension walks -/
/-- at turn i: it yields x (the heap may grow), or it stops -/
structure It where
  go : Nat → Hp → Prop
  yld : Nat → Hp → V → Hp → Prop
  stop : Nat → Hp → Prop
/-- the iterator's own objects may turn: they are not the frame's, not pinned, younger than the entry (or a comprehension's own) -/
def FpOk (X : Cx) (pins : List (Addr × Obj)) (H : Hp) (b : Addr) : Prop :=
  H b = none ∧ b ≠ X.env.locals ∧ b ∉ X.fs ∧ (b ∈ X.ex ∨ X.s₀.heap.objs.size ≤ b) ∧ (∀ x c, X.env.cells.lookup x = some c → c ≠ b) ∧ ∀ p ∈ X.pn ++ pins, p.1 ≠ b
theorem Inv.fpOk {X : Cx} {pins : List (Addr × Obj)} {σ : St} {H H' : Hp} {s : Shared} {b : Addr} (I : Inv X pins σ H s) (hb : s.heap.objs.size ≤ b) (hn : H' b = none) : FpOk X pins H' b := by
  refine ⟨hn, Nat.ne_of_gt (Nat.lt_of_lt_of_le I.lt hb), I.nofs hb, .inr (Nat.le_trans I.sz hb), fun x c e z => ?_, fun p hp z => ?_⟩
  · obtain ⟨v, q⟩ := I.cell x c e
    exact absurd (Nat.lt_of_lt_of_le q.lt (by rw [z]; exact hb)) (Nat.lt_irrefl _)
  · exact absurd (Nat.lt_of_lt_of_le (Heap.lt_size (I.pin p hp).1) (by rw [z]; exact hb)) (Nat.lt_irrefl _)
structure Turn (P : Program) (w : World) (K : PySem.W.Frag) (tg : Expr) (J : It) (fp : List Addr) (it : Addr) (tn : Nat → Heap → Prop) : Prop where
  mem : it ∈ fp
  obj : ∀ i h, tn i h → ∀ b ∈ fp, ∃ o, h.get? b = some o ∧ ∀ v, o.data ≠ .cell v
  keep : ∀ i h h', tn i h → (∀ b ∈ fp, ∀ o, h.get? b = some o → h'.get? b = some o) → tn i h'
  item : ∀ (X : Cx), X.prog = P → X.w = w → X.K = K → X.calm = true → ∀ (i : Nat) (pins : List (Addr × Obj)) (s : Shared) (σ : St) (H : Hp) (E : Value → Shared → Prop), Inv X pins σ H s → (∀ b ∈ fp, FpOk X pins H b) → tn i s.heap → J.go i H →
    wpAny (model P w) X.A (pyNext (.ref it)) (fun r s1 => ∃ u, r = some u ∧
      wpAny (model P w) X.A (letOwnedTupleGo tg (.ref it) u) (fun _ s2 => ∃ x H', Inv X pins σ H' s2 ∧ RelV x u ∧ J.yld i H x H' ∧ tn (i + 1) s2.heap ∧ ∀ b ∈ fp, H' b = none) E s1) E s
  done : ∀ (X : Cx), X.prog = P → X.w = w → X.K = K → X.calm = true → ∀ (i : Nat) (pins : List (Addr × Obj)) (s : Shared) (σ : St) (H : Hp) (E : Value → Shared → Prop), Inv X pins σ H s → (∀ b ∈ fp, FpOk X pins H b) → tn i s.heap → J.stop i H →
    wpAny (model P w) X.A (pyNext (.ref it)) (fun r s1 => r = none ∧ Inv X pins σ H s1) E s
  self : ∀ (A : Around) (i : Nat) (s : Shared) (Q : Value → Shared → Prop) (E : Value → Shared → Prop), tn i s.heap → Q (.ref it) s → wpAny (model P w) A (pyIter (.ref it)) Q E s
abbrev TI := St → Hp → (It → Hp → Prop) → Prop
/-- an iterator has come -/
def PIE (X : Cx) (pins : List (Addr × Obj)) (σ : St) (tg : Expr) (R : It → Hp → Prop) (itv : Value) (s2 : Shared) : Prop :=
  ∃ (it : Addr) (fp : List Addr) (tn : Nat → Heap → Prop) (J : It) (H' : Hp), itv = .ref it ∧ Inv X pins σ H' s2 ∧ Turn X.prog X.w X.K tg J fp it tn ∧ tn 0 s2.heap ∧ (∀ b ∈ fp, FpOk X pins H' b) ∧ R J H'
def PI (X : Cx) (tg iter : Expr) (wi : TI) : Prop :=
  ∀ (pins : List (Addr × Obj)) (s : Shared) (σ : St) (H : Hp) (R : It → Hp → Prop), Inv X pins σ H s → wi σ H R →
    wpAny (model X.prog X.w) X.A (eval iter X.env) (fun v s1 => wpAny (model X.prog X.w) X.A (pyIter v) (PIE X pins σ tg R) X.xe s1) X.xe s

/-- the step ahead of the store is nothing for an iterator that keeps no tuple -/
theorem go_of {M : Model} {A : Around} {E : Value → Shared → Prop} {s : Shared} {tg : Expr} {it : Addr} {u : Value} {o : Obj} {n : String} {vs : Array Value} {Q : Unit → Shared → Prop} (ho : s.heap.get? it = some o) (hc : o.cls = .type n) (hd : o.data = .fields vs)
    (hn : ["enumerate", "zip", "dict_itemiterator", "dict_reverseitemiterator", "odict_iterator", "itertools.zip_longest", "itertools.pairwise"].contains n = false) (hQ : Q () s) : wpAny M A (letOwnedTupleGo tg (.ref it) u) Q E s := by
  unfold letOwnedTupleGo
  cases tg <;> first
    | exact wpAny_pure hQ
    | (cases u <;> first
        | exact wpAny_pure hQ
        | (refine wpAny_bind (wpAny_load ho ?_)
           rw [hc, hd]
           show wpAny M A (if (["enumerate", "zip", "dict_itemiterator", "dict_reverseitemiterator", "odict_iterator", "itertools.zip_longest", "itertools.pairwise"].contains n && vs[0]? == some (rawInt _)) = true then _ else _) Q E s
           rw [if_neg (by intro h; rw [hn, Bool.false_and] at h; cases h)]
           exact wpAny_pure hQ))

/-- the list at a, as it stands at each turn (a loop may append to it) -/
def Itl (K : PySem.W.Frag) (a : Addr) : It :=
  ⟨fun i H => ∃ xs x, SqL K H a xs ∧ xs[i]? = some x, fun i H x H' => H' = H ∧ ∀ xs, SqL K H a xs → xs[i]? = some x, fun i H => ∃ xs, SqL K H a xs ∧ xs.length ≤ i⟩
def Itt (K : PySem.W.Frag) (a : Addr) : It :=
  ⟨fun i H => ∃ xs x, SqT K H a xs ∧ xs[i]? = some x, fun i H x H' => H' = H ∧ ∀ xs, SqT K H a xs → xs[i]? = some x, fun i H => ∃ xs, SqT K H a xs ∧ xs.length ≤ i⟩
/-- lo, lo + 1, .. (n of them) -/
def Itr (lo : Int) (n : Nat) : It := ⟨fun i _ => i < n, fun i H x H' => H' = H ∧ x = .int (lo + i), fun i _ => n ≤ i⟩
theorem turn_list {P : Program} {w : World} {K : PySem.W.Frag} {tg : Expr} (a it : Addr) : Turn P w K tg (Itl K a) [it] it (fun i h => h.IsListIter it a i) where
  mem := by simp
  obj := fun i h st b hb => by
    have e : b = it := by simpa using hb
    subst e
    obtain ⟨o, e, c, d⟩ := st
    exact ⟨o, e, fun v z => by rw [d] at z; cases z⟩
  keep := fun i h h' st k => st.at fun o e => k it (by simp) o e
  item := by
    intro X hP hw hK hc i pins s σ H E I hf st hg
    subst hP hw hK
    obtain ⟨xs, x, hq, hx⟩ := hg
    obtain ⟨its, rv, p, hz⟩ := I.list hq
    obtain ⟨u, hu, ru⟩ := rv.get hx
    obtain ⟨f0, f1, f2, f3, f4, f5⟩ := hf it (by simp)
    refine wpAny_pyNext_list_item st p.isList (x := u) (by simpa using hu) fun h' st' sb => ?_
    have I1 : Inv X pins σ H { s with heap := h' } := I.turned (t' := s.toks) (fun b o hb e => (sb.2 b hb).trans e) f0 f1 f3 f4 f5
    obtain ⟨o, e, c, d⟩ := id st'
    exact ⟨u, rfl, go_of (s := { s with heap := h' }) e c d (by decide) ⟨x, H, I1, ru, ⟨rfl, fun ys hy => by rw [I.list_inj hy hq]; exact hx⟩, st', fun b hb => (hf b hb).1⟩⟩
  done := by
    intro X hP hw hK hc i pins s σ H E I hf st hg
    subst hP hw hK
    obtain ⟨xs, hq, hx⟩ := hg
    obtain ⟨its, rv, p, hz⟩ := I.list hq
    obtain ⟨f0, f1, f2, f3, f4, f5⟩ := hf it (by simp)
    have hl := rv.length
    exact wpAny_pyNext_list_end (I.ok.hd hc) st p.isList (by simp; omega) fun h' eb => ⟨rfl, I.turned (t' := s.toks) (fun b o hb e => eb b o hb e) f0 f1 f3 f4 f5⟩
  self := fun _ _ _ _ _ st h => wpAny_pyIter_listiter st h
theorem turn_tuple {P : Program} {w : World} {K : PySem.W.Frag} {tg : Expr} (a it : Addr) : Turn P w K tg (Itt K a) [it] it (fun i h => h.IsTupleIter it a i) where
  mem := by simp
  obj := fun i h st b hb => by
    have e : b = it := by simpa using hb
    subst e
    obtain ⟨o, e, c, d⟩ := st
    exact ⟨o, e, fun v z => by rw [d] at z; cases z⟩
  keep := fun i h h' st k => st.at fun o e => k it (by simp) o e
  item := by
    intro X hP hw hK hc i pins s σ H E I hf st hg
    subst hP hw hK
    obtain ⟨xs, x, hq, hx⟩ := hg
    obtain ⟨its, rv, p, hz⟩ := I.tuple hq
    obtain ⟨u, hu, ru⟩ := rv.get hx
    obtain ⟨f0, f1, f2, f3, f4, f5⟩ := hf it (by simp)
    refine wpAny_pyNext_tuple_item st (show s.heap.IsTuple a its.toArray from p) (x := u) (by simpa using hu) fun h' st' sb => ?_
    have I1 : Inv X pins σ H { s with heap := h' } := I.turned (t' := s.toks) (fun b o hb e => (sb.2 b hb).trans e) f0 f1 f3 f4 f5
    obtain ⟨o, e, c, d⟩ := id st'
    exact ⟨u, rfl, go_of (s := { s with heap := h' }) e c d (by decide) ⟨x, H, I1, ru, ⟨rfl, fun ys hy => by rw [I.tuple_inj hy hq]; exact hx⟩, st', fun b hb => (hf b hb).1⟩⟩
  done := by
    intro X hP hw hK hc i pins s σ H E I hf st hg
    subst hP hw hK
    obtain ⟨xs, hq, hx⟩ := hg
    obtain ⟨its, rv, p, hz⟩ := I.tuple hq
    obtain ⟨f0, f1, f2, f3, f4, f5⟩ := hf it (by simp)
    have hl := rv.length
    exact wpAny_pyNext_tuple_end (I.ok.hd hc) st (show s.heap.IsTuple a its.toArray from p) (by simp; omega) fun h' eb => ⟨rfl, I.turned (t' := s.toks) (fun b o hb e => eb b o hb e) f0 f1 f3 f4 f5⟩
  self := fun _ _ _ _ _ st h => wpAny_pyIter_tupleiter st h
theorem turn_range {P : Program} {w : World} {K : PySem.W.Frag} {tg : Expr} (it : Addr) (lo : Int) (n : Nat) : Turn P w K tg (Itr lo n) [it] it (fun i h => IsRangeIter h it (lo + (i : Nat) * 1) ((n : Int) - (i : Nat)) 1) where
  mem := by simp
  obj := fun i h st b hb => by
    have e : b = it := by simpa using hb
    subst e
    exact ⟨_, st, fun v z => by
      have z' : Data.fields _ = Data.cell v := z
      cases z'⟩
  keep := fun i h h' st k => k it (by simp) _ st
  item := by
    intro X hP hw hK hc i pins s σ H E I hf st hg
    subst hP hw hK
    obtain ⟨f0, f1, f2, f3, f4, f5⟩ := hf it (by simp)
    have W := Walks.range (prog := X.prog) (w := X.w) (I.ok.hd hc) it lo 1 n
    refine W.item i s _ _ hg st fun v h' tk hv st' kk => ?_
    obtain ⟨t, rfl⟩ := hv
    have I1 : Inv X pins σ H { s with heap := h', toks := tk } := I.turned (fun b o hb e => kk b o (by simpa using hb) e) f0 f1 f3 f4 f5
    refine ⟨_, rfl, go_of (s := { s with heap := h', toks := tk }) (n := "range_iterator") st' rfl rfl (by decide) ⟨.int (lo + i), H, I1, ⟨t, ?_⟩, ⟨rfl, rfl⟩, st', fun b hb => (hf b hb).1⟩⟩
    rw [Int.mul_one]
  done := by
    intro X hP hw hK hc i pins s σ H E I hf st hg
    subst hP hw hK
    obtain ⟨f0, f1, f2, f3, f4, f5⟩ := hf it (by simp)
    exact wpAny_pyNext_range_end (I.ok.hd hc) st (by have : n ≤ i := hg; omega) fun h' eb => ⟨rfl, I.turned (t' := s.toks) (fun b o hb e => eb b o hb e) f0 f1 f3 f4 f5⟩
  self := fun _ _ _ _ _ st h => wpAny_pyIter_rangeiter st h
end L2

namespace L2
open PySem PySem.Spec PyProof.Rows
section
variable {X : Cx} {tg : Expr}
def iList (K : PySem.W.Frag) (tl : TE) : TI := fun σ H R => tl σ H fun x H1 => ∃ a, x = .ref a ∧ (∃ xs, SqL K H1 a xs) ∧ R (Itl K a) H1
def iTup (K : PySem.W.Frag) (tl : TE) : TI := fun σ H R => tl σ H fun x H1 => ∃ a, x = .ref a ∧ (∃ xs, SqT K H1 a xs) ∧ R (Itt K a) H1
theorem pi_list {l : Expr} {tl : TE} (hl : PE X l tl) : PI X tg l (iList X.K tl) := by
  intro pins s σ H R I h
  refine thn (hl pins s σ H _ I h) fun v s1 hq0 => ?_
  obtain ⟨x, H1, I1, r1, q1⟩ := hq0
  obtain ⟨a, e, ⟨xs, hq⟩, q⟩ := q1
  subst e
  cases r1
  obtain ⟨its, rv, p, hz⟩ := I1.list hq
  refine wpAny_pyIter_list p.isList ?_
  refine ⟨s1.heap.objs.size, [s1.heap.objs.size], _, _, H1, rfl, I1.kept (t' := s1.toks) fun b o e => Heap.get?_push_of_some _ e, turn_list a _, ⟨_, Heap.get?_push_size _ rfl, rfl, rfl⟩, fun b hb => ?_, q⟩
  have e : b = s1.heap.objs.size := by simpa using hb
  subst e
  exact I1.fpOk (Nat.le_refl _) (I1.hok.fresh (Nat.le_refl _))
theorem pi_tup {l : Expr} {tl : TE} (hl : PE X l tl) : PI X tg l (iTup X.K tl) := by
  intro pins s σ H R I h
  refine thn (hl pins s σ H _ I h) fun v s1 hq0 => ?_
  obtain ⟨x, H1, I1, r1, q1⟩ := hq0
  obtain ⟨a, e, ⟨xs, hq⟩, q⟩ := q1
  subst e
  cases r1
  obtain ⟨its, rv, p, hz⟩ := I1.tuple hq
  refine wpAny_pyIter_tuple (show s1.heap.IsTuple a its.toArray from p) ?_
  refine ⟨s1.heap.objs.size, [s1.heap.objs.size], _, _, H1, rfl, I1.kept (t' := s1.toks) fun b o e => Heap.get?_push_of_some _ e, turn_tuple a _, ⟨_, Heap.get?_push_size _ rfl, rfl, rfl⟩, fun b hb => ?_, q⟩
  have e : b = s1.heap.objs.size := by simpa using hb
  subst e
  exact I1.fpOk (Nat.le_refl _) (I1.hok.fresh (Nat.le_refl _))
/-- a range object just made, walked -/
theorem range_it {pins : List (Addr × Obj)} {σ : St} {H : Hp} {s : Shared} {R : It → Hp → Prop} {E : Value → Shared → Prop} {lo hi : Int} {t u v : Tok} {tk : Nat} (I : Inv X pins σ H s) (h1 : -(2 ^ 62) ≤ lo) (h2 : lo < 2 ^ 62) (h3 : -(2 ^ 62) ≤ hi) (h4 : hi < 2 ^ 62)
    (q : R (Itr lo (hi - lo).toNat) H) : wpAny (model X.prog X.w) X.A (pyIter (.ref s.heap.objs.size)) (PIE X pins σ tg R) E { s with heap := s.heap.push { cls := .type "range", data := .fields #[.int lo t, .int hi u, .int 1 v] }, toks := tk } := by
  refine wpAny_pyIter_range (IsRange.new ..) (small_one h1 h2 h3 h4) ?_
  have I1 : Inv X pins σ H { s with heap := s.heap.push { cls := .type "range", data := .fields #[.int lo t, .int hi u, .int 1 v] }, toks := tk } := I.kept fun b o e => Heap.get?_push_of_some _ e
  refine ⟨(s.heap.push { cls := .type "range", data := .fields #[.int lo t, .int hi u, .int 1 v] }).objs.size, [(s.heap.push { cls := .type "range", data := .fields #[.int lo t, .int hi u, .int 1 v] }).objs.size], _, _, H, rfl,
    I1.kept (t' := tk) fun b o e => Heap.get?_push_of_some _ e, turn_range _ lo (hi - lo).toNat, ?_, fun b hb => ?_, q⟩
  · have e1 : lo + ((0 : Nat) : Int) * 1 = lo := by simp
    have e2 : (((hi - lo).toNat : Nat) : Int) - ((0 : Nat) : Int) = Builtin.Range.rangeSize lo hi 1 := by rw [rangeSize_one]; split <;> omega
    show IsRangeIter _ _ (lo + ((0 : Nat) : Int) * 1) ((((hi - lo).toNat : Nat) : Int) - ((0 : Nat) : Int)) 1
    rw [e1, e2]
    exact Heap.get?_push_size _ rfl
  · have e : b = (s.heap.push { cls := .type "range", data := .fields #[.int lo t, .int hi u, .int 1 v] }).objs.size := by simpa using hb
    subst e
    exact I1.fpOk (Nat.le_refl _) (I1.hok.fresh (Nat.le_refl _))
def iRng1 (ta : TA) : TI := fun σ H R => ta σ H fun vs H1 => ∃ j : Int, vs = [.int j] ∧ -(2 ^ 62) ≤ j ∧ j < 2 ^ 62 ∧ R (Itr 0 j.toNat) H1
theorem pi_range1 {a : Expr} {ta : TA} {p pos : Pos} (hg : Gl X "range") (hm : X.mg "range" = none) (ha : PA X [a] ta) (hs : starEach [a] X.env = [(false, eval a X.env)] := by rfl) : PI X tg (.Call (.Name "range" p) [a] [] pos) (iRng1 ta) := by
  intro pins s σ H R I h
  refine Call_ (ld_blt I hg hm boot_range (PyProof.Rows.callWith_type1 (thn (ha pos pins s σ H _ I h) fun us s1 hq0 => ?_) hs rfl))
  obtain ⟨vs, H1, I1, r1, q1⟩ := hq0
  obtain ⟨j, e, q1, q2, q⟩ := q1
  subst e
  cases r1 with
  | cons r rr =>
    cases rr
    obtain ⟨t, rfl⟩ := r
    exact call_range_1 (range_it I1 (by omega) (by omega) q1 q2 (by simpa using q))

/-! ### for -/
/-- W: the invariant by the turn and a measure; N: what the body is to reach -/
def tFor (wi : TI) (g : TG) (tb : TS) : TS := fun D σ H => wi σ H fun J H1 => ∃ W : Nat → Nat → St → Hp → Prop, (∃ m, W 0 m σ H1) ∧ ∀ i m σ H, W i m σ H →
  (J.stop i H ∧ D.nx σ H) ∨ (J.go i H ∧ ∃ N : St → Hp → Prop, (∀ σ' H', N σ' H' → ∃ m', m' < m ∧ W (i + 1) m' σ' H') ∧ ∀ x H', J.yld i H x H' → g x σ H' fun σ2 H2 => tb { D with nx := N, ct := N, bk := D.nx } σ2 H2)
/-- the records at fp as they stand -/
def pinsAt (fp : List Addr) (h : Heap) : List (Addr × Obj) := fp.filterMap fun b => (h.get? b).map fun o => (b, o)
theorem mem_pinsAt {fp : List Addr} {h : Heap} {b : Addr} {o : Obj} (hb : b ∈ fp) (e : h.get? b = some o) : (b, o) ∈ pinsAt fp h := List.mem_filterMap.mpr ⟨b, hb, by rw [e]; rfl⟩
theorem of_pinsAt {fp : List Addr} {h : Heap} {p : Addr × Obj} (hp : p ∈ pinsAt fp h) : p.1 ∈ fp ∧ h.get? p.1 = some p.2 := by
  obtain ⟨b, hb, e⟩ := List.mem_filterMap.mp hp
  cases q : h.get? b with
  | none => rw [q] at e; cases e
  | some o =>
    rw [q] at e
    have e' : (b, o) = p := Option.some.inj e
    subst e'
    exact ⟨hb, q⟩
theorem Inv.pinned {pins : List (Addr × Obj)} {σ : St} {H : Hp} {s : Shared} {fp : List Addr} (I : Inv X pins σ H s) (hf : ∀ b ∈ fp, FpOk X pins H b) (ho : ∀ b ∈ fp, ∃ o, s.heap.get? b = some o ∧ ∀ v, o.data ≠ .cell v) : Inv X (pins ++ pinsAt fp s.heap) σ H s :=
  I.pins_of fun p hp => (List.mem_append.mp hp).elim (fun z => I.pin p (List.mem_append_right _ z)) fun z => by
    obtain ⟨hb, e⟩ := of_pinsAt z
    obtain ⟨f0, f1, f2, _⟩ := hf p.1 hb
    obtain ⟨o, e', d⟩ := ho p.1 hb
    rw [e] at e'; cases e'
    exact ⟨e, f0, f1, f2, d⟩
theorem Inv.unpinned {pins pl : List (Addr × Obj)} {σ : St} {H : Hp} {s : Shared} (I : Inv X (pins ++ pl) σ H s) : Inv X pins σ H s := I.pins_of fun p hp => I.pin p (List.mem_append_right _ (List.mem_append_left _ hp))
theorem ps_for {iter : Expr} {body : List Stmt} {wi : TI} {g : TG} {tb : TS} {pos : Pos} (hp : PassesOwn (model X.prog X.w) X.A X.env X.xe) (hc : X.calm = true) (hi : PI X tg iter wi) (hg : PG X tg g) (hb : PSs X body tb)
    (hs : ∀ x, foldedSetIterable iter X.env x = pure x := by intro _; rfl) : PS X (.For tg iter body [] pos) (tFor wi g tb) := by
  intro pins s σ H D I h
  refine wpAny_For (thn (hi pins s σ H _ I h) fun v s1 h1 => thn h1 fun itv s2 h2 => ?_) hs
  obtain ⟨it, fp, tn, J, H2, e, I2, T, st2, f2, W, ⟨m0, w0⟩, turn⟩ := h2
  subst e
  -- what stays true of the iterator's objects through the loop
  have stat : ∀ {H' : Hp}, (∀ b ∈ fp, H' b = none) → ∀ b ∈ fp, FpOk X pins H' b := fun hn b hb => ⟨hn b hb, (f2 b hb).2⟩
  refine codeAny_forLoop_any (fun n s' => ∃ i σ' H', Inv X pins σ' H' s' ∧ tn i s'.heap ∧ (∀ b ∈ fp, H' b = none) ∧ W i n σ' H') ?_ m0 ⟨0, σ, H2, I2, st2, fun b hb => (f2 b hb).1, w0⟩
  rintro n s3 ⟨i, σ3, H3, I3, st3, fr3, w3⟩
  rcases turn i n σ3 H3 w3 with ⟨stop, qn⟩ | ⟨go, N, hN, step⟩
  · refine wpAny_passesOwn hp (thn (T.done X rfl rfl rfl hc i pins s3 σ3 H3 X.xe I3 (stat fr3) st3 stop) fun r s4 hq0 => ?_)
    obtain ⟨hr, I4⟩ := hq0
    subst hr
    exact wpAny_execs_nil ⟨σ3, H3, I4, qn⟩
  · refine wpAny_passesOwn hp (thn (T.item X rfl rfl rfl hc i pins s3 σ3 H3 X.xe I3 (stat fr3) st3 go) fun r s4 hq0 => ?_)
    obtain ⟨u, hr, h4⟩ := hq0
    subst hr
    refine wpAny_passesOwn hp (thn h4 fun _ s5 hq0 => ?_)
    obtain ⟨x, H5, I5, r5, y5, st5, fr5⟩ := hq0
    have I5' := I5.pinned (stat fr5) (T.obj _ _ st5)
    refine wpAny_passesOwn hp (thn (hg _ s5 σ3 H5 x u _ I5' r5 (step x H5 y5)) fun _ s6 hq0 => ?_)
    obtain ⟨σ6, H6, I6, q6⟩ := hq0
    refine wpAny_passesOwn hp (thn (hb _ s6 σ6 H6 _ I6 q6) fun f s7 q7 => ?_)
    have again : ∀ {σ7 : St} {H7 : Hp}, Inv X (pins ++ pinsAt fp s5.heap) σ7 H7 s7 → N σ7 H7 → ∃ m, m < n ∧ ∃ i σ' H', Inv X pins σ' H' s7 ∧ tn i s7.heap ∧ (∀ b ∈ fp, H' b = none) ∧ W i m σ' H' := fun {σ7 H7} I7 n7 => by
      obtain ⟨m', hm, w7⟩ := hN σ7 H7 n7
      refine ⟨m', hm, i + 1, σ7, H7, I7.unpinned, T.keep _ _ _ st5 fun b hb o e => (I7.pin (b, o) (List.mem_append_right _ (List.mem_append_right _ (mem_pinsAt hb e)))).1, fun b hb => ?_, w7⟩
      obtain ⟨o, e, d⟩ := T.obj _ _ st5 b hb
      exact (I7.pin (b, o) (List.mem_append_right _ (List.mem_append_right _ (mem_pinsAt hb e)))).2.1
    cases f with
    | next => obtain ⟨σ7, H7, I7, n7⟩ := q7; exact again I7 n7
    | cont => obtain ⟨σ7, H7, I7, n7⟩ := q7; exact again I7 n7
    | brk => obtain ⟨σ7, H7, I7, q7⟩ := q7; exact ⟨σ7, H7, I7.unpinned, q7⟩
    | ret v => obtain ⟨x7, σ7, H7, I7, r7, q7⟩ := q7; exact ⟨x7, σ7, H7, I7.unpinned, r7, q7⟩
end

/-! ### the forms one uses -/
/-- over a list that the body leaves as it is -/
theorem for_list {K : PySem.W.Frag} {a : Addr} {xs : List V} {g : TG} {tb : TS} {D : Ends} {σ : St} {H : Hp} (Pv : Nat → St → Hp → Prop) (h0 : Pv 0 σ H) (hl : ∀ i σ H, i ≤ xs.length → Pv i σ H → SqL K H a xs)
    (hs : ∀ i x σ H, xs[i]? = some x → Pv i σ H → g x σ H fun σ2 H2 => tb { D with nx := Pv (i + 1), ct := Pv (i + 1), bk := D.nx } σ2 H2) (hd : ∀ σ H, Pv xs.length σ H → D.nx σ H) :
    ∃ W : Nat → Nat → St → Hp → Prop, (∃ m, W 0 m σ H) ∧ ∀ i m σ H, W i m σ H →
      ((Itl K a).stop i H ∧ D.nx σ H) ∨ ((Itl K a).go i H ∧ ∃ N : St → Hp → Prop, (∀ σ' H', N σ' H' → ∃ m', m' < m ∧ W (i + 1) m' σ' H') ∧ ∀ x H', (Itl K a).yld i H x H' → g x σ H' fun σ2 H2 => tb { D with nx := N, ct := N, bk := D.nx } σ2 H2) := by
  refine ⟨fun i m σ H => m = xs.length - i ∧ i ≤ xs.length ∧ Pv i σ H, ⟨xs.length, by simp, Nat.zero_le _, h0⟩, ?_⟩
  rintro i m σ H ⟨rfl, hi, p⟩
  have q := hl i σ H hi p
  by_cases hlt : i < xs.length
  · refine .inr ⟨⟨xs, xs[i], q, by simp [hlt]⟩, Pv (i + 1), fun σ' H' p' => ⟨xs.length - (i + 1), by omega, rfl, hlt, p'⟩, fun x H' y => ?_⟩
    obtain ⟨e, y⟩ := y
    subst e
    exact hs i x σ _ (y xs q) p
  · have e : i = xs.length := by omega
    subst e
    exact .inl ⟨⟨xs, q, Nat.le_refl _⟩, hd σ H p⟩
theorem for_tup {K : PySem.W.Frag} {a : Addr} {xs : List V} {g : TG} {tb : TS} {D : Ends} {σ : St} {H : Hp} (Pv : Nat → St → Hp → Prop) (h0 : Pv 0 σ H) (hl : ∀ i σ H, i ≤ xs.length → Pv i σ H → SqT K H a xs)
    (hs : ∀ i x σ H, xs[i]? = some x → Pv i σ H → g x σ H fun σ2 H2 => tb { D with nx := Pv (i + 1), ct := Pv (i + 1), bk := D.nx } σ2 H2) (hd : ∀ σ H, Pv xs.length σ H → D.nx σ H) :
    ∃ W : Nat → Nat → St → Hp → Prop, (∃ m, W 0 m σ H) ∧ ∀ i m σ H, W i m σ H →
      ((Itt K a).stop i H ∧ D.nx σ H) ∨ ((Itt K a).go i H ∧ ∃ N : St → Hp → Prop, (∀ σ' H', N σ' H' → ∃ m', m' < m ∧ W (i + 1) m' σ' H') ∧ ∀ x H', (Itt K a).yld i H x H' → g x σ H' fun σ2 H2 => tb { D with nx := N, ct := N, bk := D.nx } σ2 H2) := by
  refine ⟨fun i m σ H => m = xs.length - i ∧ i ≤ xs.length ∧ Pv i σ H, ⟨xs.length, by simp, Nat.zero_le _, h0⟩, ?_⟩
  rintro i m σ H ⟨rfl, hi, p⟩
  have q := hl i σ H hi p
  by_cases hlt : i < xs.length
  · refine .inr ⟨⟨xs, xs[i], q, by simp [hlt]⟩, Pv (i + 1), fun σ' H' p' => ⟨xs.length - (i + 1), by omega, rfl, hlt, p'⟩, fun x H' y => ?_⟩
    obtain ⟨e, y⟩ := y
    subst e
    exact hs i x σ _ (y xs q) p
  · have e : i = xs.length := by omega
    subst e
    exact .inl ⟨⟨xs, q, Nat.le_refl _⟩, hd σ H p⟩
theorem for_range {lo : Int} {n : Nat} {g : TG} {tb : TS} {D : Ends} {σ : St} {H : Hp} (Pv : Nat → St → Hp → Prop) (h0 : Pv 0 σ H)
    (hs : ∀ i σ H, i < n → Pv i σ H → g (.int (lo + i)) σ H fun σ2 H2 => tb { D with nx := Pv (i + 1), ct := Pv (i + 1), bk := D.nx } σ2 H2) (hd : ∀ σ H, Pv n σ H → D.nx σ H) :
    ∃ W : Nat → Nat → St → Hp → Prop, (∃ m, W 0 m σ H) ∧ ∀ i m σ H, W i m σ H →
      ((Itr lo n).stop i H ∧ D.nx σ H) ∨ ((Itr lo n).go i H ∧ ∃ N : St → Hp → Prop, (∀ σ' H', N σ' H' → ∃ m', m' < m ∧ W (i + 1) m' σ' H') ∧ ∀ x H', (Itr lo n).yld i H x H' → g x σ H' fun σ2 H2 => tb { D with nx := N, ct := N, bk := D.nx } σ2 H2) := by
  refine ⟨fun i m σ H => m = n - i ∧ i ≤ n ∧ Pv i σ H, ⟨n, by simp, Nat.zero_le _, h0⟩, ?_⟩
  rintro i m σ H ⟨rfl, hi, p⟩
  by_cases hlt : i < n
  · refine .inr ⟨hlt, Pv (i + 1), fun σ' H' p' => ⟨n - (i + 1), by omega, rfl, hlt, p'⟩, fun x H' y => ?_⟩
    obtain ⟨e, y⟩ := y
    subst e y
    exact hs i σ _ hlt p
  · have e : i = n := by omega
    subst e
    exact .inl ⟨Nat.le_refl _, hd σ H p⟩
end L2

namespace L2
open PySem PySem.Spec PyProof.Rows

abbrev R2 := V → V → Hp → VK → Prop
/-- a two-place operation on values: f is binaryOp op, inplaceOp op or compareOp op -/
def OpR (X : Cx) (f : Value → Value → Sem Value) (r : R2) : Prop :=
  ∀ (pins : List (Addr × Obj)) (s : Shared) (σ : St) (H : Hp) (x y : V) (v u : Value) (Q : VK), Inv X pins σ H s → RelV x v → RelV y u → r x y H Q →
    wpAny (model X.prog X.w) X.A (f v u) (EP X pins σ Q) X.xe s
/-- a one-place operation -/
def UnR (X : Cx) (f : Value → Sem Value) (r : V → Hp → VK → Prop) : Prop :=
  ∀ (pins : List (Addr × Obj)) (s : Shared) (σ : St) (H : Hp) (x : V) (v : Value) (Q : VK), Inv X pins σ H s → RelV x v → r x H Q →
    wpAny (model X.prog X.w) X.A (f v) (EP X pins σ Q) X.xe s
/-- a call of a value that is known (a builtin, a type) with values -/
def CallR (X : Cx) (f : Value) (r : List V → Hp → VK → Prop) : Prop :=
  ∀ (pins : List (Addr × Obj)) (s : Shared) (σ : St) (H : Hp) (xs : List V) (us : List Value) (Q : VK), Inv X pins σ H s → Vals xs us → r xs H Q →
    wpAny (model X.prog X.w) X.A (call f us) (EP X pins σ Q) X.xe s

def tOp (r : R2) (ta tb : TE) : TE := fun σ H Q => ta σ H fun x H1 => tb σ H1 fun y H2 => r x y H2 Q
def tUn (r : V → Hp → VK → Prop) (ta : TE) : TE := fun σ H Q => ta σ H fun x H1 => r x H1 Q
/-- ints in, under C, and a value out -/
def rI (C : Int → Int → Prop) (g : Int → Int → V) : R2 := fun x y H Q => ∃ i j, x = .int i ∧ y = .int j ∧ C i j ∧ Q (g i j) H
def rI0 (g : Int → Int → V) : R2 := fun x y H Q => ∃ i j, x = .int i ∧ y = .int j ∧ Q (g i j) H
def rU (g : Int → V) : V → Hp → VK → Prop := fun x H Q => ∃ i, x = .int i ∧ Q (g i) H

section
variable {X : Cx} {a b c : Expr} {ta tb tc : TE} {pos : Pos}

theorem binT (ha : PE X a ta) (hb : PE X b tb) {pins : List (Addr × Obj)} {s : Shared} {σ : St} {H : Hp} {R : V → V → Hp → Prop} (I : Inv X pins σ H s)
    (h : ta σ H fun x H1 => tb σ H1 fun y H2 => R x y H2) {Q : Value → Shared → Prop} {f : Value → Value → Sem Value}
    (hf : ∀ v u s2 x y H2, Inv X pins σ H2 s2 → RelV x v → RelV y u → R x y H2 → wpAny (model X.prog X.w) X.A (f v u) Q X.xe s2) :
    wpAny (model X.prog X.w) X.A (eval a X.env) (fun v s₁ => wpAny (model X.prog X.w) X.A (eval b X.env) (fun u s₂ => wpAny (model X.prog X.w) X.A (f v u) Q X.xe s₂) X.xe s₁) X.xe s := by
  refine thn (ha pins s σ H _ I h) fun v s1 hq0 => ?_
  obtain ⟨x, H1, I1, r1, q1⟩ := hq0
  refine thn (hb pins s1 σ H1 _ I1 q1) fun u s2 hq0 => ?_
  obtain ⟨y, H2, I2, r2, q2⟩ := hq0
  exact hf v u s2 x y H2 I2 r1 r2 q2

theorem pe_op {op : Operator} {r : R2} (ho : OpR X (binaryOp op) r) (ha : PE X a ta) (hb : PE X b tb) : PE X (.BinOp a op b pos) (tOp r ta tb) := by
  intro pins s σ H Q I h
  exact wpAny_BinOp (binT ha hb I h fun v u s2 x y H2 I2 rx ry q => ho pins s2 σ H2 x y v u Q I2 rx ry q)
theorem pe_un {op : UnaryOp} {r : V → Hp → VK → Prop} (ho : UnR X (unaryOp op) r) (ha : PE X a ta) : PE X (.UnaryOp op a pos) (tUn r ta) := by
  intro pins s σ H Q I h
  exact UnaryOp_ (thn (ha pins s σ H _ I h) fun v s1 ⟨x, H1, I1, r1, q1⟩ => ho pins s1 σ H1 x v Q I1 r1 q1)

/-! ### ints -/
theorem opI {f : Value → Value → Sem Value} {C : Int → Int → Prop} {g : Int → Int → Int}
    (rule : ∀ (i j : Int) (t u : Tok) (s : Shared) (Q : Value → Shared → Prop) (E : Value → Shared → Prop), C i j → Q (.int (g i j) s.toks) { s with toks := s.toks + 1 } → wpAny (model X.prog X.w) X.A (f (.int i t) (.int j u)) Q E s) :
    OpR X f (rI C fun i j => .int (g i j)) := by
  intro pins s σ H x y v u Q I rx ry h
  obtain ⟨i, j, rfl, rfl, hc, q⟩ := h
  obtain ⟨t, rfl⟩ := rx
  obtain ⟨t', rfl⟩ := ry
  exact rule i j t t' s _ _ hc ⟨.int (g i j), H, I.tok _, ⟨_, rfl⟩, q⟩
theorem opI0 {f : Value → Value → Sem Value} {g : Int → Int → Int}
    (rule : ∀ (i j : Int) (t u : Tok) (s : Shared) (Q : Value → Shared → Prop) (E : Value → Shared → Prop), Q (.int (g i j) s.toks) { s with toks := s.toks + 1 } → wpAny (model X.prog X.w) X.A (f (.int i t) (.int j u)) Q E s) :
    OpR X f (rI0 fun i j => .int (g i j)) := by
  intro pins s σ H x y v u Q I rx ry h
  obtain ⟨i, j, rfl, rfl, q⟩ := h
  obtain ⟨t, rfl⟩ := rx
  obtain ⟨t', rfl⟩ := ry
  exact rule i j t t' s _ _ ⟨.int (g i j), H, I.tok _, ⟨_, rfl⟩, q⟩
theorem opB0 {f : Value → Value → Sem Value} {g : Int → Int → Bool}
    (rule : ∀ (i j : Int) (t u : Tok) (s : Shared) (Q : Value → Shared → Prop) (E : Value → Shared → Prop), Q (.bool (g i j)) s → wpAny (model X.prog X.w) X.A (f (.int i t) (.int j u)) Q E s) :
    OpR X f (rI0 fun i j => .bl (g i j)) := by
  intro pins s σ H x y v u Q I rx ry h
  obtain ⟨i, j, rfl, rfl, q⟩ := h
  obtain ⟨t, rfl⟩ := rx
  obtain ⟨t', rfl⟩ := ry
  exact rule i j t t' s _ _ ⟨.bl (g i j), H, I, rfl, q⟩

def CDiv (i j : Int) : Prop := 0 < j ∧ j < 1073741824
def CPow (i j : Int) : Prop := 0 ≤ j ∧ j ≤ 1000000 ∧ i.natAbs < 2 ^ 64
def CMul (i j : Int) : Prop := (-(2 ^ 64) < i ∧ i < 2 ^ 64) ∨ (-(2 ^ 64) < j ∧ j < 2 ^ 64)
theorem CMul.ok {i j : Int} (h : CMul i j) : IntMulOk i j := by
  rcases h with ⟨h1, h2⟩ | ⟨h1, h2⟩
  · exact .of_left (intBits_le_64 h1 h2)
  · exact .of_right (intBits_le_64 h1 h2)

theorem op_add : OpR X (binaryOp .Add) (rI0 fun i j => .int (i + j)) := opI0 fun _ _ _ _ _ _ _ q => add_int q
theorem op_sub : OpR X (binaryOp .Sub) (rI0 fun i j => .int (i - j)) := opI0 fun _ _ _ _ _ _ _ q => sub_int q
theorem op_mul : OpR X (binaryOp .Mult) (rI CMul fun i j => .int (i * j)) := opI fun _ _ _ _ _ _ _ hc q => mul_int q hc.ok
/-- // by a positive divisor -/
theorem op_fdiv : OpR X (binaryOp .FloorDiv) (rI CDiv fun i j => .int (i / j)) := opI fun i j _ _ _ _ _ hc q => by
  have h1 : (0 : Int) < j := hc.1
  have h2 : j < 1073741824 := hc.2
  exact floordiv_int (by omega) (by rw [Int.fdiv_eq_ediv_of_nonneg i (by omega)]; exact q) (.inl (PyProof.noPylong_small (by omega)))
/-- % by a positive divisor of any size -/
theorem op_mod : OpR X (binaryOp .Mod) (rI (fun _ j => 0 < j) fun i j => .int (i % j)) := opI fun i j _ _ _ _ _ hc q => by
  have h1 : (0 : Int) < j := hc
  exact mod_int' (by omega) (by rw [Int.fmod_eq_emod_of_nonneg i (by omega)]; exact q)
theorem op_pow : OpR X (binaryOp .Pow) (rI CPow fun i j => .int (i ^ j.toNat)) := opI fun _ _ _ _ _ _ _ hc q => pow_int_small hc.1 hc.2.1 hc.2.2 q


theorem unI {f : Value → Sem Value} {g : Int → Int}
    (rule : ∀ (i : Int) (t : Tok) (s : Shared) (Q : Value → Shared → Prop) (E : Value → Shared → Prop), Q (.int (g i) s.toks) { s with toks := s.toks + 1 } → wpAny (model X.prog X.w) X.A (f (.int i t)) Q E s) :
    UnR X f (rU fun i => .int (g i)) := by
  intro pins s σ H x v Q I rx h
  obtain ⟨i, rfl, q⟩ := h
  obtain ⟨t, rfl⟩ := rx
  exact rule i t s _ _ ⟨.int (g i), H, I.tok _, ⟨_, rfl⟩, q⟩
theorem un_neg : UnR X (unaryOp .USub) (rU fun i => .int (-i)) := unI fun _ _ _ _ _ q => neg_int q

/-! ### bools among ints: n += (a < b) -/
end

/-! ### comparisons -/
/-- the scalars that == tells apart as data does -/
def scal : V → V → Bool
  | .non, .non => true | .non, .int _ => true | .int _, .non => true | .non, .bl _ => true | .bl _, .non => true | .non, .str _ => true | .str _, .non => true
  | .int _, .int _ => true | .bl _, .bl _ => true | .str _, .str _ => true | .byt _, .byt _ => true
  | .int _, .str _ => true | .str _, .int _ => true | .bl _, .str _ => true | .str _, .bl _ => true
  | _, _ => false
def rEq : R2 := fun x y H Q => scal x y = true ∧ Q (.bl (decide (x = y))) H
def rNe : R2 := fun x y H Q => scal x y = true ∧ Q (.bl (!decide (x = y))) H

theorem dec_int {i j : Int} : decide (V.int i = V.int j) = (i == j) := by
  rw [Bool.eq_iff_iff]
  simp
theorem dec_bl {i j : Bool} : decide (V.bl i = V.bl j) = (i == j) := by
  rw [Bool.eq_iff_iff]
  simp
theorem dec_str {i j : Str} : decide (V.str i = V.str j) = (i == j) := by
  rw [Bool.eq_iff_iff]
  simp
theorem dec_byt {i j : Array UInt8} : decide (V.byt i = V.byt j) = (i.toList == j.toList) := by
  rw [Bool.eq_iff_iff]
  cases i
  cases j
  simp

section
variable {X : Cx} {a b c : Expr} {ta tb tc : TE} {pos : Pos}
theorem fin_bl {pins : List (Addr × Obj)} {σ : St} {H : Hp} {s : Shared} {Q : VK} {k k' : Bool} (I : Inv X pins σ H s) (q : Q (.bl k) H) (e : k = k') : EP X pins σ Q (.bool k') s := by
  subst e
  exact ⟨.bl k, H, I, rfl, q⟩
theorem op_eq : OpR X (compareOp .Eq) rEq := by
  intro pins s σ H x y v u Q I rx ry h
  obtain ⟨hs, q⟩ := h
  cases x with
  | non =>
    cases rx
    cases y with
    | non => cases ry; exact PySem.EqNone.eq_none_none (fin_bl I q (by simp))
    | bl j => cases ry; exact PySem.EqNone.eq_none_bool (fin_bl I q (by simp))
    | int j => obtain ⟨t', rfl⟩ := ry; exact PySem.EqNone.eq_none_int (fin_bl I q (by simp))
    | str j => obtain ⟨t', rfl⟩ := ry; exact PySem.EqNone.eq_none_str (fin_bl I q (by simp))
    | _ => exact absurd (show false = true from hs) Bool.false_ne_true
  | bl i =>
    cases rx
    cases y with
    | non => cases ry; exact PySem.EqNone.eq_bool_none (fin_bl I q (by simp))
    | bl j => cases ry; exact eq_bool (fin_bl I q dec_bl)
    | str j => obtain ⟨t', rfl⟩ := ry; exact PySem.EqMixed.eq_bool_str (fin_bl I q (by simp))
    | _ => exact absurd (show false = true from hs) Bool.false_ne_true
  | int i =>
    obtain ⟨t, rfl⟩ := rx
    cases y with
    | non => cases ry; exact PySem.EqNone.eq_int_none (fin_bl I q (by simp))
    | int j => obtain ⟨t', rfl⟩ := ry; exact eq_int (fin_bl I q dec_int)
    | str j => obtain ⟨t', rfl⟩ := ry; exact PySem.EqMixed.eq_int_str (fin_bl I q (by simp))
    | _ => exact absurd (show false = true from hs) Bool.false_ne_true
  | str i =>
    obtain ⟨t, rfl⟩ := rx
    cases y with
    | non => cases ry; exact PySem.EqNone.eq_str_none (fin_bl I q (by simp))
    | bl j => cases ry; exact PySem.EqMixed.eq_str_bool (fin_bl I q (by simp))
    | int j => obtain ⟨t', rfl⟩ := ry; exact PySem.EqMixed.eq_str_int (fin_bl I q (by simp))
    | str j => obtain ⟨t', rfl⟩ := ry; exact eq_str (fin_bl I q dec_str)
    | _ => exact absurd (show false = true from hs) Bool.false_ne_true
  | byt i =>
    obtain ⟨t, rfl⟩ := rx
    cases y with
    | byt j => obtain ⟨t', rfl⟩ := ry; exact PySem.W.eq_bytes (fin_bl I q dec_byt)
    | _ => exact absurd (show false = true from hs) Bool.false_ne_true
  | _ => cases y <;> exact absurd (show false = true from hs) Bool.false_ne_true
theorem op_ne : OpR X (compareOp .NotEq) rNe := by
  intro pins s σ H x y v u Q I rx ry h
  obtain ⟨hs, q⟩ := h
  cases x with
  | non =>
    cases rx
    cases y with
    | non => cases ry; exact PySem.EqNone.ne_none_none (fin_bl I q (by simp))
    | bl j => cases ry; exact PySem.EqNone.ne_none_bool (fin_bl I q (by simp))
    | int j => obtain ⟨t', rfl⟩ := ry; exact PySem.EqNone.ne_none_int (fin_bl I q (by simp))
    | str j => obtain ⟨t', rfl⟩ := ry; exact PySem.EqNone.ne_none_str (fin_bl I q (by simp))
    | _ => exact absurd (show false = true from hs) Bool.false_ne_true
  | bl i =>
    cases rx
    cases y with
    | non => cases ry; exact PySem.EqNone.ne_bool_none (fin_bl I q (by simp))
    | bl j => cases ry; exact ne_bool (fin_bl I q (congrArg not dec_bl))
    | str j => obtain ⟨t', rfl⟩ := ry; exact PySem.EqMixed.ne_bool_str (fin_bl I q (by simp))
    | _ => exact absurd (show false = true from hs) Bool.false_ne_true
  | int i =>
    obtain ⟨t, rfl⟩ := rx
    cases y with
    | non => cases ry; exact PySem.EqNone.ne_int_none (fin_bl I q (by simp))
    | int j => obtain ⟨t', rfl⟩ := ry; exact ne_int (fin_bl I q (congrArg not dec_int))
    | str j => obtain ⟨t', rfl⟩ := ry; exact PySem.EqMixed.ne_int_str (fin_bl I q (by simp))
    | _ => exact absurd (show false = true from hs) Bool.false_ne_true
  | str i =>
    obtain ⟨t, rfl⟩ := rx
    cases y with
    | non => cases ry; exact PySem.EqNone.ne_str_none (fin_bl I q (by simp))
    | bl j => cases ry; exact PySem.EqMixed.ne_str_bool (fin_bl I q (by simp))
    | int j => obtain ⟨t', rfl⟩ := ry; exact PySem.EqMixed.ne_str_int (fin_bl I q (by simp))
    | str j => obtain ⟨t', rfl⟩ := ry; exact ne_str (fin_bl I q (congrArg not dec_str))
    | _ => exact absurd (show false = true from hs) Bool.false_ne_true
  | byt i =>
    obtain ⟨t, rfl⟩ := rx
    cases y with
    | byt j => obtain ⟨t', rfl⟩ := ry; exact PySem.W.ne_bytes (fin_bl I q (congrArg not dec_byt))
    | _ => exact absurd (show false = true from hs) Bool.false_ne_true
  | _ => cases y <;> exact absurd (show false = true from hs) Bool.false_ne_true

theorem op_lt : OpR X (compareOp .Lt) (rI0 fun i j => .bl (decide (i < j))) := opB0 fun _ _ _ _ _ _ _ q => lt_int q
theorem op_le : OpR X (compareOp .LtE) (rI0 fun i j => .bl (decide (i ≤ j))) := opB0 fun _ _ _ _ _ _ _ q => le_int q
theorem op_gt : OpR X (compareOp .Gt) (rI0 fun i j => .bl (decide (j < i))) := opB0 fun _ _ _ _ _ _ _ q => gt_int q
theorem op_ge : OpR X (compareOp .GtE) (rI0 fun i j => .bl (decide (j ≤ i))) := opB0 fun _ _ _ _ _ _ _ q => ge_int q
/-- the one string within the other -/
theorem op_in_str : OpR X (compareOp .In) (fun x y H Q => ∃ i j, x = .str i ∧ y = .str j ∧ Q (.bl (!(Builtin.Str.occurrences j i 0 j.length 1).isEmpty)) H) := by
  intro pins s σ H x y v u Q I rx ry h
  obtain ⟨i, j, rfl, rfl, q⟩ := h
  obtain ⟨t, rfl⟩ := rx
  obtain ⟨t', rfl⟩ := ry
  exact in_str (fin_bl I q rfl)




theorem nomark (b : Expr) {op : CmpOp} (h : op ≠ .In := by decide) (h2 : op ≠ .NotIn := by decide) : behindInMarks op b = false := by
  have e1 : (op == CmpOp.In) = false := by cases op <;> first | rfl | exact absurd rfl h
  have e2 : (op == CmpOp.NotIn) = false := by cases op <;> first | rfl | exact absurd rfl h2
  cases b <;> simp [behindInMarks, e1, e2]
/-- a comparison as a value; hm: nomark b, or (for in, not in) by with_unfolding_all rfl -/
theorem pe_cmpR {op : CmpOp} {r : R2} (ho : OpR X (compareOp op) r) (ha : PE X a ta) (hb : PE X b tb) (hm : behindInMarks op b = false) : PE X (.Compare a [op] [b] pos) (tOp r ta tb) := by
  intro pins s σ H Q I h
  exact wpAny_Compare1 (binT ha hb I h fun v u s2 x y H2 I2 rx ry q => ho pins s2 σ H2 x y v u Q I2 rx ry q) hm
/-- a reading of a value as a test -/
def tTest (t : TE) : TT := fun σ H Q => t σ H fun x H' => ∃ k, x = .bl k ∧ Q k H'
theorem pt_cmpR {op : CmpOp} {r : R2} (ho : OpR X (compareOp op) r) (ha : PE X a ta) (hb : PE X b tb) (hm : behindInMarks op b = false) : PT X (.Compare a [op] [b] pos) (tTest (tOp r ta tb)) := by
  intro pins s σ H Q I h
  refine wpAny_isTrue_Compare1 (thn (ha pins s σ H _ I h) fun v s1 ⟨x, H1, I1, r1, q1⟩ => thn (hb pins s1 σ H1 _ I1 q1) fun u s2 ⟨y, H2, I2, r2, q2⟩ =>
    thn (ho pins s2 σ H2 x y v u _ I2 r1 r2 q2) fun c s3 ⟨z, H3, I3, r3, k, e, q3⟩ => ?_) hm
  subst e
  cases r3
  exact wpAny_truthy_bool ⟨H3, I3, q3⟩
/-- a op1 b op2 c -/
def tChain (r r' : R2) (ta tb tc : TE) : TE := fun σ H Q => ta σ H fun x H1 => tb σ H1 fun y H2 => r x y H2 fun z H3 => ∃ k, z = .bl k ∧
  (if k = true then tc σ H3 fun w' H4 => r' y w' H4 Q else Q (.bl false) H3)
theorem pe_chain {op op' : CmpOp} {r r' : R2} (ho : OpR X (compareOp op) r) (ho' : OpR X (compareOp op') r') (ha : PE X a ta) (hb : PE X b tb) (hc : PE X c tc)
    (hm : lastMarks [op, op'] [b, c] = false := by with_unfolding_all rfl) : PE X (.Compare a [op, op'] [b, c] pos) (tChain r r' ta tb tc) := by
  intro pins s σ H Q I h
  refine Compare_chain (thn (ha pins s σ H _ I h) fun v s1 ⟨x, H1, I1, r1, q1⟩ => chain_link (thn (hb pins s1 σ H1 _ I1 q1) fun u s2 ⟨y, H2, I2, r2, q2⟩ =>
    thn (ho pins s2 σ H2 x y v u _ I2 r1 r2 q2) fun d s3 ⟨z, H3, I3, r3, k, e, q3⟩ => ?_)) hm
  subst e
  cases r3
  refine wpAny_truthy_bool ?_
  cases k with
  | false => exact ite_ff ⟨.bl false, H3, I3, rfl, q3⟩
  | true => exact ite_tt (chain_last (thn (hc pins s3 σ H3 _ I3 q3) fun w' s4 ⟨z', H4, I4, r4, q4⟩ => ho' pins s4 σ H4 y z' u w' Q I4 r2 r4 q4))
theorem pt_chain {op op' : CmpOp} {r r' : R2} (ho : OpR X (compareOp op) r) (ho' : OpR X (compareOp op') r') (ha : PE X a ta) (hb : PE X b tb) (hc : PE X c tc)
    (hm : lastMarks [op, op'] [b, c] = false := by with_unfolding_all rfl) : PT X (.Compare a [op, op'] [b, c] pos) (tTest (tChain r r' ta tb tc)) := by
  intro pins s σ H Q I h
  refine isTrue_chain (thn (ha pins s σ H _ I h) fun v s1 ⟨x, H1, I1, r1, q1⟩ => test_link (thn (hb pins s1 σ H1 _ I1 q1) fun u s2 ⟨y, H2, I2, r2, q2⟩ =>
    thn (ho pins s2 σ H2 x y v u _ I2 r1 r2 q2) fun d s3 ⟨z, H3, I3, r3, k, e, q3⟩ => ?_)) hm
  subst e
  cases r3
  refine wpAny_truthy_bool ?_
  cases k with
  | false =>
    obtain ⟨k', e', q'⟩ := q3
    cases e'
    exact ite_ff ⟨H3, I3, q'⟩
  | true =>
    refine ite_tt (test_last (thn (hc pins s3 σ H3 _ I3 q3) fun w' s4 ⟨z', H4, I4, r4, q4⟩ => thn (ho' pins s4 σ H4 y z' u w' _ I4 r2 r4 q4) fun d' s5 hq0 => ?_))
    obtain ⟨z2, H5, I5, r5, k2, e2, q5⟩ := hq0
    subst e2
    cases r5
    exact wpAny_truthy_bool ⟨H5, I5, q5⟩

/-! ### truth -/
theorem line63 : (sizeLine : Nat) < 2 ^ 63 := by rw [sizeLine_eq]; decide

/-! ### strs and bytes -/
theorem op_add_str : OpR X (binaryOp .Add) (fun x y H Q => ∃ i j, x = .str i ∧ y = .str j ∧ i.length + j.length ≤ sizeLine ∧ Q (.str (i ++ j)) H) := by
  intro pins s σ H x y v u Q I rx ry h
  obtain ⟨i, j, rfl, rfl, hz, q⟩ := h
  obtain ⟨t, rfl⟩ := rx
  obtain ⟨t', rfl⟩ := ry
  exact add_str (fun t' tk => ⟨.str (i ++ j), H, I.tok _, ⟨_, rfl⟩, q⟩) hz


/-! ### scalar builtins, by CallR -/
theorem vals1 {x : V} {us : List Value} (r : Vals [x] us) : ∃ u, us = [u] ∧ RelV x u := by
  cases r with
  | cons r1 r2 => cases r2; exact ⟨_, rfl, r1⟩
theorem vals2 {x y : V} {us : List Value} (r : Vals [x, y] us) : ∃ u w', us = [u, w'] ∧ RelV x u ∧ RelV y w' := by
  cases r with
  | cons r1 r2 =>
    cases r2 with
    | cons r3 r4 => cases r4; exact ⟨_, _, rfl, r1, r3⟩
end
end L2

namespace L2
open PySem PySem.Spec PyProof.Rows

/-! ### an instance, its attributes a map -/
structure ObjM (h : Heap) (x dx C : Addr) (mA : Str → Option Value) : Prop where
  obj : h.get? x = some (PySem.W.instObj C dx)
  ns : h.Ns1 dx mA
  ne : dx ≠ x

theorem lookIn_ns {h : Heap} {dx : Addr} {mA : Str → Option Value} (n : h.Ns1 dx mA) : ∃ od, h.get? dx = some od ∧ ∀ name, PySem.W.lookIn name od = some (mA name) := by
  obtain ⟨o, es, ep, ho, hd, hk, _, hm⟩ := n
  refine ⟨o, ho, fun name => ?_⟩
  have e := hm name
  unfold nsFind findBy at e
  rw [← Array.find?_toList] at e
  unfold PySem.W.lookIn
  rw [hd]
  dsimp only
  split
  · rename_i y q
    rw [q] at e
    exact congrArg some e
  · rename_i q
    rw [q] at e
    have a : es.toList.any (·.refKey) = false := by
      rw [List.any_eq_false]
      intro y hy
      obtain ⟨z, t, hkey⟩ := hk y (Array.mem_toList_iff.mp hy)
      simp [DictEntry.refKey, hkey]
    have a' : ¬ es.toList.any (·.refKey) = true := by rw [a]; exact Bool.false_ne_true
    rw [if_neg a']
    exact congrArg some e

theorem ObjM.look {h : Heap} {x dx C : Addr} {mA : Str → Option Value} (I : ObjM h x dx C mA) : ∃ od, PySem.W.InstAt h x (PySem.W.instObj C dx) C (some od) ∧ ∀ name, PySem.W.lookIn name od = some (mA name) :=
  let ⟨od, ho, hl⟩ := lookIn_ns I.ns
  ⟨od, ⟨I.obj, rfl, rfl, ho⟩, hl⟩

section
variable {prog : Program} {w : World} {A : Around} {E : Value → Shared → Prop} {s : Shared} {K : PySem.W.Frag} {x dx C f : Addr} {mA : Str → Option Value} {name : Str} {v : Value}

theorem get_map {expr : Bool} {Q : Value → Shared → Prop} (X : K.In s.heap) (I : ObjM s.heap x dx C mA) (hg : PySem.W.plainGet K C name = true) (hh : PySem.W.hasDictIn K C = true)
    (ha : PySem.W.findIn K (.ref C) name = some none) (hv : mA name = some v) (hv' : PySem.W.handedIn v = true) (h : Q v { s with toks := s.toks + 1 }) :
    wpAny (model prog w) A (getAttr (.ref x) name expr) Q E s := by
  obtain ⟨od, J, hl⟩ := I.look
  exact PySem.W.get_value X J (PySem.W.plainGet_of hg).1 (PySem.W.findObj_own hh ha rfl (by rw [hl, hv])) hv' h


theorem get_meth {pl : Sem Bool} {Q : Value × List Value → Shared → Prop} (X : K.In s.heap) (I : ObjM s.heap x dx C mA) (hg : PySem.W.plainGet K C name = true)
    (hf : PySem.W.findIn K (.ref C) name = some (some (.ref f))) (ht : PySem.W.isFn K (.ref f) = true) (hv : mA name = none) (h : Q (.ref f, [.ref x]) s) :
    wpAny (model prog w) A (getMethod (.ref x) name pl) Q E s := by
  obtain ⟨od, J, hl⟩ := I.look
  exact PySem.W.method_fn X J (PySem.W.plainGet_of hg).1 (PySem.W.plainGet_of hg).2 hf (beq_iff_eq.mp ht) (by show (PySem.W.lookIn name od).map (·.isSome) = some false; rw [hl, hv]; rfl) h

theorem set_map {ns : List Str} {Q : Unit → Shared → Prop} (X : K.In s.heap) (I : ObjM s.heap x dx C mA)
    (hs : PySem.W.findIn K (.ref C) "__setattr__" = some (some (.builtin "object.__setattr__"))) (hp : PySem.W.plainOver K C = true) (ht : PySem.W.takerIn K C name = some none) (hh : PySem.W.hasDictIn K C = true)
    (hw : PySem.Within mA ns) (hsz : ns.length ≤ sizeLine)
    (h : ∀ h', ObjM h' x dx C (fun y => if y = name then some v else mA y) → Heap.SameBut dx s.heap h' → Q () { s with heap := h', toks := s.toks + 2 }) :
    wpAny (model prog w) A (setAttr (.ref x) name v) Q E s := by
  obtain ⟨od, J, hl⟩ := I.look
  refine PySem.W.set_plain X J hs (PySem.W.osa_open (s := { s with toks := s.toks + 1 }) (r := none) X J hp ht fun b => ?_)
  obtain ⟨cd, hc, hd'⟩ := PySem.W.any_some hh
  have hx : s.heap.get? x = some ⟨.ref C, some dx, .plain, #[]⟩ := I.obj
  refine wpAny_bind (wpAny_pure (wpAny_bind (wpAny_bind (wpAny_loadPart hx (wpAny_bind (PySem.W.Looks.here (s := { s with toks := s.toks + 1 }) (PySem.W.looks_clsIn X hc) ?_))))))
  rw [hd']
  refine wpAny_pure (a := some dx) (wpAny_bind (wpAny_pure (wpAny_bind ?_)))
  refine wpAny_nsSet1 (s := { s with toks := s.toks + 1 }) I.ns fun h' hn2 hs2 => ?_
  obtain ⟨oD, esD, epD, hoD, hdD, hcD⟩ := hn2.count (PySem.Within.cons name v hw)
  refine wpAny_bind (wpAny_lookBehind hoD (by rw [hdD]; exact pastItsLine_dict (Nat.le_trans hcD (by rw [List.length_cons]; omega))) ?_)
  exact wpAny_pure (h _ ⟨(hs2.2 _ (Ne.symm I.ne)).trans I.obj, hn2, I.ne⟩ hs2)

/-- C(..): the dict at the heap's end, the instance behind it; then its __init__ -/
theorem make_map {R : Result → Shared → Prop} {vs : List Value} {kw : List (Str × Value)} (X : K.In s.heap) (hm : PySem.W.makesIn K C = true)
    (hi : PySem.W.findIn K (.ref C) "__init__" = some (some (.ref f))) (hf : PySem.W.typeIn K (.ref f) = some (.type "function"))
    (h : codeAny (model prog w) (A.under (.builtin "type.__call__" ⟨.ref C :: vs, kw⟩)) (.call (.ref f) ⟨.ref (s.heap.objs.size + 1) :: vs, kw⟩) (PySem.W.InitBack (s.heap.objs.size + 1) R)
      { s with heap := (s.heap.push PySem.W.emptyDict).push (PySem.W.instObj C s.heap.objs.size) }) :
    codeAny (model prog w) A (.call (.ref C) ⟨vs, kw⟩) R s := by
  obtain ⟨hh, g, d, t, os⟩ := s
  exact PySem.W.make_core (PySem.W.makes_of X hm) (PySem.W.looks_findIn X hi) (fun self => PySem.W.bind_fn X self hf) (.inl rfl) h
end

/-! ### the attributes as a list of pairs -/
def putF (f : Str) (v : V) : List (Str × V) → List (Str × V)
  | [] => [(f, v)]
  | (g, x) :: r => if g = f then (g, v) :: r else (g, x) :: putF f v r
theorem lookup_putF (f g : Str) (v : V) : ∀ fs : List (Str × V), (putF f v fs).lookup g = if g = f then some v else fs.lookup g
  | [] => by
    show List.lookup g [(f, v)] = _
    by_cases h : g = f
    · have hb : (g == f) = true := beq_iff_eq.mpr h
      simp only [List.lookup, hb, if_pos h]
    · have hb : (g == f) = false := beq_eq_false_iff_ne.mpr h
      simp only [List.lookup, hb, if_neg h]
  | (k, x) :: r => by
    have ih := lookup_putF f g v r
    rw [show putF f v ((k, x) :: r) = (if k = f then (k, v) :: r else (k, x) :: putF f v r) from rfl]
    by_cases hk : k = f
    · rw [if_pos hk]
      by_cases h : g = k
      · have hb : (g == k) = true := beq_iff_eq.mpr h
        simp only [List.lookup, hb, if_pos (h.trans hk)]
      · have hb : (g == k) = false := beq_eq_false_iff_ne.mpr h
        simp only [List.lookup, hb, if_neg (fun e : g = f => h (e.trans hk.symm))]
    · rw [if_neg hk]
      by_cases h : g = k
      · have hb : (g == k) = true := beq_iff_eq.mpr h
        simp only [List.lookup, hb, if_neg (fun e : g = f => hk (h.symm.trans e))]
      · have hb : (g == k) = false := beq_eq_false_iff_ne.mpr h
        simp only [List.lookup, hb]
        exact ih
theorem keys_putF (f : Str) (v : V) : ∀ fs : List (Str × V), f ∈ (putF f v fs).map (·.1) ∧ ∀ g, g ∈ fs.map (·.1) → g ∈ (putF f v fs).map (·.1)
  | [] => ⟨by simp [putF], fun g h => by simp at h⟩
  | (k, x) :: r => by
    obtain ⟨i1, i2⟩ := keys_putF f v r
    rw [show putF f v ((k, x) :: r) = (if k = f then (k, v) :: r else (k, x) :: putF f v r) from rfl]
    by_cases hk : k = f
    · rw [if_pos hk]
      subst hk
      exact ⟨by simp, fun g h => by simpa using h⟩
    · rw [if_neg hk]
      refine ⟨?_, fun g h => ?_⟩
      · rw [List.map_cons]
        exact List.mem_cons_of_mem _ i1
      · rw [List.map_cons] at h ⊢
        rcases List.mem_cons.mp h with e | e
        · exact List.mem_cons.mpr (.inl e)
        · exact List.mem_cons_of_mem _ (i2 g e)
theorem length_putF (f : Str) (v : V) : ∀ fs : List (Str × V), (putF f v fs).length ≤ fs.length + 1
  | [] => by simp [putF]
  | (k, x) :: r => by
    have ih := length_putF f v r
    rw [show putF f v ((k, x) :: r) = (if k = f then (k, v) :: r else (k, x) :: putF f v r) from rfl]
    by_cases hk : k = f
    · rw [if_pos hk, List.length_cons, List.length_cons]; omega
    · rw [if_neg hk, List.length_cons, List.length_cons]; omega

theorem RelO.some_of {v : V} {o : Option Value} (r : RelO (some v) o) : ∃ u, o = some u ∧ RelV v u := by
  cases o with
  | none => exact (show False from r).elim
  | some u => exact ⟨u, rfl, r⟩
theorem RelO.none_of {o : Option Value} (r : RelO none o) : o = none := by
  cases o with
  | none => rfl
  | some u => exact (show False from r).elim
theorem handed_of {v : V} {u : Value} (r : RelV v u) : PySem.W.handedIn u = true := by
  cases v with
  | non => cases (show u = Value.none from r); rfl
  | bl b => cases (show u = Value.bool b from r); rfl
  | int i => obtain ⟨t, e⟩ := (show ∃ t, u = Value.int i t from r); cases e; rfl
  | str x => obtain ⟨t, e⟩ := (show ∃ t, u = Value.str x t from r); cases e; rfl
  | byt b => obtain ⟨t, e⟩ := (show ∃ t, u = Value.bytes b t from r); cases e; rfl
  | flt b => obtain ⟨t, e⟩ := (show ∃ t, u = Value.float b t from r); cases e; rfl
  | ref a => cases (show u = Value.ref a from r); rfl
  | ty n => cases (show u = Value.type n from r); rfl

section
variable {P : Program} {w : World} {H H' : Hp} {h h' : Heap} {a C dx : Addr} {fs fs' : List (Str × V)}
theorem ins_get (hok : HOk P w H h) (e : H a = some (.ins C dx fs)) : ∃ mA, ObjM h a dx C mA ∧ (∀ f, RelO (fs.lookup f) (mA f)) ∧ PySem.Within mA (fs.map (·.1)) ∧ fs.length ≤ 1000 ∧ H dx = some (.own a) := by
  obtain ⟨d, z, ne, ob, mA, n, r, q⟩ := (show ObjOk P w H h a (.ins C dx fs) from hok a _ e)
  exact ⟨mA, ⟨ob, n, ne⟩, r, q, z, d⟩
end

/-! ### what of the text a class must have -/
structure Cls (K : PySem.W.Frag) (C : Addr) : Prop where
  pg : PySem.W.plainGet K C Str.empty = true
  hd : PySem.W.hasDictIn K C = true
  po : PySem.W.plainOver K C = true
  sa : PySem.W.findIn K (.ref C) "__setattr__" = some (some (.builtin "object.__setattr__"))
theorem Cls.get {K : PySem.W.Frag} {C : Addr} (c : Cls K C) (f : Str) : PySem.W.plainGet K C f = true := c.pg
/-- no class of it has the name -/
def NoAttr (K : PySem.W.Frag) (C : Addr) (f : Str) : Prop := PySem.W.findIn K (.ref C) f = some none
theorem NoAttr.taker {K : PySem.W.Frag} {C : Addr} {f : Str} (n : NoAttr K C f) : PySem.W.takerIn K C f = some none := by
  unfold PySem.W.takerIn
  rw [show PySem.W.findIn K (.ref C) f = some none from n]
  rfl
/-- a method: a plain def of the class or of one above it -/
structure Meth (K : PySem.W.Frag) (C : Addr) (m : Str) (f : Addr) : Prop where
  at_ : PySem.W.findIn K (.ref C) m = some (some (.ref f))
  fn : PySem.W.isFn K (.ref f) = true
  kp : PySem.W.keepIn K (.ref f) = true

section
variable {X : Cx} {pins : List (Addr × Obj)} {σ : St} {H : Hp} {s : Shared} {a C dx : Addr} {fs : List (Str × V)} {f : Str} {v : V} {A : Around} {E : Value → Shared → Prop}

theorem getattr_ok {b : Bool} {Q : Value → Shared → Prop} (I : Inv X pins σ H s) (e : H a = some (.ins C dx fs)) (c : Cls X.K C) (n : NoAttr X.K C f) (l : fs.lookup f = some v)
    (h : ∀ u s', Inv X pins σ H s' → RelV v u → Q u s') : wpAny (model X.prog X.w) A (getAttr (.ref a) f b) Q E s := by
  obtain ⟨mA, O, r, _, _, _⟩ := ins_get I.hok e
  obtain ⟨u, hu, ru⟩ := RelO.some_of (v := v) (o := mA f) (by rw [← l]; exact r f)
  exact get_map I.kIn O (c.get f) c.hd n hu (handed_of ru) (h u _ (I.tok _) ru)


theorem getmeth_ok {m : Str} {g : Addr} {pl : Sem Bool} {Q : Value × List Value → Shared → Prop} (I : Inv X pins σ H s) (e : H a = some (.ins C dx fs)) (c : Cls X.K C) (k : Meth X.K C m g) (l : fs.lookup m = none)
    (h : Q (.ref g, [.ref a]) s) : wpAny (model X.prog X.w) A (getMethod (.ref a) m pl) Q E s := by
  obtain ⟨mA, O, r, _, _, _⟩ := ins_get I.hok e
  have hn : mA m = none := RelO.none_of (by rw [← l]; exact r m)
  exact get_meth I.kIn O (c.get m) k.at_ k.fn hn h

theorem setattr_ok {y : V} {u : Value} {Q : Unit → Shared → Prop} (I : Inv X pins σ H s) (e : H a = some (.ins C dx fs)) (c : Cls X.K C) (n : NoAttr X.K C f) (hl : fs.length < 1000) (ry : RelV y u)
    (h : ∀ s', Inv X pins σ (upd H a (.ins C dx (putF f y fs))) s' → Q () s') : wpAny (model X.prog X.w) A (setAttr (.ref a) f u) Q E s := by
  obtain ⟨mA, O, r, wi, _, ho⟩ := ins_get I.hok e
  have hz : (fs.map (·.1)).length ≤ sizeLine := by rw [List.length_map, sizeLine_eq]; omega
  refine set_map I.kIn O c.sa c.po n.taker c.hd wi hz fun h' O' sb => h _ ?_
  have hd : ∃ o, h'.get? dx = some o := let ⟨o, _, _, e', _⟩ := O'.ns; ⟨o, e'⟩
  refine I.write (x := a) (e := dx) (by rw [e]; exact True.intro) (.inr ho) (fun b q hb z => (sb.2 b hb).trans z) hd ?_
  refine ⟨by rw [upd_ne O.ne]; exact ho, ?_, O.ne, O'.obj, _, O'.ns, fun g => ?_, fun g hg => ?_⟩
  · have := length_putF f y fs; omega
  · show RelO ((putF f y fs).lookup g) (if g = f then some u else mA g)
    rw [lookup_putF]
    by_cases q : g = f
    · rw [if_pos q, if_pos q]; exact ry
    · rw [if_neg q, if_neg q]; exact r g
  · by_cases q : g = f
    · rw [q]; exact (keys_putF f y fs).1
    · refine (keys_putF f y fs).2 g (wi g fun z => hg ?_)
      show (if g = f then some u else mA g) = none
      rw [if_neg q]; exact z

/-- a new instance, tracked, without attributes -/
theorem Inv.made (I : Inv X pins σ H s) : Inv X pins σ (upd (upd H s.heap.objs.size (.own (s.heap.objs.size + 1))) (s.heap.objs.size + 1) (.ins C s.heap.objs.size []))
    { s with heap := (s.heap.push PySem.W.emptyDict).push (PySem.W.instObj C s.heap.objs.size) } := by
  have e1 : (s.heap.push PySem.W.emptyDict).get? s.heap.objs.size = some PySem.W.emptyDict := Heap.get?_push_size s.heap rfl
  have e2 : ((s.heap.push PySem.W.emptyDict).push (PySem.W.instObj C s.heap.objs.size)).get? (s.heap.objs.size + 1) = some (PySem.W.instObj C s.heap.objs.size) := by
    have := Heap.get?_push_size (s.heap.push PySem.W.emptyDict) (o := PySem.W.instObj C s.heap.objs.size) rfl
    rwa [Heap.size_push] at this
  have e3 : (s.heap.push PySem.W.emptyDict).Ns s.heap.objs.size (fun _ => none) := ⟨PySem.W.emptyDict, #[], _, e1, rfl, (fun e he => absurd he (by simp)), fun _ => rfl⟩
  have I1 := I.laid (a := s.heap.objs.size) (o := .own (s.heap.objs.size + 1)) (h' := s.heap.push PySem.W.emptyDict) (t' := s.toks) (fun b u q => Heap.get?_push_of_some _ q) (Nat.le_refl _) ⟨_, e1⟩
  refine I1.laid (a := s.heap.objs.size + 1) (o := .ins C s.heap.objs.size []) (t' := s.toks) (fun b u q => Heap.get?_push_of_some _ q) (Nat.le_of_eq (Heap.size_push _ _)) ?_
  have ne : s.heap.objs.size ≠ s.heap.objs.size + 1 := Nat.ne_of_lt (Nat.lt_succ_self _)
  refine ⟨by rw [upd_ne ne, upd_same], Nat.zero_le _, ne, e2, fun _ => none, (Heap.Ns1.of_empty e3).at fun o q => Heap.get?_push_of_some _ q, fun _ => True.intro, fun y hy => absurd rfl hy⟩

/-- e.f where nothing but the object is asked: through attributeBase (super) and the last hold -/
theorem attr_of {prog : Program} {w : World} {env : Env} {e : Expr} {f : Str} {pos : Pos} {s : Shared} {Q : Value → Shared → Prop} (hb : attributeBase e f env (eval e env) = eval e env)
    (h : wpAny (model prog w) A (eval e env) (fun o s₁ => wpAny (model prog w) A (getAttr o f true) Q E s₁) E s) : wpAny (model prog w) A (eval (.Attribute e f pos) env) Q E s :=
  Attribute_any_ h (by rw [arm_eval_Attribute, hb])
end

/-! ### readings and rules -/
/-- e.f, an attribute of the instance -/
def tFld (K : PySem.W.Frag) (ta : TE) (f : Str) : TE := fun σ H Q => ta σ H fun x H1 => ∃ a C dx fs v, x = .ref a ∧ H1 a = some (.ins C dx fs) ∧ Cls K C ∧ NoAttr K C f ∧ fs.lookup f = some v ∧ Q v H1
/-- e.f = value -/
def sFld (K : PySem.W.Frag) (ta tv : TE) (f : Str) : TS := fun D σ H => tv σ H fun y H1 => ta σ H1 fun x H2 => ∃ a C dx fs, x = .ref a ∧ H2 a = some (.ins C dx fs) ∧ Cls K C ∧ NoAttr K C f ∧ fs.length < 1000 ∧
  D.nx σ (upd H2 a (.ins C dx (putF f y fs)))

section
variable {X : Cx} {o e value : Expr} {f : Str} {pos pos' tpos : Pos} {ta tv : TE}
theorem pe_fld (he : PE X e ta) (hb : attributeBase e f X.env (eval e X.env) = eval e X.env) : PE X (.Attribute e f pos) (tFld X.K ta f) := by
  intro pins s σ H Q I h
  refine attr_of hb (thn (he pins s σ H _ I h) fun u s1 hq0 => ?_)
  obtain ⟨x, H1, I1, rx, a, C, dx, fs, v, ex, ea, c, n, l, q⟩ := hq0
  subst ex
  obtain rfl : u = Value.ref a := rx
  exact getattr_ok I1 ea c n l fun u' s2 I2 ru => ⟨v, H1, I2, ru, q⟩
theorem ps_fld (ha : PE X o ta) (hv : PE X value tv) (hs : swapsWith value (some (.Attribute o f pos')) pos.line X.env = pure false) : PS X (.Assign [.Attribute o f pos'] value pos) (sFld X.K ta tv f) := by
  intro pins s σ H D I h
  refine plainObj_wpAny_Assign_Attribute (thn (hv pins s σ H _ I h) fun u s1 ⟨y, H1, I1, ry, q⟩ => thn (ha pins s1 σ H1 _ I1 q) fun ov s2 hq0 => ?_) hs
  obtain ⟨x, H2, I2, rx, a, C, dx, fs, ex, ea, c, n, l, q2⟩ := hq0
  subst ex
  obtain rfl : ov = Value.ref a := rx
  exact setattr_ok I2 ea c n l ry fun s3 I3 => ⟨σ, _, I3, q2⟩

/-- what is between an instance and its method: the tree of a method call -/
theorem methcall_of {pl : Sem Bool} {m : Str} {apos : Pos} {args : List Expr} {pins : List (Addr × Obj)} {s : Shared} {σ : St} {H : Hp} {Q : Value → Shared → Prop} {te : TE} (he : PE X e te) (I : Inv X pins σ H s)
    (h : te σ H fun x H1 => ∃ a C dx fs g, x = .ref a ∧ H1 a = some (.ins C dx fs) ∧ Cls X.K C ∧ Meth X.K C m g ∧ fs.lookup m = none ∧
      ∀ s1, Inv X pins σ H1 s1 → wpAny (model X.prog X.w) X.A (callWith pos (.ref g) [.ref a] (backTo pos (starEach args X.env)) (backToKw pos (keywordEach [] X.env))) Q X.xe s1)
    (ht : eval (.Call (.Attribute e m apos) args [] pos) X.env = (do
      let ov ← eval e X.env
      standAt apos.atName
      let (f, first) ← holding [ov] (getMethod ov m pl)
      callWith pos f first (backTo pos (starEach args X.env)) (backToKw pos (keywordEach [] X.env)))) :
    wpAny (model X.prog X.w) X.A (eval (.Call (.Attribute e m apos) args [] pos) X.env) Q X.xe s := by
  refine PySem.W.methodCall_KW (pl := pl) (thn (he pins s σ H _ I h) fun u s1 hq0 => ?_) ht
  obtain ⟨x, H1, I1, rx, a, C, dx, fs, g, ex, ea, c, k, l, q⟩ := hq0
  subst ex
  obtain rfl : u = Value.ref a := rx
  exact getmeth_ok I1 ea c k l (q s1 I1)
end

/-! ### isinstance -/
section
variable {X : Cx} {pins : List (Addr × Obj)} {σ : St} {H : Hp} {s : Shared} {A : Around} {E : Value → Shared → Prop} {Q : Value → Shared → Prop} {c : Value} {b : Bool}
/-- the type of a value, as the fragment's deciders take it; for an instance its class -/
inductive TyOf (K : PySem.W.Frag) (H : Hp) : V → Value → Prop where
  | non : TyOf K H .non (.type "NoneType")
  | bl (x : Bool) : TyOf K H (.bl x) (.type "bool")
  | int (i : Int) : TyOf K H (.int i) (.type "int")
  | str (x : Str) : TyOf K H (.str x) (.type "str")
  | flt (x : UInt64) : TyOf K H (.flt x) (.type "float")
  | lst {a : Addr} {xs : List V} (e : H a = some (.lst xs)) : TyOf K H (.ref a) (.type "list")
  | frz {a : Addr} {o : Obj} {xs : List V} (e : H a = some (.frz o (.lst xs))) : TyOf K H (.ref a) (.type "list")
  | tup {a : Addr} {xs : List V} (e : H a = some (.tup xs)) : TyOf K H (.ref a) (.type "tuple")
  | dK {a : Addr} {kvs : List (Key × V)} (e : H a = some (.dK kvs)) : TyOf K H (.ref a) (.type "dict")
  | dT {a : Addr} {kvs : List (List Key × V)} (e : H a = some (.dT kvs)) : TyOf K H (.ref a) (.type "dict")
  | ins {a C dx : Addr} {fs : List (Str × V)} (e : H a = some (.ins C dx fs)) (cl : Cls K C) (ha : PySem.W.findIn K (.ref C) "__class__" = some (some (.builtin "object.__class__")))
      (hn : PySem.W.specialIn K (.builtin "object.__class__") "__get__" = some (some (.builtin "getset_descriptor.__get__"))) (htk : PySem.W.takesIn K (.builtin "object.__class__") = some true)
      (hm : PySem.W.mroIn K C (.type "object") = some true) : TyOf K H (.ref a) (.ref C)
/-- isinstance(x, c) for one class c, a built-in or an own one: kitOne's answer -/
theorem isinst_ok {x : V} {u t : Value} (I : Inv X pins σ H s) (rx : RelV x u) (ty : TyOf X.K H x t) (e : PySem.W.kitOne X.K t c = some b) (h : ∀ tk, Q (.bool b) { s with toks := tk }) :
    wpAny (model X.prog X.w) A (call (.builtin "isinstance") [u, c]) Q E s := by
  cases ty with
  | non => cases (show u = Value.none from rx); exact PySem.W.kia_one PySem.W.kitx_none I.kIn True.intro e (fun z => nomatch z) h
  | bl y => cases (show u = Value.bool y from rx); exact PySem.W.kia_one PySem.W.kitx_bool I.kIn True.intro e (fun z => nomatch z) h
  | int i => obtain ⟨t, q⟩ := (show ∃ t, u = Value.int i t from rx); cases q; exact PySem.W.kia_one PySem.W.kitx_int I.kIn True.intro e (fun z => nomatch z) h
  | str y => obtain ⟨t, q⟩ := (show ∃ t, u = Value.str y t from rx); cases q; exact PySem.W.kia_one PySem.W.kitx_str I.kIn True.intro e (fun z => nomatch z) h
  | flt y => obtain ⟨t, q⟩ := (show ∃ t, u = Value.float y t from rx); cases q; exact PySem.W.kia_one PySem.W.kitx_float I.kIn True.intro e (fun z => nomatch z) h
  | @lst a xs ea =>
    cases (show u = Value.ref a from rx)
    obtain ⟨_, _, n, _, h1⟩ := (show ObjOk X.prog X.w H s.heap a (.lst xs) from I.hok a _ ea)
    exact PySem.W.kia_one PySem.W.kitx_list I.kIn ⟨_, h1, rfl⟩ e (fun z => nomatch z) h
  | @frz a ob xs ea =>
    cases (show u = Value.ref a from rx)
    obtain ⟨_, _, _, n, _, h1⟩ := (show ObjOk X.prog X.w H s.heap a (.frz ob (.lst xs)) from I.hok a _ ea)
    exact PySem.W.kia_one PySem.W.kitx_list I.kIn ⟨_, h1, rfl⟩ e (fun z => nomatch z) h
  | @tup a xs ea =>
    cases (show u = Value.ref a from rx)
    obtain ⟨_, _, _, p⟩ := (show ObjOk X.prog X.w H s.heap a (.tup xs) from I.hok a _ ea)
    obtain ⟨o, h1, h2, _⟩ := p
    exact PySem.W.kia_one PySem.W.kitx_tuple I.kIn ⟨o, h1, h2⟩ e (fun z => nomatch z) h
  | @dK a kvs ea =>
    cases (show u = Value.ref a from rx)
    obtain ⟨_, _, vs, _, p⟩ := (show ObjOk X.prog X.w H s.heap a (.dK kvs) from I.hok a _ ea)
    obtain ⟨o, es, ep, h1, h2, _⟩ := p
    exact PySem.W.kia_one PySem.W.kitx_dict I.kIn ⟨o, h1, h2.1⟩ e (fun z => nomatch z) h
  | @dT a kvs ea =>
    cases (show u = Value.ref a from rx)
    obtain ⟨_, _, xs, _, o, es, ep, h1, h2, _⟩ := (show ObjOk X.prog X.w H s.heap a (.dT kvs) from I.hok a _ ea)
    exact PySem.W.kia_one PySem.W.kitx_dict I.kIn ⟨o, h1, h2.1⟩ e (fun z => nomatch z) h
  | @ins a C dx fs ea cl ha hn htk hm =>
    cases (show u = Value.ref a from rx)
    obtain ⟨mA, O, _⟩ := ins_get I.hok ea
    obtain ⟨od, J, _⟩ := O.look
    exact PySem.W.kia_one (PySem.W.kitx_own (cl.get _) cl.hd ha hn htk hm) I.kIn J e (fun z => nomatch z) h
end
end L2

namespace L2
open PySem PySem.Spec PyProof.Rows

/-! ### room -/
structure Room (k : Nat) (A : Around) : Prop where
  hd : A.handled = none
  dp : A.depth + 3 * k + 5 < recursionLimit
  un : A.units + 16 * k + 200 < cLine
theorem Room.mono {j k : Nat} {A : Around} (r : Room k A) (h : j ≤ k) : Room j A := ⟨r.hd, by have := r.dp; omega, by have := r.un; omega⟩
theorem Room.deeper {k : Nat} {A : Around} (r : Room (k + 1) A) (env : Env) : Room k (A.deeper env) :=
  ⟨r.hd, by have := r.dp; show A.depth + 1 + 3 * k + 5 < _; omega, by have := r.un; show A.units + 3 + 16 * k + 200 < _; omega⟩
theorem make_depth {A : Around} {C : Addr} {us : List Value} {kw : List (Str × Value)} : (A.under (.builtin "type.__call__" ⟨.ref C :: us, kw⟩)).depth = A.depth + 1 := by
  first | rfl | simp [Around.under, Code.weight, Code.isCreation, Code.isGuard, Code.isCaller, Code.frames, Code.isFrame, guardIds]
theorem make_units {A : Around} {C : Addr} {us : List Value} {kw : List (Str × Value)} : (A.under (.builtin "type.__call__" ⟨.ref C :: us, kw⟩)).units = A.units + 1 := by
  first | rfl | simp [Around.under, Code.cUnits, Code.frames, Code.isFrame]
theorem Room.make {k : Nat} {A : Around} (r : Room (k + 1) A) (C : Addr) (us : List Value) (kw : List (Str × Value)) : Room k (A.under (.builtin "type.__call__" ⟨.ref C :: us, kw⟩)) :=
  ⟨r.hd, by have := r.dp; rw [make_depth]; omega, by have := r.un; rw [make_units]; omega⟩
theorem Room.depth {k : Nat} {A : Around} (r : Room k A) : A.depth < recursionLimit := by have := r.dp; omega
theorem Room.units {k : Nat} {A : Around} (r : Room k A) : A.units + 64 < cLine := by have := r.un; omega

/-! ### argument lists and displays -/
def tNil : TA := fun _ H Q => Q [] H
def tCons (ta : TE) (tr : TA) : TA := fun σ H Q => ta σ H fun x H1 => tr σ H1 fun xs H2 => Q (x :: xs) H2
section
variable {X : Cx} {e : Expr} {es : List Expr} {te : TE} {t : TA} {pos : Pos}
theorem pa_nil : PA X [] tNil := fun _ _ _ _ H Q I h => Calls.spliced_nil ⟨[], H, I, .nil, h⟩
theorem pa_cons (ha : PE X e te) (hr : PA X es t) (hs : starEach (e :: es) X.env = (false, eval e X.env) :: starEach es X.env := by rfl) : PA X (e :: es) (tCons te t) := by
  intro pos pins s σ H Q I h
  rw [hs]
  show wpAny _ _ (spliced ((false, eval e X.env) :: backTo pos (starEach es X.env))) _ _ s
  refine Calls.spliced_cons (thn (ha pins s σ H _ I h) fun u s1 hq0 => ?_)
  obtain ⟨x, H1, I1, r1, q1⟩ := hq0
  exact thn (hr pos pins s1 σ H1 _ I1 q1) fun us s2 ⟨xs, H2, I2, r2, q2⟩ => ⟨x :: xs, H2, I2, .cons r1 r2, q2⟩

/-- a tuple, a list of written items -/
def tTup (t : TA) : TE := fun σ H Q => t σ H fun xs H1 => xs.length ≤ sizeLine ∧ ∀ p, H1 p = none → Q (.ref p) (upd H1 p (.tup xs))
def tLst (t : TA) : TE := fun σ H Q => t σ H fun xs H1 => xs.length ≤ sizeLine ∧ ∀ p, H1 p = none → Q (.ref p) (upd H1 p (.lst xs))
theorem pe_tup {x1} (h : PA X es t) : PE X (.Tuple es x1 pos) (tTup t) := by
  intro pins s σ H Q I hq
  refine wpAny_Tuple_spliced (thn (h pos pins s σ H _ I hq) fun us s1 ⟨xs, H1, I1, r, z, q⟩ => ⟨by rw [← r.length]; exact z, ?_⟩)
  have hf : H1 s1.heap.objs.size = none := I1.hok.fresh (Nat.le_refl _)
  refine ⟨.ref s1.heap.objs.size, upd H1 s1.heap.objs.size (.tup xs), I1.laid (t' := s1.toks) (fun b u e => Heap.get?_push_of_some _ e) (Nat.le_refl _) ?_, rfl, q _ hf⟩
  exact ⟨z, us, r, ⟨_, Heap.get?_push_size _ rfl, rfl, _, rfl⟩⟩
theorem pe_lst (h : PA X es t) : PE X (.List es pos) (tLst t) := by
  intro pins s σ H Q I hq
  refine wpAny_List_spliced (thn (h pos pins s σ H _ I hq) fun us s1 ⟨xs, H1, I1, r, z, q⟩ => ⟨by rw [← r.length]; exact z, ?_⟩)
  have hf : H1 s1.heap.objs.size = none := I1.hok.fresh (Nat.le_refl _)
  refine ⟨.ref s1.heap.objs.size, upd H1 s1.heap.objs.size (.lst xs), I1.laid (t' := s1.toks) (fun b u e => Heap.get?_push_of_some _ e) (Nat.le_refl _) ?_, rfl, q _ hf⟩
  exact ⟨z, us, 0, r, Heap.get?_push_size _ rfl⟩
end

/-! ### what a def promises -/
/-- a def's promise: the bound arguments in the parameters' order, the heap, the wanted end, the wanted exception -/
abbrev Sp := List V → Hp → VK → XK → Prop
/-- how an exception lies behind a call (file 08 gives it): the callers' frames, abstract heap and state ahead of the call, the wish, the exception, the state -/
abbrev CXT := List Env → Hp → Shared → XK → Value → Shared → Prop

/-- the state at a call -/
structure Env0 (P : Program) (w : World) (K : PySem.W.Frag) (mg : Str → Option Value) (base : Heap) (A : Around) (outer : List Env) (s : Shared) (H : Hp) : Prop where
  frames : A.frames = some outer
  mod : Mod K mg base
  bs : ∀ b o, base.get? b = some o → s.heap.get? b = some o ∧ H b = none
  bsz : base.objs.size ≤ s.heap.objs.size
  funs : s.heap.FunFrames base outer
  frf : ∀ b ∈ frs outer, H b = none
  hok : HOk P w H s.heap
  bare : AllBare s.gens
/-- a call's end -/
def CE (outer : List Env) (P : Program) (w : World) (H : Hp) (s : Shared) (Q : VK) (u : Value) (s' : Shared) : Prop :=
  ∃ v H', s'.os = s.os ∧ AllBare s'.gens ∧ Un (frs outer) [] H H' s.heap s'.heap ∧ HOk P w H' s'.heap ∧ RelV v u ∧ Q v H'
def CR (CX : CXT) (outer : List Env) (P : Program) (w : World) (H : Hp) (s : Shared) (Q : VK) (E : XK) (r : Result) (s' : Shared) : Prop :=
  match r with
  | .ok (.ret u) => CE outer P w H s Q u s'
  | .ok _ => False
  | .error e => CX outer H s E e s'
structure FnOk (P : Program) (w : World) (K : PySem.W.Frag) (mg : Str → Option Value) (base : Heap) (CX : CXT) (k : Nat) (f : Addr) (fd : FuncData) (ps : List Str) (sp : Sp) : Prop where
  len : ∀ vs H Q E, sp vs H Q E → vs.length = ps.length
  run : ∀ (A : Around) (outer : List Env) (s : Shared) (H : Hp) (args : Args) (us : List Value) (vs : List V) (Q : VK) (E : XK), Room k A → Env0 P w K mg base A outer s H → BindsTo s fd args (ps.zip us) → Vals vs us → sp vs H Q E →
    codeAny (model P w) A (.call (.ref f) args) (CR CX outer P w H s Q E) s

theorem Env0.make {P : Program} {w : World} {K : PySem.W.Frag} {mg : Str → Option Value} {base : Heap} {A : Around} {outer : List Env} {s : Shared} {H : Hp} (e : Env0 P w K mg base A outer s H) (C : Addr) (us : List Value) (kw : List (Str × Value)) :
    Env0 P w K mg base (A.under (.builtin "type.__call__" ⟨.ref C :: us, kw⟩)) outer s H := ⟨by first | exact e.frames | (simpa [Around.under, Code.envs, Code.isFrame, pushEnvs] using e.frames), e.mod, e.bs, e.bsz, e.funs, e.frf, e.hok, e.bare⟩

section
variable {X : Cx} {pins : List (Addr × Obj)} {σ : St} {H : Hp} {s s' : Shared}
/-- from a body: what a callee wants -/
theorem Inv.env0 (I : Inv X pins σ H s) : Env0 X.prog X.w X.K X.mg X.base X.A X.stack s H :=
  ⟨I.ok.frames, I.ok.mod, I.bs, Nat.le_trans I.ok.bsz I.sz, I.stack, I.stkFree, I.hok, I.bare⟩
/-- behind a call -/
theorem Inv.after {Q : VK} {u : Value} (I : Inv X pins σ H s) (h : CE X.stack X.prog X.w H s Q u s') : EP X pins σ Q u s' := by
  obtain ⟨v, H', os, bare, un, hok, r, q⟩ := h
  obtain ⟨hh, g, d, t, os'⟩ := s'
  obtain rfl : os' = s.os := os
  exact ⟨v, H', I.call (h' := hh) (g' := g) (d' := d) (t' := t) (ch := []) un hok bare (fun b z => absurd z (by simp)), r, q⟩
end

/-! ### calls -/
/-- f(..): the written arguments, then the defaults dvs; E: what is wanted of an exception -/
def tCall (sp : Sp) (dvs : List V) (E : XK) (t : TA) : TE := fun σ H Q => t σ H fun vs H1 => sp (vs ++ dvs) H1 Q E
/-- o.m(..) of an instance of the class at C -/
def tMeth (C : Addr) (m : Str) (sp : Sp) (dvs : List V) (E : XK) (ta : TE) (t : TA) : TE := fun σ H Q => ta σ H fun x H1 => ∃ a dx fs, x = .ref a ∧ H1 a = some (.ins C dx fs) ∧ fs.lookup m = none ∧
  t σ H1 fun vs H2 => sp (x :: (vs ++ dvs)) H2 Q E
/-- C(..): a new instance and its dict, then __init__ -/
def tMake (C : Addr) (sp : Sp) (dvs : List V) (E : XK) (t : TA) : TE := fun σ H Q => t σ H fun vs H1 => ∀ x dx, H1 x = none → H1 dx = none → dx ≠ x →
  sp (.ref x :: (vs ++ dvs)) (upd (upd H1 dx (.own x)) x (.ins C dx [])) (fun v H2 => v = .non ∧ Q (.ref x) H2) E

/-- how the parameters are bound: us the positional arguments, kw the keywords' values by name, ds the defaults that fill up -/
def Binds (K : PySem.W.Frag) (fd : FuncData) (ps : List Str) (ds : List Value) : Prop :=
  ∀ (s : Shared) (us : List Value), K.In s.heap → (us ++ ds).length = ps.length → BindsTo s fd ⟨us, []⟩ (ps.zip (us ++ ds))
/-- every parameter is given -/
theorem Binds.all {K : PySem.W.Frag} {fd : FuncData} {ps : List Str} (h : ∀ us : List Value, us.length = ps.length → bindArgs fd ⟨us, []⟩ = pure (ps.zip us)) : Binds K fd ps [] := fun s us _ hl => by
  rw [List.append_nil] at hl ⊢
  exact .of_eq (h us hl)

/-- an exception of a callee reaches what this body wants of exceptions -/
def Passes (CX : CXT) (X : Cx) (E : XK) : Prop := ∀ (pins : List (Addr × Obj)) (σ : St) (H : Hp) (s : Shared) (e : Value) (s' : Shared), Inv X pins σ H s → CX X.stack H s E e s' → X.xe e s'

section
variable {X : Cx} {CX : CXT} {k : Nat} {f C : Addr} {fd : FuncData} {ps : List Str} {sp : Sp} {dvs : List V} {ds : List Value} {E : XK} {x m : Str} {p pos apos : Pos} {e o : Expr} {es : List Expr} {ta : TE} {t : TA}

/-- the callee runs -/
theorem run_fn {pins : List (Addr × Obj)} {σ : St} {H : Hp} {s : Shared} {Q : VK} {us : List Value} {vs : List V} (F : FnOk X.prog X.w X.K X.mg X.base CX k f fd ps sp) (hr : Room k X.A) (hb : Binds X.K fd ps ds) (hd : Vals dvs ds) (hx : Passes CX X E)
    (I : Inv X pins σ H s) (r : Vals vs us) (h : sp (vs ++ dvs) H Q E) : wpAny (model X.prog X.w) X.A (call (.ref f) us) (EP X pins σ Q) X.xe s := by
  have r2 : Vals (vs ++ dvs) (us ++ ds) := r.append hd
  have hl : (us ++ ds).length = ps.length := by rw [← r2.length]; exact F.len _ _ _ _ h
  refine wpAny_call (codeAny_mono (F.run X.A X.stack s H ⟨us, []⟩ (us ++ ds) (vs ++ dvs) Q E hr I.env0 (hb s us I.kIn hl) r2 h) fun r s' hq => ?_)
  cases r with
  | error e => exact hx pins σ H s e s' I hq
  | ok fl =>
    cases fl with
    | ret u => exact I.after hq
    | next => exact False.elim hq
    | brk => exact False.elim hq
    | cont => exact False.elim hq

theorem pe_call (F : FnOk X.prog X.w X.K X.mg X.base CX k f fd ps sp) (hr : Room k X.A) (hg : Gl X x) (hm : X.mg x = some (.ref f)) (hk : PySem.W.keepIn X.K (.ref f) = true) (hb : Binds X.K fd ps ds) (hd : Vals dvs ds) (hx : Passes CX X E)
    (ha : PA X (e :: es) t) (hdb : (x == ("__debug__" : Str)) = false := by decide) (he : starEach (e :: es) X.env = (false, eval e X.env) :: starEach es X.env := by rfl) (hpl : (backTo pos (starEach es X.env)).any (·.1) = false := by rfl) :
    PE X (.Call (.Name x p) (e :: es) [] pos) (tCall sp dvs E t) := by
  intro pins s σ H Q I h
  refine wpAny_Call_Name_kw (ld_glob I hg hm ?_ hdb)
  refine PySem.W.callWith_K (h₀ := X.base) I.ok.mod.kin hk (thn (ha pos pins s σ H _ I h) fun us s1 ⟨vs, H1, I1, r, q⟩ => ⟨I1.kIn, ?_⟩) he hpl
  exact run_fn F hr hb hd hx I1 r q

/-- o.m(e, ..) -/
theorem pe_meth {pl : Sem Bool} (he : PE X o ta) (c : Cls X.K C) (hm : Meth X.K C m f) (F : FnOk X.prog X.w X.K X.mg X.base CX k f fd ps sp) (hr : Room k X.A) (hb : Binds X.K fd ps ds) (hd : Vals dvs ds) (hx : Passes CX X E) (ha : PA X (e :: es) t)
    (hst : starEach (e :: es) X.env = (false, eval e X.env) :: starEach es X.env := by rfl) (hpl : (backTo pos (starEach es X.env)).any (·.1) = false := by rfl)
    (ht : eval (.Call (.Attribute o m apos) (e :: es) [] pos) X.env = (do
      let ov ← eval o X.env
      standAt apos.atName
      let (f, first) ← holding [ov] (getMethod ov m pl)
      callWith pos f first (backTo pos (starEach (e :: es) X.env)) (backToKw pos (keywordEach [] X.env))) := by rfl) :
    PE X (.Call (.Attribute o m apos) (e :: es) [] pos) (tMeth C m sp dvs E ta t) := by
  intro pins s σ H Q I h
  refine PySem.W.methodCall_KW (pl := pl) (thn (he pins s σ H _ I h) fun u s1 hq0 => ?_) ht
  obtain ⟨x, H1, I1, rx, a, dx, fs, ex, ea, l, q⟩ := hq0
  subst ex
  obtain rfl : u = Value.ref a := rx
  refine getmeth_ok I1 ea c hm l ?_
  refine PySem.W.callWith_K (first := [.ref a]) (h₀ := X.base) I.ok.mod.kin hm.kp (thn (ha pos pins s1 σ H1 _ I1 q) fun us s2 ⟨vs, H2, I2, r, q2⟩ => ⟨I2.kIn, ?_⟩) hst hpl
  exact run_fn (us := .ref a :: us) (vs := .ref a :: vs) F hr hb hd hx I2 (.cons rfl r) q2
/-- o.m() -/
theorem pe_meth0 {pl : Sem Bool} (he : PE X o ta) (c : Cls X.K C) (hm : Meth X.K C m f) (F : FnOk X.prog X.w X.K X.mg X.base CX k f fd ps sp) (hr : Room k X.A) (hb : Binds X.K fd ps ds) (hd : Vals dvs ds) (hx : Passes CX X E)
    (ht : eval (.Call (.Attribute o m apos) [] [] pos) X.env = (do
      let ov ← eval o X.env
      standAt apos.atName
      let (f, first) ← holding [ov] (getMethod ov m pl)
      callWith pos f first (backTo pos (starEach [] X.env)) (backToKw pos (keywordEach [] X.env))) := by rfl) :
    PE X (.Call (.Attribute o m apos) [] [] pos) (tMeth C m sp dvs E ta tNil) := by
  intro pins s σ H Q I h
  refine PySem.W.methodCall_KW (pl := pl) (thn (he pins s σ H _ I h) fun u s1 hq0 => ?_) ht
  obtain ⟨x, H1, I1, rx, a, dx, fs, ex, ea, l, q⟩ := hq0
  subst ex
  obtain rfl : u = Value.ref a := rx
  refine getmeth_ok I1 ea c hm l ?_
  exact PySem.W.callWith_K0 (first := [.ref a]) I1.kIn hm.kp (run_fn (us := [.ref a]) (vs := [.ref a]) F hr hb hd hx I1 (.cons rfl .nil) q)

/-- what a class must have to be made -/
structure Mk (K : PySem.W.Frag) (C f : Addr) : Prop where
  makes : PySem.W.makesIn K C = true
  init : PySem.W.findIn K (.ref C) "__init__" = some (some (.ref f))
  fn : PySem.W.isFn K (.ref f) = true
  kp : PySem.W.keepIn K (.ref C) = true

theorem run_make {pins : List (Addr × Obj)} {σ : St} {H : Hp} {s : Shared} {Q : VK} {us : List Value} {vs : List V} (M : Mk X.K C f) (F : FnOk X.prog X.w X.K X.mg X.base CX k f fd ps sp) (hr : Room (k + 1) X.A) (hb : Binds X.K fd ps ds) (hd : Vals dvs ds)
    (hx : Passes CX X E) (I : Inv X pins σ H s) (r : Vals vs us)
    (h : ∀ x dx, H x = none → H dx = none → dx ≠ x → sp (.ref x :: (vs ++ dvs)) (upd (upd H dx (.own x)) x (.ins C dx [])) (fun v H2 => v = .non ∧ Q (.ref x) H2) E) :
    wpAny (model X.prog X.w) X.A (call (.ref C) us) (EP X pins σ Q) X.xe s := by
  have hq := h (s.heap.objs.size + 1) s.heap.objs.size (I.hok.fresh (Nat.le_succ _)) (I.hok.fresh (Nat.le_refl _)) (Nat.ne_of_lt (Nat.lt_succ_self _))
  have I2 := Inv.made (C := C) I
  have r2 : Vals (V.ref (s.heap.objs.size + 1) :: (vs ++ dvs)) (Value.ref (s.heap.objs.size + 1) :: (us ++ ds)) := .cons rfl (r.append hd)
  have hl : (Value.ref (s.heap.objs.size + 1) :: us ++ ds).length = ps.length := by
    have e := r2.length
    rw [F.len _ _ _ _ hq] at e
    exact e.symm
  refine wpAny_call (make_map (f := f) I.kIn M.makes M.init (beq_iff_eq.mp M.fn) (codeAny_mono (F.run _ X.stack _ _ ⟨Value.ref (s.heap.objs.size + 1) :: us, []⟩ (Value.ref (s.heap.objs.size + 1) :: (us ++ ds)) _ _ E (hr.make C us [])
    (I2.env0.make C us []) (hb _ (Value.ref (s.heap.objs.size + 1) :: us) I2.kIn hl) r2 hq) fun r s' hq' => ?_))
  cases r with
  | error e => exact hx pins σ _ _ e s' I2 hq'
  | ok fl =>
    cases fl with
    | ret u =>
      obtain ⟨v, H', I3, rv, ev, q3⟩ := I2.after hq'
      subst ev
      exact ⟨rv, ⟨V.ref (s.heap.objs.size + 1), H', I3, rfl, q3⟩⟩
    | next => exact False.elim hq'
    | brk => exact False.elim hq'
    | cont => exact False.elim hq'
theorem pe_make0 (M : Mk X.K C f) (F : FnOk X.prog X.w X.K X.mg X.base CX k f fd ps sp) (hr : Room (k + 1) X.A) (hg : Gl X x) (hm : X.mg x = some (.ref C)) (hb : Binds X.K fd ps ds) (hd : Vals dvs ds) (hx : Passes CX X E)
    (hdb : (x == ("__debug__" : Str)) = false := by decide) : PE X (.Call (.Name x p) [] [] pos) (tMake C sp dvs E tNil) := by
  intro pins s σ H Q I h
  refine wpAny_Call_Name_kw (ld_glob I hg hm ?_ hdb)
  exact PySem.W.callWith_K0 I.kIn M.kp (run_make (us := []) M F hr hb hd hx I .nil h)
end

/-! ### keywords -/
/-- the values of the keywords, from the left -/
def PK (X : Cx) (kws : List Keyword) (t : TA) : Prop :=
  ∀ (pos : Pos) (pins : List (Addr × Obj)) (s : Shared) (σ : St) (H : Hp) (Q : List V → Hp → Prop), Inv X pins σ H s → t σ H Q → wpAny (model X.prog X.w) X.A (evalAll ((backToKw pos (keywordEach kws X.env)).map (·.2))) (AP X pins σ Q) X.xe s
section
variable {X : Cx} {CX : CXT} {k : Nat} {f C : Addr} {fd : FuncData} {ps ks : List Str} {sp : Sp} {E : XK} {x m : Str} {p pos apos kpos : Pos} {e o : Expr} {es : List Expr} {kws : List Keyword} {te ta : TE} {t tk : TA} {nm : Option Str}
theorem pk_nil : PK X [] tNil := fun _ _ _ _ H Q I h => wpAny_evalAll_nil ⟨[], H, I, .nil, h⟩
theorem pk_cons (ha : PE X e te) (hr : PK X kws t) : PK X (⟨nm, e, kpos⟩ :: kws) (tCons te t) := by
  intro pos pins s σ H Q I h
  show wpAny _ _ (evalAll ((do let v ← eval e X.env; standAt pos; pure v) :: (backToKw pos (keywordEach kws X.env)).map (·.2))) _ _ s
  refine wpAny_evalAll_cons (wpAny_bind (thn (ha pins s σ H _ I h) fun u s1 ⟨x, H1, I1, r1, q1⟩ => wpAny_bind (wpAny_standAt (wpAny_pure ?_))))
  exact thn (hr pos pins s1 σ H1 _ I1 q1) fun us s2 ⟨xs, H2, I2, r2, q2⟩ => ⟨x :: xs, H2, I2, .cons r1 r2, q2⟩

variable {g : List Value → List Value → List Value} {gV : List V → List V → List V}
end

/-! ### a def's body keeps its promise -/
/-- names: the parameters first -/
structure FnScope (N P : List Str) (sc : Scope) : Prop where
  kind : sc.kind = .function
  co : sc.isCoroutine = false
  gen : sc.isGenerator = false
  nd : N.Nodup
  pre : N.take P.length = P
  par : ∀ x ∈ P, sc.names.lookup x = some .local ∨ sc.names.lookup x = some .cell
  nofree : ∀ y ∈ sc.names, y.2 ≠ .free

theorem bindL_out {kindOf : Str → Option NameKind} {x : Str} : ∀ {binds : List (Str × Value)} {m : Str → Option Value}, (∀ v, (x, v) ∉ binds) → bindL kindOf binds m x = m x
  | [], _, _ => rfl
  | (n, v) :: r, m, h => by
    unfold bindL
    rw [bindL_out fun w hw => h w (List.mem_cons_of_mem _ hw)]
    split
    · have : x ≠ n := by rintro rfl; exact h v List.mem_cons_self
      simp [this]
    · rfl
theorem bindC_out {kindOf : Str → Option NameKind} {x : Str} : ∀ {binds : List (Str × Value)} {m : Str → Option Value}, (∀ v, (x, v) ∉ binds) → bindC kindOf binds m x = m x
  | [], _, _ => rfl
  | (n, v) :: r, m, h => by
    unfold bindC
    rw [bindC_out fun w hw => h w (List.mem_cons_of_mem _ hw)]
    split
    · rfl
    · have : x ≠ n := by rintro rfl; exact h v List.mem_cons_self
      simp [this]
theorem bindL_get {kindOf : Str → Option NameKind} {x : Str} {v : Value} : ∀ {P : List Str} {vs : List Value} {i : Nat} {m : Str → Option Value}, P.Nodup → P[i]? = some x → vs[i]? = some v → kindOf x = some .local →
    bindL kindOf (P.zip vs) m x = some v
  | [], _, _, _, _, h, _, _ => by simp at h
  | _ :: _, [], _, _, _, _, h, _ => by simp at h
  | p :: P, w :: vs, 0, m, nd, h1, h2, hk => by
    simp at h1 h2; subst h1; subst h2
    show bindL kindOf ((p, w) :: P.zip vs) m p = _
    unfold bindL
    rw [bindL_out fun v hv => (List.nodup_cons.mp nd).1 (List.of_mem_zip hv).1, if_pos hk]
    simp
  | p :: P, w :: vs, i + 1, m, nd, h1, h2, hk => by
    show bindL kindOf ((p, w) :: P.zip vs) m x = _
    unfold bindL
    exact bindL_get (i := i) (List.nodup_cons.mp nd).2 (by simpa using h1) (by simpa using h2) hk
theorem bindC_get {kindOf : Str → Option NameKind} {x : Str} {v : Value} : ∀ {P : List Str} {vs : List Value} {i : Nat} {m : Str → Option Value}, P.Nodup → P[i]? = some x → vs[i]? = some v → kindOf x ≠ some .local →
    bindC kindOf (P.zip vs) m x = some v
  | [], _, _, _, _, h, _, _ => by simp at h
  | _ :: _, [], _, _, _, _, h, _ => by simp at h
  | p :: P, w :: vs, 0, m, nd, h1, h2, hk => by
    simp at h1 h2; subst h1; subst h2
    show bindC kindOf ((p, w) :: P.zip vs) m p = _
    unfold bindC
    rw [bindC_out fun v hv => (List.nodup_cons.mp nd).1 (List.of_mem_zip hv).1, if_neg hk]
    simp
  | p :: P, w :: vs, i + 1, m, nd, h1, h2, hk => by
    show bindC kindOf ((p, w) :: P.zip vs) m x = _
    unfold bindC
    exact bindC_get (i := i) (List.nodup_cons.mp nd).2 (by simpa using h1) (by simpa using h2) hk

/-- the names' values at the entry -/
def start (N : List Str) (vs : List V) : St := vs.map some ++ List.replicate (N.length - vs.length) none

/-- the context of a def's body, at its entry; an exception leaves the frame, then lies as CX says -/
def cxOf (CX : CXT) (P : Program) (w : World) (K : PySem.W.Frag) (mg : Str → Option Value) (base : Heap) (N : List Str) (qual : Str) (scope : Scope) (f : Addr) (cd : Value) (A : Around) (outer : List Env) (s : Shared) (H : Hp) (E : XK) : Cx where
  prog := P
  w := w
  K := K
  mg := mg
  base := base
  A := A.deeper (envOfC qual scope s.heap.objs.size f cd)
  N := N
  s₀ := s
  H₀ := H
  env := envOfC qual scope s.heap.objs.size f cd
  outer := outer
  stack := envOfC qual scope s.heap.objs.size f cd :: outer
  ex := []
  calm := true
  fn := fun _ => true
  pn := []
  xe := fun e s' => wpAny (model P w) (A.deeper (envOfC qual scope s.heap.objs.size f cd)) (leaving (envOfC qual scope s.heap.objs.size f cd) e) (fun _ s'' => CX outer H s E e s'') (fun e' s'' => CX outer H s E e' s'') s'

theorem cell_has {sc : Scope} {n : Nat} {x : Str} (h : sc.names.lookup x = some .cell) : ∃ c, (cellsFrom n sc.names []).lookup x = some c := by
  have q := PySem.W.cellsFrom_some sc.names n [] (.inl h)
  exact Option.isSome_iff_exists.mp q

theorem inv_start {CX : CXT} {P : Program} {w : World} {K : PySem.W.Frag} {mg : Str → Option Value} {base : Heap} {N ps : List Str} {qual : Str} {scope : Scope} {f : Addr} {cd : Value} {A : Around} {outer : List Env} {s s1 : Shared} {H : Hp} {E : XK} {us : List Value} {vs : List V}
    (S : FnScope N ps scope) (hd : A.handled = none) (e0 : Env0 P w K mg base A outer s H) (hl : vs.length = ps.length) (r : Vals vs us)
    (x : InCallC s s.heap.objs.size (bindL (envOfC qual scope s.heap.objs.size f cd).kindOf (ps.zip us) fun _ => none) (cellsFrom (s.heap.objs.size + 1) scope.names []) (bindC (envOfC qual scope s.heap.objs.size f cd).kindOf (ps.zip us) fun _ => none) s1) :
    Inv (cxOf CX P w K mg base N qual scope f cd A outer s H E) [] (start N vs) H s1 := by
  have hpl : ps.length ≤ N.length := by have := congrArg List.length S.pre; rw [List.length_take] at this; omega
  obtain ⟨h1, tk, rfl, hk⟩ := x.done
  have noA : ∀ b : Addr, b ∉ (cxOf CX P w K mg base N qual scope f cd A outer s H E).ex := fun b z => absurd (show b ∈ ([] : List Addr) from z) (by simp)
  refine ⟨⟨e0.mod, S.kind, rfl, rfl, Nat.le_refl _, fun y z c h1 h2 => ?_, fun y hy => ?_, fun y c _ h => ?_, fun _ => hd, Around.frames_deeper e0.frames, .inr ⟨rfl, rfl⟩, fun b z => absurd z (noA b), e0.bs, e0.bsz, fun b _ _ => noA b, fun b z => absurd z (noA b), e0.funs, e0.frf⟩,
    rfl, e0.bare, Un.kept hk, ⟨_, x.toInCall.ns, fun i y v h1 h2 h3 => ?_⟩, fun y c h => ⟨_, x.cell y c h⟩, e0.hok.fresh (Nat.le_refl _), fun y c h => ?_, fun p hp => absurd (show p ∈ ([] : List (Addr × Obj)) from hp) (by simp), e0.hok.kept hk, ?_⟩
  · exact name_of_addr x.apart (PySem.mem_of_lookup h1) (PySem.mem_of_lookup h2)
  · have hy : scope.names.lookup y = some .cell ∨ scope.names.lookup y = some .free := hy
    rcases hy with hy | hy
    · exact cell_has hy
    · exact absurd rfl (S.nofree _ (PySem.mem_of_lookup hy))
  · exact Nat.le_of_lt (x.above y c (PySem.mem_of_lookup h))
  · have hi : i < vs.length := by
      unfold start at h2
      by_cases hi : i < vs.length
      · exact hi
      · rw [List.getElem?_append_right (by simpa using hi)] at h2
        rw [List.getElem?_replicate] at h2
        split at h2 <;> cases h2
    have ha : vs[i]? = some v := by
      unfold start at h2
      rw [List.getElem?_append_left (by simpa using hi), List.getElem?_map] at h2
      cases e : vs[i]? with
      | none => rw [e] at h2; cases h2
      | some a => rw [e] at h2; cases h2; rfl
    obtain ⟨u, hu, rv⟩ := r.get ha
    have hp : ps[i]? = some y := by
      rw [← S.pre, List.getElem?_take_of_lt (by omega)]; exact h1
    have ndP : ps.Nodup := by rw [← S.pre]; exact S.nd.sublist (List.take_sublist _ _)
    refine ⟨u, rv, ?_⟩
    rcases S.par y (List.mem_of_getElem? hp) with k | k
    · exact .inl ⟨k, bindL_get ndP hp hu k⟩
    · obtain ⟨c, e⟩ := cell_has (n := s.heap.objs.size + 1) k
      refine .inr ⟨.inl k, c, e, ?_⟩
      have q := x.cell y c e
      rw [bindC_get ndP hp hu (by show scope.names.lookup y ≠ _; rw [k]; decide)] at q
      exact q
  · exact e0.hok.fresh (Nat.le_of_lt (x.above y c (PySem.mem_of_lookup h)))
  · unfold start
    show _ = N.length
    rw [List.length_append, List.length_map, List.length_replicate]
    omega

/-- THE RULE: a def (or a method) of the text, by its body. The body's reading t is chosen for each entry; it is run at the parameters' values -/
theorem fn_of {CX : CXT} {P : Program} {w : World} {K : PySem.W.Frag} {mg : Str → Option Value} {base : Heap} {k : Nat} {f : Addr} {name qual : Str} {params : Arguments} {body : List Stmt} {scope : Scope} {dV kV doc pm cdv ct oc : Value} {an od : Option Addr}
    {osl : Array (Option Value)} {N ps : List Str} {sp : Sp} (lk : K.lookup f = some ⟨oc, od, .func (PySem.W.fnOf name qual params body scope dV kV doc pm an cdv ct), osl⟩) (hcd : PySem.W.codeIn K cdv qual = true) (S : FnScope N ps scope)
    (len : ∀ vs H Q E, sp vs H Q E → vs.length = ps.length)
    (hbody : ∀ (A : Around) (outer : List Env) (s : Shared) (H : Hp) (vs : List V) (Q : VK) (E : XK), Room k (A.deeper (envOfC qual scope s.heap.objs.size f cdv)) → sp vs H Q E →
      ∃ t, PSs (cxOf CX P w K mg base N qual scope f cdv A outer s H E) body t ∧ t { nx := fun _ H' => Q .non H', rt := Q } (start N vs) H) :
    FnOk P w K mg base CX (k + 1) f (PySem.W.fnOf name qual params body scope dV kV doc pm an cdv ct) ps sp := by
  refine ⟨len, fun A outer s H args us vs Q E hr e0 hb r hsp => ?_⟩
  have hl := len _ _ _ _ hsp
  have KX : K.In s.heap := e0.mod.kin.keeps fun b o e => (e0.bs b o e).1
  have lim : s.heap.NoLimit := e0.mod.nolimit.keeps fun b o e => (e0.bs b o e).1
  have hkind : ∀ y ∈ ps.zip us, scope.names.lookup y.1 = some .local ∨ (scope.names.lookup y.1 = some .cell ∧ ((cellsFrom (s.heap.objs.size + 1) scope.names []).lookup y.1).isSome = true) := fun ⟨n, v⟩ hy => by
    rcases S.par n (List.of_mem_zip hy).1 with q | q
    · exact .inl q
    · exact .inr ⟨q, PySem.W.cellsFrom_some _ _ _ (.inl q)⟩
  refine codeAny_call_function hr.depth (KX _ _ lk) rfl S.co S.gen rfl (PySem.W.codeRec_of KX hcd) (hb _ _ _ _ ?_)
  refine wpAny_newFunctionEnv_cells S.kind hkind fun env he s1 x => ?_
  subst he
  refine ⟨lim.keeps x.toInCall.keep, codeAny_func ?_⟩
  obtain ⟨t, ht, hq⟩ := hbody A outer s H vs Q E (hr.deeper _) hsp
  have I : Inv (cxOf CX P w K mg base N qual scope f cdv A outer s H E) [] (start N vs) H s1 := inv_start S hr.hd e0 hl r x
  refine wpAny_mono (ht [] s1 (start N vs) H _ I hq) (fun fl s' hs => ?_) fun e s' hs => hs
  have fin : ∀ {σ' : St} {H' : Hp} {v : V} {u : Value}, Inv (cxOf CX P w K mg base N qual scope f cdv A outer s H E) [] σ' H' s' → RelV v u → Q v H' → CE outer P w H s Q u s' :=
    fun {σ' H' v u} J rv q => ⟨v, H', J.os, J.bare, J.base, J.hok, rv, q⟩
  cases fl with
  | ret u =>
    obtain ⟨v, σ', H', J, rv, q⟩ := hs
    exact fin J rv q
  | next =>
    obtain ⟨σ', H', J, q⟩ := hs
    exact fin (v := V.non) (u := Value.none) J rfl q
  | brk =>
    obtain ⟨_, _, _, q⟩ := hs
    exact False.elim q
  | cont =>
    obtain ⟨_, _, _, q⟩ := hs
    exact False.elim q
end L2

namespace L2
open PySem PySem.Spec PyProof.Rows
section
variable {X : Cx} {x : Str} {p pos : Pos} {e : Expr} {es : List Expr} {t : TA} {id T : String} {r : List V → Hp → VK → Prop}

def tCB (r : List V → Hp → VK → Prop) (t : TA) : TE := fun σ H Q => t σ H fun vs H1 => r vs H1 Q
/-- f(e, ..), f a built-in function -/
theorem pe_callB (hc : CallR X (.builtin id) r) (hg : Gl X x) (hm : X.mg x = none) (hv : bootBuiltins x = some (.builtin id)) (ha : PA X (e :: es) t) (hn : x ≠ "__name__" := by decide) (hdb : (x == ("__debug__" : Str)) = false := by decide)
    (he : starEach (e :: es) X.env = (false, eval e X.env) :: starEach es X.env := by rfl) (hpl : (backTo pos (starEach es X.env)).any (·.1) = false := by rfl) : PE X (.Call (.Name x p) (e :: es) [] pos) (tCB r t) := by
  intro pins s σ H Q I h
  refine wpAny_Call_Name_kw (ld_blt I hg hm hv ?_ hn hdb)
  exact PyProof.Rows.callWith_builtin1 (thn (ha pos pins s σ H _ I h) fun us s1 ⟨vs, H1, I1, r1, q1⟩ => hc pins s1 σ H1 vs us Q I1 r1 q1) he hpl
/-- T(e, ..), T a built-in type -/
theorem pe_callTy (hc : CallR X (.type T) r) (hg : Gl X x) (hm : X.mg x = none) (hv : bootBuiltins x = some (.type T)) (ha : PA X (e :: es) t) (hn : x ≠ "__name__" := by decide) (hdb : (x == ("__debug__" : Str)) = false := by decide)
    (he : starEach (e :: es) X.env = (false, eval e X.env) :: starEach es X.env := by rfl) (hpl : (backTo pos (starEach es X.env)).any (·.1) = false := by rfl) : PE X (.Call (.Name x p) (e :: es) [] pos) (tCB r t) := by
  intro pins s σ H Q I h
  refine wpAny_Call_Name_kw (ld_blt I hg hm hv ?_ hn hdb)
  exact PyProof.Rows.callWith_type1 (thn (ha pos pins s σ H _ I h) fun us s1 ⟨vs, H1, I1, r1, q1⟩ => hc pins s1 σ H1 vs us Q I1 r1 q1) he hpl
end
end L2

namespace HT
open PySem PyProof.Rows



section
open PySem.SeqAt
open PySem.AutoSeq1 (wpAny_loadPart')
open PySem.MeetsSeq PySem.MeetsSeq2 PySem.MeetsSeq3

end

section
variable {prog : Program} {w : World} {A : Around} {E : Value → Shared → Prop} {s : Shared}


/-- t + u, t not empty -/
theorem cat_tup {t b : Addr} {vs ws : List Value} {Q : Value → Shared → Prop} (ht : IsTup s.heap t vs.toArray) (hb : IsTup s.heap b ws.toArray) (hv : vs ≠ [])
    (h1 : ws = [] → Q (.ref t) s) (h2 : ws ≠ [] → Q (.ref s.heap.objs.size) { s with heap := s.heap.push { cls := .type "tuple", data := .seq (vs ++ ws).toArray } })
    (hsz : vs.length + ws.length ≤ sizeLine) : wpAny (model prog w) A (binaryOp .Add (.ref t) (.ref b)) Q E s := by
  obtain ⟨⟨cls, dd, data, sl⟩, ho, hc, n, hd⟩ := id ht
  obtain ⟨⟨cls2, dd2, data2, sl2⟩, ho2, hc2, n2, hd2⟩ := id hb
  simp only at hc hd hc2 hd2
  subst hc hd hc2 hd2
  have e : vs.toArray ++ ws.toArray = (vs ++ ws).toArray := by simp
  by_cases hw : ws = []
  · exact concat_meets ⟨_, ho, rfl⟩ ⟨_, ho2, rfl⟩ noFill_tuple_add seq_tuple_add PySem.F.slot_tuple_add PySem.F.entry_tuple_add (PySem.F.args_tuple_add_2 _ _)
      (tuple_addW1 t b vs.toArray ws.toArray n n2 dd dd2 sl sl2 (by simpa using hv) (by simp [hw])) ⟨ho, ho2, h1 hw⟩
  · refine concat_meets ⟨_, ho, rfl⟩ ⟨_, ho2, rfl⟩ noFill_tuple_add seq_tuple_add PySem.F.slot_tuple_add PySem.F.entry_tuple_add (PySem.F.args_tuple_add_2 _ _)
      (tuple_addW2 t b vs.toArray ws.toArray n n2 dd dd2 sl sl2 (by simpa using hv) (by simpa using hw) (by rw [List.size_toArray, List.size_toArray]; exact hsz)) ⟨ho, ho2, ?_⟩
    rw [e]
    exact h2 hw

/-! ### t[a:b], not the whole -/
/-- a slice's bound as a place among n (d where it is left out) -/
def sIx (n d : Nat) : Option Int → Nat
  | none => d
  | some v => if v < 0 then (v + (n : Int)).toNat else min v.toNat n
theorem sIx_le (n d : Nat) (hd : d ≤ n) (o : Option Int) : sIx n d o ≤ n := by
  cases o with
  | none => exact hd
  | some v =>
    show (if v < 0 then (v + (n : Int)).toNat else min v.toNat n) ≤ n
    by_cases hv : v < 0
    · rw [if_pos hv]; omega
    · rw [if_neg hv]; exact Nat.min_le_right _ _
theorem clip_eq (v : Int) (n d : Nat) : (if v < 0 then max (v + (n : Int)) 0 else min v (n : Int)) = ((sIx n d (some v) : Nat) : Int) := by
  show (if v < 0 then max (v + (n : Int)) 0 else min v (n : Int)) = (((if v < 0 then (v + (n : Int)).toNat else min v.toNat n) : Nat) : Int)
  by_cases hv : v < 0
  · simp only [if_pos hv]; omega
  · simp only [if_neg hv]; omega
theorem adjust_gen (lo hi : Option Int) (n : Nat) : Builtin.Slice.sliceAdjust lo hi 1 (n : Int) = (((sIx n 0 lo : Nat) : Int), ((sIx n n hi : Nat) : Int)) := by
  have h1 : ¬ ((1 : Int) < 0) := by omega
  unfold Builtin.Slice.sliceAdjust
  simp only [h1, if_false]
  refine Prod.ext ?_ ?_
  · cases lo with
    | none => rfl
    | some v => exact clip_eq v n 0
  · cases hi with
    | none => rfl
    | some v => exact clip_eq v n n
theorem places_gen (i j : Nat) : Builtin.Slice.slicePlaces (i : Int) (j : Int) 1 = j - i := by
  unfold Builtin.Slice.slicePlaces
  have h1 : (1 : Int) > 0 := by omega
  simp only [h1, if_true, Int.ediv_one]
  split <;> omega
theorem slicePart_ {v : Value} {o : Option Int} {Q : Option Int → Shared → Prop} (p : IsPart v o) (h : Q o s) : wpAny (model prog w) A (Builtin.Slice.slicePartIndex v) Q E s := by
  cases p with
  | none => exact slicePart_none h
  | int i t => exact slicePart_int h
theorem sliceApplied_gen {sl : Addr} {vl vu : Value} {lo hi : Option Int} {n : Nat} {Q : Int × Int × Nat → Shared → Prop} (hs : s.heap.IsSliceOf sl vl vu .none) (pl : IsPart vl lo) (pu : IsPart vu hi)
    (h : Q (((sIx n 0 lo : Nat) : Int), 1, sIx n n hi - sIx n 0 lo) s) : wpAny (model prog w) A (Builtin.Slice.sliceApplied (.ref sl) (pure (n : Int))) Q E s := by
  obtain ⟨os, hos, hcs, hds⟩ := id hs
  unfold Builtin.Slice.sliceApplied Builtin.Slice.sliceFields
  refine wpAny_bind (wpAny_bind (wpAny_field hos hds (x := vl) rfl (wpAny_bind (wpAny_field hos hds (x := vu) rfl (wpAny_bind (wpAny_field hos hds (x := .none) rfl (wpAny_pure ?_)))))))
  refine wpAny_bind (slicePart_none ?_)
  show wpAny _ _ (if ((1 : Int) == 0) = true then _ else _) _ _ s
  rw [if_neg (by decide)]
  refine wpAny_bind (slicePart_ pl (wpAny_bind (slicePart_ pu (wpAny_bind (wpAny_pure ?_)))))
  show wpAny _ _ (match Builtin.Slice.sliceAdjust lo hi 1 (n : Int) with | (lo, hi) => pure (lo, (1 : Int), Builtin.Slice.slicePlaces lo hi 1)) _ _ s
  rw [adjust_gen lo hi n]
  show wpAny _ _ (pure (((sIx n 0 lo : Nat) : Int), (1 : Int), Builtin.Slice.slicePlaces ((sIx n 0 lo : Nat) : Int) ((sIx n n hi : Nat) : Int) 1)) _ _ s
  rw [places_gen]
  exact wpAny_pure h
theorem pick_gen (xs : Array Value) (i k : Nat) : ((List.range k).filterMap fun (m : Nat) => xs[((i : Int) + (m : Int) * 1).toNat]?).toArray = ((xs.toList.drop i).take k).toArray := by
  have e : (fun (m : Nat) => xs[((i : Int) + (m : Int) * 1).toNat]?) = fun m => xs[i + m]? := by
    funext m
    have : ((i : Int) + (m : Int) * 1).toNat = i + m := by omega
    rw [this]
  rw [e]
  have := pick_run xs i k
  rw [List.filterMap_map] at this
  have e2 : ((fun x => xs[x]?) ∘ fun x => i + x) = fun m => xs[i + m]? := rfl
  rw [e2] at this
  rw [this]

theorem getItem_tuple_cut {t sl : Addr} {items : Array Value} {vl vu : Value} {lo hi : Option Int} {Q : Value → Shared → Prop} (ht : IsTup s.heap t items) (hs : s.heap.IsSliceOf sl vl vu .none) (pl : IsPart vl lo) (pu : IsPart vu hi)
    (hw : ¬ (sIx items.size 0 lo = 0 ∧ sIx items.size items.size hi = items.size))
    (h : Q (.ref s.heap.objs.size) { s with heap := s.heap.push { cls := .type "tuple", data := .seq ((items.toList.drop (sIx items.size 0 lo)).take (sIx items.size items.size hi - sIx items.size 0 lo)).toArray } })
    (hsz : items.size ≤ sizeLine) : wpAny (model prog w) A (getItem (.ref t) (.ref sl)) Q E s := by
  have htake : sizeOk (.seq ((items.toList.drop (sIx items.size 0 lo)).take (sIx items.size items.size hi - sIx items.size 0 lo)).toArray) := by
    show ((items.toList.drop (sIx items.size 0 lo)).take (sIx items.size items.size hi - sIx items.size 0 lo)).toArray.size ≤ sizeLine
    rw [List.size_toArray, List.length_take, List.length_drop, Array.length_toList]
    omega
  have hj : sIx items.size items.size hi ≤ items.size := sIx_le _ _ (Nat.le_refl _) hi
  obtain ⟨os, hos, hcs, hds⟩ := id hs
  have hTs : s.TypeIs (.ref sl) "slice" := ⟨os, hos, hcs⟩
  unfold getItem
  try with_reducible refine wpAny_holding ?_
  first | refine wpAny_bind (wpAny_pure ?_) | skip
  refine wpAny_bind (wpAny_sequenceKey ht.typeIs (by decide) ?_)
  refine wpAny_bind (wpAny_callSpecial?_slot (name := Str.ofString "__getitem__") ht.typeIs PyProof.Rows.slot_tuple_getitem
    (wpAny_call_entry PyProof.Rows.slot_tuple_getitem ht.typeIs entry_tuple_getitem ?_ (args_tuple_getitem _ _)))
  show wpAny _ _ (Builtin.Tuple.tupleItemsOf (.ref t) >>= _) _ _ s
  refine wpAny_bind (tupleItemsOf_ ht ?_)
  refine wpAny_bind (wpAny_typeOf hTs ?_)
  rw [if_pos (by decide)]
  refine wpAny_bind (sliceApplied_gen hs pl pu ?_)
  have hno : ¬ ((((sIx items.size 0 lo : Nat) : Int) == 0 && (1 : Int) == 1 && (sIx items.size items.size hi - sIx items.size 0 lo) == items.size) = true) := by
    intro q
    rw [Bool.and_eq_true, Bool.and_eq_true] at q
    have q1 : ((sIx items.size 0 lo : Nat) : Int) = 0 := eq_of_beq q.1.1
    have q2 : sIx items.size items.size hi - sIx items.size 0 lo = items.size := eq_of_beq q.2
    exact hw ⟨by omega, by omega⟩
  show wpAny _ _ (if (((sIx items.size 0 lo : Nat) : Int) == 0 && (1 : Int) == 1 && (sIx items.size items.size hi - sIx items.size 0 lo) == items.size) = true then _ else _) _ _ s
  rw [if_neg hno, pick_gen]
  first
    | exact wpAny_bind (m := Builtin.Tuple.tupleExact _) (wpAny_newObj_type (wpAny_pure ⟨_, rfl, wpAny_pure h⟩) htake)
    | exact wpAny_bind (m := Builtin.Tuple.tupleExact _) (wpAny_newObj_type (wpAny_bind (wpAny_pure (wpAny_pure ⟨_, rfl, wpAny_pure h⟩))) htake)
    | exact wpAny_bind (wpAny_bind (m := Builtin.Tuple.tupleExact _) (wpAny_newObj_type (wpAny_pure (wpAny_pure ⟨_, rfl, wpAny_pure h⟩)) htake))
    | exact wpAny_bind (wpAny_bind (m := Builtin.Tuple.tupleExact _) (wpAny_newObj_type (wpAny_pure ⟨_, rfl, wpAny_pure h⟩) htake))
end
end HT

namespace L2
open PySem PySem.Spec PyProof.Rows

/-! ### the parts of a slice -/
abbrev TO := St → Hp → (Option Int → Hp → Prop) → Prop
/-- a slice's part (left out, or an int) -/
def PO (X : Cx) (e : Option Expr) (t : TO) : Prop :=
  ∀ (pins : List (Addr × Obj)) (s : Shared) (σ : St) (H : Hp) (Q : Option Int → Hp → Prop), Inv X pins σ H s → t σ H Q →
    wpAny (model X.prog X.w) X.A (evalPart e X.env) (fun u s' => ∃ o H', Inv X pins σ H' s' ∧ IsPart u o ∧ Q o H') X.xe s
def tNoPart : TO := fun _ H Q => Q none H
def tPart (t : TE) : TO := fun σ H Q => t σ H fun x H1 => ∃ i, x = .int i ∧ Q (some i) H1

theorem intsAre_of {ns : List Int} : ∀ {us : List Value}, Vals (ns.map V.int) us → IntsAre us ns := by
  induction ns with
  | nil => intro us r; rw [List.map_nil] at r; cases r; exact .nil
  | cons n ns ih =>
    intro us r
    rw [List.map_cons] at r
    cases r with
    | cons r1 r2 =>
      obtain ⟨t, e⟩ := r1
      subst e
      exact .cons n t (ih r2)

section
variable {X : Cx} {e : Expr} {te : TE} {lo hi : Option Expr} {tl th : TO} {pos p2 : Pos}

theorem po_none : PO X none tNoPart := by
  intro pins s σ H Q I h
  rw [evalPart_none]
  exact wpAny_pure ⟨none, H, I, .none, h⟩
theorem po_some (h : PE X e te) : PO X (some e) (tPart te) := by
  intro pins s σ H Q I hw
  rw [evalPart_some]
  refine thn (h pins s σ H _ I hw) fun u s1 hq0 => ?_
  obtain ⟨x, H1, I1, r1, q1⟩ := hq0
  obtain ⟨i, rfl, q⟩ := q1
  obtain ⟨t, rfl⟩ := r1
  exact ⟨some i, H1, I1, .int i t, q⟩

/-- what a slice of a value is, by values: the slice object stands at sl -/
def SlR (X : Cx) (r : V → Option Int → Option Int → Hp → VK → Prop) : Prop :=
  ∀ (pins : List (Addr × Obj)) (s : Shared) (σ : St) (H : Hp) (x : V) (v vl vu : Value) (lo hi : Option Int) (sl : Addr) (Q : VK), Inv X pins σ H s → RelV x v → s.heap.IsSliceOf sl vl vu .none → IsPart vl lo → IsPart vu hi → r x lo hi H Q →
    ∃ T id, typeLookup (.type T) "__getitem__" = pure (some (.builtin id)) ∧ s.TypeIs v T ∧ wpAny (model X.prog X.w) X.A (getItem v (.ref sl)) (EP X pins σ Q) X.xe s
def tSl (r : V → Option Int → Option Int → Hp → VK → Prop) (te : TE) (tl th : TO) : TE := fun σ H Q => te σ H fun x H1 => tl σ H1 fun l H2 => th σ H2 fun u H3 => r x l u H3 Q
/-- a[lo:hi], any a -/
theorem pe_slice {r : V → Option Int → Option Int → Hp → VK → Prop} (hr : SlR X r) (he : PE X e te) (hl : PO X lo tl) (hu : PO X hi th) : PE X (.Subscript e (.Slice lo hi none p2) pos) (tSl r te tl th) := by
  intro pins s σ H Q I h
  refine Subscript_ (thn (he pins s σ H _ I h) fun v s1 hq0 => ?_)
  obtain ⟨x, H1, I1, r1, q1⟩ := hq0
  refine wpAny_Slice (thn (hl pins s1 σ H1 _ I1 q1) fun vl s2 ⟨l, H2, I2, pl, q2⟩ => thn (hu pins s2 σ H2 _ I2 q2) fun vu s3 hq0 => ?_)
  obtain ⟨u, H3, I3, pu, q3⟩ := hq0
  rw [evalPart_none]
  refine wpAny_pure ?_
  have I4 : Inv X pins σ H3 { s3 with heap := s3.heap.push { cls := .type "slice", data := .fields #[vl, vu, .none] } } := I3.kept (t' := s3.toks) fun b ob q => Heap.get?_push_of_some _ q
  obtain ⟨T, id, hT, ht, hg⟩ := hr pins { s3 with heap := s3.heap.push { cls := .type "slice", data := .fields #[vl, vu, .none] } } σ H3 x v vl vu l u s3.heap.objs.size Q I4 r1 (Heap.IsSliceOf.new ..) pl pu q3
  show wpAny (model X.prog X.w) X.A (subscriptTail e (.Slice lo hi none p2) v (.ref s3.heap.objs.size)) (EP X pins σ Q) X.xe { s3 with heap := s3.heap.push { cls := .type "slice", data := .fields #[vl, vu, .none] } }
  exact tail_any (ops := [.ref s3.heap.objs.size, v]) ht hT hg (by with_unfolding_all rfl)

/-- the items of xs[lo:hi] -/
def cutV (xs : List V) (lo hi : Option Int) : List V := (xs.drop (HT.sIx xs.length 0 lo)).take (HT.sIx xs.length xs.length hi - HT.sIx xs.length 0 lo)
theorem cutV_length (xs : List V) (lo hi : Option Int) : (cutV xs lo hi).length ≤ xs.length := by
  unfold cutV
  rw [List.length_take, List.length_drop]
  omega
/-- t[lo:hi], not the whole of it (the whole would be t itself) -/
def rSlT (K : PySem.W.Frag) : V → Option Int → Option Int → Hp → VK → Prop := fun x lo hi H Q => ∃ a xs, x = .ref a ∧ SqT K H a xs ∧
  ¬ (HT.sIx xs.length 0 lo = 0 ∧ HT.sIx xs.length xs.length hi = xs.length) ∧ ∀ p, H p = none → Q (.ref p) (upd H p (.tup (cutV xs lo hi)))
theorem sl_tup : SlR X (rSlT X.K) := by
  intro pins s σ H x v vl vu lo hi sl Q I rx hs pl pu h
  obtain ⟨a, xs, rfl, hx, hw, q⟩ := h
  cases rx
  obtain ⟨its, r, ht, hz⟩ := I.tuple hx
  have hlen : its.toArray.size = xs.length := by rw [List.size_toArray]; exact r.length.symm
  refine ⟨"tuple", _, PyProof.Rows.slot_tuple_getitem.lookup, ht.typeIs, ?_⟩
  refine HT.getItem_tuple_cut ht hs pl pu (by rw [hlen]; exact hw) ?_ (by rw [hlen]; exact hz)
  rw [hlen]
  refine ⟨.ref s.heap.objs.size, _, I.laid (t' := s.toks) (o := .tup (cutV xs lo hi)) (fun b ob q => Heap.get?_push_of_some _ q) (Nat.le_refl _) ?_, rfl, q _ (I.hok.fresh (Nat.le_refl _))⟩
  exact ⟨Nat.le_trans (cutV_length xs lo hi) hz, _, (r.drop (HT.sIx xs.length 0 lo)).take (HT.sIx xs.length xs.length hi - HT.sIx xs.length 0 lo), IsTup.new _ _⟩

/-! ### t < u, t + u -/
/-- t + u, t not empty: u empty gives t itself -/
def rCatT (K : PySem.W.Frag) : R2 := fun x y H Q => ∃ a b xs ys, x = .ref a ∧ y = .ref b ∧ SqT K H a xs ∧ SqT K H b ys ∧ xs ≠ [] ∧ xs.length + ys.length ≤ sizeLine ∧
  (ys = [] → Q (.ref a) H) ∧ (ys ≠ [] → ∀ p, H p = none → Q (.ref p) (upd H p (.tup (xs ++ ys))))
theorem Vals.nil_iff {xs : List V} {us : List Value} (r : Vals xs us) : us = [] ↔ xs = [] := by
  cases r with
  | nil => simp
  | cons _ _ => simp
theorem op_catT : OpR X (binaryOp .Add) (rCatT X.K) := by
  intro pins s σ H x y v u Q I rx ry h
  obtain ⟨a, b, xs, ys, rfl, rfl, ha, hb, hx, hz, q1, q2⟩ := h
  cases rx
  cases ry
  obtain ⟨its, r1, p1, _⟩ := I.tuple ha
  obtain ⟨its2, r2, p2, _⟩ := I.tuple hb
  refine HT.cat_tup p1 p2 (fun z => hx (r1.nil_iff.mp z)) (fun z => ⟨.ref a, H, I, rfl, q1 (r2.nil_iff.mp z)⟩) (fun z => ?_) (by rw [← r1.length, ← r2.length]; exact hz)
  refine ⟨.ref s.heap.objs.size, _, I.laid (t' := s.toks) (o := .tup (xs ++ ys)) (fun b ob q => Heap.get?_push_of_some _ q) (Nat.le_refl _) ?_, rfl, q2 (fun w => z (r2.nil_iff.mpr w)) _ (I.hok.fresh (Nat.le_refl _))⟩
  exact ⟨by rw [List.length_append]; exact hz, _, r1.append r2, IsTup.new _ _⟩
end
end L2

namespace L2
open PySem PySem.Spec PyProof.Rows

/-! ### places -/
/-- the place that an index of any sign means -/
def ixN (n : Nat) (i : Int) : Option Nat := if 0 ≤ i then (if i < n then some i.toNat else none) else if -(n : Int) ≤ i then some (i + n).toNat else none
def atI {α : Type} (xs : List α) (i : Int) : Option α := (ixN xs.length i).bind fun j => xs[j]?
theorem ixN_seq {n : Nat} {i : Int} {j : Nat} (h : ixN n i = some j) : seqIndex? i n = some j ∧ j < n ∧ -(n : Int) ≤ i ∧ i < n := by
  unfold ixN at h
  by_cases h0 : 0 ≤ i
  · rw [if_pos h0] at h
    by_cases h1 : i < n
    · rw [if_pos h1] at h
      have e : i.toNat = j := Option.some.inj h
      exact ⟨by rw [seqIndex_of h0 h1, e], by omega, by omega, h1⟩
    · rw [if_neg h1] at h; cases h
  · rw [if_neg h0] at h
    by_cases h1 : -(n : Int) ≤ i
    · rw [if_pos h1] at h
      have e : (i + n).toNat = j := Option.some.inj h
      exact ⟨by rw [seqIndex_neg (by omega) h1, e], by omega, h1, by omega⟩
    · rw [if_neg h1] at h; cases h
theorem atI_get {α : Type} {xs : List α} {i : Int} {v : α} (h : atI xs i = some v) : ∃ j, seqIndex? i xs.length = some j ∧ xs[j]? = some v ∧ j < xs.length ∧ -(xs.length : Int) ≤ i ∧ i < xs.length := by
  unfold atI at h
  cases e : ixN xs.length i with
  | none => rw [e] at h; cases h
  | some j =>
    rw [e] at h
    obtain ⟨h1, h2, h3, h4⟩ := ixN_seq e
    exact ⟨j, h1, h, h2, h3, h4⟩
theorem atI_nat {α : Type} {xs : List α} {j : Nat} {v : α} (h : xs[j]? = some v) : atI xs (j : Int) = some v := by
  have hj : j < xs.length := (List.getElem?_eq_some_iff.mp h).1
  have e : ixN xs.length (j : Int) = some j := by
    unfold ixN
    rw [if_pos (by omega), if_pos (by omega)]; simp
  unfold atI; rw [e]; exact h
theorem atI_last {α : Type} (xs : List α) (v : α) : atI (xs ++ [v]) (-1) = some v := by
  have hl : (xs ++ [v]).length = xs.length + 1 := by simp
  have e : ixN (xs ++ [v]).length (-1) = some xs.length := by
    unfold ixN
    rw [hl, if_neg (by decide), if_pos (by omega)]
    congr 1
    omega
  unfold atI
  rw [e]
  show (xs ++ [v])[xs.length]? = some v
  simp

/-! ### what may be subscripted -/
/-- what stands as an index of a plain subscript -/
def PlainIx (b : Expr) : Prop := ∀ o i, subscripted b false o i = operate [o, i] (getItem o i)
/-- a subscript by values -/
def IxR (X : Cx) (r : R2) : Prop :=
  ∀ (value slice : Expr) (pins : List (Addr × Obj)) (s : Shared) (σ : St) (H : Hp) (x y : V) (v u : Value) (Q : VK), Inv X pins σ H s → RelV x v → RelV y u → r x y H Q →
    subscripted slice false v u = operate [v, u] (getItem v u) → wpAny (model X.prog X.w) X.A (subscriptTail value slice v u) (EP X pins σ Q) X.xe s
/-- a call of a builtin's method by values: the receiver, the arguments -/
def MtR (X : Cx) (id : String) (r : V → List V → Hp → VK → Prop) : Prop :=
  ∀ (pins : List (Addr × Obj)) (s : Shared) (σ : St) (H : Hp) (x : V) (xs : List V) (v : Value) (us : List Value) (Q : VK), Inv X pins σ H s → RelV x v → Vals xs us → r x xs H Q →
    wpAny (model X.prog X.w) X.A (call (.builtin id) (v :: us)) (EP X pins σ Q) X.xe s
section
variable {X : Cx} {a b : Expr} {ta tb : TE} {pos : Pos}
theorem IxR.or {r r' : R2} (h : IxR X r) (h' : IxR X r') : IxR X (fun x y H Q => r x y H Q ∨ r' x y H Q) := by
  intro value slice pins s σ H x y v u Q I rx ry q hs
  rcases q with q | q
  · exact h value slice pins s σ H x y v u Q I rx ry q hs
  · exact h' value slice pins s σ H x y v u Q I rx ry q hs
/-- a[b] -/
theorem pe_ix {r : R2} (hr : IxR X r) (ha : PE X a ta) (hb : PE X b tb) (hs : PlainIx b) : PE X (.Subscript a b pos) (tOp r ta tb) := by
  intro pins s σ H Q I h
  exact Subscript_ (binT ha hb I h fun v u s2 x y H2 I2 rx ry q => hr a b pins s2 σ H2 x y v u Q I2 rx ry q (hs _ _))

def rIxL (K : PySem.W.Frag) : R2 := fun x y H Q => ∃ p xs i v, x = .ref p ∧ y = .int i ∧ SqL K H p xs ∧ atI xs i = some v ∧ Q v H
def rIxT (K : PySem.W.Frag) : R2 := fun x y H Q => ∃ p xs i v, x = .ref p ∧ y = .int i ∧ SqT K H p xs ∧ atI xs i = some v ∧ Q v H
def rIxS : R2 := fun x y H Q => ∃ z i c, x = .str z ∧ y = .int i ∧ z.length ≤ sizeLine ∧ atI z.cps.toList i = some c ∧ Q (.str ⟨#[c]⟩) H
theorem ix_list : IxR X (rIxL X.K) := by
  intro value slice pins s σ H x y v u Q I rx ry h hs
  obtain ⟨p, xs, i, z, rfl, rfl, hq, he, q⟩ := h
  cases rx
  obtain ⟨t, rfl⟩ := ry
  obtain ⟨its, r, pl, hz⟩ := I.list hq
  obtain ⟨j, h1, h2, h3, h4, h5⟩ := atI_get he
  obtain ⟨w, ew, rw'⟩ := r.get h2
  have hl := r.length
  have hn := line63
  have fin : EP X pins σ Q w s := ⟨z, H, I, rw', q⟩
  by_cases h0 : 0 ≤ i
  · have hj : i.toNat = j := by
      rw [seqIndex_of h0 h5] at h1
      exact Option.some.inj h1
    exact item_listR pl.isList h0 (by omega) (by rw [hj]; simpa using ew) fin hs
  · have hj : (i + (its.toArray.size : Int)).toNat = j := by
      rw [seqIndex_neg (by omega) h4] at h1
      rw [List.size_toArray, ← hl]
      exact Option.some.inj h1
    exact subscriptTail_builtinR (x := w) pl.isList.typeIs slot_list_getitem.lookup
      (wpAny_getItem_list_neg (Q := fun r s' => r = w ∧ EP X pins σ Q r s') pl.isList (by omega) (by rw [List.size_toArray] <;> omega) (by omega) (by rw [hj]; simpa using ew) ⟨rfl, fin⟩) hs
theorem ix_tup : IxR X (rIxT X.K) := by
  intro value slice pins s σ H x y v u Q I rx ry h hs
  obtain ⟨p, xs, i, z, rfl, rfl, hq, he, q⟩ := h
  cases rx
  obtain ⟨t, rfl⟩ := ry
  obtain ⟨its, r, pl, hz⟩ := I.tuple hq
  obtain ⟨j, h1, h2, h3, h4, h5⟩ := atI_get he
  obtain ⟨w, ew, rw'⟩ := r.get h2
  have hl := r.length
  have hn := line63
  have fin : EP X pins σ Q w s := ⟨z, H, I, rw', q⟩
  exact subscriptTail_builtinR (x := w) pl.typeIs slot_tuple_getitem.lookup
    (getItem_tuple (j := j) (Q := fun r s' => r = w ∧ EP X pins σ Q r s') pl (by omega) (by omega) (by rw [List.size_toArray, ← hl]; exact h1) (by simpa using ew) ⟨rfl, fin⟩) hs
theorem ix_str : IxR X rIxS := by
  intro value slice pins s σ H x y v u Q I rx ry h hs
  obtain ⟨z, i, c, rfl, rfl, hz, he, q⟩ := h
  obtain ⟨t, rfl⟩ := rx
  obtain ⟨t', rfl⟩ := ry
  obtain ⟨j, h1, h2, h3, h4, h5⟩ := atI_get he
  have hl : z.cps.toList.length = z.length := by simp [Str.length]
  rw [hl] at h1 h4 h5
  have hn := line63
  exact tail_any (typeIs_str s z t) slot_str_getitem.lookup (getItem_str (c := c) (by
    have e1 : decide (i < -(2 ^ 63 : Int)) = false := decide_eq_false (by omega)
    have e2 : decide (i ≥ 2 ^ 63) = false := decide_eq_false (by omega)
    rw [e1, e2, Bool.or_false]) (by rw [h1]; simpa using h2) ⟨.str ⟨#[c]⟩, H, I.tok _, ⟨_, rfl⟩, q⟩) hs
/-- list, tuple or str -/
def rIx (K : PySem.W.Frag) : R2 := fun x y H Q => rIxL K x y H Q ∨ rIxT K x y H Q ∨ rIxS x y H Q
theorem ix_seq : IxR X (rIx X.K) := ix_list.or (ix_tup.or ix_str)

/-! ### xs[i] = v, any sign -/

/-! ### slices -/
theorem slice_bounds (lo hi : Option Int) (n : Nat) : (sliceBounds lo hi none n).1 = ((HT.sIx n 0 lo : Nat) : Int) ∧ (sliceBounds lo hi none n).2.1 = ((HT.sIx n n hi : Nat) : Int) ∧ (sliceBounds lo hi none n).2.2 = 1 := by
  refine ⟨?_, ?_, rfl⟩
  · cases lo with
    | none => simp [sliceBounds, HT.sIx]
    | some i =>
      simp only [sliceBounds, HT.sIx, Option.getD_none, show (1 : Int) > 0 by decide, if_true]
      by_cases h : i < 0
      · simp only [h, if_true] <;> omega
      · simp only [h, if_false] <;> omega
  · cases hi with
    | none => simp [sliceBounds, HT.sIx]
    | some i =>
      simp only [sliceBounds, HT.sIx, Option.getD_none, show (1 : Int) > 0 by decide, if_true]
      by_cases h : i < 0
      · simp only [h, if_true] <;> omega
      · simp only [h, if_false] <;> omega
theorem slicePick_cut (its : List Value) (lo hi : Option Int) : slicePick its.toArray lo hi none = ((its.drop (HT.sIx its.length 0 lo)).take (HT.sIx its.length its.length hi - HT.sIx its.length 0 lo)).toArray := by
  obtain ⟨h1, h2, h3⟩ := slice_bounds lo hi its.toArray.size
  unfold slicePick
  rw [h1, h2, h3]
  simp only [sliceRange_one, pick_run, List.size_toArray] <;> rfl
/-- xs[lo:hi] of a list: a new list -/
def rSlL (K : PySem.W.Frag) : V → Option Int → Option Int → Hp → VK → Prop := fun x lo hi H Q => ∃ a xs, x = .ref a ∧ SqL K H a xs ∧ ∀ p, H p = none → Q (.ref p) (upd H p (.lst (cutV xs lo hi)))
theorem sl_list : SlR X (rSlL X.K) := by
  intro pins s σ H x v vl vu lo hi sl Q I rx hs pl pu h
  obtain ⟨a, xs, rfl, hx, q⟩ := h
  cases rx
  obtain ⟨its, r, ht, hz⟩ := I.list hx
  have hlen := r.length
  refine ⟨"list", _, slot_list_getitem.lookup, ht.isList.typeIs, ?_⟩
  refine wpAny_getItem_list_slice ht.isList hs pl pu .none (by simp) ?_ (by rw [List.size_toArray] <;> omega)
  rw [slicePick_cut, ← hlen]
  refine ⟨.ref s.heap.objs.size, _, I.laid (t' := s.toks) (o := .lst (cutV xs lo hi)) (fun b ob q => Heap.get?_push_of_some _ q) (Nat.le_refl _) ?_, rfl, q _ (I.hok.fresh (Nat.le_refl _))⟩
  exact ⟨Nat.le_trans (cutV_length xs lo hi) hz, _, 0, (r.drop (HT.sIx xs.length 0 lo)).take (HT.sIx xs.length xs.length hi - HT.sIx xs.length 0 lo), Heap.get?_push_size _ rfl⟩

/-! ### in, not in: flat items -/
def flatV : V → Bool
  | .non => true
  | .bl _ => true
  | .int _ => true
  | .str _ => true
  | _ => false
/-- == of flat values -/
def eqV : V → V → Bool
  | .non, .non => true
  | .bl a, .bl b => a == b
  | .bl a, .int b => (if a then 1 else 0) == b
  | .int a, .bl b => a == (if b then 1 else 0)
  | .int a, .int b => a == b
  | .str a, .str b => a == b
  | _, _ => false
theorem eqAt_V {A : Around} {s : Shared} {y x : V} {u v : Value} (ry : RelV y u) (rx : RelV x v) (fy : flatV y = true) (fx : flatV x = true) : SeqAt.EqAt A s u v (eqV y x) := by
  cases y with
  | non =>
    cases ry
    cases x with
    | non => cases rx; exact SeqAt.EqAt.same _
    | bl b => cases rx; exact SeqAt.EqAt.none_bool b
    | int b => obtain ⟨t, rfl⟩ := rx; exact SeqAt.EqAt.none_int b t
    | str b => obtain ⟨t, rfl⟩ := rx; exact SeqAt.EqAt.none_str b t
    | _ => exact absurd (show false = true from fx) Bool.false_ne_true
  | bl a =>
    cases ry
    cases x with
    | non => cases rx; exact SeqAt.EqAt.bool_none a
    | bl b => cases rx; exact SeqAt.EqAt.bool_bool a b
    | int b => obtain ⟨t, rfl⟩ := rx; exact SeqAt.EqAt.bool_int a b t
    | str b => obtain ⟨t, rfl⟩ := rx; exact SeqAt.EqAt.bool_str a b t
    | _ => exact absurd (show false = true from fx) Bool.false_ne_true
  | int a =>
    obtain ⟨t', rfl⟩ := ry
    cases x with
    | non => cases rx; exact SeqAt.EqAt.int_none a t'
    | bl b => cases rx; exact SeqAt.EqAt.int_bool a t' b
    | int b => obtain ⟨t, rfl⟩ := rx; exact SeqAt.EqAt.int_int a t' b t
    | str b => obtain ⟨t, rfl⟩ := rx; exact SeqAt.EqAt.int_str a t' b t
    | _ => exact absurd (show false = true from fx) Bool.false_ne_true
  | str a =>
    obtain ⟨t', rfl⟩ := ry
    cases x with
    | non => cases rx; exact SeqAt.EqAt.str_none a t'
    | bl b => cases rx; exact SeqAt.EqAt.str_bool a t' b
    | int b => obtain ⟨t, rfl⟩ := rx; exact SeqAt.EqAt.str_int a t' b t
    | str b => obtain ⟨t, rfl⟩ := rx; exact SeqAt.EqAt.str_str a t' b t
    | _ => exact absurd (show false = true from fx) Bool.false_ne_true
  | _ => exact absurd (show false = true from fy) Bool.false_ne_true

/-! ### len, list(x), tuple(x) of any list or tuple that is read -/
theorem call_len_seq : CallR X (.builtin "len") (fun xs H Q => ∃ p ys, xs = [.ref p] ∧ (SqL X.K H p ys ∨ SqT X.K H p ys) ∧ Q (.int ys.length) H) := by
  intro pins s σ H xs us Q I r h
  obtain ⟨p, ys, rfl, hq, q⟩ := h
  obtain ⟨u, rfl, rx⟩ := vals1 r
  cases rx
  have hn := line63
  rcases hq with hq | hq
  · obtain ⟨its, r', pl, hz⟩ := I.list hq
    have hlen := r'.length
    exact Calls.call_len_list pl.isList (by simp only [List.size_toArray] <;> omega) ⟨.int ys.length, H, I.tok _, ⟨s.toks + 1, by rw [List.size_toArray, hlen]⟩, q⟩
  · obtain ⟨its, r', pl, hz⟩ := I.tuple hq
    have hlen := r'.length
    exact len_tuple pl (by simp only [List.size_toArray] <;> omega) ⟨.int ys.length, H, I.tok _, ⟨s.toks + 1, by rw [List.size_toArray, hlen]⟩, q⟩
theorem call_len_str : CallR X (.builtin "len") (fun xs H Q => ∃ z, xs = [.str z] ∧ z.length ≤ sizeLine ∧ Q (.int z.length) H) := by
  intro pins s σ H xs us Q I r h
  obtain ⟨z, rfl, hz, q⟩ := h
  obtain ⟨u, rfl, t, rfl⟩ := vals1 r
  have hn := line63
  exact len_str (by omega) ⟨.int z.length, H, I.tok _, ⟨_, rfl⟩, q⟩
theorem call_tuple_of : CallR X (.type "tuple") (fun xs H Q => ∃ p ys, xs = [.ref p] ∧ ((SqL X.K H p ys ∧ ∀ l, H l = none → Q (.ref l) (upd H l (.tup ys))) ∨ (SqT X.K H p ys ∧ Q (.ref p) H))) := by
  intro pins s σ H xs us Q I r h
  obtain ⟨p, ys, rfl, h⟩ := h
  obtain ⟨u, rfl, rx⟩ := vals1 r
  cases rx
  rcases h with ⟨hq, q⟩ | ⟨hq, q⟩
  · obtain ⟨its, r', pl, hz⟩ := I.list hq
    have hlen := r'.length
    refine call_tuple_list pl.isList (fun h' kp => ?_) (by simp only [List.size_toArray] <;> omega)
    have I1 : Inv X pins σ H { s with heap := h' } := I.kept (t' := s.toks) kp
    have I2 : Inv X pins σ (upd H h'.objs.size (.tup ys)) { s with heap := h'.push { cls := .type "tuple", data := .seq its.toArray } } :=
      I1.laid (t' := s.toks) (fun b o e => Heap.get?_push_of_some _ e) (Nat.le_refl _) (show ObjOk X.prog X.w _ _ _ (.tup ys) from ⟨hz, its, r', IsTup.new _ _⟩)
    exact ⟨.ref h'.objs.size, _, I2, rfl, q _ (I1.hok.fresh (Nat.le_refl _))⟩
  · obtain ⟨its, r', pl, hz⟩ := I.tuple hq
    exact call_tuple_same pl ⟨.ref p, H, I, rfl, q⟩

/-! ### the call of a builtin's method: o.m(..) -/
/-- the value is of that builtin type -/
def tyV (K : PySem.W.Frag) (T : String) (x : V) (H : Hp) : Prop := match x with
  | .str _ => T = "str"
  | .int _ => T = "int"
  | .ref p => (T = "list" ∧ ∃ xs, SqL K H p xs) ∨ (T = "tuple" ∧ ∃ o, K.lookup p = some o ∧ o.cls = .type "tuple" ∧ o.dict = none) ∨
      (T = "dict" ∧ ((∃ kvs, H p = some (.dK kvs)) ∨ ∃ kvs, H p = some (.dT kvs))) ∨ (T = "set" ∧ ∃ S n, H p = some (.set S n))
  | _ => False
theorem tyV_is {pins : List (Addr × Obj)} {σ : St} {H : Hp} {s : Shared} {T : String} {x : V} {v : Value} (I : Inv X pins σ H s) (r : RelV x v) (ty : tyV X.K T x H) :
    s.TypeIs v T ∧ ∀ a, v = .ref a → ∃ ob, s.heap.get? a = some ob ∧ ob.dict = none := by
  cases x with
  | str z =>
    obtain ⟨t, rfl⟩ := r
    cases (show T = "str" from ty)
    exact ⟨typeIs_str s z t, fun _ e => nomatch e⟩
  | int i =>
    obtain ⟨t, rfl⟩ := r
    cases (show T = "int" from ty)
    exact ⟨typeIs_int s i t, fun _ e => nomatch e⟩
  | ref p =>
    cases r
    rcases ty with ⟨rfl, xs, hq⟩ | ⟨rfl, o, hk, hc, hd⟩ | ⟨rfl, hk⟩ | ⟨rfl, S, n, hk⟩
    · obtain ⟨its, _, pl, _⟩ := I.list hq
      refine ⟨pl.isList.typeIs, fun a e => ?_⟩
      cases e
      obtain ⟨o, n, e, c, hd, _⟩ := pl
      exact ⟨o, e, hd⟩
    · refine ⟨⟨o, I.kIn p o hk, hc⟩, fun a e => ?_⟩
      cases e
      exact ⟨o, I.kIn _ o hk, hd⟩
    · have z : ∃ o, s.heap.get? p = some o ∧ o.ExactDict := by
        rcases hk with ⟨kvs, hk⟩ | ⟨kvs, hk⟩
        · obtain ⟨_, _, _, _, o, _, _, e, ex, _⟩ := I.hok p _ hk
          exact ⟨o, e, ex⟩
        · obtain ⟨_, _, _, _, o, _, _, e, ex, _⟩ := I.hok p _ hk
          exact ⟨o, e, ex⟩
      obtain ⟨o, e, ex⟩ := z
      refine ⟨⟨o, e, ex.1⟩, fun a e2 => ?_⟩
      cases e2
      exact ⟨o, e, ex.2.1⟩
    · obtain ⟨o, _, _, _, e, ex, _⟩ := I.hok p _ hk
      refine ⟨⟨o, e, ex.1⟩, fun a e2 => ?_⟩
      cases e2
      exact ⟨o, e, ex.2.1⟩
  | _ => exact False.elim ty
def tBM0 (K : PySem.W.Frag) (T : String) (r : V → List V → Hp → VK → Prop) (to : TE) : TE := fun σ H Q => to σ H fun x H1 => tyV K T x H1 ∧ r x [] H1 Q
def tBM (K : PySem.W.Frag) (T : String) (r : V → List V → Hp → VK → Prop) (to : TE) (t : TA) : TE := fun σ H Q => to σ H fun x H1 => tyV K T x H1 ∧ t σ H1 fun xs H2 => r x xs H2 Q
variable {o e : Expr} {es : List Expr} {to : TE} {t : TA} {name : Str} {apos cpos : Pos} {T id : String} {r : V → List V → Hp → VK → Prop}
theorem pe_bm0 (pa : PlainAttrs T) (slot : Slot T name id) (hty : typeOf (.builtin id) = pure (.type "method_descriptor")) (hm : MtR X id r) (ho : PE X o to)
    (hbase : attributeBase o name X.env (eval o X.env) = eval o X.env := by rfl) (hline : (apos.endLine == cpos.line) = true := by rfl) : PE X (.Call (.Attribute o name apos) [] [] cpos) (tBM0 X.K T r to) := by
  intro pins s σ H Q I h
  refine wpAny_Call_method0_late hbase hline (thn (ho pins s σ H _ I h) fun v s1 hq0 => ?_)
  obtain ⟨x, H1, I1, r1, ty, q1⟩ := hq0
  obtain ⟨h1, h2⟩ := tyV_is I1 r1 ty
  exact ⟨T, id, pa, slot, hty, h1, h2, Calls.callWith_builtin rfl (PySem.evalArgs_none (hm pins s1 σ H1 x [] v [] Q I1 r1 .nil q1))⟩
theorem pe_bm (pa : PlainAttrs T) (slot : Slot T name id) (hty : typeOf (.builtin id) = pure (.type "method_descriptor")) (hm : MtR X id r) (ho : PE X o to) (ha : PA X (e :: es) t)
    (hbase : attributeBase o name X.env (eval o X.env) = eval o X.env := by rfl)
    (hfew : ((backTo cpos (starEach (e :: es) X.env)).all (fun x => !x.1) && (backToKw cpos (keywordEach [] X.env)).all (fun x => x.1.isSome)
      && decide ((e :: es).length + ([] : List Keyword).length + (if ([] : List Keyword).isEmpty then 0 else 1) < 30)) = true := by rfl)
    (hline : (apos.endLine == cpos.line) = true := by rfl) (hs : starEach (e :: es) X.env = (false, eval e X.env) :: starEach es X.env := by rfl) (hplain : (backTo cpos (starEach es X.env)).any (·.1) = false := by rfl) :
    PE X (.Call (.Attribute o name apos) (e :: es) [] cpos) (tBM X.K T r to t) := by
  intro pins s σ H Q I h
  refine wpAny_Call_method_late hbase hfew hline rfl (thn (ho pins s σ H _ I h) fun v s1 hq0 => ?_)
  obtain ⟨x, H1, I1, r1, ty, q1⟩ := hq0
  obtain ⟨h1, h2⟩ := tyV_is I1 r1 ty
  refine ⟨T, id, pa, slot, hty, h1, h2, ?_⟩
  have hA := ha cpos pins s1 σ H1 _ I1 q1
  rw [hs] at hA ⊢
  refine Calls.callWith_builtin (by show (false || (backTo cpos (starEach es X.env)).any (·.1)) = false; rw [hplain] <;> rfl) (Calls.evalArgs_plain ?_)
  exact thn hA fun us s2 ⟨vs, H2, I2, r2, q2⟩ => hm pins s2 σ H2 x vs v us Q I2 r1 r2 q2
/- xs.append(e), list.index on a module's tuple .. are MtR facts of 06m -/
end
end L2

namespace L2
open PySem PySem.Spec PyProof.Rows

def MtM (X : Cx) (id : String) (r : V → List V → Hp → VK → Prop) : Prop :=
  ∀ (pins : List (Addr × Obj)) (s : Shared) (σ : St) (H : Hp) (x : V) (xs : List V) (v : Value) (us : List Value) (Q : VK), Inv X pins σ H s → RelV x v → Vals xs us → r x xs H Q →
    wpAny (model X.prog X.w) X.A (call (.builtin id) (v :: us)) (EP X pins σ Q) X.xe s

/-! ### lists of values -/
theorem Vals.one : ∀ {x : V} {us : List Value}, Vals [x] us → ∃ u, us = [u] ∧ RelV x u
  | _, _, .cons r .nil => ⟨_, rfl, r⟩

section
variable {X : Cx} {pins : List (Addr × Obj)} {σ : St} {H : Hp} {s : Shared} {l b : Addr} {xs ys zs : List V}

/-! ### the two steps: a tracked list is rewritten, a new list is laid -/
theorem Inv.lset {its its' : List Value} {n : Nat} {f : Array Value → Array Value} {t' : Nat} (I : Inv X pins σ H s) (hH : H l = some (.lst xs))
    (e : s.heap.get? l = some { cls := .type "list", data := .seq its.toArray n }) (hf : f its.toArray = its'.toArray) (hv : Vals ys its') (hz : ys.length ≤ sizeLine) :
    Inv X pins σ (upd H l (.lst ys)) { s with heap := s.heap.update l (Obj.mapSeq f), toks := t' } := by
  have q := PySem.IsL.update e f
  rw [hf] at q
  refine I.write (x := l) (e := l) (by rw [hH]; exact trivial) (.inl rfl) (fun b' u hb hu => (Heap.get?_update_other s.heap (Obj.mapSeq f) (Ne.symm hb)).trans hu) ⟨_, q⟩ ?_
  exact ⟨hz, its', _, hv, q⟩
theorem Inv.lnew {its : List Value} {t' : Nat} (I : Inv X pins σ H s) (hv : Vals ys its) (hz : ys.length ≤ sizeLine) :
    Inv X pins σ (upd H s.heap.objs.size (.lst ys)) { s with heap := s.heap.push { cls := .type "list", data := .seq its.toArray }, toks := t' } :=
  I.laid (fun _ _ q => Heap.get?_push_of_some _ q) (Nat.le_refl _) ⟨hz, its, 0, hv, Heap.get?_push_size _ rfl⟩
theorem Inv.fresh (I : Inv X pins σ H s) : H s.heap.objs.size = none := I.hok.fresh (Nat.le_refl _)
theorem Inv.lstM (I : Inv X pins σ H s) (hH : H l = some (.lst xs)) : xs.length ≤ sizeLine ∧ ∃ (its : List Value) (n : Nat), Vals xs its ∧ xs.length = its.length ∧ s.heap.get? l = some { cls := .type "list", data := .seq its.toArray n } := by
  obtain ⟨z, its, n, r, e⟩ := I.hok l _ hH
  exact ⟨z, its, n, r, r.length, e⟩

theorem notLongL {n : Nat} (h : n ≤ sizeLine) : Builtin.List.listTooLong n = false := by
  unfold Builtin.List.listTooLong
  exact decide_eq_false (by omega)
end

section
variable {X : Cx}

/-! ### methods -/
def rAppend : V → List V → Hp → VK → Prop := fun x vs H Q => ∃ l xs y, x = .ref l ∧ vs = [y] ∧ H l = some (.lst xs) ∧ xs.length < sizeLine ∧ Q .non (upd H l (.lst (xs ++ [y])))
theorem mt_append : MtM X "list.append" rAppend := by
  intro pins s σ H x vs v us Q I rx rv h
  obtain ⟨l, xs, y, rfl, rfl, hH, hz, q⟩ := h
  cases rx
  obtain ⟨u, rfl, ru⟩ := rv.one
  obtain ⟨z, its, n, r, hl, e⟩ := I.lstM hH
  refine call_meets F.slot_list_append ⟨_, e, rfl⟩ F.entry_list_append (F.args_list_append_2 _ _) (PySem.list_append l its.toArray n u (by rw [List.size_toArray]; omega)) ⟨e, ?_⟩
  refine ⟨.non, _, I.lset (its' := its ++ [u]) hH e (by simp) (r.append (.cons ru .nil)) ?_, rfl, q⟩
  rw [List.length_append, List.length_singleton]
  omega

def rExtend : V → List V → Hp → VK → Prop := fun x vs H Q => ∃ l b xs zs, x = .ref l ∧ vs = [.ref b] ∧ H l = some (.lst xs) ∧ H b = some (.lst zs) ∧ xs.length + zs.length ≤ sizeLine ∧ Q .non (upd H l (.lst (xs ++ zs)))
theorem mt_extend : MtM X "list.extend" rExtend := by
  intro pins s σ H x vs v us Q I rx rv h
  obtain ⟨l, b, xs, zs, rfl, rfl, hH, hB, hz, q⟩ := h
  cases rx
  obtain ⟨u, rfl, ru⟩ := rv.one
  cases ru
  obtain ⟨z, its, n, r, hl, e⟩ := I.lstM hH
  obtain ⟨z2, its2, n2, r2, hl2, e2⟩ := I.lstM hB
  have hsz : its.toArray.size + its2.toArray.size ≤ sizeLine := by rw [List.size_toArray, List.size_toArray]; omega
  have hlong : ¬ (!its.toArray.isEmpty && Builtin.List.listTooLong (its.toArray.size + its2.toArray.size)) = true := by
    rw [notLongL hsz, Bool.and_false]
    exact Bool.false_ne_true
  refine call_meets F.slot_list_extend ⟨_, e, rfl⟩ F.entry_list_extend (F.args_list_extend_2 _ _)
    (AutoSeq1.list_extend_list_list_0 l its.toArray n b its2.toArray n2 hlong (by rw [List.size_toArray]; omega) (by omega)) ⟨e, e2, ?_⟩
  refine ⟨.non, _, I.lset (its' := its ++ its2) hH e (by simp) (r.append r2) ?_, rfl, q⟩
  rw [List.length_append]
  omega





/-! ### list + list, list += list, list * int -/
def rCat : R2 := fun x y H Q => ∃ l b xs zs, x = .ref l ∧ y = .ref b ∧ H l = some (.lst xs) ∧ H b = some (.lst zs) ∧ xs.length + zs.length ≤ sizeLine ∧ ∀ p, H p = none → Q (.ref p) (upd H p (.lst (xs ++ zs)))
theorem op_cat : OpR X (binaryOp .Add) rCat := by
  intro pins s σ H x y v u Q I rx ry h
  obtain ⟨l, b, xs, zs, rfl, rfl, hH, hB, hz, q⟩ := h
  cases rx
  cases ry
  obtain ⟨z, its, n, r, hl, e⟩ := I.lstM hH
  obtain ⟨z2, its2, n2, r2, hl2, e2⟩ := I.lstM hB
  refine PySem.P.add_list e e2 ?_ (by rw [List.size_toArray, List.size_toArray]; omega)
  have ea : its.toArray ++ its2.toArray = (its ++ its2).toArray := by simp
  rw [ea]
  exact ⟨.ref _, _, I.lnew (t' := s.toks) (r.append r2) (by rw [List.length_append]; omega), rfl, q _ I.fresh⟩

/-! ### del xs[i] -/
end

/-! ### xs[a:b] = ys -/
section
variable {prog : Program} {w : World} {A : Around} {E : Value → Shared → Prop} {s : Shared}
end

section
variable {X : Cx}
end
end L2

namespace L2
open PySem PySem.Spec PyProof.Rows

/-! ### lists of pairs as tables -/
section
variable {κ : Type} [DecidableEq κ]
def valV (kvs : List (κ × V)) (k : κ) : Option V := (kvs.find? fun kv => decide (kv.1 = k)).map (·.2)
/-- in its place, or at the end -/
def putK (kvs : List (κ × V)) (k : κ) (v : V) : List (κ × V) :=
  if (kvs.any fun kv => decide (kv.1 = k)) = true then kvs.map (fun kv => if kv.1 = k then (kv.1, v) else kv) else kvs ++ [(k, v)]

theorem valV_pos {p : κ × V} {r : List (κ × V)} {k : κ} (e : p.1 = k) : valV (p :: r) k = some p.2 := by simp [valV, List.find?_cons, e]
theorem valV_neg {p : κ × V} {r : List (κ × V)} {k : κ} (e : ¬ p.1 = k) : valV (p :: r) k = valV r k := by simp [valV, List.find?_cons, e]
theorem valV_any (k : κ) : ∀ kvs : List (κ × V), (kvs.any fun kv => decide (kv.1 = k)) = (valV kvs k).isSome
  | [] => rfl
  | p :: r => by
    rw [List.any_cons]
    by_cases e : p.1 = k
    · simp only [valV_pos e, decide_eq_true e, Bool.true_or, Option.isSome_some]
    · rw [valV_neg e, decide_eq_false e, Bool.false_or]; exact valV_any k r
theorem length_putK (kvs : List (κ × V)) (k : κ) (v : V) : (putK kvs k v).length ≤ kvs.length + 1 := by
  unfold putK
  split
  · rw [List.length_map]; omega
  · rw [List.length_append, List.length_cons, List.length_nil]; omega
theorem putK_new {kvs : List (κ × V)} {k : κ} (v : V) (h : valV kvs k = none) : putK kvs k v = kvs ++ [(k, v)] := by
  unfold putK
  rw [valV_any, h]
  exact if_neg (by decide)

theorem RelO.isSome_eq {o : Option V} {u : Option Value} (r : RelO o u) : o.isSome = u.isSome := by
  cases o with
  | none => cases u with
    | none => rfl
    | some _ => exact (show False from r).elim
  | some _ => cases u with
    | none => exact (show False from r).elim
    | some _ => rfl

/-- raw tables of the same keys -/
theorem KV.val {kvs : List (κ × V)} {vs : List (κ × Value)} (r : KV kvs vs) (k : κ) : RelO (valV kvs k) (valueAt vs k) := by
  unfold KV at r
  induction r with
  | nil => exact True.intro
  | @cons p q ps qs h t ih =>
    obtain ⟨h1, h2⟩ := h
    by_cases e : p.1 = k
    · have e' : q.1 = k := h1.symm.trans e
      have b : valueAt (q :: qs) k = some q.2 := by simp [valueAt, List.find?_cons, e']
      rw [valV_pos e, b]; exact h2
    · have e' : ¬ q.1 = k := fun z => e (h1.trans z)
      have b : valueAt (q :: qs) k = valueAt qs k := by simp [valueAt, List.find?_cons, e']
      rw [valV_neg e, b]; exact ih
theorem KV.any {kvs : List (κ × V)} {vs : List (κ × Value)} (r : KV kvs vs) (k : κ) : (kvs.any fun kv => decide (kv.1 = k)) = vs.any fun kv => decide (kv.1 = k) := by
  unfold KV at r
  induction r with
  | nil => rfl
  | cons h t ih => rw [List.any_cons, List.any_cons, ih, h.1]
theorem KV.repl {kvs : List (κ × V)} {vs : List (κ × Value)} (r : KV kvs vs) (k : κ) {y : V} {u : Value} (ry : RelV y u) :
    KV (kvs.map fun kv => if kv.1 = k then (kv.1, y) else kv) (vs.map fun kv => if kv.1 = k then (kv.1, u) else kv) := by
  unfold KV at r ⊢
  induction r with
  | nil => exact .nil
  | @cons p q ps qs h t ih =>
    rw [List.map_cons, List.map_cons]
    refine .cons ?_ ih
    obtain ⟨h1, h2⟩ := h
    by_cases e : p.1 = k
    · rw [if_pos e, if_pos (h1.symm.trans e)]; exact ⟨h1, ry⟩
    · rw [if_neg e, if_neg (fun z => e (h1.trans z))]; exact ⟨h1, h2⟩
theorem KV.put {kvs : List (κ × V)} {vs : List (κ × Value)} (r : KV kvs vs) (k : κ) {y : V} {u : Value} (ry : RelV y u) : KV (putK kvs k y) (stored vs k u) := by
  unfold putK stored
  rw [r.any k]
  by_cases e : (vs.any fun kv => decide (kv.1 = k)) = true
  · rw [if_pos e, if_pos e]; exact r.repl k ry
  · rw [if_neg e, if_neg e]; exact Paired.snoc r ⟨rfl, ry⟩
theorem KV.length {kvs : List (κ × V)} {vs : List (κ × Value)} (r : KV kvs vs) : kvs.length = vs.length := Paired.length r
end


/-! ### a tracked dict, its keys ints and texts or tuples of these -/
theorem kV_is {P : Program} {w : World} {k : Key} {u : Value} (r : RelV (kV k) u) : (mixKind P w).is k u = true := by
  cases k with
  | inl i => obtain ⟨t, e⟩ := (show ∃ t, u = Value.int i t from r); subst e; exact mixKind_int P w i t
  | inr x => obtain ⟨t, e⟩ := (show ∃ t, u = Value.str x t from r); subst e; exact mixKind_str P w x t
theorem items_are {P : Program} {w : World} : ∀ {ks : List Key} {us : List Value}, Vals (ks.map kV) us → ItemsAre (mixKind P w) ks us
  | [], _, r => by rw [List.map_nil] at r; cases r; exact .nil
  | k :: ks, _, r => by
    rw [List.map_cons] at r
    cases r with
    | cons h t => exact .cons (kV_is h) (items_are t)

/-- raw entries of a dict with tuple keys -/
abbrev KT (H : Hp) : List (List Key × V) → List (List Key × Addr × Value) → Prop := Paired fun p q => p.1 = q.1 ∧ H q.2.1 = some (.tup (p.1.map kV)) ∧ RelV p.2 q.2.2
theorem KT.val {H : Hp} {kvs : List (List Key × V)} {xs : List (List Key × Addr × Value)} (r : KT H kvs xs) (k : List Key) : RelO (valV kvs k) ((atKey xs k).map (·.2)) := by
  induction r with
  | nil => exact True.intro
  | @cons p q ps qs h t ih =>
    obtain ⟨h1, _, h2⟩ := h
    by_cases e : p.1 = k
    · have e' : q.1 = k := h1.symm.trans e
      have b : atKey (q :: qs) k = some q.2 := by simp [atKey, List.find?_cons, e']
      rw [valV_pos e, b]; exact h2
    · have e' : ¬ q.1 = k := fun z => e (h1.trans z)
      have b : atKey (q :: qs) k = atKey qs k := by simp [atKey, List.find?_cons, e']
      rw [valV_neg e, b]; exact ih
theorem KT.repl {H : Hp} {kvs : List (List Key × V)} {xs : List (List Key × Addr × Value)} (r : KT H kvs xs) (k : List Key) {y : V} {u : Value} (ry : RelV y u) :
    KT H (kvs.map fun kv => if kv.1 = k then (kv.1, y) else kv) (xs.map (putAt k u)) := by
  induction r with
  | nil => exact .nil
  | @cons p q ps qs h t ih =>
    rw [List.map_cons, List.map_cons]
    refine .cons ?_ ih
    obtain ⟨h1, h2, h3⟩ := h
    unfold putAt
    by_cases e : p.1 = k
    · rw [if_pos e, if_pos (h1.symm.trans e)]; exact ⟨h1, h2, ry⟩
    · rw [if_neg e, if_neg (fun z => e (h1.trans z))]; exact ⟨h1, h2, h3⟩
theorem KT.put {H : Hp} {kvs : List (List Key × V)} {xs : List (List Key × Addr × Value)} (r : KT H kvs xs) (k : List Key) {b : Addr} {y : V} {u : Value} (hb : H b = some (.tup (k.map kV))) (ry : RelV y u) :
    KT H (putK kvs k y) (storedH xs k b u) := by
  have e : (kvs.any fun kv => decide (kv.1 = k)) = (atKey xs k).isSome := by
    rw [valV_any, (r.val k).isSome_eq, Option.isSome_map]
  unfold putK storedH
  rw [e]
  by_cases q : (atKey xs k).isSome = true
  · rw [if_pos q, if_pos q]; exact r.repl k ry
  · rw [if_neg q, if_neg q]; exact Paired.snoc r ⟨rfl, hb, ry⟩
theorem KT.keeps {H H' : Hp} {kvs : List (List Key × V)} {xs : List (List Key × Addr × Value)} (r : KT H kvs xs) (ht : ∀ b ys, H b = some (.tup ys) → H' b = some (.tup ys)) : KT H' kvs xs :=
  Paired.mapP r fun _ _ z => ⟨z.1, ht _ _ z.2.1, z.2.2⟩

section
variable {P : Program} {w : World} {H : Hp} {h : Heap} {a : Addr}
theorem rd_of {u : HO} (ok : HOk P w H h) (e : Rd H a u) : ObjOk P w H h a u := e.ok ok
theorem dk_rd {kvs : List (Key × V)} (ok : HOk P w H h) (e : Rd H a (.dK kvs)) : kvs.length ≤ sizeLine ∧ (a == sysModules) = false ∧ ∃ vs, KV kvs vs ∧ h.DictOf (mixKind P w) a vs :=
  show ObjOk P w H h a (.dK kvs) from rd_of ok e
theorem dk_of {kvs : List (Key × V)} (ok : HOk P w H h) (e : H a = some (.dK kvs)) : kvs.length ≤ sizeLine ∧ (a == sysModules) = false ∧ ∃ vs, KV kvs vs ∧ h.DictOf (mixKind P w) a vs := dk_rd ok (.inl e)
/-- a tracked tuple of ints and texts is a key -/
theorem key_of {ks : List Key} (ok : HOk P w H h) (e : H a = some (.tup (ks.map kV))) : (tupleKind (mixKind P w)).is h ks a := by
  obtain ⟨_, its, r, o, h1, h2, n, h3⟩ := (show ObjOk P w H h a (.tup (ks.map kV)) from ok a _ e)
  exact ⟨o, its.toArray, n, h1, h2, h3, by simpa using items_are r⟩
theorem dt_rd {kvs : List (List Key × V)} (ok : HOk P w H h) (e : Rd H a (.dT kvs)) : kvs.length ≤ sizeLine ∧ (a == sysModules) = false ∧
    ∃ xs, KT H kvs xs ∧ h.DictOfH (tupleKind (mixKind P w)) a xs := by
  obtain ⟨z, y, xs, r, o, es, ep, h1, h2, h3, h4, h5⟩ := (show ObjOk P w H h a (.dT kvs) from rd_of ok e)
  refine ⟨z, y, xs, r, o, es, ep, h1, h2, h3, h4, fun x hx => ?_, h5⟩
  have all : ∀ {l : List (List Key × V)} {m : List (List Key × Addr × Value)}, KT H l m → ∀ x ∈ m, (tupleKind (mixKind P w)).is h x.1 x.2.1 := by
    intro l m q
    induction q with
    | nil => intro x hx; exact nomatch hx
    | @cons p q ps qs hq t ih =>
      intro x hx
      rcases List.mem_cons.mp hx with e | hx
      · subst e
        exact key_of ok (by rw [← hq.1]; exact hq.2.1)
      · exact ih x hx
  exact all r x hx
theorem dt_of {kvs : List (List Key × V)} (ok : HOk P w H h) (e : H a = some (.dT kvs)) : kvs.length ≤ sizeLine ∧ (a == sysModules) = false ∧
    ∃ xs, KT H kvs xs ∧ h.DictOfH (tupleKind (mixKind P w)) a xs := dt_rd ok (.inl e)
end

/-- what the dict at a holds at the key y -/
def DGet (H : Hp) (a : Addr) (y : V) (r : Option V) : Prop :=
  (∃ kvs k, Rd H a (.dK kvs) ∧ y = kV k ∧ r = valV kvs k) ∨ ∃ kvs k b, Rd H a (.dT kvs) ∧ y = .ref b ∧ H b = some (.tup (k.map kV)) ∧ r = valV kvs k
/-- the heap behind a[y] = v -/
def DPut (H : Hp) (a : Addr) (y v : V) (H' : Hp) : Prop :=
  (∃ kvs k, H a = some (.dK kvs) ∧ y = kV k ∧ kvs.length < sizeLine ∧ H' = upd H a (.dK (putK kvs k v))) ∨
  ∃ kvs k b, H a = some (.dT kvs) ∧ y = .ref b ∧ H b = some (.tup (k.map kV)) ∧ kvs.length < sizeLine ∧ H' = upd H a (.dT (putK kvs k v))
theorem DGet.k {H : Hp} {a : Addr} {kvs : List (Key × V)} {k : Key} (e : H a = some (.dK kvs)) : DGet H a (kV k) (valV kvs k) := .inl ⟨kvs, k, .inl e, rfl, rfl⟩
theorem DGet.t {H : Hp} {a b : Addr} {kvs : List (List Key × V)} {k : List Key} (e : H a = some (.dT kvs)) (eb : H b = some (.tup (k.map kV))) : DGet H a (.ref b) (valV kvs k) := .inr ⟨kvs, k, b, .inl e, rfl, eb, rfl⟩
theorem DPut.k {H : Hp} {a : Addr} {kvs : List (Key × V)} {k : Key} {v : V} (e : H a = some (.dK kvs)) (hl : kvs.length < sizeLine) : DPut H a (kV k) v (upd H a (.dK (putK kvs k v))) := .inl ⟨kvs, k, e, rfl, hl, rfl⟩
theorem DPut.t {H : Hp} {a b : Addr} {kvs : List (List Key × V)} {k : List Key} {v : V} (e : H a = some (.dT kvs)) (eb : H b = some (.tup (k.map kV))) (hl : kvs.length < sizeLine) :
    DPut H a (.ref b) v (upd H a (.dT (putK kvs k v))) := .inr ⟨kvs, k, b, e, rfl, eb, hl, rfl⟩


section
variable {X : Cx} {pins : List (Addr × Obj)} {σ : St} {H : Hp} {s : Shared} {a : Addr} {y v : V} {u r : Value} {o : Option V} {A : Around} {E : Value → Shared → Prop}

theorem Inv.big (I : Inv X pins σ H s) : sysModules < s.heap.objs.size := by
  have h : mainGlobals < s.heap.objs.size := (I.mod.glob.keeps I.bk).lt
  exact Nat.lt_trans (by decide) h

/-- y in d -/
theorem d_in {Q : Value → Shared → Prop} (hu : A.units + 1 < cLine) (I : Inv X pins σ H s) (g : DGet H a y o) (ry : RelV y u) (h : ∀ s', Inv X pins σ H s' → Q (.bool o.isSome) s') :
    wpAny (model X.prog X.w) A (compareOp .In u (.ref a)) Q E s := by
  rcases g with ⟨kvs, k, e, ey, l⟩ | ⟨kvs, k, b, e, ey, eb, l⟩
  · subst ey
    obtain ⟨z, hd, vs, rel, dd⟩ := dk_rd I.hok e
    refine wpAny_in_of (kV_is ry) hd dd.mapOf ?_
    rw [← (rel.val k).isSome_eq, ← l]
    exact h _ (I.tok _)
  · subst ey
    cases (show u = Value.ref b from ry)
    obtain ⟨z, hd, xs, rel, dd⟩ := dt_rd I.hok e
    refine wpAny_in_heap (tupleKind_room_in1 hu) (key_of I.hok eb) hd dd ?_
    have q := (rel.val k).isSome_eq
    rw [Option.isSome_map] at q
    rw [← q, ← l]
    exact h _ (I.tok _)
theorem d_notIn {Q : Value → Shared → Prop} (hu : A.units + 1 < cLine) (I : Inv X pins σ H s) (g : DGet H a y o) (ry : RelV y u) (h : ∀ s', Inv X pins σ H s' → Q (.bool (!o.isSome)) s') :
    wpAny (model X.prog X.w) A (compareOp .NotIn u (.ref a)) Q E s := by
  rcases g with ⟨kvs, k, e, ey, l⟩ | ⟨kvs, k, b, e, ey, eb, l⟩
  · subst ey
    obtain ⟨z, hd, vs, rel, dd⟩ := dk_rd I.hok e
    refine wpAny_notIn_of (kV_is ry) hd dd.mapOf ?_
    rw [← (rel.val k).isSome_eq, ← l]
    exact h _ (I.tok _)
  · subst ey
    cases (show u = Value.ref b from ry)
    obtain ⟨z, hd, xs, rel, dd⟩ := dt_rd I.hok e
    refine wpAny_notIn_heap (tupleKind_room_in1 hu) (key_of I.hok eb) hd dd ?_
    have q := (rel.val k).isSome_eq
    rw [Option.isSome_map] at q
    rw [← q, ← l]
    exact h _ (I.tok _)
/-- a dict's object is replaced -/
theorem d_write {h' : Heap} {t' : Nat} {ob : HO} (I : Inv X pins σ H s) (mu : Mut (H a)) (hs : Heap.SameBut a s.heap h') (he : ∃ q, h'.get? a = some q) (new : ObjOk X.prog X.w (upd H a ob) h' a ob) :
    Inv X pins σ (upd H a ob) { s with heap := h', toks := t' } :=
  I.write (x := a) (e := a) mu (.inl rfl) (fun b q hb z => (hs.2 b hb).trans z) he new
theorem dk_new {P : Program} {w : World} {H' : Hp} {h' : Heap} {kvs : List (Key × V)} {vs : List (Key × Value)} (z : kvs.length ≤ sizeLine) (hd : (a == sysModules) = false) (rel : KV kvs vs) (dd : h'.DictOf (mixKind P w) a vs) :
    ObjOk P w H' h' a (.dK kvs) := ⟨z, hd, vs, rel, dd⟩
/-- d[y] = v -/
theorem d_setItem {H' : Hp} {Q : Unit → Shared → Prop} (hu : A.units + 1 < cLine) (I : Inv X pins σ H s) (g : DPut H a y v H') (ry : RelV y u) (rv : RelV v r) (h : ∀ s', Inv X pins σ H' s' → Q () s') :
    wpAny (model X.prog X.w) A (setItem (.ref a) u r) Q E s := by
  rcases g with ⟨kvs, k, e, ey, l, eH⟩ | ⟨kvs, k, b, e, ey, eb, l, eH⟩
  · subst ey eH
    obtain ⟨z, hd, vs, rel, dd⟩ := dk_of I.hok e
    have hz : vs.length ≤ sizeLine := by rw [← rel.length]; exact z
    have hl : (putK kvs k v).length ≤ sizeLine := by have := length_putK kvs k v; omega
    refine wpAny_setItem_pairs (hsz := hz) (kV_is ry) dd fun h' dd' hs => h _ ?_
    have he : ∃ q, h'.get? a = some q := let ⟨q, _, _, hq, _⟩ := dd'; ⟨q, hq⟩
    exact d_write I (by rw [e]; exact True.intro) hs he (dk_new hl hd (rel.put k rv) dd')
  · subst ey eH
    cases (show u = Value.ref b from ry)
    obtain ⟨z, hd, xs, rel, dd⟩ := dt_of I.hok e
    have hz : xs.length ≤ sizeLine := by rw [← Paired.length rel]; exact z
    have hl : (putK kvs k v).length ≤ sizeLine := by have := length_putK kvs k v; omega
    refine wpAny_setItem_heap (hsz := hz) (tupleKind_room_in1 hu) (key_of I.hok eb) dd fun h' dd' hs => h _ ?_
    obtain ⟨q, es, ep, hq, h2, h3, h4, _, h5⟩ := dd'
    refine d_write I (by rw [e]; exact True.intro) hs ⟨q, hq⟩ ⟨hl, hd, _, (rel.put k eb rv).keeps fun c ys ec => ?_, q, es, ep, hq, h2, h3, h4, h5⟩
    rw [upd_ne (ne_of ec e (fun z => nomatch z))]
    exact ec
end

section
variable {X : Cx} {pins : List (Addr × Obj)} {σ : St} {H : Hp} {s : Shared} {a : Addr} {kvs : List (Key × V)} {k : Key} {u : Value} {A : Around} {E : Value → Shared → Prop}
end


/-! ### readings and rules -/
/-- the element of a subscription, not a slice -/
def NoSl (i : Expr) : Prop := ∀ ov iv, subscripted i false ov iv = operate [ov, iv] (getItem ov iv)
theorem subD_of {prog : Program} {w : World} {A : Around} {E : Value → Shared → Prop} {s : Shared} {env : Env} {value slice : Expr} {pos : Pos} {T id : String} {Q : Value → Shared → Prop}
    (hl : typeLookup (.type T) "__getitem__" = pure (some (.builtin id))) (hs : NoSl slice)
    (h : wpAny (model prog w) A (eval value env) (fun o s₁ => wpAny (model prog w) A (eval slice env) (fun i s₂ => s₂.TypeIs o T ∧ wpAny (model prog w) A (getItem o i) Q E s₂) E s₁) E s) :
    wpAny (model prog w) A (eval (.Subscript value slice pos) env) Q E s := by
  refine Subscript_ (wpAny_mono h (fun o s₁ h₁ => wpAny_mono h₁ (fun i s₂ h₂ => ?_) fun _ _ x => x) fun _ _ x => x)
  obtain ⟨hT, h₂⟩ := h₂
  unfold subscriptTail
  refine wpAny_bind ?_
  rw [getitemInPython_of_ne hT.not_modules]
  refine wpAny_bind (wpAny_specialOf hT hl ?_)
  have fin : wpAny (model prog w) A (subscripted slice false o i) (fun r s₃ => wpAny (model prog w) A (letTemporaryGo value o r >>= fun _ => pure r) Q E s₃) E s₂ := by
    rw [hs o i]
    exact wpAny_operating (wpAny_mono h₂ (fun r s₃ h₃ => wpAny_bind (wpAny_letTemporaryGo (wpAny_pure h₃))) fun _ _ x => x)
  first
    | exact wpAny_pure (wpAny_bind fin)
    | exact wpAny_bind (wpAny_pure (wpAny_bind fin))
    | exact wpAny_bind fin


/-- y in d, y not in d -/
def tDIn (ty td : TE) : TE := fun σ H Q => ty σ H fun y H1 => td σ H1 fun x H2 => ∃ a o, x = .ref a ∧ DGet H2 a y o ∧ Q (.bl o.isSome) H2
def tDNotIn (ty td : TE) : TE := fun σ H Q => ty σ H fun y H1 => td σ H1 fun x H2 => ∃ a o, x = .ref a ∧ DGet H2 a y o ∧ Q (.bl (!o.isSome)) H2
/-- d[y] = v -/
def sDPut (td ty tv : TE) : TS := fun D σ H => tv σ H fun v H1 => td σ H1 fun x H2 => ty σ H2 fun y H3 => ∃ a H4, x = .ref a ∧ DPut H3 a y v H4 ∧ D.nx σ H4

section
variable {X : Cx} {o i e value : Expr} {pos pos' tpos : Pos} {td ty tv : TE}
theorem pc_din (hu : X.A.units + 1 < cLine) (hi : PE X i ty) (ho : PE X o td) : PC X .In i o (tDIn ty td) := by
  intro pins s σ H Q I h
  refine thn (hi pins s σ H _ I h) fun iv s1 ⟨y, H1, I1, ry, q1⟩ => thn (ho pins s1 σ H1 _ I1 q1) fun u s2 hq0 => ?_
  obtain ⟨x, H2, I2, rx, a, ov, ex, g, q2⟩ := hq0
  subst ex
  obtain rfl : u = Value.ref a := rx
  exact d_in hu I2 g ry fun s3 I3 => ⟨.bl ov.isSome, H2, I3, rfl, q2⟩
theorem pc_dnotin (hu : X.A.units + 1 < cLine) (hi : PE X i ty) (ho : PE X o td) : PC X .NotIn i o (tDNotIn ty td) := by
  intro pins s σ H Q I h
  refine thn (hi pins s σ H _ I h) fun iv s1 ⟨y, H1, I1, ry, q1⟩ => thn (ho pins s1 σ H1 _ I1 q1) fun u s2 hq0 => ?_
  obtain ⟨x, H2, I2, rx, a, ov, ex, g, q2⟩ := hq0
  subst ex
  obtain rfl : u = Value.ref a := rx
  exact d_notIn hu I2 g ry fun s3 I3 => ⟨.bl (!ov.isSome), H2, I3, rfl, q2⟩
theorem ps_dput (hu : X.A.units + 1 < cLine) (ho : PE X o td) (hi : PE X i ty) (hv : PE X value tv) (hs : swapsWith value (some (.Subscript o i pos')) pos.line X.env = pure false) :
    PS X (.Assign [.Subscript o i pos'] value pos) (sDPut td ty tv) := by
  intro pins s σ H D I h
  refine wpAny_Assign_Subscript (thn (hv pins s σ H _ I h) fun r s1 ⟨v, H1, I1, rv, q1⟩ => thn (ho pins s1 σ H1 _ I1 q1) fun u s2 ⟨x, H2, I2, rx, q2⟩ => thn (hi pins s2 σ H2 _ I2 q2) fun iv s3 hq0 => ?_) hs
  obtain ⟨y, H3, I3, ry, a, H4, ex, g, q3⟩ := hq0
  subst ex
  obtain rfl : u = Value.ref a := rx
  exact d_setItem hu I3 g ry rv fun s4 I4 => ⟨σ, H4, I4, q3⟩
end


/-! ### displays -/
theorem dk_empty {P : Program} {w : World} {H : Hp} (h : Heap) (hb : sysModules < h.objs.size) : ObjOk P w H (h.push { cls := .type "dict", data := .dict #[] }) h.objs.size (.dK []) :=
  ⟨Nat.zero_le _, beq_eq_false_iff_ne.mpr (Ne.symm (Nat.ne_of_lt hb)), [], .nil, Heap.DictOf.new h⟩
theorem dt_empty {P : Program} {w : World} {H : Hp} (h : Heap) (hb : sysModules < h.objs.size) : ObjOk P w H (h.push { cls := .type "dict", data := .dict #[] }) h.objs.size (.dT []) :=
  ⟨Nat.zero_le _, beq_eq_false_iff_ne.mpr (Ne.symm (Nat.ne_of_lt hb)), [], .nil, _, #[], 0, Heap.get?_push_size _ rfl, ⟨rfl, rfl, rfl⟩, rfl, rfl, List.nodup_nil⟩
/-- {}, to be a dict of the kind that is wanted -/
def tDNewK : TE := fun _ H Q => ∀ p, H p = none → Q (.ref p) (upd H p (.dK []))
def tDNewT : TE := fun _ H Q => ∀ p, H p = none → Q (.ref p) (upd H p (.dT []))
section
variable {X : Cx} {pos : Pos}
theorem pe_dnewK : PE X (.Dict [] [] pos) tDNewK := fun pins s σ H Q I h =>
  wpAny_Dict_empty ⟨.ref s.heap.objs.size, _, I.laid (a := s.heap.objs.size) (o := .dK []) (t' := s.toks) (fun _ _ q => Heap.get?_push_of_some _ q) (Nat.le_refl _) (dk_empty s.heap I.big), rfl, h _ (I.hok.fresh (Nat.le_refl _))⟩
theorem pe_dnewT : PE X (.Dict [] [] pos) tDNewT := fun pins s σ H Q I h =>
  wpAny_Dict_empty ⟨.ref s.heap.objs.size, _, I.laid (a := s.heap.objs.size) (o := .dT []) (t' := s.toks) (fun _ _ q => Heap.get?_push_of_some _ q) (Nat.le_refl _) (dt_empty s.heap I.big), rfl, h _ (I.hok.fresh (Nat.le_refl _))⟩
end




/-! ### methods -/


section
variable {X : Cx} {pins : List (Addr × Obj)} {σ : St} {H : Hp} {s : Shared} {a : Addr} {y d : V} {u r : Value} {o : Option V} {A : Around} {E : Value → Shared → Prop}
end

section
variable {X : Cx} {o e f : Expr} {apos cpos : Pos} {td ty tx : TE}
end

/-! ### dict(d): a copy -/
section
variable {X : Cx} {pins : List (Addr × Obj)} {σ : St} {H : Hp} {s : Shared} {a : Addr} {kvs : List (Key × V)} {A : Around} {E : Value → Shared → Prop}
end


section
variable {X : Cx} {pins : List (Addr × Obj)} {σ : St} {H : Hp} {s : Shared} {a : Addr} {y : V} {u : Value} {A : Around} {E : Value → Shared → Prop}
end
end L2

namespace Att
open PySem PySem.W PySem.Calls PyProof.Rows

/-! ### the script -/
theorem ints_of_wellAll {P : Params} {h : Heap} : ∀ (ns : List Int) (vs : List Value), WellAll P h vs (ns.map WData.int) → IntsAre vs ns := by
  intro ns
  induction ns with
  | nil =>
    intro vs w
    rw [List.map_nil] at w
    cases w
    exact .nil
  | cons n ns ih =>
    intro vs w
    rw [List.map_cons] at w
    cases w with
    | cons a b =>
      cases a
      exact .cons _ _ (ih _ b)

theorem script_of {l : OpenLaw} {n : Nat} (hn : l.most = some n) {P : Params} {h : Heap} {args : List WData} {vals : List Value}
    (hpre : l.row.toRowW.claim.pre args = true) (hwl : WellAll P h vals args) :
    ∃ a vs ns, vals = [Value.ref a] ∧ args = [WData.list (ns.map WData.int)] ∧ h.get? a = some { cls := .type "list", data := .seq vs.toArray } ∧ IntsAre vs ns ∧ ns.length ≤ n := by
  have hsh : WShape.hasAll [] args [.list .int] = true := (pre_splitW hpre).1
  have hc : l.pre.holds [] { args := args } = true := (pre_splitW hpre).2
  obtain ⟨d, r, rfl, h1, h2⟩ := hasAllW_cons hsh
  obtain rfl := hasAllW_nil h2
  obtain ⟨xs, rfl, h3⟩ := hasW_list h1
  obtain ⟨ns, rfl⟩ := items_int h3
  have hlen : ns.length ≤ n := by
    unfold OpenLaw.pre at hc
    have h4 : (WTm.not (.lt (.lit (.int (n : Int))) (.len (.arg 0)))).holds [] { args := [.list (ns.map .int)] } = true := by
      have h4 := (holds_andW hc).1
      rw [hn] at h4
      exact h4
    have h5 := condW_of h4 (w_not (w_lt w_lit (w_len_list (w_arg rfl))))
    rw [List.length_map] at h5
    refine Nat.le_of_not_lt fun q => ?_
    have q' : (n : Int) < ((ns.length : Nat) : Int) := by omega
    first
      | (rw [decide_eq_true q'] at h5; exact absurd h5 (by decide))
      | (simp at h5; omega)
  cases hwl with
  | cons w1 w2 =>
    cases w2
    cases w1 with
    | list ho hall => exact ⟨_, _, ns, rfl, rfl, ho, ints_of_wellAll ns _ hall, hlen⟩

theorem post_true (l : OpenLaw) (args : List WData) : l.row.toRowW.claim.post args (.bool true) args = true :=
  postW_of (r := l.row.toRowW) (X := (true == true))
    (show WShape.has [] (.bool true) .bool = true by first | rfl | decide | simp [WShape.has, WShape.arms, WShape.armsAll])
    (show (WTm.eq .res (.lit (.bool true))).value [] { args := args, res := some (.bool true), after := args } = some (.bool (true == true)) from w_eq_bool (w_res rfl) w_lit) rfl

/-! ### the attachment: holds_open's last premise (the goal 'hc' behind k_head) from a wpAny of the law's body -/

/-- the same from a codeAny of the CALL (for a layer whose function contracts speak of calls) -/
theorem attach_call {l : OpenLaw} {n : Nat} {q : Program} {loose : List Str} {XP : (Str → Option Value) → Heap → Prop} {YP : World → Heap → Prop} {d : DefRec}
    (hn : l.most = some n) (hdf : d.params.defaults = [])
    (call : ∀ (w : World) (s₀ s₁ : Shared) (mg mb : Str → Option Value) (fa : Addr) (o : Obj) (pm cd doc : Value) (a : Addr) (vs : List Value) (ns : List Int),
      Ground q loose [] XP w s₀ mg mb s₁.heap → YP w s₁.heap →
      s₁.heap.get? fa = some o → o.data = .func (docDef d.name d.params d.body d.scope pm cd doc) → s₁.heap.CodeRec cd d.name → mg d.name = some (.ref fa) →
      s₁.heap.get? a = some { cls := .type "list", data := .seq vs.toArray } → IntsAre vs ns → ns.length ≤ n → s₁.gens = #[] →
      codeAny (model l.prog w) callerA (.call (.ref fa) ⟨[.ref a], []⟩) (fun r s' => r = .ok (.ret (.bool true)) ∧ OldK s₁.heap s'.heap ∧ s'.os = s₁.os ∧ AllBare s'.gens) s₁) :
    WalkO q loose XP YP l.row.toRowW d [] (fun f vs => PySem.call f vs) := by
  intro w s₀ s₁ mg mb G Y fa o pm cd doc dV kV ho hd hcd hD hmg hg args vals as hpre hlay hrd hwl hlo
  obtain rfl : dV = .none := Dflts.none hD hdf
  obtain rfl : kV = .none := Dflts.noKw hD
  obtain ⟨a, vs, ns, rfl, rfl, hobj, hints, hlen⟩ := script_of hn hpre hwl
  refine enter_call (codeAny_mono (call w s₀ s₁ mg mb fa o pm cd doc a vs ns G Y ho (fd_plain hd) hcd hmg hobj hints hlen hg) fun r s' hq => ?_)
  obtain ⟨rfl, h2, h3, h4⟩ := hq
  exact ⟨.inl ⟨.bool true, .bool true, [], rfl, fun _ => rfl, .bool true, post_true l _, fun _ => ⟨List.Pairwise.nil, fun _ hm => (nomatch hm)⟩⟩, h2, h3, h4⟩


/-! ### rules over ANY heap (no ledger) from facts about the written part K: the library's own take a ledger (News) for what they write -/
section
variable {prog : Program} {w : World} {A : Around} {E : Value → Shared → Prop} {s : Shared} {K : Frag}





/-! the whole heap as the ledger: makes every rule that writes through a ledger a rule over any heap -/

end
end Att

namespace L2
open PySem PySem.Spec PyProof.Rows

theorem vals_ints : ∀ {vs : List Value} {ns : List Int}, IntsAre vs ns → Vals (ns.map V.int) vs
  | _, _, .nil => .nil
  | _, _, .cons n t h => .cons ⟨t, rfl⟩ (vals_ints h)

/-- nothing is tracked but the script, known to the object (or it is an object of the module) -/
def Only (H : Hp) : Prop := ∀ b, H b = none ∨ ∃ o xs, H b = some (.frz o (.lst xs))

/-- THE HEAD: the law's promise, at the heap behind the top. F, the promise of the law's def, may use that base is part of the heap (so K.In base, base.Ns mainGlobals mg stand in Mod) -/
theorem law_call {P : Program} {w : World} {K : PySem.W.Frag} {mg mb : Str → Option Value} {CX : CXT} {k : Nat} {fa a : Addr} {fd : FuncData} {x : Str} {sp : Sp} {s₁ : Shared} {vs : List Value} {ns : List Int}
    (KX : K.In s₁.heap) (hns : s₁.heap.Ns mainGlobals mg) (hb : s₁.heap.Ns builtinsNs mb) (hbb : ∀ x : Str, x ≠ "__name__" → mb x = bootBuiltins x) (hlim : s₁.heap.NoLimit) (hg : s₁.gens = #[])
    (ha : s₁.heap.get? a = some { cls := .type "list", data := .seq vs.toArray }) (hi : IntsAre vs ns) (hl : ns.length ≤ sizeLine) (hr : Room k callerA)
    (F : ∀ base : Heap, K.In base → base.Ns mainGlobals mg → FnOk P w K mg base CX k fa fd [x] sp) (hbind : ∀ (s : Shared) (u : Value), BindsTo s fd ⟨[u], []⟩ [(x, u)])
    (hsp : ∀ H : Hp, Only H → SqL K H a (ns.map V.int) → sp [.ref a] H (fun v _ => v = .bl true) fun _ _ _ => False)
    (hCX : ∀ H e s', CX [] H s₁ (fun _ _ _ => False) e s' → False) :
    codeAny (model P w) callerA (.call (.ref fa) ⟨[.ref a], []⟩) (fun r s' => r = .ok (.ret (.bool true)) ∧ OldK s₁.heap s'.heap ∧ s'.os = s₁.os ∧ AllBare s'.gens) s₁ := by
  have rv := vals_ints hi
  have lenV := hi.length
  -- from an abstract heap in which nothing but the script may be tracked
  have core : ∀ H : Hp, Only H → SqL K H a (ns.map V.int) → HOk P w H s₁.heap → (∀ b, H b ≠ none → b = a) → (H a ≠ none → K.lookup a = none) →
      codeAny (model P w) callerA (.call (.ref fa) ⟨[.ref a], []⟩) (fun r s' => r = .ok (.ret (.bool true)) ∧ OldK s₁.heap s'.heap ∧ s'.os = s₁.os ∧ AllBare s'.gens) s₁ := by
    intro H hO hS hok hA hK
    have base_of : ∀ {b : Addr} {o : Obj}, s₁.heap.get? b = some o → H b = none → (hidT s₁.heap H).get? b = some o := fun e n => hidT_get e n
    have noA : ∀ {b : Addr} {o : Obj} {es : Array DictEntry} {ep : Nat}, s₁.heap.get? b = some o → o.data = .dict es ep → H b = none := fun {b o es ep} e d => by
      cases q : H b with
      | none => rfl
      | some u =>
        have e' : b = a := hA b (by rw [q]; simp)
        subst e'
        rw [ha] at e; cases e
        have d' : Data.seq vs.toArray _ = Data.dict es ep := d
        cases d'
    have nsK : ∀ {b : Addr} {m : Str → Option Value}, s₁.heap.Ns b m → (hidT s₁.heap H).Ns b m := fun {b m} ⟨o, es, ep, e, d, r⟩ => ⟨o, es, ep, base_of e (noA e d), d, r⟩
    have hKb : K.In (hidT s₁.heap H) := fun b o e => base_of (KX b o e) (by
      cases q : H b with
      | none => rfl
      | some u =>
        have e' : b = a := hA b (by rw [q]; simp)
        subst e'
        rw [hK (by rw [q]; simp)] at e; cases e)
    have hM : Mod K mg (hidT s₁.heap H) := ⟨hKb, nsK hns, ⟨mb, nsK hb, hbb⟩, let ⟨mc, h1, h2⟩ := hlim; ⟨mc, nsK h1, h2⟩⟩
    have e0 : Env0 P w K mg (hidT s₁.heap H) callerA [] s₁ H := ⟨rfl, hM, fun b o e => of_hidT e, Nat.le_of_eq (hidT_size _ _), trivial, fun b hb => absurd (show b ∈ ([] : List Addr) from hb) (by simp), hok, .of_eq hg⟩
    refine codeAny_mono ((F _ hKb (nsK hns)).run callerA [] s₁ H ⟨[.ref a], []⟩ [.ref a] [.ref a] _ _ hr e0 (hbind s₁ (.ref a)) (.cons rfl .nil) (hsp H hO hS)) fun r s' h => ?_
    cases r with
    | error e => exact (hCX H e s' h).elim
    | ok fl =>
      cases fl with
      | next => exact False.elim h
      | brk => exact False.elim h
      | cont => exact False.elim h
      | ret u =>
        obtain ⟨v, H', os, bare, un, hok', r', q⟩ := h
        have q' : v = .bl true := q
        subst q'
        obtain rfl : u = Value.bool true := r'
        refine ⟨rfl, OldK.of_keep fun b o e => ?_, os, bare⟩
        cases q : H b with
        | none => exact un.keep b o e q (by intro z; exact absurd (show b ∈ ([] : List Addr) from z) (by simp)) (by simp)
        | some u =>
          rcases hO b with z | ⟨ob, xs, z⟩
          · rw [q] at z; cases z
          · have z2 := un.frzs b ob _ z
            obtain ⟨e1, _⟩ := hok b _ z
            obtain ⟨e2, _⟩ := hok' b _ z2
            rw [e] at e1; cases e1
            exact e2
  cases hk : K.lookup a with
  | some o =>
    -- the script is one of the module's own objects
    have e := KX a o hk
    rw [ha] at e
    cases e
    refine core (fun _ => none) (fun _ => .inl rfl) (.inr ⟨_, vs.toArray, _, hk, rfl, rfl, rfl, by rw [List.size_toArray, lenV]; exact hl, by simpa using rv⟩) (fun b u z => by have z' : (none : Option HO) = some u := z; cases z') (fun b z => absurd rfl z) fun z => absurd rfl z
  | none =>
    refine core (fun b => if b = a then some (.frz { cls := .type "list", data := .seq vs.toArray } (.lst (ns.map V.int))) else none) (fun b => ?_) (.inl (.inr ⟨{ cls := .type "list", data := .seq vs.toArray }, if_pos rfl⟩)) (fun b u z => ?_) (fun b z => ?_) fun _ => hk
    · by_cases hb : b = a
      · exact .inr ⟨_, _, if_pos hb⟩
      · exact .inl (if_neg hb)
    · by_cases hb : b = a
      · have z' := (if_pos hb).symm.trans z
        cases z'
        subst hb
        exact ⟨ha, by rw [List.length_map]; exact hl, vs, _, rv, ha⟩
      · have z' := (if_neg hb).symm.trans z
        cases z'
    · by_cases hb : b = a
      · exact hb
      · exact absurd (if_neg hb) z
end L2

namespace L2
open PySem PySem.Spec PyProof.Rows

abbrev KOf {K : PySem.W.Frag} {h : Heap} (_ : K.In h) : PySem.W.Frag := K

/-- the goal that k_head leaves (case hc), from the law's promise. F gives the function object fd (K's own) once, then the promise over every base -/
theorem walk_of {l : PySem.W.OpenLaw} {n k : Nat} {q : Program} {loose : List Str} {XP : (Str → Option Value) → Heap → Prop} {YP : World → Heap → Prop} {d : DefRec} {K : Params → PySem.W.Frag} {CX : World → CXT} {sp : World → Sp} {x : Str}
    (hn : l.most = some n) (hn2 : n ≤ sizeLine) (hdf : d.params.defaults = []) (hr : Room k callerA)
    (hY : ∀ (w : World) (h : Heap), YP w h → (K w.params).In h)
    (F : ∀ (w : World) (mg : Str → Option Value) (fa : Addr) (h : Heap), (K w.params).In h → h.Ns mainGlobals mg → mg d.name = some (.ref fa) →
      ∃ fd : FuncData, (∀ (s : Shared) (u : Value), BindsTo s fd ⟨[u], []⟩ [(x, u)]) ∧
        ∀ base : Heap, (K w.params).In base → base.Ns mainGlobals mg → FnOk l.prog w (K w.params) mg base (CX w) k fa fd [x] (sp w))
    (hsp : ∀ (w : World) (H : Hp) (a : Addr) (ns : List Int), ns.length ≤ n → Only H → SqL (K w.params) H a (ns.map V.int) → sp w [.ref a] H (fun v _ => v = .bl true) fun _ _ _ => False)
    (hCX : ∀ (w : World) (H : Hp) (s : Shared) (e : Value) (s' : Shared), CX w [] H s (fun _ _ _ => False) e s' → False) :
    PySem.W.WalkO q loose XP YP l.row.toRowW d [] (fun f vs => PySem.call f vs) := by
  refine Att.attach_call hn hdf fun w s₀ s₁ mg mb fa o pm cd doc a vs ns G Y ho hd hcd hmg hobj hints hlen hg => ?_
  have KX := hY w _ Y
  obtain ⟨fd, hb, hF⟩ := F w mg fa _ KX G.T.g hmg
  exact law_call KX G.T.g G.T.b G.T.builtins G.T.nolimit hg hobj hints (Nat.le_trans hlen hn2) hr hF hb (fun H hO hS => hsp w H a ns hlen hO hS) fun H e s' => hCX w H s₁ e s'
/-- the same where the promise hangs on the written part alone: (sp := My.sp_law), no hole under a binder -/
theorem walk_ofK {l : PySem.W.OpenLaw} {n k : Nat} {q : Program} {loose : List Str} {XP : (Str → Option Value) → Heap → Prop} {YP : World → Heap → Prop} {d : DefRec} {K : Params → PySem.W.Frag} {CX : CXT} {sp : PySem.W.Frag → Sp} {x : Str}
    (hn : l.most = some n) (hn2 : n ≤ sizeLine) (hdf : d.params.defaults = []) (hr : Room k callerA)
    (hY : ∀ (w : World) (h : Heap), YP w h → (K w.params).In h)
    (F : ∀ (w : World) (mg : Str → Option Value) (fa : Addr) (h : Heap), (K w.params).In h → h.Ns mainGlobals mg → mg d.name = some (.ref fa) →
      ∃ fd : FuncData, (∀ (s : Shared) (u : Value), BindsTo s fd ⟨[u], []⟩ [(x, u)]) ∧
        ∀ base : Heap, (K w.params).In base → base.Ns mainGlobals mg → FnOk l.prog w (K w.params) mg base CX k fa fd [x] (sp (K w.params)))
    (hsp : ∀ (K : PySem.W.Frag) (H : Hp) (a : Addr) (ns : List Int), ns.length ≤ n → Only H → SqL K H a (ns.map V.int) → sp K [.ref a] H (fun v _ => v = .bl true) fun _ _ _ => False)
    (hCX : ∀ (H : Hp) (s : Shared) (e : Value) (s' : Shared), CX [] H s (fun _ _ _ => False) e s' → False) :
    PySem.W.WalkO q loose XP YP l.row.toRowW d [] (fun f vs => PySem.call f vs) :=
  walk_of (K := K) (CX := fun _ => CX) (sp := fun w => sp (K w.params)) hn hn2 hdf hr hY F (fun w H a ns h1 h2 h3 => hsp (K w.params) H a ns h1 h2 h3) fun _ H s e s' => hCX H s e s'
end L2

/- THE LAST THEOREM (shape; LID, My.* are yours):
   My.Adr: a structure of the addresses that your layer names (classes, functions); My.Txt K t: a structure (Prop) of the equations over K;
   My.txt_mk : {K} {implicit addresses ..} (e1 : nsIn K mainGlobals "law" = some (some (.ref f))) (e2 : K.lookup f = some ⟨oc, od, .func (fnOf "law" "law" params body scope dV kV doc pm an cdv ct), sl⟩) (e3 : codeIn K cdv "law" = true) .. : ∃ t, My.Txt K t

set_option maxRecDepth 100000 in
set_option maxHeartbeats 0 in
theorem PySem.Challenge.cw_LID_holds : PySem.Challenge.rw_LID.Holds := by
  w_on; o_law; k_head; (case hw => w_witness2)
  k_fill
  refine L2.walk_of (l := PySem.Challenge.rw_LID) (n := 63) (k := 40) (x := "script") (CX := fun w => ..) (sp := fun _ => My.sp_law) rfl (by decide) rfl ⟨rfl, by decide, by decide⟩ (fun w h Y => PySem.W.kIn_of Y) ?F ?S ?C
  case F =>
    intro w mg fa h KX G hmg
    have T : ∃ t, My.Txt (L2.KOf KX) t := by
      dsimp only [L2.KOf]                          -- K must stand as «<heap const> w.params» for k_is
      refine' My.txt_mk ?e1 ?e2 ?e3 ..
      (case e1 => PySem.W.k_is)                    -- in the order: a name -> its address -> its object -> its parts
      (case e2 => PySem.W.k_is)
      ..
    obtain ⟨t, T⟩ := T
    have e0 := hmg.symm.trans (PySem.W.mg_of KX G T.law)
    cases e0                                       -- fa is the law's own address
    exact ⟨_, fun s u => .of_eq rfl, fun base kb nb => My.law_fn T kb nb⟩     -- if «.of_eq rfl» comes too early: refine' ⟨_, ?b, fun base kb nb => My.law_fn T kb nb⟩; exact fun s u => .of_eq rfl
  case S => exact fun w H a ns hl hO hS => ..
  case C => exact ..
(the tactic k_is has no namespace: write k_is) -/

/-! SHORT WORDS over the layer: a def of the text, its body, what a loop and a test want. -/
namespace L2
open PySem PySem.Spec PyProof.Rows

/-! ### the text by places -/
/-- the j-th statement of a class's body -/
def inClass (s : Stmt) (j : Nat) : Stmt := match s with
  | .ClassDef _ _ _ body _ _ _ _ _ _ _ => body.getD j (.Pass ⟨0, 0, 0, 0⟩)
  | _ => .Pass ⟨0, 0, 0, 0⟩
def defArgs (s : Stmt) : Arguments := match s with
  | .FunctionDef _ a _ _ _ _ _ _ _ _ => a
  | _ => { posonlyargs := [], args := [], vararg := none, kwonlyargs := [], kw_defaults := [], kwarg := none, defaults := [] }
def defBody (s : Stmt) : List Stmt := match s with
  | .FunctionDef _ _ b _ _ _ _ _ _ _ => b
  | _ => []
def defScope (s : Stmt) : Scope := match s with
  | .FunctionDef _ _ _ _ _ _ sc _ _ _ => sc
  | _ => { kind := .function, names := [], isGenerator := false, isCoroutine := false }

/-! ### no exception leaves a def -/
abbrev CX0 : CXT := fun _ _ _ _ _ _ => False
abbrev E0 : XK := fun _ _ _ => False
theorem pass0 {X : Cx} : Passes CX0 X E0 := fun _ _ _ _ _ _ _ h => h.elim

/-! ### a def (or method) of the text as it stands behind the top -/
structure Fun (K : PySem.W.Frag) (x qual : Str) (st : Stmt) (f : Addr) (fd : FuncData) : Prop where
  ex : ∃ (oc : Value) (od : Option Addr) (kV doc pm : Value) (an : Option Addr) (cdv ct : Value) (osl : Array (Option Value)),
    fd = PySem.W.fnOf x qual (defArgs st) (defBody st) (defScope st) .none kV doc pm an cdv ct ∧ K.lookup f = some ⟨oc, od, .func fd, osl⟩ ∧ PySem.W.codeIn K cdv qual = true
  kp : PySem.W.keepIn K (.ref f) = true
section
variable {P : Program} {w : World} {K : PySem.W.Frag} {mg : Str → Option Value} {base : Heap}
/-- THE RULE for a def: its body as a term of rules, and the reading of that term -/
theorem Fun.ok {x qual : Str} {st : Stmt} {f : Addr} {fd : FuncData} {N ps : List Str} {k : Nat} {sp : Sp} (F : Fun K x qual st f fd) (S : FnScope N ps (defScope st)) (len : ∀ vs H Q E, sp vs H Q E → vs.length = ps.length)
    (hbody : ∀ (cdv : Value) (A : Around) (outer : List Env) (s : Shared) (H : Hp) (vs : List V) (Q : VK) (E : XK), Room k (A.deeper (envOfC qual (defScope st) s.heap.objs.size f cdv)) → sp vs H Q E →
      ∃ t, PSs (cxOf CX0 P w K mg base N qual (defScope st) f cdv A outer s H E).nox (defBody st) t ∧ t { nx := fun _ H' => Q .non H', rt := Q } (start N vs) H) : FnOk P w K mg base CX0 (k + 1) f fd ps sp := by
  obtain ⟨oc, od, kV, doc, pm, an, cdv, ct, osl, rfl, lk, hcd⟩ := F.ex
  refine fn_of lk hcd S len fun A outer s H vs Q E hr hsp => ?_
  obtain ⟨t, h, q⟩ := hbody cdv A outer s H vs Q E hr hsp
  exact ⟨t, h.nox, q⟩
theorem fun_mk {x qual : Str} {st : Stmt} {f : Addr} {oc : Value} {od an : Option Addr} {osl : Array (Option Value)} {kV doc pm cdv ct : Value} (l : K.lookup f = some ⟨oc, od, .func (PySem.W.fnOf x qual (defArgs st) (defBody st) (defScope st) .none kV doc pm an cdv ct), osl⟩)
    (c : PySem.W.codeIn K cdv qual = true) (k : PySem.W.keepIn K (.ref f) = true) : Fun K x qual st f (PySem.W.fnOf x qual (defArgs st) (defBody st) (defScope st) .none kV doc pm an cdv ct) := ⟨⟨oc, od, kV, doc, pm, an, cdv, ct, osl, rfl, l, c⟩, k⟩
end
theorem hu_of {A : Around} {k : Nat} (hr : Room k A) : A.units + 1 < cLine := Nat.lt_of_le_of_lt (Nat.add_le_add_left (by decide : 1 ≤ 64) _) hr.units
theorem small1000 {n : Nat} (h : n ≤ 1000) : n < sizeLine := Nat.lt_of_le_of_lt h (by decide)

/-! ### expressions in short: the name that stands in the i-th slot -/
section
variable {X : Cx}
theorem pv (i : Nat) {x : Str} {pos : Pos} (hN : X.N[i]? = some x := by rfl) (hv : Vis X.env.scope x := by first | exact Or.inl rfl | exact Or.inr (Or.inl rfl) | exact Or.inr (Or.inr rfl)) (hd : (x == ("__debug__" : Str)) = false := by decide)
    (hcd : (x == ("__classdict__" : Str)) = false := by decide) : PE X (.Name x pos) (tVar i) := pe_var hN hv hd hcd
end

/-! ### tests -/
theorem iteF {A B : Prop} (h : B) : if false = true then A else B := by
  rw [if_neg Bool.false_ne_true]
  exact h
theorem iteT {A B : Prop} (h : A) : if true = true then A else B := by
  rw [if_pos rfl]
  exact h
theorem ite2 {c A B : Prop} [Decidable c] (h1 : c → A) (h2 : ¬ c → B) : if c then A else B := by
  by_cases h : c
  · rw [if_pos h]
    exact h1 h
  · rw [if_neg h]
    exact h2 h

/-! ### heaps -/
/-- all that was tracked is as it was -/
def Same (H H' : Hp) : Prop := ∀ b o, H b = some o → H' b = some o
theorem Same.refl (H : Hp) : Same H H := fun _ _ h => h
theorem Same.trans {H H1 H2 : Hp} (a : Same H H1) (b : Same H1 H2) : Same H H2 := fun c o h => b c o (a c o h)
theorem Same.free {H H' : Hp} (e : Same H H') {l : Addr} (h : H' l = Option.none) : H l = Option.none := by
  cases q : H l with
  | none => rfl
  | some o =>
    rw [e l o q] at h
    cases h
theorem Same.seq {K : PySem.W.Frag} {H H' : Hp} {a : Addr} {xs : List V} (e : Same H H') (h : SqL K H a xs) : SqL K H' a xs := by
  rcases h with (h | ⟨o, h⟩) | h
  · exact .inl (.inl (e _ _ h))
  · exact .inl (.inr ⟨o, e _ _ h⟩)
  · exact .inr h

section
variable {X : Cx}
end
/-! ### a dict's pairs: keys that differ -/
section
variable {κ : Type} [DecidableEq κ]
end
end L2


/-! OVER THE HAND LAYER: list comprehensions, walks over texts, and some of Python's own calls, by their readings. -/
namespace L2
open PySem PySem.Spec PyProof.Rows

/-! ### the closure of a comprehension -/
def freeCl (cells : List (Str × Addr)) : List (Str × NameKind) → List (Str × Addr) → List (Str × Addr)
  | [], cs => cs
  | (n, k) :: r, cs => freeCl cells r (if (k == NameKind.free) = true then (match cells.lookup n with | some c => (n, c) :: cs | none => cs) else cs)

theorem closureFor_cells {scope : Scope} {env : Env} (h : ∀ x ∈ scope.names, x.2 = .free → ∃ c, env.cells.lookup x.1 = some c) : closureFor scope env = pure (freeCl env.cells scope.names []) := by
  unfold closureFor
  have go : ∀ (names : List (Str × NameKind)) (cs : List (Str × Addr)), (∀ x ∈ names, x.2 = .free → ∃ c, env.cells.lookup x.1 = some c) →
      (forIn names cs (fun (x : Str × NameKind) (r : List (Str × Addr)) => if (x.2 == NameKind.free) = true then (do let a ← cellOf env x.1; pure (ForInStep.yield ((x.1, a) :: r))) else pure (ForInStep.yield r)) : Sem (List (Str × Addr))) = pure (freeCl env.cells names cs) := by
    intro names
    induction names with
    | nil => intro cs _; rfl
    | cons x r ih =>
      intro cs hc
      obtain ⟨n, k⟩ := x
      have hr : ∀ y ∈ r, y.2 = .free → ∃ c, env.cells.lookup y.1 = some c := fun y hy => hc y (List.mem_cons_of_mem _ hy)
      rw [List.forIn_cons]
      cases e : (k == NameKind.free) with
      | true =>
        obtain ⟨c, hl⟩ := hc (n, k) List.mem_cons_self (by simpa using e)
        have hl' : env.cells.lookup n = some c := hl
        have ec : cellOf env n = pure c := by unfold cellOf; rw [hl']
        show (_ >>= _) = pure (freeCl env.cells r (if (k == NameKind.free) = true then _ else _))
        rw [e, hl']
        simp only [if_true, ec, pure_bind]
        exact ih _ hr
      | false =>
        show (_ >>= _) = pure (freeCl env.cells r (if (k == NameKind.free) = true then _ else _))
        rw [e]
        simp only [Bool.false_eq_true, if_false, pure_bind]
        exact ih _ hr
  exact (congrArg (· >>= fun r => pure r) (go scope.names [] h)).trans (pure_bind _ _)

theorem lookup_cons_eq {α : Type} {y n : Str} {c : α} {r : List (Str × α)} (h : y = n) : ((n, c) :: r).lookup y = some c := by
  subst h; simp
theorem lookup_cons_ne {α : Type} {y n : Str} {c : α} {r : List (Str × α)} (h : ¬ y = n) : ((n, c) :: r).lookup y = r.lookup y := by
  rw [List.lookup_cons, beq_eq_false_iff_ne.mpr h]

theorem freeCl_step {cells : List (Str × Addr)} {n : Str} {k : NameKind} {cs : List (Str × Addr)} (hs : ∀ y d, cs.lookup y = some d → cells.lookup y = some d) :
    ∀ y d, (if (k == NameKind.free) = true then (match cells.lookup n with | some c => (n, c) :: cs | none => cs) else cs).lookup y = some d → cells.lookup y = some d := by
  intro y d h
  split at h
  · split at h
    · rename_i c hc
      by_cases hy : y = n
      · rw [lookup_cons_eq hy] at h
        rw [hy, hc]; exact h
      · rw [lookup_cons_ne hy] at h
        exact hs y d h
    · exact hs y d h
  · exact hs y d h
theorem freeCl_sub (cells : List (Str × Addr)) : ∀ (names : List (Str × NameKind)) (cs : List (Str × Addr)), (∀ y d, cs.lookup y = some d → cells.lookup y = some d) →
    ∀ y d, (freeCl cells names cs).lookup y = some d → cells.lookup y = some d
  | [], _, hs, y, d, h => hs y d h
  | (n, k) :: r, cs, hs, y, d, h => freeCl_sub cells r _ (freeCl_step hs) y d h
theorem freeCl_has (cells : List (Str × Addr)) {x : Str} {c : Addr} (hc : cells.lookup x = some c) : ∀ (names : List (Str × NameKind)) (cs : List (Str × Addr)), (∀ y d, cs.lookup y = some d → cells.lookup y = some d) →
    ((x, NameKind.free) ∈ names ∨ cs.lookup x = some c) → (freeCl cells names cs).lookup x = some c
  | [], _, _, h => by
    rcases h with h | h
    · cases h
    · exact h
  | (n, k) :: r, cs, hs, h => by
    refine freeCl_has cells hc r _ (freeCl_step hs) ?_
    by_cases hx : (x, NameKind.free) = (n, k)
    · cases hx
      right
      rw [if_pos (by rfl), hc]
      exact lookup_cons_eq rfl
    · rcases h with h | h
      · rcases List.mem_cons.mp h with h | h
        · exact absurd h hx
        · exact .inl h
      · right
        split
        · split
          · rename_i c' hc'
            by_cases hn : x = n
            · rw [lookup_cons_eq hn]
              rw [hn, hc'] at hc
              exact hc
            · rw [lookup_cons_ne hn]; exact h
          · exact h
        · exact h

theorem lookup_relabel (env : Env) (x : Str) : ∀ names : List (Str × NameKind),
    (names.map fun (n, k) => if (k == NameKind.free && env.scope.kind == .function && env.kindOf n == some .cell) then (n, NameKind.cell) else (n, k)).lookup x =
      (names.lookup x).map fun k => if (k == NameKind.free && env.scope.kind == .function && env.kindOf x == some .cell) then NameKind.cell else k
  | [] => rfl
  | (n, k) :: r => by
    have ih := lookup_relabel env x r
    rw [List.map_cons]
    by_cases hx : x = n
    · subst hx
      rw [lookup_cons_eq rfl]
      show List.lookup x ((if (k == NameKind.free && env.scope.kind == .function && env.kindOf x == some .cell) = true then (x, NameKind.cell) else (x, k)) :: _) = some (if (k == NameKind.free && env.scope.kind == .function && env.kindOf x == some .cell) = true then NameKind.cell else k)
      by_cases hc : (k == NameKind.free && env.scope.kind == .function && env.kindOf x == some .cell) = true
      · rw [if_pos hc, if_pos hc]; exact lookup_cons_eq rfl
      · rw [if_neg hc, if_neg hc]; exact lookup_cons_eq rfl
    · rw [lookup_cons_ne hx, ← ih]
      show List.lookup x ((if (k == NameKind.free && env.scope.kind == .function && env.kindOf n == some .cell) = true then (n, NameKind.cell) else (n, k)) :: _) = _
      by_cases hc : (k == NameKind.free && env.scope.kind == .function && env.kindOf n == some .cell) = true
      · rw [if_pos hc]; exact lookup_cons_ne hx
      · rw [if_neg hc]; exact lookup_cons_ne hx
theorem relabel_free {scope : Scope} {env : Env} {x : Str} (h : scope.names.lookup x = some .free) : (relabel scope env).names.lookup x = some .cell ∨ (relabel scope env).names.lookup x = some .free := by
  have e := lookup_relabel env x scope.names
  rw [h] at e
  have e' : (relabel scope env).names.lookup x = some (if (NameKind.free == NameKind.free && env.scope.kind == .function && env.kindOf x == some .cell) = true then NameKind.cell else NameKind.free) := e
  rw [e']
  split
  · exact .inl rfl
  · exact .inr rfl
theorem free_relabel {scope : Scope} {env : Env} {x : Str} (nc : ∀ y ∈ scope.names, y.2 ≠ .cell) (h : (relabel scope env).names.lookup x = some .cell ∨ (relabel scope env).names.lookup x = some .free) : (x, NameKind.free) ∈ scope.names := by
  have e := lookup_relabel env x scope.names
  have e' : (relabel scope env).names.lookup x = _ := e
  cases q : scope.names.lookup x with
  | none =>
    rw [q] at e'
    rw [e'] at h
    rcases h with h | h <;> cases h
  | some k =>
    rw [q] at e'
    have m := PySem.mem_of_lookup q
    cases k with
    | free => exact m
    | cell => exact absurd rfl (nc _ m)
    | _ =>
      rw [e'] at h
      rcases h with h | h <;> cases h

/-! ### the context of a comprehension's block -/
structure CompScope (scope osc : Scope) (cap : List Str) : Prop where
  kind : scope.kind = .function
  nocell : ∀ y ∈ scope.names, y.2 ≠ .cell
  loc : ∀ y ∈ scope.names, y.2 = .local → scope.names.lookup y.1 = some .local
  free : ∀ y ∈ scope.names, y.2 = .free → osc.names.lookup y.1 = some .cell ∨ osc.names.lookup y.1 = some .free
  cap : ∀ x ∈ cap, scope.names.lookup x = some .free

def cxC (X : Cx) (N : List Str) (scope : Scope) (C : Addr) (s : Shared) (H : Hp) (ex : List Addr) : Cx where
  prog := X.prog
  w := X.w
  K := X.K
  mg := X.mg
  base := X.base
  A := X.A
  N := N
  s₀ := s
  H₀ := H
  env := compEnvC scope (freeCl X.env.cells scope.names []) C X.env
  outer := X.stack
  stack := X.stack
  ex := ex
  fn := fun _ => false
  calm := X.calm
  pn := []
  xe := fun _ _ => False

/-- the block's names at its start: its own, and those of the outer names at ix that it captures -/
def st0 (own : List Str) (ix : List Nat) (σ : St) : St := own.map (fun _ => none) ++ ix.map fun i => (σ[i]?).join

theorem closure_of {X : Cx} {pins : List (Addr × Obj)} {σ : St} {H : Hp} {s : Shared} {scope : Scope} {cap : List Str} (I : Inv X pins σ H s) (S : CompScope scope X.env.scope cap) :
    closureFor scope X.env = pure (freeCl X.env.cells scope.names []) :=
  closureFor_cells fun x hx hf => I.ok.has x.1 (S.free x hx hf)

theorem inv_comp {X : Cx} {pins : List (Addr × Obj)} {σ : St} {H : Hp} {s : Shared} {scope : Scope} {own cap : List Str} {ix : List Nat} {fp : List Addr} {h₁ : Heap} {m : Str → Option Value} {tk : Nat}
    (I : Inv X pins σ H s) (S : CompScope scope X.env.scope cap) (hix : ix.map (fun i => X.N[i]?) = cap.map some) (hf : ∀ b ∈ fp, FpOk X pins H b) (hlt : ∀ b ∈ fp, b < s.heap.objs.size)
    (hn : h₁.Ns s.heap.objs.size m) (hk : ∀ b o, s.heap.get? b = some o → h₁.get? b = some o) :
    Inv (cxC X (own ++ cap) scope s.heap.objs.size s H fp) [] (st0 own ix σ) H { s with heap := h₁, toks := tk } := by
  have sub : ∀ y d, (freeCl X.env.cells scope.names []).lookup y = some d → X.env.cells.lookup y = some d := freeCl_sub _ _ _ (fun y d h => by cases h)
  have has : ∀ y c, (y, NameKind.free) ∈ scope.names → X.env.cells.lookup y = some c → (freeCl X.env.cells scope.names []).lookup y = some c := fun y c hy hc => freeCl_has _ hc _ _ (fun y d h => by cases h) (.inl hy)
  have hlen : ix.length = cap.length := by
    have := congrArg List.length hix
    simpa using this
  refine ⟨⟨I.mod, S.kind, I.ok.glob, I.ok.blt, Nat.le_refl _, fun x y c e1 e2 => I.ok.inj x y c (sub _ _ e1) (sub _ _ e2), fun x hx => ?_, fun x c z => (by cases z), I.ok.hd, I.ok.frames, .inl rfl, fun b hb => ⟨Nat.ne_of_lt (hlt b hb), fun x c e => (hf b hb).2.2.2.2.1 x c (sub _ _ e)⟩, I.bs,
      Nat.le_trans I.ok.bsz I.sz, fun b o e hb => ?_, fun b hb z => ?_, I.stack, I.stkFree⟩, rfl, I.bare, Un.kept hk, ⟨m, hn, fun i x v e1 e2 e3 => ?_⟩, fun x c e => ?_, I.hok.fresh (Nat.le_refl _), fun x c e => I.freeC x c (sub _ _ e), fun p hp => absurd (show p ∈ ([] : List (Addr × Obj)) from hp) (by simp), I.hok.kept hk, ?_⟩
  · have m' := free_relabel (env := X.env) S.nocell hx
    obtain ⟨c, hc⟩ := I.ok.has x (S.free _ m' rfl)
    exact ⟨c, has x c m' hc⟩
  · obtain ⟨f0, f1, f2, f3, f4, f5⟩ := hf b hb
    rcases f3 with z | z
    · exact I.ok.noex b o e z
    · exact absurd (Nat.lt_of_lt_of_le (Nat.lt_of_lt_of_le (Heap.lt_size e) I.ok.bsz) z) (Nat.lt_irrefl _)
  · obtain ⟨f0, f1, f2, f3, f4, f5⟩ := hf b hb
    rcases List.mem_cons.mp (I.stkSub b z) with z | z
    · exact f1 z
    · exact f2 z
  · have e1 : (own ++ cap)[i]? = some x := e1
    unfold st0 at e2
    by_cases hi : i < own.length
    · rw [List.getElem?_append_left (by simpa using hi), List.getElem?_map] at e2
      cases q : own[i]? with
      | none => rw [q] at e2; cases e2
      | some y => rw [q] at e2; cases e2
    · rw [List.getElem?_append_right (by simpa using hi)] at e1
      rw [List.getElem?_append_right (by simpa using hi), List.length_map, List.getElem?_map] at e2
      generalize i - own.length = j at e1 e2
      cases q : ix[j]? with
      | none => rw [q] at e2; cases e2
      | some k =>
        rw [q] at e2
        have e2 : (σ[k]?).join = some v := Option.some.inj e2
        have eσ : σ[k]? = some (some v) := by
          cases q2 : σ[k]? with
          | none => rw [q2] at e2; cases e2
          | some o => rw [q2] at e2; exact congrArg some e2
        have eN : X.N[k]? = some x := by
          have := congrArg (fun l => l[j]?) hix
          simp only [List.getElem?_map, q, e1, Option.map_some] at this
          exact Option.some.inj this
        have hfr := S.cap x (List.mem_of_getElem? e1)
        have hmem := PySem.mem_of_lookup hfr
        have hout := S.free _ hmem rfl
        obtain ⟨m0, hn0, hl⟩ := I.loc
        obtain ⟨u, r, l⟩ := hl k x v eN eσ (.inr hout)
        rcases l with ⟨kd, _⟩ | ⟨kd, c, e, z⟩
        · have kd : X.env.scope.names.lookup x = some .local := kd
          rcases hout with ho | ho <;> (have ho : X.env.scope.names.lookup x = _ := ho; rw [kd] at ho; cases ho)
        · exact ⟨u, r, .inr ⟨relabel_free hfr, c, has x c hmem e, z.keeps hk⟩⟩
  · obtain ⟨v, q⟩ := I.cell x c (sub _ _ e)
    exact ⟨v, q.keeps hk⟩
  · show (st0 own ix σ).length = (own ++ cap).length
    unfold st0
    simp [hlen]

/-- behind the block: its namespace at C forgotten -/
theorem inv_back {X : Cx} {pins : List (Addr × Obj)} {σ σ' : St} {H H' : Hp} {s s' : Shared} {scope : Scope} {N : List Str} {fp : List Addr} {h' : Heap}
    (I : Inv X pins σ H s) (hf : ∀ b ∈ fp, FpOk X pins H b) (J : Inv (cxC X N scope s.heap.objs.size s H fp) [] σ' H' s') (hs : Heap.SameBut s.heap.objs.size s'.heap h') : Inv X pins σ H' { s' with heap := h' } := by
  have ne : ∀ b o, s.heap.get? b = some o → b ≠ s.heap.objs.size := fun b o e => Nat.ne_of_lt (Heap.lt_size e)
  have B : Un (frs X.stack) fp H H' s.heap s'.heap := J.base
  refine I.call' (s' := { s' with heap := h' }) (ch := fp) J.os ⟨fun b o e n hb hx => ?_, fun b o e n hb hx => ?_, B.free, fun b o e hx => ?_, B.tups, B.frzs, B.tbls⟩ (fun b ob e => ?_) J.bare fun b hb => ?_
  · exact (hs.2 b (ne b o e)).trans (B.keep b o e n hb hx)
  · obtain ⟨sl, e1⟩ := B.slot b o e n hb hx
    exact ⟨sl, (hs.2 b (ne b o e)).trans e1⟩
  · obtain ⟨o', e1⟩ := B.there b o e hx
    exact ⟨o', (hs.2 b (ne b o e)).trans e1⟩
  · have fr : H' s.heap.objs.size = none := J.free
    refine (J.hok b ob e).stay (fun c w' hc q => (hs.2 c ?_).trans q) (fun _ q => q) fun _ _ q => q
    rintro rfl
    rcases hc with hc | hc
    · rw [← hc, fr] at e; cases e
    · rw [fr] at hc; cases hc
  · obtain ⟨f0, f1, f2, f3, f4, f5⟩ := hf b hb
    exact ⟨f3, f1, f4, f5⟩

/-! ### the tests of a comprehension -/
def PIf (X : Cx) (ifs : List Expr) (t : TT) : Prop :=
  ∀ (pins : List (Addr × Obj)) (s : Shared) (σ : St) (H : Hp) (Q : Bool → Hp → Prop), Inv X pins σ H s → t σ H Q →
    wpAny (model X.prog X.w) X.A (forIn ifs true fun c r => if r = true then do let ok ← isTrue c X.env (eval c X.env); pure (ForInStep.yield ok) else pure (ForInStep.yield r)) (TP X pins σ Q) X.xe s
def tYes : TT := fun _ H Q => Q true H
theorem pif_nil {X : Cx} : PIf X [] tYes := fun _ s σ H Q I h => wpAny_tests_nil ⟨H, I, h⟩
theorem pif_one {X : Cx} {c : Expr} {t : TT} (h : PT X c t) : PIf X [c] t := fun pins s σ H Q I hw => wpAny_tests_one (h pins s σ H Q I hw)

theorem codeAny_compLoop_all {prog : Program} {w : World} {A : Around} {R : Result → Shared → Prop} {s : Shared} {elt target iter : Expr} {ifs : List Expr} {scope : Scope} {pos : Pos} {it acc : Value} {env : Env} (I : Nat → Shared → Prop)
    (turn : ∀ n s, I n s → wpAny (model prog w) A (pyNext it) (fun r s₁ => match r with
      | none => R (.ok .next) s₁
      | some v => wpAny (model prog w) A (letOwnedTupleGo target it v) (fun _ s₁' => wpAny (model prog w) A (assign target env v) (fun _ s₂ =>
          wpAny (model prog w) A (forIn ifs true fun c r => if r = true then do let ok ← isTrue c env (eval c env); pure (ForInStep.yield ok) else pure (ForInStep.yield r)) (fun ok s₃ =>
            if ok = true then wpAny (model prog w) A (eval elt env) (fun x s₄ =>
              wpAny (model prog w) A (call (.builtin "list.append") [acc, x]) (fun _ s₅ => ∃ m, m < n ∧ I m s₅) (notedBy (model prog w) A env fun e s' => R (.error e) s') s₄) (notedBy (model prog w) A env fun e s' => R (.error e) s') s₃
            else ∃ m, m < n ∧ I m s₃) (notedBy (model prog w) A env fun e s' => R (.error e) s') s₂) (notedBy (model prog w) A env fun e s' => R (.error e) s') s₁') (notedBy (model prog w) A env fun e s' => R (.error e) s') s₁) (notedBy (model prog w) A env fun e s' => R (.error e) s') s)
    (n : Nat) (h : I n s) : codeAny (model prog w) A (.compLoop (.ListComp elt [⟨target, iter, ifs, 0⟩] scope pos) 0 it acc env) R s := by
  refine codeAny_loop rfl I (fun n s hI => ?_) n h
  show wpAny _ A ((compTurn (.ListComp elt [⟨target, iter, ifs, 0⟩] scope pos) 0 it acc env).onRaise (fun x => do noteFrame x env; theTreesLotGoes x)) _ _ s
  refine wpAny_noted ?_
  rw [compTurn_list]
  refine wpAny_bind (wpAny_standAt (wpAny_bind (wpAny_mono (turn n s hI) (fun r s₁ h₁ => ?_) fun _ _ h' => h')))
  cases r with
  | none => exact wpAny_pure h₁
  | some v =>
    refine wpAny_bind (wpAny_mono h₁ (fun _ s₁' h₁' => ?_) fun _ _ h' => h')
    refine wpAny_bind (wpAny_mono h₁' (fun _ s₂ h₂ => wpAny_bind (wpAny_mono h₂ (fun ok s₃ h₃ => ?_) fun _ _ h' => h')) fun _ _ h' => h')
    cases ok with
    | false => exact wpAny_pure ⟨rfl, h₃⟩
    | true =>
      exact wpAny_bind (wpAny_bind (wpAny_mono h₃ (fun x s₄ h₄ => wpAny_bind (wpAny_mono h₄ (fun _ s₅ h₅ => wpAny_pure (wpAny_pure ⟨rfl, h₅⟩)) fun _ _ h' => h')) fun _ _ h' => h'))

/-! ### [e for x in it if c] -/
/-- what the walk over J from the heap H1 wants, the list standing at D -/
def CompW (own : List Str) (ix : List Nat) (J : It) (g : TG) (tc : TT) (te : TE) (σ : St) (H1 : Hp) (D : Addr) (Q : VK) : Prop :=
  ∃ W : Nat → Nat → St → List V → Hp → Prop, (∃ m, W 0 m (st0 own ix σ) [] (upd H1 D (.lst []))) ∧ ∀ i m σ' ys H', W i m σ' ys H' → H' D = some (.lst ys) ∧
    ((J.stop i H' ∧ Q (.ref D) H') ∨ (J.go i H' ∧ ys.length < sizeLine ∧ ∀ x H2, J.yld i H' x H2 → g x σ' H2 fun σ3 H3 => tc σ3 H3 fun b H4 =>
      if b = true then te σ3 H4 fun y H5 => H5 D = some (.lst ys) ∧ ∃ m', m' < m ∧ W (i + 1) m' σ3 (ys ++ [y]) (upd H5 D (.lst (ys ++ [y]))) else H4 D = some (.lst ys) ∧ ∃ m', m' < m ∧ W (i + 1) m' σ3 ys H4))
def tComp (own : List Str) (ix : List Nat) (wi : TI) (g : TG) (tc : TT) (te : TE) : TE := fun σ H Q => wi σ H fun J H1 => ∀ D, H1 D = none → CompW own ix J g tc te σ H1 D Q

section
variable {X : Cx} {tg iter elt : Expr} {ifs : List Expr} {scope : Scope} {pos : Pos} {own cap : List Str} {ix : List Nat} {wi : TI} {g : TG} {tc : TT} {te : TE}

/-- the block runs: what holds behind it is RR -/
theorem comp_run {pins : List (Addr × Obj)} {σ : St} {s : Shared} {E : Value → Shared → Prop} {RR : Value → Addr → Result → Shared → Prop} {Q : VK}
    (hc : X.calm = true) (S : CompScope scope X.env.scope cap) (hix : ix.map (fun i => X.N[i]?) = cap.map some)
    (hg : ∀ C s H ex, PG (cxC X (own ++ cap) scope C s H ex) tg g) (ht : ∀ C s H ex, PIf (cxC X (own ++ cap) scope C s H ex) ifs tc) (he : ∀ C s H ex, PE (cxC X (own ++ cap) scope C s H ex) elt te)
    {itv : Value} (h : PIE X pins σ tg (fun J H1 => ∀ D, H1 D = none → CompW own ix J g tc te σ H1 D Q) itv s)
    (hR : ∀ (D C : Addr) (s' : Shared) (H' : Hp) (m : Str → Option Value), s'.heap.Ns C m → FpOk X pins H' C → (∀ h', Heap.SameBut C s'.heap h' → Inv X pins σ H' { s' with heap := h' }) → Q (.ref D) H' → RR (.ref D) C (.ok .next) s') :
    wpAny (model X.prog X.w) X.A (newList []) (fun acc s₃ => wpAny (model X.prog X.w) X.A (newFunctionEnv scope X.env.globals (freeCl X.env.cells scope.names []) [] X.env.qual none .none (some X.env)) (fun cenv s₄ =>
      codeAny (model X.prog X.w) X.A (.compStart (.ListComp elt [⟨tg, iter, ifs, 0⟩] scope pos) 0 itv acc { cenv with scope := relabel scope X.env }) (RR acc cenv.locals) s₄) E s₃) E s := by
  obtain ⟨it, fp, tn, J, H2, rfl, I2, T, st2, f2, q2⟩ := h
  refine wpAny_newObj_type (wpAny_newFunctionEnv S.nocell (by intro y hy; simp at hy) (fun h₁ hns₁ hsb₁ => ?_) S.kind)
  dsimp only at hns₁ hsb₁ ⊢
  have hD : H2 s.heap.objs.size = none := I2.hok.fresh (Nat.le_refl _)
  obtain ⟨W, ⟨m0, w0⟩, turn⟩ := q2 s.heap.objs.size hD
  have I3 : Inv X pins σ (upd H2 s.heap.objs.size (.lst [])) { s with heap := s.heap.push { cls := .type "list", data := .seq ([] : List Value).toArray } } := I2.lnew (t' := s.toks) (its := []) .nil (Nat.zero_le _)
  have ltD : ∀ b ∈ fp, b < s.heap.objs.size := fun b hb => by
    obtain ⟨o, e, _⟩ := T.obj 0 _ st2 b hb
    exact Heap.lt_size e
  have f3 : ∀ b ∈ fp, FpOk X pins (upd H2 s.heap.objs.size (.lst [])) b := fun b hb => ⟨by rw [upd_ne (Nat.ne_of_lt (ltD b hb))]; exact (f2 b hb).1, (f2 b hb).2⟩
  generalize hH : s.heap.push { cls := .type "list", data := .seq ([] : List Value).toArray } = H3 at I3 hns₁ hsb₁ ⊢
  have sz : H3.objs.size = s.heap.objs.size + 1 := by rw [← hH, Heap.size_push]
  have up : ∀ b o, H3.get? b = some o → h₁.get? b = some o := fun b o e => hsb₁.extBut b o (Nat.ne_of_lt (Heap.lt_size e)) (Heap.get?_push_of_some _ e)
  have old : ∀ b o, s.heap.get? b = some o → h₁.get? b = some o := fun b o e => up b o (by rw [← hH]; exact Heap.get?_push_of_some _ e)
  have lt3 : ∀ b ∈ fp, b < ({ s with heap := H3 } : Shared).heap.objs.size := fun b hb => by show b < H3.objs.size; rw [sz]; exact Nat.lt_succ_of_lt (ltD b hb)
  have st4 : tn 0 h₁ := T.keep _ _ _ st2 fun b _ o e => old b o e
  have stat : ∀ {H' : Hp}, (∀ b ∈ fp, H' b = none) → ∀ b ∈ fp, FpOk (cxC X (own ++ cap) scope H3.objs.size { s with heap := H3 } (upd H2 s.heap.objs.size (.lst [])) fp) [] H' b := fun hn b hb =>
    ⟨hn b hb, Nat.ne_of_lt (lt3 b hb), fun z => (List.mem_cons.mp (I3.stkSub b z)).elim (f2 b hb).2.1 (f2 b hb).2.2.1, .inl hb, fun x c e => (f2 b hb).2.2.2.2.1 x c (freeCl_sub _ _ _ (fun y d h => by cases h) _ _ e), fun p hp => absurd (show p ∈ ([] : List (Addr × Obj)) from hp) (by simp)⟩
  have loop : ∀ s₄ : Shared, s₄ = { s with heap := h₁, toks := s.toks + ([] : List (Str × Value)).length } →
      codeAny (model X.prog X.w) X.A (.compLoop (.ListComp elt [⟨tg, iter, ifs, 0⟩] scope pos) 0 (.ref it) (.ref s.heap.objs.size) (compEnvC scope (freeCl X.env.cells scope.names []) H3.objs.size X.env))
        (RR (.ref s.heap.objs.size) H3.objs.size) s₄ := by
    rintro s₄ rfl
    have I4 := inv_comp (own := own) (fp := fp) (tk := s.toks + ([] : List (Str × Value)).length) I3 S hix f3 lt3 hns₁ up
    refine codeAny_compLoop_all (fun n s' => ∃ i σ' ys H', Inv (cxC X (own ++ cap) scope H3.objs.size { s with heap := H3 } (upd H2 s.heap.objs.size (.lst [])) fp) [] σ' H' s' ∧ tn i s'.heap ∧ (∀ b ∈ fp, H' b = none) ∧ W i n σ' ys H') ?_ m0
      ⟨0, _, [], _, I4, st4, fun b hb => (f3 b hb).1, w0⟩
    rintro n s5 ⟨i, σ5, ys, H5, I5, st5, fr5, w5⟩
    obtain ⟨hD5, turn5⟩ := turn i n σ5 ys H5 w5
    rcases turn5 with ⟨stop, q⟩ | ⟨go, hz, step⟩
    · refine thn (T.done (cxC X (own ++ cap) scope H3.objs.size { s with heap := H3 } (upd H2 s.heap.objs.size (.lst [])) fp) rfl rfl rfl hc i [] s5 σ5 H5 _ I5 (stat fr5) st5 stop) fun r s6 hq0 => ?_
      obtain ⟨hr, I6⟩ := hq0
      subst hr
      obtain ⟨m6, hn6, _⟩ := I6.loc
      exact hR _ _ s6 H5 m6 hn6 (I3.fpOk (Nat.le_refl _) I6.free) (fun h' hs => inv_back I3 f3 I6 hs) q
    · refine thn (T.item (cxC X (own ++ cap) scope H3.objs.size { s with heap := H3 } (upd H2 s.heap.objs.size (.lst [])) fp) rfl rfl rfl hc i [] s5 σ5 H5 _ I5 (stat fr5) st5 go) fun r s6 hq0 => ?_
      obtain ⟨u, hr, h6⟩ := hq0
      subst hr
      refine thn h6 fun _ s7 hq0 => ?_
      obtain ⟨x, H7, I7, r7, y7, st7, fr7⟩ := hq0
      have I7' := I7.pinned (stat fr7) (T.obj _ _ st7)
      refine wpAny_mono (hg _ _ _ _ _ s7 σ5 H7 x u _ I7' r7 (step x H7 y7)) (fun _ s8 hq0 => ?_) fun _ _ z => False.elim z
      obtain ⟨σ8, H8, I8, q8⟩ := hq0
      refine wpAny_mono (ht _ _ _ _ _ s8 σ8 H8 _ I8 q8) (fun ok s9 hq0 => ?_) fun _ _ z => False.elim z
      obtain ⟨H9, I9, q9⟩ := hq0
      have again : ∀ {s' : Shared} {σ' : St} {H' : Hp} {ys' : List V} {m' : Nat}, Inv (cxC X (own ++ cap) scope H3.objs.size { s with heap := H3 } (upd H2 s.heap.objs.size (.lst [])) fp) ([] ++ pinsAt fp s7.heap) σ' H' s' → m' < n → W (i + 1) m' σ' ys' H' →
          ∃ m, m < n ∧ ∃ i σ' ys H', Inv (cxC X (own ++ cap) scope H3.objs.size { s with heap := H3 } (upd H2 s.heap.objs.size (.lst [])) fp) [] σ' H' s' ∧ tn i s'.heap ∧ (∀ b ∈ fp, H' b = none) ∧ W i m σ' ys H' := fun {s' σ' H' ys' m'} I' hm w' => by
        refine ⟨m', hm, i + 1, σ', ys', H', I'.unpinned, T.keep _ _ _ st7 fun b hb o e => (I'.pin (b, o) (List.mem_append_right _ (List.mem_append_right _ (mem_pinsAt hb e)))).1, fun b hb => ?_, w'⟩
        obtain ⟨o, e, d⟩ := T.obj _ _ st7 b hb
        exact (I'.pin (b, o) (List.mem_append_right _ (List.mem_append_right _ (mem_pinsAt hb e)))).2.1
      cases ok with
      | false =>
        rw [if_neg Bool.false_ne_true] at q9 ⊢
        obtain ⟨_, m', hm, w'⟩ := q9
        exact again I9 hm w'
      | true =>
        rw [if_pos rfl] at q9 ⊢
        refine wpAny_mono (he _ _ _ _ _ s9 σ8 H9 _ I9 q9) (fun v s10 hq0 => ?_) fun _ _ z => False.elim z
        obtain ⟨y, H10, I10, r10, hD10, m', hm, w'⟩ := hq0
        refine wpAny_mono (mt_append (X := cxC X (own ++ cap) scope H3.objs.size { s with heap := H3 } (upd H2 s.heap.objs.size (.lst [])) fp) _ s10 σ8 H10 (.ref s.heap.objs.size) [y] (.ref s.heap.objs.size) [v] (fun _ H' => H' = upd H10 s.heap.objs.size (.lst (ys ++ [y]))) I10 rfl (.cons r10 .nil) ⟨_, ys, y, rfl, rfl, hD10, hz, rfl⟩)
          (fun _ s11 ⟨_, H11, I11, _, e11⟩ => ?_) fun _ _ z => False.elim z
        subst e11
        exact again I11 hm w'
  exact codeAny_compStart_list (loop _ rfl) (T.self _ 0 _ _ _ st4 (loop _ rfl))

theorem pe_comp {osc : Scope} (hc : X.calm = true) (S' : CompScope scope osc cap) (hix : ix.map (fun i => X.N[i]?) = cap.map some) (hi : PI X tg iter wi)
    (hg : ∀ C s H ex, PG (cxC X (own ++ cap) scope C s H ex) tg g) (ht : ∀ C s H ex, PIf (cxC X (own ++ cap) scope C s H ex) ifs tc) (he : ∀ C s H ex, PE (cxC X (own ++ cap) scope C s H ex) elt te)
    (hs : ∀ x, foldedSetIterable iter X.env x = pure x := by intro _; rfl) (ho : X.env.scope = osc := by rfl) : PE X (.ListComp elt [⟨tg, iter, ifs, 0⟩] scope pos) (tComp own ix wi g tc te) := by
  have S : CompScope scope X.env.scope cap := ho ▸ S'
  intro pins s σ H Q I h
  rw [eval_ListComp]
  refine wpAny_comprehension_free (use := none) rfl hs (closure_of I S) S.kind S.loc (thn (hi pins s σ H _ I h) fun xv s₁ h₁ => thn h₁ fun itv s₂ h₂ => ?_)
  refine comp_run (RR := fun acc C => compPost (model X.prog X.w) X.A X.xe none (EP X pins σ Q) acc C) hc S hix hg ht he h₂ fun D C s' H' m hn _ hI q => ?_
  exact ⟨m, hn, fun h' hs' => ⟨.ref D, H', hI h' hs', rfl, q⟩⟩
/-- name = [e for ..], on one line: the name is stored ahead of the block's end -/
theorem ps_setC {osc : Scope} {i : Nat} {y : Str} {py spos : Pos} (hc : X.calm = true) (hN : X.N.Nodup) (hi' : X.N[i]? = some y) (hy : X.env.scope.names.lookup y = some .local)
    (hsw : swapsWith (.ListComp elt [⟨tg, iter, ifs, 0⟩] scope pos) (some (.Name y py)) spos.line X.env = pure true) (S' : CompScope scope osc cap) (hix : ix.map (fun i => X.N[i]?) = cap.map some) (hi : PI X tg iter wi)
    (hg : ∀ C s H ex, PG (cxC X (own ++ cap) scope C s H ex) tg g) (ht : ∀ C s H ex, PIf (cxC X (own ++ cap) scope C s H ex) ifs tc) (he : ∀ C s H ex, PE (cxC X (own ++ cap) scope C s H ex) elt te)
    (hs : ∀ x, foldedSetIterable iter X.env x = pure x := by intro _; rfl) (ho : X.env.scope = osc := by rfl) : PS X (.Assign [.Name y py] (.ListComp elt [⟨tg, iter, ifs, 0⟩] scope pos) spos) (tAsg (tComp own ix wi g tc te) (gName i)) := by
  have S : CompScope scope X.env.scope cap := ho ▸ S'
  intro pins s σ H D I h
  rw [exec_Assign_Name_used _ _ _ _ hsw]
  refine wpAny_bind (wpAny_standAt (wpAny_bind ?_))
  show wpAny _ X.A (do let _ ← comprehension (.ListComp elt [⟨tg, iter, ifs, 0⟩] scope pos) scope X.env _ (newList []) false (eval iter X.env) (some (assign (.Name y py) X.env))) _ _ s
  refine wpAny_bind (wpAny_mono (wpAny_comprehension_free (use := some (assign (.Name y py) X.env)) (Q := fun _ s' => SP X pins D .next s') rfl hs (closure_of I S) S.kind S.loc
    (thn (hi pins s σ H _ I h) fun xv s₁ h₁ => thn h₁ fun itv s₂ h₂ => ?_)) (fun _ s' hq => wpAny_pure (wpAny_pure hq)) fun _ _ e => e)
  refine comp_run (RR := fun acc C => compPost (model X.prog X.w) X.A X.xe (some (assign (.Name y py) X.env)) (fun _ s' => SP X pins D .next s') acc C) hc S hix hg ht he h₂ fun D' C s' H' m hn hF hI q => ?_
  show wpAny _ X.A (assign (.Name y py) X.env (.ref D')) _ _ _
  have I' : Inv X pins σ H' s' := hI s'.heap (Heap.SameBut.refl ..)
  refine wpAny_assign_Name (store_ok2 I' hN hi' (.inl hy) (v := .ref D') rfl (fun s'' I'' hq0 => ?_) (.inr hy))
  obtain ⟨a, hs'', ha⟩ := hq0
  obtain ⟨f0, f1, f2, f3, f4, f5⟩ := hF
  have hCa : C ≠ a := by
    rcases ha with ha | ha
    · rw [ha]; exact f1
    · exact fun z => f4 _ _ ha z.symm
  exact ⟨m, hn.sameBut hs'' hCa, fun h' hs' => ⟨_, H', I''.turned (t' := s''.toks) (fun b o hb e => (hs'.2 b hb).trans e) f0 f1 f3 f4 f5, q⟩⟩
end

/-! ### walks over values that stay as they are -/
/-- J gives xs one by one and leaves the heap, where P holds -/
structure Fix (J : It) (xs : List V) (P : Hp → Prop) : Prop where
  go : ∀ i H, P H → i < xs.length → J.go i H
  yld : ∀ i H x H', P H → J.yld i H x H' → H' = H ∧ (i < xs.length → xs[i]? = some x)
  stop : ∀ i H, P H → xs.length ≤ i → J.stop i H
theorem fix_list {K : PySem.W.Frag} {a : Addr} {xs : List V} : Fix (Itl K a) xs (fun H => SqL K H a xs) :=
  ⟨fun i H h hi => ⟨xs, xs[i], h, by simp [hi]⟩, fun i H x H' h y => ⟨y.1, fun _ => y.2 xs h⟩, fun i H h hi => ⟨xs, h, hi⟩⟩
theorem fix_rng {lo : Int} {n : Nat} : Fix (Itr lo n) ((List.range n).map fun i => V.int (lo + (i : Nat))) (fun _ => True) :=
  ⟨fun i H h hi => by show i < n; simpa using hi, fun i H x H' h y => ⟨y.1, fun hi => by
    have hi' : i < n := by simpa using hi
    rw [List.getElem?_map, List.getElem?_range hi', y.2]; rfl⟩, fun i H h hi => by show n ≤ i; simpa using hi⟩

/-- a for over such values -/
theorem for_fix {J : It} {xs : List V} {P : Hp → Prop} {g : TG} {tb : TS} {D : Ends} {σ : St} {H : Hp} (F : Fix J xs P) (Pv : Nat → St → Hp → Prop) (h0 : Pv 0 σ H) (hP : ∀ i σ H, Pv i σ H → P H)
    (hs : ∀ i x σ H, xs[i]? = some x → Pv i σ H → g x σ H fun σ2 H2 => tb { D with nx := Pv (i + 1), ct := Pv (i + 1), bk := D.nx } σ2 H2) (hd : ∀ σ H, Pv xs.length σ H → D.nx σ H) :
    ∃ W : Nat → Nat → St → Hp → Prop, (∃ m, W 0 m σ H) ∧ ∀ i m σ H, W i m σ H →
      (J.stop i H ∧ D.nx σ H) ∨ (J.go i H ∧ ∃ N : St → Hp → Prop, (∀ σ' H', N σ' H' → ∃ m', m' < m ∧ W (i + 1) m' σ' H') ∧ ∀ x H', J.yld i H x H' → g x σ H' fun σ2 H2 => tb { D with nx := N, ct := N, bk := D.nx } σ2 H2) := by
  refine ⟨fun i m σ H => m = xs.length - i ∧ i ≤ xs.length ∧ Pv i σ H, ⟨xs.length, by simp, Nat.zero_le _, h0⟩, ?_⟩
  rintro i m σ H ⟨rfl, hi, p⟩
  by_cases hlt : i < xs.length
  · refine .inr ⟨F.go i H (hP i σ H p) hlt, Pv (i + 1), fun σ' H' p' => ⟨xs.length - (i + 1), by omega, rfl, hlt, p'⟩, fun x H' y => ?_⟩
    obtain ⟨e, y'⟩ := F.yld i H x H' (hP i σ H p) y
    subst e
    exact hs i x σ _ (y' hlt) p
  · have e : i = xs.length := by omega
    subst e
    exact .inl ⟨F.stop _ H (hP _ σ H p) (Nat.le_refl _), hd σ H p⟩

/-- a comprehension with one name over such values whose test and element change nothing -/
theorem comp_pure {J : It} {xs : List V} {P : Hp → Prop} {own : List Str} {ix : List Nat} {tc : TT} {te : TE} {σ : St} {H1 : Hp} {D : Addr} {Q : VK} (F : Fix J xs P) (p : V → Bool) (f : V → V)
    (hP : ∀ ys, P (upd H1 D (.lst ys))) (hz : xs.length ≤ sizeLine)
    (ht : ∀ x ∈ xs, ∀ ys (Q' : Bool → Hp → Prop), Q' (p x) (upd H1 D (.lst ys)) → tc ((st0 own ix σ).set 0 (some x)) (upd H1 D (.lst ys)) Q')
    (he : ∀ x ∈ xs, p x = true → ∀ ys (Q' : VK), Q' (f x) (upd H1 D (.lst ys)) → te ((st0 own ix σ).set 0 (some x)) (upd H1 D (.lst ys)) Q')
    (hQ : Q (.ref D) (upd H1 D (.lst ((xs.filter p).map f)))) : CompW own ix J (gName 0) tc te σ H1 D Q := by
  refine ⟨fun i m σ' ys H' => m = xs.length - i ∧ i ≤ xs.length ∧ (∀ z, σ'.set 0 z = (st0 own ix σ).set 0 z) ∧ ys = ((xs.take i).filter p).map f ∧ H' = upd H1 D (.lst ys),
    ⟨xs.length, by simp, Nat.zero_le _, fun _ => rfl, by simp, rfl⟩, ?_⟩
  rintro i m σ' ys H' ⟨rfl, hi, hσ, rfl, rfl⟩
  refine ⟨upd_same, ?_⟩
  by_cases hlt : i < xs.length
  · refine .inr ⟨F.go i _ (hP _) hlt, ?_, fun x H2 y => ?_⟩
    · rw [List.length_map]
      have h1 : ((xs.take i).filter p).length ≤ (xs.take i).length := List.length_filter_le _ _
      rw [List.length_take] at h1
      omega
    · obtain ⟨e, y'⟩ := F.yld i _ x H2 (hP _) y
      subst e
      have hx := y' hlt
      have hm : x ∈ xs := List.mem_of_getElem? hx
      have tk := take_succ_filter p xs i x hx
      show tc (σ'.set 0 (some x)) _ _
      rw [hσ]
      refine ht x hm _ _ ?_
      have σσ : ∀ z, ((st0 own ix σ).set 0 (some x)).set 0 z = (st0 own ix σ).set 0 z := fun z => List.set_set ..
      cases hp : p x with
      | true =>
        rw [if_pos rfl]
        refine he x hm hp _ _ ⟨upd_same, xs.length - (i + 1), by omega, rfl, hlt, σσ, ?_, ?_⟩
        · rw [tk, hp]; simp
        · rw [upd_upd]
      | false =>
        rw [if_neg Bool.false_ne_true]
        refine ⟨upd_same, xs.length - (i + 1), by omega, rfl, hlt, σσ, ?_, ?_⟩
        · rw [tk, hp]; simp
        · rfl
  · have e : i = xs.length := by omega
    subst e
    refine .inl ⟨F.stop _ _ (hP _) (Nat.le_refl _), ?_⟩
    rw [List.take_length]
    exact hQ

/-! ### for c in text -/
def sg (c : Nat) : V := .str ⟨#[c]⟩
def Its (x : Str) : It := ⟨fun i _ => i < x.length, fun i H v H' => H' = H ∧ ∃ c, x.cps.toList[i]? = some c ∧ v = sg c, fun i _ => x.length ≤ i⟩
theorem fix_str {x : Str} : Fix (Its x) (x.cps.toList.map sg) (fun _ => True) := by
  have hl : x.cps.toList.length = x.length := by simp [Str.length]
  refine ⟨fun i H _ hi => ?_, fun i H v H' _ y => ⟨y.1, fun _ => ?_⟩, fun i H _ hi => ?_⟩
  · rw [List.length_map, hl] at hi; exact hi
  · obtain ⟨_, c, hc, rfl⟩ := y
    rw [List.getElem?_map, hc]; rfl
  · rw [List.length_map, hl] at hi; exact hi
theorem turn_str {P : Program} {w : World} {K : PySem.W.Frag} {tg : Expr} (it : Addr) (x : Str) (t : Tok) (ty : String)
    (hty : ["enumerate", "zip", "dict_itemiterator", "dict_reverseitemiterator", "odict_iterator", "itertools.zip_longest", "itertools.pairwise"].contains ty = false)
    (hi : ∀ {A : Around} {E : Value → Shared → Prop} {s : Shared} {i c : Nat} {Q : Option Value → Shared → Prop}, s.heap.IsStrIter it ty x t i → x.cps[i]? = some c →
      (∀ h', h'.IsStrIter it ty x t (i + 1) → Heap.SameBut it s.heap h' → Q (some (.str ⟨#[c]⟩ s.toks)) { s with heap := h', toks := s.toks + 1 }) → wpAny (model P w) A (pyNext (.ref it)) Q E s)
    (hd : ∀ {A : Around} {E : Value → Shared → Prop} {s : Shared} {i : Nat} {Q : Option Value → Shared → Prop}, A.handled = none → s.heap.IsStrIter it ty x t i → x.cps[i]? = none →
      (∀ h', Heap.ExtBut it s.heap h' → Q none { s with heap := h' }) → wpAny (model P w) A (pyNext (.ref it)) Q E s)
    (hs : ∀ {A : Around} {E : Value → Shared → Prop} {s : Shared} {i : Nat} {Q : Value → Shared → Prop}, s.heap.IsStrIter it ty x t i → Q (.ref it) s → wpAny (model P w) A (pyIter (.ref it)) Q E s) :
    Turn P w K tg (Its x) [it] it (fun i h => h.IsStrIter it ty x t i) where
  mem := by simp
  obj := fun i h st b hb => by
    have e : b = it := by simpa using hb
    subst e
    obtain ⟨o, e, c, d⟩ := st
    exact ⟨o, e, fun v z => by rw [d] at z; cases z⟩
  keep := fun i h h' st k => let ⟨o, ho, r⟩ := st; ⟨o, k it (by simp) o ho, r⟩
  item := by
    intro X hP hw hK hc i pins s σ H E I hf st hg
    subst hP hw hK
    obtain ⟨f0, f1, f2, f3, f4, f5⟩ := hf it (by simp)
    have hg : i < x.cps.size := hg
    refine hi st (c := x.cps[i]) (by simp [hg]) fun h' st' sb => ?_
    have I1 : Inv X pins σ H { s with heap := h', toks := s.toks + 1 } := I.turned (fun b o hb e => (sb.2 b hb).trans e) f0 f1 f3 f4 f5
    obtain ⟨o, e, c, d⟩ := id st'
    exact ⟨_, rfl, go_of (s := { s with heap := h', toks := s.toks + 1 }) e c d hty ⟨sg x.cps[i], H, I1, ⟨_, rfl⟩, ⟨rfl, x.cps[i], by simp [hg], rfl⟩, st', fun b hb => (hf b hb).1⟩⟩
  done := by
    intro X hP hw hK hc i pins s σ H E I hf st hg
    subst hP hw hK
    obtain ⟨f0, f1, f2, f3, f4, f5⟩ := hf it (by simp)
    have hg : x.cps.size ≤ i := hg
    exact hd (I.ok.hd hc) st (by simpa using hg) fun h' eb => ⟨rfl, I.turned (t' := s.toks) (fun b o hb e => eb b o hb e) f0 f1 f3 f4 f5⟩
  self := fun _ _ _ _ _ st h => hs st h
def iStr (tl : TE) : TI := fun σ H R => tl σ H fun v H1 => ∃ x, v = .str x ∧ R (Its x) H1
theorem pi_str {X : Cx} {tg l : Expr} {tl : TE} (hl : PE X l tl) : PI X tg l (iStr tl) := by
  intro pins s σ H R I h
  refine thn (hl pins s σ H _ I h) fun v s1 hq0 => ?_
  obtain ⟨y, H1, I1, r1, q1⟩ := hq0
  obtain ⟨x, rfl, q⟩ := q1
  obtain ⟨t, rfl⟩ := r1
  have fin : ∀ (ty : String), (Turn X.prog X.w X.K tg (Its x) [s1.heap.objs.size] s1.heap.objs.size (fun i h => h.IsStrIter s1.heap.objs.size ty x t i)) →
      PIE X pins σ tg R (.ref s1.heap.objs.size) { s1 with heap := s1.heap.push { cls := .type ty, data := .fields #[.str x t, .int 0 0] } } := fun ty T => by
    refine ⟨s1.heap.objs.size, [s1.heap.objs.size], _, _, H1, rfl, I1.kept (t' := s1.toks) fun b o e => Heap.get?_push_of_some _ e, T, ⟨_, Heap.get?_push_size _ rfl, rfl, rfl⟩, fun b hb => ?_, q⟩
    have e : b = s1.heap.objs.size := by simpa using hb
    subst e
    exact I1.fpOk (Nat.le_refl _) (I1.hok.fresh (Nat.le_refl _))
  cases ha : x.cps.all (· < 128)
  · exact wpAny_pyIter_wide ha (fin "str_iterator" (turn_str _ x t _ (by decide) wpAny_pyNext_wide_item wpAny_pyNext_wide_end wpAny_pyIter_striter_wide))
  · exact wpAny_pyIter_ascii ha (fin "str_ascii_iterator" (turn_str _ x t _ (by decide) wpAny_pyNext_ascii_item wpAny_pyNext_ascii_end wpAny_pyIter_striter_ascii))

/-! ### some of Python's own -/
section
variable {X : Cx}
theorem boolsAre_of : ∀ {bs : List Bool} {us : List Value}, Vals (bs.map V.bl) us → us = bs.map Value.bool
  | [], _, r => by cases r; rfl
  | b :: bs, _, r => by
    cases r with
    | cons r1 r2 => rw [show _ = Value.bool b from r1, boolsAre_of r2]; rfl
theorem all_range (bs : List Bool) : ((List.range bs.length).all fun i => (bs[i]?).getD true) = bs.all id := by
  rw [Bool.eq_iff_iff, List.all_eq_true, List.all_eq_true]
  constructor
  · intro h b hb
    obtain ⟨i, hi, e⟩ := List.mem_iff_getElem.mp hb
    have := h i (List.mem_range.mpr hi)
    rw [List.getElem?_eq_getElem hi, Option.getD_some, e] at this
    exact this
  · intro h i hi
    have hi' := List.mem_range.mp hi
    rw [List.getElem?_eq_getElem hi', Option.getD_some]
    exact h _ (List.getElem_mem hi')
/-- all of a list of bools -/
theorem call_allB (hc : X.calm = true) : CallR X (.builtin "all") (fun xs H Q => ∃ (a : Addr) (bs : List Bool), xs = [V.ref a] ∧ SqL X.K H a (bs.map V.bl) ∧ Q (.bl (bs.all id)) H) := by
  intro pins s σ H xs us Q I r h
  obtain ⟨a, bs, rfl, ha, q⟩ := h
  obtain ⟨u, rfl, ru⟩ := vals1 r
  cases ru
  obtain ⟨its, rv, pl, hz⟩ := I.list ha
  have e : its = bs.map Value.bool := boolsAre_of rv
  subst e
  have hl := pl.isList
  have hlt : a < s.heap.objs.size := by obtain ⟨_, e, _⟩ := hl; exact Heap.lt_size e
  refine call_all_walk (wpAny_pyIter_list hl ?_)
  refine ⟨s.heap.objs.size, [s.heap.objs.size, a], [s.heap.objs.size], (bs.map Value.bool).toArray.size, _, _, fun i => (bs[i]?).getD true, rfl, Walks.list (A := X.A.in1) (I.ok.hd hc) _ a (Nat.ne_of_lt hlt) (bs.map Value.bool).toArray,
    ⟨⟨_, Heap.get?_push_size _ rfl, rfl, rfl⟩, hl.push _⟩, fun i v s' Q' E' hP hQ => ?_, fun h' tk hk => ?_⟩
  · have hP' : (bs.map Value.bool)[i]? = some v := by simpa using hP
    rw [List.getElem?_map] at hP'
    cases e : bs[i]? with
    | none => rw [e] at hP'; cases hP'
    | some b =>
      rw [e] at hP'
      cases hP'
      simp only [e, Option.getD_some] at hQ
      exact wpAny_truthy_bool hQ
  · have e : ((List.range (bs.map Value.bool).toArray.size).all fun i => (bs[i]?).getD true) = bs.all id := by
      rw [List.size_toArray, List.length_map]; exact all_range bs
    rw [e]
    refine ⟨.bl (bs.all id), H, ?_, rfl, q⟩
    exact I.kept fun b o eb => hk b o (fun z => by rw [List.mem_singleton.mp z] at eb; exact absurd (Heap.lt_size eb) (Nat.lt_irrefl _)) (Heap.get?_push_of_some _ eb)
/-- int of a text that writes a number -/
theorem call_intT : CallR X (.type "int") (fun xs H Q => ∃ x n, xs = [V.str x] ∧ PySem.intText? x = some n ∧ x.length ≤ 640 ∧ Q (.int n) H) := by
  intro pins s σ H xs us Q I r h
  obtain ⟨x, n, rfl, hn, hl, q⟩ := h
  obtain ⟨u, rfl, t, rfl⟩ := vals1 r
  exact PySem.W.KIN.call_text hn hl ⟨.int n, H, I.tok _, ⟨_, rfl⟩, q⟩
theorem mt_starts : MtR X "str.startswith" (fun x xs H Q => ∃ a b, x = V.str a ∧ xs = [V.str b] ∧ Q (.bl (Txt.startswith a b)) H) := by
  intro pins s σ H x xs v us Q I rx rs h
  obtain ⟨a, b, rfl, rfl, q⟩ := h
  obtain ⟨t, rfl⟩ := rx
  obtain ⟨u, rfl, t', rfl⟩ := vals1 rs
  exact SC.startswith ⟨.bl _, H, I, rfl, q⟩
theorem strsAre_of : ∀ {ys : List Str} {us : List Value}, Vals (ys.map V.str) us → StrsAre us ys
  | [], _, r => by cases r; exact .nil
  | y :: ys, _, r => by
    cases r with
    | cons r1 r2 =>
      obtain ⟨t, rfl⟩ := r1
      exact .cons y t (strsAre_of r2)
theorem mt_join : MtR X "str.join" (fun x xs H Q => ∃ (sep : Str) (p : Addr) (ys : List Str), x = V.str sep ∧ xs = [V.ref p] ∧ SqL X.K H p (ys.map V.str) ∧ (ys.map (·.length)).sum + ys.length * sep.length ≤ 16777216 ∧ Q (.str (Txt.join sep ys)) H) := by
  intro pins s σ H x xs v us Q I rx rs h
  obtain ⟨sep, p, ys, rfl, rfl, hp, hz, q⟩ := h
  obtain ⟨t, rfl⟩ := rx
  obtain ⟨u, rfl, ru⟩ := vals1 rs
  cases ru
  obtain ⟨its, rv, pl, _⟩ := I.list hp
  exact PyProof.Rows.join_list pl.isList (by simpa using strsAre_of rv) hz fun t' k => ⟨.str _, H, I.tok _, ⟨_, rfl⟩, q⟩
def rSlS : V → Option Int → Option Int → Hp → VK → Prop := fun x lo hi H Q => ∃ z, x = .str z ∧ z.length ≤ sizeLine ∧ Q (.str (Txt.slice z lo hi)) H
theorem sl_str : SlR X rSlS := by
  intro pins s σ H x v vl vu lo hi sl Q I rx hs pl pu h
  obtain ⟨z, rfl, hz, q⟩ := h
  obtain ⟨t, rfl⟩ := rx
  refine ⟨"str", _, F.slot_str_getitem.lookup, typeIs_str _ _ _, ?_⟩
  have fin : ∀ (t' : Tok) (k : Nat), EP X pins σ Q (.str (Txt.slice z lo hi) t') { s with toks := k } := fun t' k => ⟨.str _, H, I.tok k, ⟨_, rfl⟩, q⟩
  obtain ⟨o, ho, hcl, hd⟩ := hs
  cases pl <;> cases pu
  · exact wpAny_getItem_str_slice (l := none) (u := none) (st := none) ⟨o, ho, hcl, hd⟩ rfl (post_val_or_str ⟨Nat.le_trans (Txt.slice_le z _ _) hz, fin⟩)
  · exact wpAny_getItem_str_slice (l := none) (u := some (_, _)) (st := none) ⟨o, ho, hcl, hd⟩ rfl (post_val_or_str ⟨Nat.le_trans (Txt.slice_le z _ _) hz, fin⟩)
  · exact wpAny_getItem_str_slice (l := some (_, _)) (u := none) (st := none) ⟨o, ho, hcl, hd⟩ rfl (post_val_or_str ⟨Nat.le_trans (Txt.slice_le z _ _) hz, fin⟩)
  · exact wpAny_getItem_str_slice (l := some (_, _)) (u := some (_, _)) (st := none) ⟨o, ho, hcl, hd⟩ rfl (post_val_or_str ⟨Nat.le_trans (Txt.slice_le z _ _) hz, fin⟩)
/-- isinstance(x, T), T one of Python's own -/
theorem call_isi : CallR X (.builtin "isinstance") (fun xs H Q => ∃ x t n b, xs = [x, V.ty n] ∧ TyOf X.K H x t ∧ PySem.W.kitOne X.K t (.type n) = some b ∧ Q (.bl b) H) := by
  intro pins s σ H xs us Q I r h
  obtain ⟨x, t, n, b, rfl, ty, e, q⟩ := h
  obtain ⟨u, w', rfl, ru, rw'⟩ := vals2 r
  cases rw'
  exact isinst_ok I ru ty e fun tk => ⟨.bl b, H, I.tok tk, rfl, q⟩
end
end L2

/-! SHORT WORDS: a def of the text by its name, its promise, a call of it. -/
namespace L2
open PySem PySem.Spec PyProof.Rows
/-! lists of a length that is known: no matcher is laid -/
theorem len1 {Pl : List Value → Prop} (h : ∀ a, Pl [a]) : ∀ us : List Value, us.length = 1 → Pl us
  | [a], _ => h a
theorem len2 {Pl : List Value → Prop} (h : ∀ a b, Pl [a, b]) : ∀ us : List Value, us.length = 2 → Pl us
  | [a, b], _ => h a b
theorem len3 {Pl : List Value → Prop} (h : ∀ a b c, Pl [a, b, c]) : ∀ us : List Value, us.length = 3 → Pl us
  | [a, b, c], _ => h a b c
theorem len4 {Pl : List Value → Prop} (h : ∀ a b c d, Pl [a, b, c, d]) : ∀ us : List Value, us.length = 4 → Pl us
  | [a, b, c, d], _ => h a b c d

/-- the def x of the text, as the top has left it -/
def Df (K : PySem.W.Frag) (mg : Str → Option Value) (x : Str) (st : Stmt) (ps : List Str) : Prop :=
  ∃ (f : Addr) (fd : FuncData), Fun K x x st f fd ∧ mg x = some (.ref f) ∧ ∀ us : List Value, us.length = ps.length → bindArgs fd ⟨us, []⟩ = pure (ps.zip us)
theorem df_mk {K : PySem.W.Frag} {h : Heap} {mg : Str → Option Value} (X : K.In h) (G : h.Ns mainGlobals mg) {x : Str} {st : Stmt} {ps : List Str} {f : Addr} {oc kV dc pm cd ct : Value} {od an : Option Addr} {sl : Array (Option Value)}
    (hb : ∀ (kV doc pm : Value) (an : Option Addr) (cdv ct : Value) (us : List Value), us.length = ps.length → bindArgs (PySem.W.fnOf x x (defArgs st) (defBody st) (defScope st) .none kV doc pm an cdv ct) ⟨us, []⟩ = pure (ps.zip us))
    (a : PySem.W.nsIn K mainGlobals x = some (some (.ref f))) (l : K.lookup f = some ⟨oc, od, .func (PySem.W.fnOf x x (defArgs st) (defBody st) (defScope st) .none kV dc pm an cd ct), sl⟩) (c : PySem.W.codeIn K cd x = true) (k : PySem.W.keepIn K (.ref f) = true) : Df K mg x st ps :=
  ⟨f, _, fun_mk l c k, PySem.W.mg_of X G a, fun us hl => hb kV dc pm an cd ct us hl⟩
theorem const_mk {K : PySem.W.Frag} {h : Heap} {mg : Str → Option Value} (X : K.In h) (G : h.Ns mainGlobals mg) {x : Str} {u : Value} (a : PySem.W.nsIn K mainGlobals x = some (some u)) : mg x = some u := PySem.W.mg_of X G a
theorem rel_mk {K : PySem.W.Frag} {h : Heap} {mg : Str → Option Value} (X : K.In h) (G : h.Ns mainGlobals mg) {x : Str} {u : Value} {v : V} (a : PySem.W.nsIn K mainGlobals x = some (some u)) (r : RelV v u) : ∃ u, mg x = some u ∧ RelV v u := ⟨u, PySem.W.mg_of X G a, r⟩
theorem blt_mk {K : PySem.W.Frag} {h : Heap} {mg : Str → Option Value} (X : K.In h) (G : h.Ns mainGlobals mg) {x : Str} (a : PySem.W.nsIn K mainGlobals x = some none) : mg x = none := PySem.W.mg_none_of X G a
/-- what a def promises -/
def Has (P : Program) (w : World) (K : PySem.W.Frag) (mg : Str → Option Value) (base : Heap) (x : Str) (ps : List Str) (k : Nat) (sp : Sp) : Prop :=
  ∃ (f : Addr) (fd : FuncData), mg x = some (.ref f) ∧ PySem.W.keepIn K (.ref f) = true ∧ (∃ oc od osl, K.lookup f = some ⟨oc, od, .func fd, osl⟩) ∧ (∀ us : List Value, us.length = ps.length → bindArgs fd ⟨us, []⟩ = pure (ps.zip us)) ∧ FnOk P w K mg base CX0 k f fd ps sp
section
variable {P : Program} {w : World} {K : PySem.W.Frag} {mg : Str → Option Value} {base : Heap}
/-- THE RULE: a def keeps its promise, by its body -/
theorem Df.has {x : Str} {st : Stmt} {N ps : List Str} {k : Nat} {sp : Sp} (D : Df K mg x st ps) (S : FnScope N ps (defScope st)) (len : ∀ vs H Q E, sp vs H Q E → vs.length = ps.length)
    (hbody : ∀ (f : Addr) (cdv : Value) (A : Around) (outer : List Env) (s : Shared) (H : Hp) (vs : List V) (Q : VK) (E : XK), Room k (A.deeper (envOfC x (defScope st) s.heap.objs.size f cdv)) → sp vs H Q E →
      ∃ t, PSs (cxOf CX0 P w K mg base N x (defScope st) f cdv A outer s H E).nox (defBody st) t ∧ t { nx := fun _ H' => Q .non H', rt := Q } (start N vs) H) : Has P w K mg base x ps (k + 1) sp := by
  obtain ⟨f, fd, F, a, b⟩ := D
  obtain ⟨oc, od, kV, doc, pm, an, cdv, ct, osl, e, lk, hcd⟩ := id F.ex
  exact ⟨f, fd, a, F.kp, ⟨oc, od, osl, lk⟩, b, F.ok S len (hbody f)⟩
end
section
variable {X : Cx} {k : Nat} {ps : List Str} {sp : Sp} {x : Str} {p pos : Pos} {e : Expr} {es : List Expr} {t : TA}
/-- f(e, ..) of a def that has promised -/
theorem pe_fn (F : Has X.prog X.w X.K X.mg X.base x ps k sp) (hr : Room k X.A) (hg : Gl X x) (ha : PA X (e :: es) t) (hdb : (x == ("__debug__" : Str)) = false := by decide)
    (he : starEach (e :: es) X.env = (false, eval e X.env) :: starEach es X.env := by rfl) (hpl : (backTo pos (starEach es X.env)).any (·.1) = false := by rfl) : PE X (.Call (.Name x p) (e :: es) [] pos) (tCall sp [] E0 t) := by
  obtain ⟨f, fd, a, kp, lk, b, G⟩ := F
  exact pe_call G hr hg a kp (.all b) .nil pass0 ha hdb he hpl
end
/-- THE HEAD of a law of one script of at most 63 ints -/
theorem law_walk {l : PySem.W.OpenLaw} {q : Program} {loose : List Str} {XP : (Str → Option Value) → Heap → Prop} {YP : World → Heap → Prop} {d : DefRec} {K : Params → PySem.W.Frag} {k : Nat} {x : Str} {sp : PySem.W.Frag → Sp}
    (hn : l.most = some 63) (hdf : d.params.defaults = []) (hr : Room k callerA) (hY : ∀ (w : World) (h : Heap), YP w h → (K w.params).In h)
    (hsp : ∀ (K : PySem.W.Frag) (H : Hp) (a : Addr) (ns : List Int), ns.length ≤ 63 → SqL K H a (ns.map V.int) → sp K [.ref a] H (fun v _ => v = .bl true) fun _ _ _ => False)
    (F : ∀ (w : World) (mg : Str → Option Value) (h : Heap), (K w.params).In h → h.Ns mainGlobals mg → ∀ base : Heap, (K w.params).In base → base.Ns mainGlobals mg → Has l.prog w (K w.params) mg base d.name [x] k (sp (K w.params))) :
    PySem.W.WalkO q loose XP YP l.row.toRowW d [] (fun f vs => PySem.call f vs) := by
  refine L2.walk_ofK (n := 63) (k := k) (x := x) (CX := CX0) (sp := sp) hn (by decide) hdf hr hY (fun w mg fa h KX G hmg => ?_) (fun K H a ns hl _ hS => hsp K H a ns hl hS) fun _ _ _ _ z => z
  obtain ⟨f, fd, a, kp, ⟨oc, od, osl, lk⟩, b, _⟩ := F w mg h KX G h KX G
  have ef : fa = f := by
    rw [hmg] at a
    cases a; rfl
  subst ef
  refine ⟨fd, fun s u => .of_eq (b [u] rfl), fun base kb nb => ?_⟩
  obtain ⟨f', fd', a', kp', ⟨oc', od', osl', lk'⟩, b', G'⟩ := F w mg h KX G base kb nb
  have ef : f' = fa := by
    rw [hmg] at a'
    cases a'; rfl
  subst ef
  rw [lk] at lk'
  cases lk'
  exact G'
end L2

/-! == of lists and tuples at any depth; in, not in over such items; sorted of two ints; str of a word. -/
namespace L2
open PySem PySem.Spec PyProof.Rows
/-- x == y comes out as b, at most n levels deep -/
inductive DEq (K : PySem.W.Frag) (H : Hp) : Nat → V → V → Bool → Prop where
  | flat {n : Nat} {x y : V} (fx : flatV x = true) (fy : flatV y = true) : DEq K H n x y (eqV x y)
  | lst {n : Nat} {a b : Addr} {xs ys : List V} (e : Nat → Bool) (hx : SqL K H a xs) (hy : SqL K H b ys) (hl : xs.length = ys.length) (he : ∀ (i : Nat) x y, xs[i]? = some x → ys[i]? = some y → DEq K H n x y (e i)) :
      DEq K H (n + 1) (.ref a) (.ref b) ((List.range xs.length).all e)
  | lstN {n : Nat} {a b : Addr} {xs ys : List V} (hx : SqL K H a xs) (hy : SqL K H b ys) (hl : xs.length ≠ ys.length) : DEq K H (n + 1) (.ref a) (.ref b) false
  | tup {n : Nat} {a b : Addr} {xs ys : List V} (e : Nat → Bool) (hx : SqT K H a xs) (hy : SqT K H b ys) (he : ∀ (i : Nat) x y, xs[i]? = some x → ys[i]? = some y → DEq K H n x y (e i)) :
      DEq K H (n + 1) (.ref a) (.ref b) ((List.range (min xs.length ys.length)).all e && xs.length == ys.length)
  | lt {n : Nat} {a b : Addr} {xs ys : List V} (hx : SqL K H a xs) (hy : SqT K H b ys) : DEq K H (n + 1) (.ref a) (.ref b) false
  | tl {n : Nat} {a b : Addr} {xs ys : List V} (hx : SqT K H a xs) (hy : SqL K H b ys) : DEq K H (n + 1) (.ref a) (.ref b) false
theorem eqV_refl {x : V} (h : flatV x = true) : eqV x x = true := by
  cases x <;> first | rfl | (simp [flatV] at h; done) | (simp [eqV]; done)
section
variable {X : Cx} {pins : List (Addr × Obj)} {σ : St} {H : Hp} {s : Shared}
theorem notBoth (I : Inv X pins σ H s) {a : Addr} {xs ys : List V} (hx : SqL X.K H a xs) (hy : SqT X.K H a ys) : False := by
  obtain ⟨its, _, ⟨o, n, e, c, _, _⟩, _⟩ := I.list hx
  obtain ⟨its', _, ⟨o', e', c', _⟩, _⟩ := I.tuple hy
  rw [e] at e'
  cases e'
  rw [c] at c'
  injection c' with c'
  exact absurd c' (by decide)
theorem DEq.refl (I : Inv X pins σ H s) {n : Nat} {x y : V} {b : Bool} (h : DEq X.K H n x y b) : x = y → b = true := by
  induction h with
  | flat fx fy => intro e; subst e; exact eqV_refl fx
  | lst e hx hy hl he ih =>
    intro q
    cases q
    have := I.list_inj hx hy
    subst this
    rw [List.all_eq_true]
    intro i hi
    have hi := List.mem_range.mp hi
    exact ih i _ _ (List.getElem?_eq_getElem hi) (List.getElem?_eq_getElem hi) rfl
  | lstN hx hy hl =>
    intro q
    cases q
    exact absurd (congrArg List.length (I.list_inj hx hy)) hl
  | tup e hx hy he ih =>
    intro q
    cases q
    have := I.tuple_inj hx hy
    subst this
    rw [Nat.min_self, beq_self_eq_true, Bool.and_true, List.all_eq_true]
    intro i hi
    have hi := List.mem_range.mp hi
    exact ih i _ _ (List.getElem?_eq_getElem hi) (List.getElem?_eq_getElem hi) rfl
  | lt hx hy => intro q; cases q; exact (notBoth I hx hy).elim
  | tl hx hy => intro q; cases q; exact (notBoth I hy hx).elim
theorem in1_units (A : Around) : A.in1.units ≤ A.units + 1 := by
  first
    | exact Nat.le_refl _
    | exact Nat.le_succ _
    | (unfold Around.in1; simp)
/-- of the objects themselves; as an item -/
theorem DEq.at (I : Inv X pins σ H s) {n : Nat} {x y : V} {b : Bool} (h : DEq X.K H n x y b) : ∀ {u v : Value} {A : Around}, RelV x u → RelV y v → A.units + n < cLine →
    SeqAt.EqAt A s u v b ∧ ((∃ p q, x = .ref p ∧ y = .ref q) → SeqAt.RcAt A s u v b) := by
  induction h with
  | flat fx fy =>
    intro u v A ru rv hu
    refine ⟨eqAt_V ru rv fx fy, fun hq0 => ?_⟩
    obtain ⟨p, q, e, _⟩ := hq0
    subst e
    cases fx
  | @lst n a b xs ys e hx hy hl he ih =>
    intro u v A ru rv hu
    cases ru
    cases rv
    obtain ⟨its, r1, p1, _⟩ := I.list hx
    obtain ⟨its2, r2, p2, _⟩ := I.list hy
    have l1 := r1.length
    have l2 := r2.length
    have h1 := in1_units A
    have rc : SeqAt.RcAt A s (.ref a) (.ref b) ((List.range xs.length).all e) := by
      have := SeqAt.RcAt.lists (A := A) (e := e) p1.isList p2.isList (by simp; omega) (by omega) (fun j j1 j2 => by
        have g1 : xs[j]? = some (xs[j]'(by simp at j1; omega)) := List.getElem?_eq_getElem _
        have g2 : ys[j]? = some (ys[j]'(by simp at j2; omega)) := List.getElem?_eq_getElem _
        obtain ⟨w1, q1, t1⟩ := r1.get g1
        obtain ⟨w2, q2, t2⟩ := r2.get g2
        have := (ih j _ _ g1 g2 t1 t2 (A := A.in1) (by omega)).1
        have z1 : its.toArray[j] = w1 := by
          have := List.getElem?_eq_some_iff.mp q1
          obtain ⟨_, z⟩ := this
          simpa using z
        have z2 : its2.toArray[j] = w2 := by
          have := List.getElem?_eq_some_iff.mp q2
          obtain ⟨_, z⟩ := this
          simpa using z
        rw [z1, z2]
        exact this)
      have es : its.toArray.size = xs.length := by simp; omega
      rw [es] at this
      exact this
    refine ⟨?_, fun _ => rc⟩
    by_cases hab : a = b
    · subst hab
      have := (DEq.lst e hx hy hl he).refl I rfl
      rw [this]
      exact .same _
    · exact .of_refs hab rc
  | @lstN n a b xs ys hx hy hl =>
    intro u v A ru rv hu
    cases ru
    cases rv
    obtain ⟨its, r1, p1, _⟩ := I.list hx
    obtain ⟨its2, r2, p2, _⟩ := I.list hy
    have l1 := r1.length
    have l2 := r2.length
    have rc : SeqAt.RcAt A s (.ref a) (.ref b) false := SeqAt.RcAt.lists_lengths p1.isList p2.isList (by simp; omega) (by omega)
    refine ⟨?_, fun _ => rc⟩
    by_cases hab : a = b
    · subst hab
      exact absurd (congrArg List.length (I.list_inj hx hy)) hl
    · exact .of_refs hab rc
  | @tup n a b xs ys e hx hy he ih =>
    intro u v A ru rv hu
    cases ru
    cases rv
    obtain ⟨its, r1, p1, _⟩ := I.tuple hx
    obtain ⟨its2, r2, p2, _⟩ := I.tuple hy
    have l1 := r1.length
    have l2 := r2.length
    have h1 := in1_units A
    have rc : SeqAt.RcAt A s (.ref a) (.ref b) ((List.range (min xs.length ys.length)).all e && xs.length == ys.length) := by
      have := SeqAt.RcAt.tuples (A := A) (e := e) (show s.heap.IsTuple a its.toArray from p1) (show s.heap.IsTuple b its2.toArray from p2) (by omega) (fun j j1 j2 => by
        have g1 : xs[j]? = some (xs[j]'(by simp at j1; omega)) := List.getElem?_eq_getElem _
        have g2 : ys[j]? = some (ys[j]'(by simp at j2; omega)) := List.getElem?_eq_getElem _
        obtain ⟨w1, q1, t1⟩ := r1.get g1
        obtain ⟨w2, q2, t2⟩ := r2.get g2
        have := (ih j _ _ g1 g2 t1 t2 (A := A.in1) (by omega)).1
        have z1 : its.toArray[j] = w1 := by
          have := List.getElem?_eq_some_iff.mp q1
          obtain ⟨_, z⟩ := this
          simpa using z
        have z2 : its2.toArray[j] = w2 := by
          have := List.getElem?_eq_some_iff.mp q2
          obtain ⟨_, z⟩ := this
          simpa using z
        rw [z1, z2]
        exact this)
      have es : its.toArray.size = xs.length := by simp; omega
      have es2 : its2.toArray.size = ys.length := by simp; omega
      rw [es, es2] at this
      exact this
    refine ⟨?_, fun _ => rc⟩
    by_cases hab : a = b
    · subst hab
      have := (DEq.tup e hx hy he).refl I rfl
      rw [this]
      exact .same _
    · exact .of_refs hab rc
  | @lt n a b xs ys hx hy =>
    intro u v A ru rv hu
    cases ru
    cases rv
    obtain ⟨its, r1, p1, _⟩ := I.list hx
    obtain ⟨its2, r2, p2, _⟩ := I.tuple hy
    exact ⟨SeqAt.EqAt.list_tuple p1.isList (show s.heap.IsTuple b its2.toArray from p2) (by omega), fun _ => SeqAt.RcAt.list_tuple p1.isList (show s.heap.IsTuple b its2.toArray from p2) (by omega)⟩
  | @tl n a b xs ys hx hy =>
    intro u v A ru rv hu
    cases ru
    cases rv
    obtain ⟨its, r1, p1, _⟩ := I.tuple hx
    obtain ⟨its2, r2, p2, _⟩ := I.list hy
    exact ⟨SeqAt.EqAt.tuple_list (show s.heap.IsTuple a its.toArray from p1) p2.isList (by omega), fun _ => SeqAt.RcAt.tuple_list (show s.heap.IsTuple a its.toArray from p1) p2.isList (by omega)⟩
end
section
variable {X : Cx} {pins : List (Addr × Obj)} {σ : St} {H : Hp} {s : Shared}
end
section
variable {X : Cx}
/-- == of two lists or tuples -/
def rEqD (K : PySem.W.Frag) : R2 := fun x y H Q => ∃ p q b, x = .ref p ∧ y = .ref q ∧ DEq K H 8 x y b ∧ Q (.bl b) H
theorem op_eqD (hu : X.A.units + 9 < cLine) : OpR X (compareOp .Eq) (rEqD X.K) := by
  intro pins s σ H x y v u Q I rx ry h
  obtain ⟨p, q, b, rfl, rfl, d, hq⟩ := h
  exact (d.at I rx ry (A := X.A) (by omega)).2 ⟨p, q, rfl, rfl⟩ X.prog X.w _ _ ⟨.bl b, H, I, rfl, hq⟩
/-- x in a list (or tuple) whose items may be lists and tuples -/
def rInD (K : PySem.W.Frag) (neg : Bool) : R2 := fun x y H Q => ∃ (p : Addr) (xs : List V) (e : V → Bool), y = .ref p ∧ (SqL K H p xs ∨ SqT K H p xs) ∧ (∀ z ∈ xs, DEq K H 8 z x (e z)) ∧ Q (.bl (if neg then !xs.any e else xs.any e)) H
theorem valsMem : ∀ {xs : List V} {us : List Value} {u : Value}, Vals xs us → u ∈ us → ∃ x ∈ xs, RelV x u
  | _, _, _, .cons r t, h => by
    rcases List.mem_cons.mp h with h | h
    · subst h; exact ⟨_, List.mem_cons_self .., r⟩
    · obtain ⟨x, hx, q⟩ := valsMem t h
      exact ⟨x, List.mem_cons_of_mem _ hx, q⟩
def absE (e : V → Bool) (u : Value) : Bool := match absV u with
  | some x => e x
  | none => false
theorem absE_of {e : V → Bool} {x : V} {u : Value} (r : RelV x u) : absE e u = e x := by unfold absE; rw [r.abs]
theorem any_abs {e : V → Bool} : ∀ {xs : List V} {us : List Value}, Vals xs us → us.any (absE e) = xs.any e
  | _, _, .nil => rfl
  | _, _, .cons r t => by rw [List.any_cons, List.any_cons, absE_of r, any_abs t]
theorem op_inD (hu : X.A.units + 10 < cLine) : OpR X (compareOp .In) (rInD X.K false) := by
  intro pins s σ H x y v u Q I rx ry h
  obtain ⟨p, xs, e, rfl, hq, hd, q⟩ := h
  cases ry
  have h1 := in1_units X.A
  have items : ∀ {its : List Value}, Vals xs its → ∀ z, z ∈ its.toArray → SeqAt.EqAt X.A.in1 s z v (absE e z) := fun {its} r z hz => by
    obtain ⟨x', hx', rz⟩ := valsMem r (by simpa using hz)
    rw [absE_of rz]
    exact ((hd x' hx').at I rz rx (A := X.A.in1) (by omega)).1
  rcases hq with hq | hq
  · obtain ⟨its, r, pl, hz⟩ := I.list hq
    refine SeqAt.in_listAt (absE e) pl.isList (items r) ⟨.bl _, H, I, rfl, ?_⟩
    rw [show its.toArray.any (absE e) = its.any (absE e) by simp, any_abs r]
    exact q
  · obtain ⟨its, r, pl, hz⟩ := I.tuple hq
    refine SeqAt.in_tupleAt (absE e) pl (items r) ⟨.bl _, H, I, rfl, ?_⟩
    rw [show its.toArray.any (absE e) = its.any (absE e) by simp, any_abs r]
    exact q
theorem op_notInD (hu : X.A.units + 10 < cLine) : OpR X (compareOp .NotIn) (rInD X.K true) := by
  intro pins s σ H x y v u Q I rx ry h
  obtain ⟨p, xs, e, rfl, hq, hd, q⟩ := h
  cases ry
  have h1 := in1_units X.A
  have items : ∀ {its : List Value}, Vals xs its → ∀ z, z ∈ its.toArray → SeqAt.EqAt X.A.in1 s z v (absE e z) := fun {its} r z hz => by
    obtain ⟨x', hx', rz⟩ := valsMem r (by simpa using hz)
    rw [absE_of rz]
    exact ((hd x' hx').at I rz rx (A := X.A.in1) (by omega)).1
  rcases hq with hq | hq
  · obtain ⟨its, r, pl, hz⟩ := I.list hq
    refine SeqAt.notIn_listAt (absE e) pl.isList (items r) ⟨.bl _, H, I, rfl, ?_⟩
    rw [show its.toArray.any (absE e) = its.any (absE e) by simp, any_abs r]
    exact q
  · obtain ⟨its, r, pl, hz⟩ := I.tuple hq
    refine SeqAt.notIn_tupleAt (absE e) pl (items r) ⟨.bl _, H, I, rfl, ?_⟩
    rw [show its.toArray.any (absE e) = its.any (absE e) by simp, any_abs r]
    exact q
end
end L2
namespace L2
open PySem PySem.Spec PyProof.Rows
/-! ### words, rows, sorted, comprehensions whose elements make things -/
def wordS : V → Str
  | .str x => x
  | .int i => Str.ofString (toString i)
  | _ => Str.empty
def Wd (v : V) : Prop := (∃ x, v = .str x ∧ x.length ≤ 100) ∨ ∃ i : Int, v = .int i ∧ i.natAbs < 10 ^ 60
theorem Wd.flat {v : V} (h : Wd v) : flatV v = true := by
  rcases h with ⟨x, rfl, _⟩ | ⟨i, rfl, _⟩ <;> rfl
theorem log_of {i : Int} (h : i.natAbs < 10 ^ 60) : i.natAbs.log2 < 1920 := by
  by_cases h0 : i.natAbs = 0
  · rw [h0]; decide
  · exact (Nat.log2_lt h0).mpr (Nat.lt_of_lt_of_le h (by decide))
section
variable {X : Cx}
theorem call_strW : CallR X (.type "str") (fun xs H Q => ∃ v, xs = [v] ∧ Wd v ∧ Q (.str (wordS v)) H) := by
  intro pins s σ H xs us Q I r h
  obtain ⟨v, rfl, hv, q⟩ := h
  rcases hv with ⟨x, rfl, _⟩ | ⟨i, rfl, hi⟩
  · obtain ⟨u, rfl, t, rfl⟩ := vals1 r
    exact PySem.P.str_of_str ⟨.str x, H, I, ⟨_, rfl⟩, q⟩
  · obtain ⟨u, rfl, t, rfl⟩ := vals1 r
    exact PySem.P.str_of_int (log_of hi) ⟨.str _, H, I.tok _, ⟨_, rfl⟩, q⟩
/-- sorted of a short list of ints -/
theorem call_sortedI : CallR X (.builtin "sorted") (fun xs H Q => ∃ (a : Addr) (ns : List Int), xs = [V.ref a] ∧ SqL X.K H a (ns.map V.int) ∧ ns.length < 64 ∧
    ∀ (p : Addr) (ms : List Int), H p = none → ms.Perm ns → ms.Pairwise (· ≤ ·) → Q (.ref p) (upd H p (.lst (ms.map V.int)))) := by
  intro pins s σ H xs us Q I r h
  obtain ⟨a, ns, rfl, ha, hn, q⟩ := h
  obtain ⟨u, rfl, ru⟩ := vals1 r
  cases ru
  obtain ⟨its, rv, pl, hz⟩ := I.list ha
  have hl := rv.length
  rw [List.length_map] at hl
  refine PyProof.Rows.sorted_ints pl.isList (intsAre_of rv) (by omega) fun out ms a1 a2 a3 => ?_
  obtain ⟨e, he⟩ := PyProof.Rows.sortedAll_at s.heap its out
  have hn' : H (s.heap.objs.size + 1) = none := I.hok.fresh (Nat.le_succ _)
  have hm : ms.length = ns.length := a2.length_eq
  have hs : sizeLine = 16777216 := sizeLine_eq
  refine ⟨.ref (s.heap.objs.size + 1), _, I.laid (t' := s.toks) (a := s.heap.objs.size + 1) (o := .lst (ms.map V.int)) (fun b o eb => PyProof.Rows.sortedAll_old eb) (Nat.le_succ _) ⟨?_, out.toList, e, vals_ints a1, ?_⟩, rfl, q _ ms hn' a2 a3⟩
  · rw [List.length_map]; omega
  · rw [he]
end
/-- two flat tuples -/
def eqL (xs ys : List V) : Bool := (List.range (min xs.length ys.length)).all (fun i => match xs[i]?, ys[i]? with | some x, some y => eqV x y | _, _ => true) && xs.length == ys.length
theorem DEq.flatT {K : PySem.W.Frag} {H : Hp} {n : Nat} {a b : Addr} {xs ys : List V} (hx : SqT K H a xs) (hy : SqT K H b ys) (fx : ∀ x ∈ xs, flatV x = true) (fy : ∀ x ∈ ys, flatV x = true) : DEq K H (n + 1) (.ref a) (.ref b) (eqL xs ys) := by
  refine DEq.tup _ hx hy fun i x y e1 e2 => ?_
  rw [e1, e2]
  exact DEq.flat (fx x (List.mem_of_getElem? e1)) (fy y (List.mem_of_getElem? e2))
theorem eqL_refl {xs : List V} (h : ∀ x ∈ xs, flatV x = true) : eqL xs xs = true := by
  unfold eqL
  rw [beq_self_eq_true, Bool.and_true, List.all_eq_true]
  intro i hi
  rw [Nat.min_self] at hi
  have hi := List.mem_range.mp hi
  rw [List.getElem?_eq_getElem hi]
  exact eqV_refl (h _ (List.getElem_mem hi))
theorem Same.tup {K : PySem.W.Frag} {H H' : Hp} {a : Addr} {xs : List V} (e : Same H H') (h : SqT K H a xs) : SqT K H' a xs := by
  rcases h with (h | ⟨o, h⟩) | h
  · exact .inl (.inl (e _ _ h))
  · exact .inl (.inr ⟨o, e _ _ h⟩)
  · exact .inr h
theorem Same.new {H : Hp} {D : Addr} {o : HO} (h : H D = none) : Same H (upd H D o) := fun b u e => by rw [upd_ne (ne_of_none e h)]; exact e
/-- what is tracked stays, but at D, which was not -/
theorem Same.upd {H H' : Hp} {D : Addr} {o : HO} (e : Same H H') (h : H D = none) : Same H (upd H' D o) := fun b u q => by
  rw [upd_ne (ne_of_none q h)]; exact e b u q
/-- a comprehension with one name whose elements may make new things -/
theorem comp_same {J : It} {xs : List V} {P : Hp → Prop} {own : List Str} {ix : List Nat} {te : TE} {σ : St} {H1 : Hp} {D : Addr} {Q : VK} (F : Fix J xs P) (f : V → V) (hD : H1 D = none)
    (hP : ∀ H', Same H1 H' → P H') (hz : xs.length ≤ sizeLine)
    (he : ∀ x ∈ xs, ∀ H' (Q' : VK), Same H1 H' → (∀ H'', Same H' H'' → Q' (f x) H'') → te ((st0 own ix σ).set 0 (some x)) H' Q')
    (hQ : ∀ H', Same H1 H' → H' D = some (.lst (xs.map f)) → Q (.ref D) H') : CompW own ix J (gName 0) tYes te σ H1 D Q := by
  refine ⟨fun i m σ' ys H' => m = xs.length - i ∧ i ≤ xs.length ∧ (∀ z, σ'.set 0 z = (st0 own ix σ).set 0 z) ∧ ys = (xs.take i).map f ∧ Same H1 H' ∧ H' D = some (.lst ys),
    ⟨xs.length, by simp, Nat.zero_le _, fun _ => rfl, by simp, Same.new hD, upd_same⟩, ?_⟩
  rintro i m σ' ys H' ⟨rfl, hi, hσ, rfl, hs, hDy⟩
  refine ⟨hDy, ?_⟩
  by_cases hlt : i < xs.length
  · refine .inr ⟨F.go i _ (hP _ hs) hlt, ?_, fun x H2 y => ?_⟩
    · rw [List.length_map, List.length_take]; omega
    · obtain ⟨e, y'⟩ := F.yld i _ x H2 (hP _ hs) y
      subst e
      have hx := y' hlt
      have hm : x ∈ xs := List.mem_of_getElem? hx
      unfold gName tYes
      dsimp only
      rw [if_pos rfl, hσ]
      refine he x hm _ _ hs fun H'' hs' => ⟨hs' D _ hDy, xs.length - (i + 1), by omega, rfl, hlt, fun z => List.set_set .., ?_, (hs.trans hs').upd hD, upd_same⟩
      rw [List.take_add_one, hx, List.map_append]; rfl
  · have e : i = xs.length := by omega
    subst e
    refine .inl ⟨F.stop _ _ (hP _ hs) (Nat.le_refl _), hQ _ hs ?_⟩
    rw [List.take_length] at hDy
    exact hDy
end L2

/-! The rules that lean on the written part, with that part given: within a comprehension's block nothing else fits. -/
namespace L2
open PySem PySem.Spec PyProof.Rows
section
variable {X : Cx} (K : PySem.W.Frag) (h : X.K = K)
include h
theorem ix_listK : IxR X (rIxL K) := h ▸ ix_list
theorem ix_tupK : IxR X (rIxT K) := h ▸ ix_tup
theorem sl_listK : SlR X (rSlL K) := h ▸ sl_list
theorem sl_tupK : SlR X (rSlT K) := h ▸ sl_tup
theorem op_catTK : OpR X (binaryOp .Add) (rCatT K) := h ▸ op_catT
theorem op_eqDK (hu : X.A.units + 9 < cLine) : OpR X (compareOp .Eq) (rEqD K) := h ▸ op_eqD hu
theorem op_notInDK (hu : X.A.units + 10 < cLine) : OpR X (compareOp .NotIn) (rInD K true) := h ▸ op_notInD hu
theorem call_len_seqK : CallR X (.builtin "len") (fun xs H Q => ∃ p ys, xs = [.ref p] ∧ (SqL K H p ys ∨ SqT K H p ys) ∧ Q (.int ys.length) H) := h ▸ call_len_seq
theorem call_tuple_ofK : CallR X (.type "tuple") (fun xs H Q => ∃ p ys, xs = [.ref p] ∧ ((SqL K H p ys ∧ ∀ l, H l = none → Q (.ref l) (upd H l (.tup ys))) ∨ (SqT K H p ys ∧ Q (.ref p) H))) := h ▸ call_tuple_of
theorem call_isiK : CallR X (.builtin "isinstance") (fun xs H Q => ∃ x t n b, xs = [x, V.ty n] ∧ TyOf K H x t ∧ PySem.W.kitOne K t (.type n) = some b ∧ Q (.bl b) H) := h ▸ call_isi
theorem call_sortedIK : CallR X (.builtin "sorted") (fun xs H Q => ∃ (a : Addr) (ns : List Int), xs = [V.ref a] ∧ SqL K H a (ns.map V.int) ∧ ns.length < 64 ∧
    ∀ (p : Addr) (ms : List Int), H p = none → ms.Perm ns → ms.Pairwise (· ≤ ·) → Q (.ref p) (upd H p (.lst (ms.map V.int)))) := h ▸ call_sortedI
theorem call_allBK (hc : X.calm = true) : CallR X (.builtin "all") (fun xs H Q => ∃ (a : Addr) (bs : List Bool), xs = [V.ref a] ∧ SqL K H a (bs.map V.bl) ∧ Q (.bl (bs.all id)) H) := h ▸ call_allB hc
theorem mt_joinK : MtR X "str.join" (fun x xs H Q => ∃ (sep : Str) (p : Addr) (ys : List Str), x = V.str sep ∧ xs = [V.ref p] ∧ SqL K H p (ys.map V.str) ∧ (ys.map (·.length)).sum + ys.length * sep.length ≤ 16777216 ∧ Q (.str (Txt.join sep ys)) H) := h ▸ mt_join
variable {o e : Expr} {es : List Expr} {to : TE} {t : TA} {name : Str} {apos cpos : Pos} {T id : String} {r : V → List V → Hp → VK → Prop}
theorem pe_bm0K (pa : PlainAttrs T) (slot : Slot T name id) (hty : typeOf (.builtin id) = pure (.type "method_descriptor")) (hm : MtR X id r) (ho : PE X o to)
    (hbase : attributeBase o name X.env (eval o X.env) = eval o X.env := by rfl) (hline : (apos.endLine == cpos.line) = true := by rfl) : PE X (.Call (.Attribute o name apos) [] [] cpos) (tBM0 K T r to) := h ▸ pe_bm0 pa slot hty hm ho hbase hline
theorem pe_bmK (pa : PlainAttrs T) (slot : Slot T name id) (hty : typeOf (.builtin id) = pure (.type "method_descriptor")) (hm : MtR X id r) (ho : PE X o to) (ha : PA X (e :: es) t)
    (hbase : attributeBase o name X.env (eval o X.env) = eval o X.env := by rfl)
    (hfew : ((backTo cpos (starEach (e :: es) X.env)).all (fun x => !x.1) && (backToKw cpos (keywordEach [] X.env)).all (fun x => x.1.isSome)
      && decide ((e :: es).length + ([] : List Keyword).length + (if ([] : List Keyword).isEmpty then 0 else 1) < 30)) = true := by rfl)
    (hline : (apos.endLine == cpos.line) = true := by rfl) (hs : starEach (e :: es) X.env = (false, eval e X.env) :: starEach es X.env := by rfl) (hplain : (backTo cpos (starEach es X.env)).any (·.1) = false := by rfl) :
    PE X (.Call (.Attribute o name apos) (e :: es) [] cpos) (tBM K T r to t) := h ▸ pe_bm pa slot hty hm ho ha hbase hfew hline hs hplain
end
section
variable {X : Cx} {tg : Expr} (K : PySem.W.Frag) (h : X.K = K)
include h
theorem pi_listK {l : Expr} {tl : TE} (hl : PE X l tl) : PI X tg l (iList K tl) := h ▸ pi_list hl
theorem pi_tupK {l : Expr} {tl : TE} (hl : PE X l tl) : PI X tg l (iTup K tl) := h ▸ pi_tup hl
theorem pg_tupK {es : List Expr} {k : Nat} {t : TGs} {n : Nat} {pos : Pos} (hc : X.calm = true) (h' : PGs X es t)
    (hn : (assignEach es X.env).length = n := by rfl) (hst : (assignEach es X.env).findIdx? (·.1) = none := by rfl) : PG X (.Tuple es k pos) (gTup K n t) := h ▸ pg_tup hc h' hn hst
end
theorem hu10 {A : Around} {k : Nat} (hr : Room k A) : A.units + 9 < cLine := Nat.lt_of_le_of_lt (Nat.add_le_add_left (by decide : 9 ≤ 64) _) hr.units
theorem hu11 {A : Around} {k : Nat} (hr : Room k A) : A.units + 10 < cLine := Nat.lt_of_le_of_lt (Nat.add_le_add_left (by decide : 10 ≤ 64) _) hr.units
end L2

/-! MATHEMATICS of names and numbers: texts by their codes. -/
namespace Dm
open PySem PySem.NumText
abbrev co (x : Str) : List Nat := x.cps.toList
theorem co_len (x : Str) : (co x).length = x.length := by simp [Str.length]
theorem ext_co {x y : Str} (h : co x = co y) : x = y := by
  cases x with
  | mk a => cases y with
    | mk b =>
      have : a = b := by
        have h : a.toList = b.toList := h
        exact Array.toList_inj.mp h
      rw [this]
theorem co_mk (l : List Nat) : co ⟨l.toArray⟩ = l := by simp [co]
theorem sub_one (x : Str) (c : Nat) : (0 + 1 ≤ x.length && Builtin.Str.subAt x ⟨#[c]⟩ 0) = decide ((co x).head? = some c) := by
  obtain ⟨a⟩ := x
  obtain ⟨l⟩ := a
  cases l with
  | nil => simp [co, Str.length]
  | cons d r =>
    show (decide (0 + 1 ≤ ((d :: r).toArray).size) && (((d :: r).toArray.extract 0 (0 + 1)) == #[c])) = decide ((d :: r).head? = some c)
    have e1 : decide (0 + 1 ≤ ((d :: r).toArray).size) = true := decide_eq_true (by simp)
    rw [e1, Bool.true_and]
    have e2 : ((d :: r).toArray.extract 0 (0 + 1)) = #[d] := by simp
    rw [e2]
    by_cases h : d = c
    · subst h; simp
    · have : ¬ (d :: r).head? = some c := by simp [h]
      rw [decide_eq_false this]
      simp [h]
theorem starts_one (x : Str) (c : Nat) : Txt.startswith x ⟨#[c]⟩ = decide ((co x).head? = some c) := sub_one x c
def sIx' (n d : Nat) : Option Int → Nat
  | none => d
  | some i => if i < 0 then (max (i + (n : Int)) 0).toNat else min i.toNat n
theorem pickN (l : List Nat) (i k : Nat) : ((List.range k).map fun m => i + m).filterMap (fun j => l[j]?) = (l.drop i).take k := by
  induction k generalizing i with
  | zero => simp
  | succ k ih =>
    rw [List.range_succ_eq_map, List.map_cons, List.map_map]
    have e : ((List.range k).map ((fun m => i + m) ∘ Nat.succ)) = (List.range k).map fun m => (i + 1) + m := by
      apply List.map_congr_left
      intro a _
      simp only [Function.comp, Nat.succ_eq_add_one]; omega
    rw [e, List.filterMap_cons]
    simp only [Nat.add_zero]
    rw [ih (i + 1)]
    cases h : l[i]? with
    | none =>
      have hl : l.length ≤ i := List.getElem?_eq_none_iff.mp h
      rw [List.drop_eq_nil_of_le hl, List.drop_eq_nil_of_le (by omega)]; simp
    | some v =>
      obtain ⟨hi, e⟩ := List.getElem?_eq_some_iff.mp h
      rw [List.drop_eq_getElem_cons hi, List.take_succ_cons, e]
def clipS (n : Nat) (d : Int) : Option Int → Int
  | none => d
  | some i => max 0 (min (if i < 0 then i + (n : Int) else i) n)
theorem clipS_eq (n d : Nat) (hd : d ≤ n) (o : Option Int) : clipS n d o = ((sIx' n d o : Nat) : Int) := by
  cases o with
  | none => rfl
  | some i => simp only [sIx', clipS]; split <;> omega
theorem sIx'_le (n d : Nat) (hd : d ≤ n) (o : Option Int) : sIx' n d o ≤ n := by
  cases o with
  | none => exact hd
  | some i => simp only [sIx']; split <;> omega
theorem indices_eq (lo hi : Option Int) (n : Nat) : Builtin.Str.strSliceIndices lo hi 1 n = (List.range (sIx' n n hi - sIx' n 0 lo)).map fun m => sIx' n 0 lo + m := by
  have : Builtin.Str.strSliceIndices lo hi 1 n = sliceRange (clipS n 0 lo) (clipS n n hi) 1 := by
    cases lo <;> cases hi <;> rfl
  rw [this, show (0 : Int) = ((0 : Nat) : Int) from rfl, clipS_eq n 0 (Nat.zero_le _), clipS_eq n n (Nat.le_refl _)]
  unfold sliceRange
  simp only [show (1 : Int) > 0 by decide, if_true, Int.one_mul, Int.ediv_one]
  have ec : (if ((sIx' n 0 lo : Nat) : Int) < ((sIx' n n hi : Nat) : Int) then ((sIx' n n hi : Nat) : Int) - ((sIx' n 0 lo : Nat) : Int) + 1 - 1 else 0).toNat = sIx' n n hi - sIx' n 0 lo := by
    split <;> omega
  rw [ec]
  apply List.map_congr_left
  intro a _
  omega
theorem slice_co (x : Str) (lo hi : Option Int) : co (Txt.slice x lo hi) = ((co x).drop (sIx' x.length 0 lo)).take (sIx' x.length x.length hi - sIx' x.length 0 lo) := by
  have key : (Builtin.Str.strSliceIndices lo hi 1 x.length).filterMap (x.cps[·]?) = ((co x).drop (sIx' x.length 0 lo)).take (sIx' x.length x.length hi - sIx' x.length 0 lo) := by
    rw [indices_eq, ← pickN (co x)]
    congr 1
    funext j
    simp [co]
  unfold Txt.slice
  split
  · rename_i h
    have hl : (Builtin.Str.strSliceIndices lo hi 1 x.length).length = x.length := by
      simpa using h
    rw [indices_eq, List.length_map, List.length_range] at hl
    have h1 := sIx'_le x.length x.length (Nat.le_refl _) hi
    have h2 : sIx' x.length 0 lo = 0 ∨ x.length = 0 := by omega
    have h3 := co_len x
    rcases h2 with h2 | h2
    · rw [hl, h2, List.drop_zero, List.take_of_length_le (by omega)]
    · have : co x = [] := List.length_eq_zero_iff.mp (by omega)
      rw [this]; simp
  · rw [co_mk]; exact key
theorem slice_from1 (x : Str) : co (Txt.slice x (some 1) none) = (co x).drop 1 := by
  rw [slice_co]
  have h := co_len x
  simp only [sIx']
  rw [if_neg (by decide)]
  cases e : co x with
  | nil => simp
  | cons c r =>
    rw [e, List.length_cons] at h
    have e1 : min (1 : Int).toNat x.length = 1 := by
      show min 1 x.length = 1
      omega
    rw [e1, List.take_of_length_le (by simp; omega)]

/-! ### names -/
def NAMES : Str := "abcdefghijklmnopqrstuvwxyz0123456789-"
def FIGS : Str := "0123456789"
def mades (l : List Nat) (sg : Str) : Bool := l.all fun c => decide (c ∈ co sg)
def nameB (x : Str) : Bool := decide (1 ≤ x.length) && decide (x.length ≤ 12) && mades (co x) NAMES

/-! ### numbers -/
def figs : List Nat → List Nat
  | [] => []
  | c :: r => if c = 45 then r else c :: r
theorem figs_neg (r : List Nat) : figs (45 :: r) = r := by unfold figs; exact if_pos rfl
theorem figs_pos {c : Nat} (r : List Nat) (h : c ≠ 45) : figs (c :: r) = c :: r := by unfold figs; exact if_neg h
def ZERO : Str := "0"
def okNum (x : Str) : Bool := decide (1 ≤ (figs (co x)).length) && decide ((figs (co x)).length ≤ 60) && mades (figs (co x)) FIGS && !(decide ((figs (co x)).head? = some 48) && !decide (x = ZERO))
def numI (x : Str) : Int := if (co x).head? = some 45 then 0 - ((digitsVal (figs (co x)) : Nat) : Int) else ((digitsVal (figs (co x)) : Nat) : Int)
theorem mem_figs (c : Nat) : c ∈ co FIGS ↔ 48 ≤ c ∧ c ≤ 57 := by
  have e : co FIGS = List.range' 48 10 := by decide +kernel
  rw [e, List.mem_range'_1]
  exact ⟨fun h => ⟨h.1, Nat.le_of_lt_succ h.2⟩, fun h => ⟨h.1, Nat.lt_succ_of_le h.2⟩⟩
theorem allDigits_of {l : List Nat} (h : mades l FIGS = true) : AllDigits l := fun c hc => by
  have := List.all_eq_true.mp h c hc
  exact (mem_figs c).mp (of_decide_eq_true this)
theorem made_of_digits {l : List Nat} (h : AllDigits l) : mades l FIGS = true := List.all_eq_true.mpr fun c hc => decide_eq_true ((mem_figs c).mpr (h c hc))
theorem int_text {x : Str} (h : okNum x = true) : intText? x = some (numI x) ∧ x.length ≤ 61 := by
  unfold okNum at h
  simp only [Bool.and_eq_true, decide_eq_true_eq] at h
  obtain ⟨⟨⟨h1, h2⟩, h3⟩, _⟩ := h
  have hd := allDigits_of h3
  have hl := co_len x
  unfold numI
  cases e : co x with
  | nil => rw [e] at h1; simp [figs] at h1
  | cons c r =>
    rw [e] at h1 h2 hd hl
    rw [List.length_cons] at hl
    by_cases hc : c = 45
    · subst hc
      rw [figs_neg] at h1 h2 hd
      rw [figs_neg, if_pos (by rfl), Int.zero_sub]
      exact ⟨intText_neg e hd (by intro z; rw [z] at h1; simp at h1) (by omega), by omega⟩
    · rw [figs_pos r hc] at h1 h2 hd
      rw [figs_pos r hc, if_neg (by simp [hc])]
      rw [List.length_cons] at h2
      have hne : x.cps.toList ≠ [] := by
        show co x ≠ []
        rw [e]; simp
      have hd' : AllDigits x.cps.toList := by
        show AllDigits (co x)
        rw [e]; exact hd
      have q := intText_digits hd' hne (by omega)
      have q' : intText? x = some ((digitsVal (co x) : Nat) : Int) := q
      rw [e] at q'
      exact ⟨q', by omega⟩
/-! ### str(n) -/
def dg (m : Nat) : List Nat := (Nat.toDigits 10 m).map Char.toNat
theorem co_ofString (t : String) : co (Str.ofString t) = t.toList.map Char.toNat := by rw [Str.ofString_eq_toList]
theorem co_str_nat (m : Nat) : co (Str.ofString (toString ((m : Nat) : Int))) = dg m := by
  rw [co_ofString]
  show (Nat.repr m).toList.map Char.toNat = _
  rw [Nat.toList_repr]; rfl
theorem co_str_neg (m : Nat) : co (Str.ofString (toString (Int.negSucc m))) = 45 :: dg (m + 1) := by
  rw [co_ofString]
  show ("-" ++ Nat.repr (m + 1)).toList.map Char.toNat = _
  rw [String.toList_append, List.map_append, Nat.toList_repr]
  try rfl
theorem digit_back : ∀ d : Nat, d < 10 → (Nat.digitChar d).toNat = d + 48 := by decide
theorem dg_lt {m : Nat} (h : m < 10) : dg m = [m + 48] := by
  unfold dg
  rw [Nat.toDigits_of_lt_base h, List.map_cons, List.map_nil, digit_back m h]
theorem dg_ge {m : Nat} (h : 10 ≤ m) : dg m = dg (m / 10) ++ [m % 10 + 48] := by
  have hm : m % 10 < 10 := Nat.mod_lt m (by decide)
  unfold dg
  rw [Nat.toDigits_of_base_le (by decide) h, List.map_append, List.map_cons, List.map_nil, digit_back _ hm]
theorem dg_val (m : Nat) : digitsVal (dg m) = m := by
  induction m using Nat.strongRecOn with
  | _ m ih =>
    by_cases h : m < 10
    · rw [dg_lt h]
      show 0 * 10 + (m + 48 - 48) = m
      omega
    · rw [dg_ge (by omega)]
      have := ih (m / 10) (by omega)
      unfold digitsVal at this ⊢
      rw [List.foldl_append, this]
      show m / 10 * 10 + (m % 10 + 48 - 48) = m
      omega
theorem dg_all (m : Nat) : AllDigits (dg m) := by
  induction m using Nat.strongRecOn with
  | _ m ih =>
    by_cases h : m < 10
    · rw [dg_lt h]
      intro c hc
      rw [List.mem_singleton] at hc
      omega
    · rw [dg_ge (by omega)]
      intro c hc
      rcases List.mem_append.mp hc with hc | hc
      · exact ih (m / 10) (by omega) c hc
      · rw [List.mem_singleton] at hc
        omega
theorem dg_len {m k : Nat} (hk : 1 ≤ k) (h : m < 10 ^ k) : (dg m).length ≤ k := by
  unfold dg
  rw [List.length_map]
  exact (Nat.length_toDigits_le_iff (by decide) hk).mpr h
theorem dg_pos (m : Nat) : 1 ≤ (dg m).length := by
  unfold dg
  rw [List.length_map]
  exact Nat.length_toDigits_pos
theorem dg_head (m : Nat) (h : 0 < m) : ∃ c r, dg m = c :: r ∧ 49 ≤ c ∧ c ≤ 57 := by
  induction m using Nat.strongRecOn with
  | _ m ih =>
    by_cases h1 : m < 10
    · exact ⟨m + 48, [], dg_lt h1, by omega, by omega⟩
    · obtain ⟨c, r, e, h2, h3⟩ := ih (m / 10) (by omega) (by omega)
      exact ⟨c, r ++ [m % 10 + 48], by rw [dg_ge (by omega), e]; rfl, h2, h3⟩
theorem str_num (n : Int) (h1 : n.natAbs < 10 ^ 60) : okNum (Str.ofString (toString n)) = true ∧ numI (Str.ofString (toString n)) = n ∧ (Str.ofString (toString n)).length ≤ 61 := by
  have hl := co_len (Str.ofString (toString n))
  unfold okNum numI
  cases n with
  | ofNat m =>
    have e : co (Str.ofString (toString (Int.ofNat m))) = dg m := co_str_nat m
    have h1 : m < 10 ^ 60 := h1
    have p := dg_len (by decide) h1
    have p1 := dg_pos m
    rw [e] at hl
    by_cases hm : m = 0
    · subst hm
      have z : Str.ofString (toString (Int.ofNat 0)) = ZERO := by decide +kernel
      rw [z]
      refine ⟨by decide +kernel, by decide +kernel, by decide +kernel⟩
    · obtain ⟨c, r, ed, h2, h3⟩ := dg_head m (by omega)
      have hc : c ≠ 45 := by omega
      have ef : figs (dg m) = dg m := by rw [ed, figs_pos r hc]
      rw [e, ef]
      refine ⟨?_, ?_, by omega⟩
      · rw [decide_eq_true p1, decide_eq_true p, made_of_digits (dg_all m), ed]
        have : ¬ (c :: r).head? = some 48 := by
          intro z
          have : c = 48 := Option.some.inj z
          omega
        rw [decide_eq_false this]; rfl
      · rw [dg_val, if_neg]
        · rfl
        · rw [ed]
          intro z
          have : c = 45 := Option.some.inj z
          omega
  | negSucc m =>
    have e : co (Str.ofString (toString (Int.negSucc m))) = 45 :: dg (m + 1) := co_str_neg m
    have h1 : m + 1 < 10 ^ 60 := h1
    have p := dg_len (by decide) h1
    have p1 := dg_pos (m + 1)
    rw [e, List.length_cons] at hl
    rw [e, figs_neg]
    obtain ⟨c, r, ed, h2, h3⟩ := dg_head (m + 1) (by omega)
    refine ⟨?_, ?_, by omega⟩
    · rw [decide_eq_true p1, decide_eq_true p, made_of_digits (dg_all (m + 1)), ed]
      have : ¬ (c :: r).head? = some 48 := by
        intro z
        have : c = 48 := Option.some.inj z
        omega
      rw [decide_eq_false this]; rfl
    · rw [dg_val, if_pos (by rfl)]
      omega
/-! ### the law's own reckoning -/
end Dm

/-! MATHEMATICS of the drawn names. -/
namespace Dm
open PySem PySem.NumText
def cellI (ns : List Int) (i : Int) : Int := ns.getD i.toNat 0
def pt (c k m : Int) : Int := (c % 99991 + 17) * (48271 + 7919 * k) % 65537 * (k + 3) % 8191 % m
theorem pt_bd (c k m : Int) (h : 0 < m) : 0 ≤ pt c k m ∧ pt c k m < m := ⟨Int.emod_nonneg _ (by omega), Int.emod_lt_of_pos _ h⟩
/-- the number of the sign at j of the k-th name -/
def nmI (one at' : Int) (k j : Nat) : Int := if (j : Int) = at' then pt one ((j : Int) + 2) 37 + k else pt one ((j : Int) + 2) 37
def nmN (one at' : Int) (k j : Nat) : Nat := (co NAMES).getD (nmI one at' k j % 37).toNat 0
def nmC (one at' : Int) (k size : Nat) : List Nat := (List.range size).map (nmN one at' k)
theorem names_len : (co NAMES).length = 37 := by decide +kernel
theorem names_nd : (co NAMES).Nodup := by decide +kernel
theorem ix37 (z : Int) : 0 ≤ z % 37 ∧ (z % 37).toNat < (co NAMES).length := by
  have h1 := Int.emod_nonneg z (show (37 : Int) ≠ 0 by decide)
  have h2 := Int.emod_lt_of_pos z (show (0 : Int) < 37 by decide)
  rw [names_len]
  omega
theorem nmN_mem (one at' : Int) (k j : Nat) : nmN one at' k j ∈ co NAMES := by
  unfold nmN
  have h := (ix37 (nmI one at' k j)).2
  rw [List.getD_eq_getElem?_getD, List.getElem?_eq_getElem h]
  exact List.getElem_mem h
theorem names_inj {i j : Nat} (hi : i < (co NAMES).length) (hj : j < (co NAMES).length) (h : (co NAMES).getD i 0 = (co NAMES).getD j 0) : i = j := by
  rw [List.getD_eq_getElem?_getD, List.getD_eq_getElem?_getD, List.getElem?_eq_getElem hi, List.getElem?_eq_getElem hj] at h
  have h : (co NAMES)[i] = (co NAMES)[j] := h
  exact (List.getElem_inj names_nd).mp h
theorem nmC_len (one at' : Int) (k size : Nat) : (nmC one at' k size).length = size := by unfold nmC; simp
theorem nmC_get {one at' : Int} {k size j : Nat} (h : j < size) : (nmC one at' k size)[j]? = some (nmN one at' k j) := by
  unfold nmC
  rw [List.getElem?_map, List.getElem?_range h]; rfl
theorem nmC_inj {one at' : Int} {k k' size : Nat} (h0 : 0 ≤ at') (h1 : at' < size) (hk : k < 9) (hk' : k' < 9) (h : nmC one at' k size = nmC one at' k' size) : k = k' := by
  have hj : at'.toNat < size := by omega
  have e1 := nmC_get (one := one) (at' := at') (k := k) hj
  have e2 := nmC_get (one := one) (at' := at') (k := k') hj
  rw [h, e2] at e1
  have e : nmN one at' k' at'.toNat = nmN one at' k at'.toNat := Option.some.inj e1
  unfold nmN at e
  have q := names_inj (ix37 _).2 (ix37 _).2 e
  have a1 := (ix37 (nmI one at' k' at'.toNat)).1
  have a2 := (ix37 (nmI one at' k at'.toNat)).1
  have q2 : nmI one at' k' at'.toNat % 37 = nmI one at' k at'.toNat % 37 := by omega
  unfold nmI at q2
  rw [if_pos (Int.toNat_of_nonneg h0), if_pos (Int.toNat_of_nonneg h0)] at q2
  omega
def strOf (l : List Nat) : Str := ⟨l.toArray⟩
theorem co_strOf (l : List Nat) : co (strOf l) = l := co_mk l
theorem strOf_inj {l m : List Nat} (h : strOf l = strOf m) : l = m := by
  have := congrArg co h
  rwa [co_strOf, co_strOf] at this
theorem nameB_of {x : Str} (h1 : 1 ≤ (co x).length) (h2 : (co x).length ≤ 12) (h3 : ∀ c ∈ co x, c ∈ co NAMES) : nameB x = true := by
  rw [co_len] at h1 h2
  unfold nameB
  rw [decide_eq_true h1, decide_eq_true h2]
  show mades (co x) NAMES = true
  exact List.all_eq_true.mpr fun c hc => decide_eq_true (h3 c hc)
theorem nmC_mem {one at' : Int} {k size c : Nat} (h : c ∈ nmC one at' k size) : c ∈ co NAMES := by
  obtain ⟨j, _, rfl⟩ := List.mem_map.mp h
  exact nmN_mem ..
/-- the names, in the first way and in the second -/
def names1 (one at' : Int) (size : Nat) : List Str := (List.range 9).map fun k => strOf (nmC one at' k size)
def names2 (one at' : Int) (size : Nat) : List Str := (List.range 9).map fun k => strOf ((nmC one at' 0 size).take (size - k))
theorem nodup_map_range {f : Nat → Str} {n : Nat} (h : ∀ i j, i < n → j < n → f i = f j → i = j) : ((List.range n).map f).Nodup := by
  unfold List.Nodup
  rw [List.pairwise_map]
  refine List.Pairwise.imp_of_mem (R := (· ≠ ·)) (fun {a b} ha hb hab e => ?_) List.nodup_range
  exact hab (h a b (List.mem_range.mp ha) (List.mem_range.mp hb) e)
theorem names1_ok {one at' : Int} {size : Nat} (h0 : 0 ≤ at') (h1 : at' < size) (h2 : 1 ≤ size) (h3 : size ≤ 12) : (names1 one at' size).Nodup ∧ (∀ x ∈ names1 one at' size, nameB x = true) ∧ (names1 one at' size).length = 9 := by
  refine ⟨nodup_map_range fun i j hi hj e => nmC_inj h0 h1 hi hj (strOf_inj e), fun x hx => ?_, by unfold names1; simp⟩
  obtain ⟨k, _, rfl⟩ := List.mem_map.mp hx
  exact nameB_of (by rw [co_strOf, nmC_len]; exact h2) (by rw [co_strOf, nmC_len]; exact h3) fun c hc => by rw [co_strOf] at hc; exact nmC_mem hc
theorem names2_ok {one at' : Int} {size : Nat} (h2 : 9 ≤ size) (h3 : size ≤ 12) : (names2 one at' size).Nodup ∧ (∀ x ∈ names2 one at' size, nameB x = true) ∧ (names2 one at' size).length = 9 := by
  refine ⟨nodup_map_range fun i j hi hj e => ?_, fun x hx => ?_, by unfold names2; simp⟩
  · have e := congrArg List.length (strOf_inj e)
    rw [List.length_take, List.length_take, nmC_len] at e
    omega
  · obtain ⟨k, hk, rfl⟩ := List.mem_map.mp hx
    have hk := List.mem_range.mp hk
    refine nameB_of ?_ ?_ fun c hc => ?_
    · rw [co_strOf, List.length_take, nmC_len]; omega
    · rw [co_strOf, List.length_take, nmC_len]; omega
    · rw [co_strOf] at hc
      exact nmC_mem (List.mem_of_mem_take hc)
end Dm
namespace Dm
open PySem PySem.NumText
theorem emp_is : (Str.ofString "" : Str) = strOf [] := by decide +kernel
theorem app_strOf (l m : List Nat) : strOf l ++ strOf m = strOf (l ++ m) := by
  apply ext_co
  show (l.toArray ++ m.toArray).toList = (l ++ m).toArray.toList
  simp
theorem len_strOf (l : List Nat) : (strOf l).length = l.length := by show l.toArray.size = _; simp
theorem slice_take (l : List Nat) (z : Int) (h0 : 0 ≤ z) (h1 : z ≤ l.length) : Txt.slice (strOf l) none (some z) = strOf (l.take z.toNat) := by
  apply ext_co
  rw [slice_co, co_strOf, co_strOf, len_strOf]
  simp only [sIx']
  rw [if_neg (by omega), List.drop_zero, Nat.sub_zero]
  congr 1
  omega
end Dm

/-! TELLINGS as data: rows of words. -/
namespace Dm
open PySem PySem.NumText L2
def KINDS : List Str := ["over", "cuts", "fills", "same"]
def YearOk (z : Int) : Prop := z.natAbs < 10 ^ 60
/-- a tie between units of us -/
inductive TieOk (us : List Str) : List V → Prop where
  | plain {kd x y : Str} (hk : kd ∈ KINDS) (hx : x ∈ us) (hy : y ∈ us) : TieOk us [.str kd, .str x, .str y]
  | after {x y : Str} {n : Int} (hx : x ∈ us) (hy : y ∈ us) (h0 : 0 ≤ n) (h1 : YearOk n) : TieOk us [.str "after", .str x, .str y, .int n]
/-- a find in a unit of us, of a name that none of fs has -/
inductive FindOk (us : List Str) (fs : List (List V)) : List V → Prop where
  | mk {nm x : Str} {lo hi : Int} (hn : nameB nm = true) (hx : x ∈ us) (hl : lo ≤ hi) (h1 : YearOk lo) (h2 : YearOk hi) (hf : ∀ f ∈ fs, f.head? ≠ some (.str nm)) : FindOk us fs [.str nm, .str x, .int lo, .int hi]
/-- units, ties, finds, and all of them as rows in the order in which they were told -/
inductive Told : List Str → List (List V) → List (List V) → List (List V) → Prop where
  | nil : Told [] [] [] []
  | unit {us : List Str} {ts fs rs : List (List V)} {x : Str} (t : Told us ts fs rs) (hn : nameB x = true) (hx : x ∉ us) : Told (us ++ [x]) ts fs (rs ++ [[.str "unit", .str x]])
  | tie {us : List Str} {ts fs rs : List (List V)} {ws : List V} (t : Told us ts fs rs) (h : TieOk us ws) (hn : ws ∉ ts) : Told us (ts ++ [ws]) fs (rs ++ [ws])
  | find {us : List Str} {ts fs rs : List (List V)} {ws : List V} (t : Told us ts fs rs) (h : FindOk us fs ws) : Told us ts (fs ++ [ws]) (rs ++ [.str "find" :: ws])
theorem TieOk.mono {us us' : List Str} {ws : List V} (h : TieOk us ws) (s : ∀ x ∈ us, x ∈ us') : TieOk us' ws := by
  cases h with
  | plain hk hx hy => exact .plain hk (s _ hx) (s _ hy)
  | after hx hy h0 h1 => exact .after (s _ hx) (s _ hy) h0 h1
theorem name_le {x : Str} (h : nameB x = true) : x.length ≤ 12 := by
  unfold nameB at h
  simp only [Bool.and_eq_true, decide_eq_true_eq] at h
  exact h.1.2
theorem Told.names {us : List Str} {ts fs rs : List (List V)} (t : Told us ts fs rs) : us.Nodup ∧ ∀ x ∈ us, nameB x = true := by
  induction t with
  | nil => exact ⟨List.nodup_nil, fun x h => nomatch h⟩
  | unit t hn hx ih =>
    refine ⟨List.nodup_append.mpr ⟨ih.1, by simp, fun a ha b hb => ?_⟩, fun x h => ?_⟩
    · rw [List.mem_singleton] at hb
      subst hb
      exact fun z => hx (z ▸ ha)
    · rcases List.mem_append.mp h with h | h
      · exact ih.2 x h
      · rw [List.mem_singleton] at h
        subst h; exact hn
  | tie t h hn ih => exact ih
  | find t h ih => exact ih
theorem Told.ties {us : List Str} {ts fs rs : List (List V)} (t : Told us ts fs rs) : ∀ ws ∈ ts, TieOk us ws := by
  induction t with
  | nil => exact fun _ h => nomatch h
  | unit t hn hx ih => exact fun ws h => (ih ws h).mono fun x hx => List.mem_append_left _ hx
  | tie t h hn ih =>
    intro ws hw
    rcases List.mem_append.mp hw with hw | hw
    · exact ih ws hw
    · rw [List.mem_singleton] at hw; subst hw; exact h
  | find t h ih => exact ih
/-- the words of a find -/
def FindWs (us : List Str) (ws : List V) : Prop := ∃ nm x lo hi, ws = [.str nm, .str x, .int lo, .int hi] ∧ nameB nm = true ∧ x ∈ us ∧ lo ≤ hi ∧ YearOk lo ∧ YearOk hi
theorem Told.finds {us : List Str} {ts fs rs : List (List V)} (t : Told us ts fs rs) : ∀ ws ∈ fs, FindWs us ws := by
  induction t with
  | nil => exact fun _ h => nomatch h
  | unit t hn hx ih =>
    intro ws h
    obtain ⟨nm, x, lo, hi, e, a, b, c⟩ := ih ws h
    exact ⟨nm, x, lo, hi, e, a, List.mem_append_left _ b, c⟩
  | tie t h hn ih => exact ih
  | find t h ih =>
    intro ws hw
    rcases List.mem_append.mp hw with hw | hw
    · exact ih ws hw
    · rw [List.mem_singleton] at hw
      subst hw
      cases h with
      | mk hn hx hl h1 h2 hf => exact ⟨_, _, _, _, rfl, hn, hx, hl, h1, h2⟩
theorem kinds_le : ∀ k ∈ KINDS, k.length ≤ 100 := by decide +kernel
theorem TieOk.words {us : List Str} {ws : List V} (h : TieOk us ws) (hu : ∀ x ∈ us, nameB x = true) : (∀ v ∈ ws, Wd v) ∧ ws.length ≤ 5 ∧ ∃ x r, ws = .str x :: r := by
  have nm : ∀ x ∈ us, Wd (.str x) := fun x hx => .inl ⟨x, rfl, Nat.le_trans (name_le (hu x hx)) (by decide)⟩
  cases h with
  | plain hk hx hy =>
    refine ⟨fun v hv => ?_, by simp, _, _, rfl⟩
    simp only [List.mem_cons, List.not_mem_nil, or_false] at hv
    rcases hv with rfl | rfl | rfl
    · exact .inl ⟨_, rfl, kinds_le _ hk⟩
    · exact nm _ hx
    · exact nm _ hy
  | after hx hy h0 h1 =>
    refine ⟨fun v hv => ?_, by simp, _, _, rfl⟩
    simp only [List.mem_cons, List.not_mem_nil, or_false] at hv
    rcases hv with rfl | rfl | rfl | rfl
    · exact .inl ⟨_, rfl, by decide +kernel⟩
    · exact nm _ hx
    · exact nm _ hy
    · exact .inr ⟨_, rfl, h1⟩
theorem FindWs.words {us : List Str} {ws : List V} (h : FindWs us ws) (hu : ∀ x ∈ us, nameB x = true) : (∀ v ∈ ws, Wd v) ∧ ws.length = 4 := by
  obtain ⟨nm, x, lo, hi, rfl, hn, hx, hl, h1, h2⟩ := h
  refine ⟨fun v hv => ?_, rfl⟩
  simp only [List.mem_cons, List.not_mem_nil, or_false] at hv
  rcases hv with rfl | rfl | rfl | rfl
  · exact .inl ⟨_, rfl, Nat.le_trans (name_le hn) (by decide)⟩
  · exact .inl ⟨_, rfl, Nat.le_trans (name_le (hu x hx)) (by decide)⟩
  · exact .inr ⟨_, rfl, h1⟩
  · exact .inr ⟨_, rfl, h2⟩
/-- tuples lie at these addresses -/
abbrev Tups (H : Hp) : List Addr → List (List V) → Prop := Paired fun a ws => H a = some (.tup ws)
theorem Tups.same {H H' : Hp} (s : Same H H') : ∀ {as : List Addr} {wss : List (List V)}, Tups H as wss → Tups H' as wss
  | _, _, .nil => .nil
  | _, _, .cons h t => .cons (s _ _ h) (Tups.same s t)
theorem Tups.get {H : Hp} : ∀ {as : List Addr} {wss : List (List V)} {a : Addr}, Tups H as wss → a ∈ as → ∃ ws ∈ wss, H a = some (.tup ws)
  | _, _, _, .cons h t, ha => by
    rcases List.mem_cons.mp ha with ha | ha
    · subst ha; exact ⟨_, List.mem_cons_self .., h⟩
    · obtain ⟨ws, hw, e⟩ := Tups.get t ha
      exact ⟨ws, List.mem_cons_of_mem _ hw, e⟩
theorem Tups.snoc {H : Hp} {a : Addr} {ws : List V} {as : List Addr} {wss : List (List V)} (t : Tups H as wss) (h : H a = some (.tup ws)) : Tups H (as ++ [a]) (wss ++ [ws]) := Paired.snoc t h
end Dm

/-! Short ways: a test whose two ways are gone once; lists compared with the empty list; what a slice is. -/
namespace L2
open PySem PySem.Spec PyProof.Rows
theorem ifS_same {c : TT} {t u : TS} {D : Ends} {σ : St} {H : Hp} (b : Bool) (ht : ∀ Q' : Bool → Hp → Prop, (∀ H', Same H H' → Q' b H') → c σ H Q') (hs : ∀ H', Same H H' → if b = true then t D σ H' else u D σ H') : tIfS c t u D σ H := ht _ hs
theorem DEq.nilL {K : PySem.W.Frag} {H : Hp} {n : Nat} {a b : Addr} {xs : List V} (hx : SqL K H a xs) (hy : SqL K H b []) : DEq K H (n + 1) (.ref a) (.ref b) (decide (xs = [])) := by
  by_cases h : xs = []
  · subst h
    exact DEq.lst (fun _ => true) hx hy rfl fun i x y e _ => by simp at e
  · rw [decide_eq_false h]
    exact DEq.lstN hx hy fun z => h (List.length_eq_zero_iff.mp z)
theorem atI_0 {α : Type} {x : α} {xs : List α} : atI (x :: xs) 0 = some x := by
  have := atI_nat (xs := x :: xs) (j := 0) (v := x) rfl
  exact this
theorem cutV_from1 {x : V} {xs : List V} : cutV (x :: xs) (some 1) none = xs := by
  unfold cutV HT.sIx
  simp
theorem le_line {n : Nat} (h : n ≤ 1000) : n ≤ sizeLine := Nat.le_of_lt (small1000 h)
end L2

/-! A telling on the heap: four lists and their tuples. -/
namespace Dm
open PySem PySem.NumText L2
theorem Tups.stay {H H' : Hp} (s : ∀ b xs, H b = some (.tup xs) → H' b = some (.tup xs)) : ∀ {as : List Addr} {wss : List (List V)}, Tups H as wss → Tups H' as wss
  | _, _, .nil => .nil
  | _, _, .cons h t => .cons (s _ _ h) (Tups.stay s t)
theorem tup_stay {H : Hp} {p : Addr} {xs ys : List V} (h : H p = some (.lst xs)) : ∀ b zs, H b = some (.tup zs) → upd H p (.lst ys) b = some (.tup zs) := fun b zs e => by
  rw [upd_ne (ne_of e h (by intro z; cases z))]; exact e
structure ToldAt (H : Hp) (pu pt pf pr : Addr) (us : List Str) (ts fs rs : List (List V)) (at' af ar : List Addr) : Prop where
  u : H pu = some (.lst (us.map V.str))
  t : H pt = some (.lst (at'.map V.ref))
  tt : Tups H at' ts
  f : H pf = some (.lst (af.map V.ref))
  ft : Tups H af fs
  r : H pr = some (.lst (ar.map V.ref))
  rt : Tups H ar rs
section
variable {H H' : Hp} {pu pt pf pr p : Addr} {us : List Str} {ts fs rs : List (List V)} {at' af ar : List Addr} {ws : List V}
theorem ToldAt.same (t : ToldAt H pu pt pf pr us ts fs rs at' af ar) (s : Same H H') : ToldAt H' pu pt pf pr us ts fs rs at' af ar :=
  ⟨s _ _ t.u, s _ _ t.t, t.tt.same s, s _ _ t.f, t.ft.same s, s _ _ t.r, t.rt.same s⟩
theorem ToldAt.addU (t : ToldAt H pu pt pf pr us ts fs rs at' af ar) (h1 : pt ≠ pu) (h2 : pf ≠ pu) (h3 : pr ≠ pu) (x : Str) : ToldAt (upd H pu (.lst (us.map V.str ++ [.str x]))) pu pt pf pr (us ++ [x]) ts fs rs at' af ar := by
  have st := tup_stay (ys := us.map V.str ++ [.str x]) t.u
  exact ⟨by rw [upd_same, List.map_append]; rfl, by rw [upd_ne h1]; exact t.t, t.tt.stay st, by rw [upd_ne h2]; exact t.f, t.ft.stay st, by rw [upd_ne h3]; exact t.r, t.rt.stay st⟩
theorem ToldAt.addT (t : ToldAt H pu pt pf pr us ts fs rs at' af ar) (h1 : pu ≠ pt) (h2 : pf ≠ pt) (h3 : pr ≠ pt) (hp : H p = some (.tup ws)) : ToldAt (upd H pt (.lst (at'.map V.ref ++ [.ref p]))) pu pt pf pr us (ts ++ [ws]) fs rs (at' ++ [p]) af ar := by
  have st := tup_stay (ys := at'.map V.ref ++ [.ref p]) t.t
  exact ⟨by rw [upd_ne h1]; exact t.u, by rw [upd_same, List.map_append]; rfl, (t.tt.stay st).snoc (st _ _ hp), by rw [upd_ne h2]; exact t.f, t.ft.stay st, by rw [upd_ne h3]; exact t.r, t.rt.stay st⟩
theorem ToldAt.addF (t : ToldAt H pu pt pf pr us ts fs rs at' af ar) (h1 : pu ≠ pf) (h2 : pt ≠ pf) (h3 : pr ≠ pf) (hp : H p = some (.tup ws)) : ToldAt (upd H pf (.lst (af.map V.ref ++ [.ref p]))) pu pt pf pr us ts (fs ++ [ws]) rs at' (af ++ [p]) ar := by
  have st := tup_stay (ys := af.map V.ref ++ [.ref p]) t.f
  exact ⟨by rw [upd_ne h1]; exact t.u, by rw [upd_ne h2]; exact t.t, t.tt.stay st, by rw [upd_same, List.map_append]; rfl, (t.ft.stay st).snoc (st _ _ hp), by rw [upd_ne h3]; exact t.r, t.rt.stay st⟩
theorem ToldAt.addR (t : ToldAt H pu pt pf pr us ts fs rs at' af ar) (h1 : pu ≠ pr) (h2 : pt ≠ pr) (h3 : pf ≠ pr) (hp : H p = some (.tup ws)) : ToldAt (upd H pr (.lst (ar.map V.ref ++ [.ref p]))) pu pt pf pr us ts fs (rs ++ [ws]) at' af (ar ++ [p]) := by
  have st := tup_stay (ys := ar.map V.ref ++ [.ref p]) t.r
  exact ⟨by rw [upd_ne h1]; exact t.u, by rw [upd_ne h2]; exact t.t, t.tt.stay st, by rw [upd_ne h3]; exact t.f, t.ft.stay st, by rw [upd_same, List.map_append]; rfl, (t.rt.stay st).snoc (st _ _ hp)⟩
end
theorem take_fresh {xs : List Str} (nd : xs.Nodup) (k : Nat) (h : k < xs.length) : xs[k] ∉ xs.take k := by
  intro z
  obtain ⟨j, hj, e⟩ := List.mem_iff_getElem.mp z
  rw [List.getElem_take] at e
  rw [List.length_take] at hj
  have := (List.getElem_inj nd).mp e
  omega
theorem eqV_wd {x y : V} (hx : Wd x) (hy : Wd y) : eqV x y = decide (x = y) := by
  rcases hx with ⟨a, rfl, _⟩ | ⟨a, rfl, _⟩ <;> rcases hy with ⟨b, rfl, _⟩ | ⟨b, rfl, _⟩
  · show (a == b) = _
    by_cases h : a = b
    · subst h; simp
    · rw [decide_eq_false (fun z => h (V.str.inj z))]
      exact beq_eq_false_iff_ne.mpr h
  · exact (decide_eq_false (fun z => nomatch z)).symm
  · exact (decide_eq_false (fun z => nomatch z)).symm
  · show (a == b) = _
    by_cases h : a = b
    · subst h; simp
    · rw [decide_eq_false (fun z => h (V.int.inj z))]
      exact beq_eq_false_iff_ne.mpr h
theorem eqL_wd {xs ys : List V} (hx : ∀ v ∈ xs, Wd v) (hy : ∀ v ∈ ys, Wd v) : eqL xs ys = decide (xs = ys) := by
  by_cases h : xs = ys
  · subst h
    rw [eqL_refl fun x q => (hx x q).flat, decide_eq_true rfl]
  · rw [decide_eq_false h]
    rw [← Bool.not_eq_true]
    intro q
    unfold eqL at q
    rw [Bool.and_eq_true] at q
    obtain ⟨q1, q2⟩ := q
    have q2 : xs.length = ys.length := by simpa using q2
    apply h
    apply List.ext_getElem q2
    intro i h1 h2
    have := List.all_eq_true.mp q1 i (List.mem_range.mpr (by omega))
    rw [List.getElem?_eq_getElem h1, List.getElem?_eq_getElem h2] at this
    have e : eqV xs[i] ys[i] = true := this
    rw [eqV_wd (hx _ (List.getElem_mem h1)) (hy _ (List.getElem_mem h2))] at e
    exact of_decide_eq_true e
theorem Tups.at {H : Hp} : ∀ {as : List Addr} {wss : List (List V)} {i : Nat} {a : Addr}, Tups H as wss → as[i]? = some a → ∃ ws, wss[i]? = some ws ∧ H a = some (.tup ws)
  | _, _, _, _, .nil, e => by simp at e
  | _, _, 0, _, .cons h _, e => by simp at e; subst e; exact ⟨_, rfl, h⟩
  | _, _, i + 1, _, .cons _ t, e => by
    obtain ⟨ws, q, r⟩ := Tups.at (i := i) t (by simpa using e)
    exact ⟨ws, by simpa using q, r⟩
theorem Tups.len {H : Hp} {as : List Addr} {wss : List (List V)} (t : Tups H as wss) : as.length = wss.length := Paired.length t
/-- is the tuple at p one of those? -/
theorem Tups.any {H : Hp} {as : List Addr} {wss : List (List V)} {ws : List V} (t : Tups H as wss) : ∀ (e : V → Bool), (∀ a vs, vs ∈ wss → H a = some (.tup vs) → e (.ref a) = decide (vs = ws)) → (as.map V.ref).any e = decide (ws ∈ wss) := by
  intro e he
  induction t with
  | nil => simp
  | @cons a vs as wss h t ih =>
    rw [List.map_cons, List.any_cons, he a vs (List.mem_cons_self ..) h, ih fun b us q r => he b us (List.mem_cons_of_mem _ q) r]
    by_cases q : vs = ws
    · subst q; simp
    · rw [decide_eq_false q, Bool.false_or]
      have : ws ∈ vs :: wss ↔ ws ∈ wss := by
        rw [List.mem_cons]
        constructor
        · rintro (z | z)
          · exact absurd z.symm q
          · exact z
        · exact .inr
      exact decide_eq_decide.mpr this.symm
/-- what a tuple's equality with the tuple of words at p says -/
def tupE (H : Hp) (ws : List V) : V → Bool
  | .ref a => match H a with
    | some (.tup vs) => decide (vs = ws)
    | _ => false
  | _ => false
theorem tupE_of {H : Hp} {ws vs : List V} {a : Addr} (h : H a = some (.tup vs)) : tupE H ws (.ref a) = decide (vs = ws) := by
  show (match H a with | some (.tup vs) => decide (vs = ws) | _ => false) = _
  rw [h]
theorem Tups.anyE {H : Hp} {as : List Addr} {wss : List (List V)} {ws : List V} (t : Tups H as wss) : (as.map V.ref).any (tupE H ws) = decide (ws ∈ wss) := t.any _ fun _ _ _ h => tupE_of h
theorem Tups.deq {K : PySem.W.Frag} {H : Hp} {n : Nat} {as : List Addr} {wss : List (List V)} {ws : List V} {p : Addr} (t : Tups H as wss) (hw : ∀ vs ∈ wss, ∀ v ∈ vs, Wd v) (hp : H p = some (.tup ws)) (hv : ∀ v ∈ ws, Wd v) :
    ∀ z ∈ as.map V.ref, DEq K H (n + 1) z (.ref p) (tupE H ws z) := by
  intro z hz
  obtain ⟨a, ha, rfl⟩ := List.mem_map.mp hz
  obtain ⟨vs, hvs, e⟩ := t.get ha
  rw [tupE_of e, ← eqL_wd (hw vs hvs) hv]
  exact DEq.flatT (SqT.of e) (SqT.of hp) (fun x q => (hw vs hvs x q).flat) fun x q => (hv x q).flat
end Dm

/-! LINES of words, texts of lines: by their codes. -/
namespace Dm
open PySem PySem.NumText L2
/-- joined -/
def jc (s : List Nat) : List (List Nat) → List Nat
  | [] => []
  | [x] => x
  | x :: y :: r => x ++ s ++ jc s (y :: r)
theorem jc_snoc (s y : List Nat) : ∀ (x : List Nat) (r : List (List Nat)), jc s (x :: r ++ [y]) = jc s (x :: r) ++ s ++ y
  | x, [] => rfl
  | x, z :: r => by
    show x ++ s ++ jc s (z :: r ++ [y]) = (x ++ s ++ jc s (z :: r)) ++ s ++ y
    rw [jc_snoc s y z r]
    simp only [List.append_assoc]
theorem jc_len (s : List Nat) : ∀ l : List (List Nat), (jc s l).length ≤ (l.map List.length).sum + l.length * s.length
  | [] => Nat.zero_le _
  | [x] => by simp [jc]
  | x :: y :: r => by
    have := jc_len s (y :: r)
    show (x ++ s ++ jc s (y :: r)).length ≤ _
    rw [List.length_append, List.length_append, List.map_cons, List.sum_cons, List.length_cons, Nat.succ_mul]
    omega
theorem co_app (x y : Str) : co (x ++ y) = co x ++ co y := by
  show (x.cps ++ y.cps).toList = _
  simp
theorem co_glued (sep : Str) : ∀ l : List Str, co (Txt.join sep l) = jc (co sep) (l.map co) := by
  have go : ∀ l : List Str, co (Str.join sep l) = jc (co sep) (l.map co) := by
    intro l
    induction l with
    | nil => rfl
    | cons x r ih =>
      cases r with
      | nil => rfl
      | cons y r =>
        show co (x ++ sep ++ Str.join sep (y :: r)) = co x ++ co sep ++ jc (co sep) ((y :: r).map co)
        rw [co_app, co_app, ih]
  intro l
  cases l with
  | nil => rfl
  | cons x r =>
    show co (Builtin.Str.glued sep (x :: r)) = _
    rw [StrLaws.glued_eq_join]
    exact go _
theorem join_strOf (sep : Str) (l : List Str) : Txt.join sep l = strOf (jc (co sep) (l.map co)) := ext_co (by rw [co_glued, co_strOf])
theorem blank_is : (Str.ofString " " : Str) = strOf [32] := by decide +kernel
theorem feed_is : (Str.ofString "\n" : Str) = strOf [10] := by decide +kernel
/-- a line: words parted by blanks -/
def lineC (ws : List V) : List Nat := jc [32] (ws.map fun v => co (wordS v))
def lineS (ws : List V) : Str := strOf (lineC ws)
theorem word_len {v : V} (h : Wd v) : (co (wordS v)).length ≤ 100 := by
  rw [co_len]
  rcases h with ⟨x, rfl, hx⟩ | ⟨i, rfl, hi⟩
  · exact hx
  · exact Nat.le_trans (str_num i hi).2.2 (by decide)
theorem sum_le {l : List (List Nat)} {k : Nat} (h : ∀ x ∈ l, x.length ≤ k) : (l.map List.length).sum ≤ l.length * k := by
  induction l with
  | nil => simp
  | cons x r ih =>
    rw [List.map_cons, List.sum_cons, List.length_cons, Nat.succ_mul]
    have := h x (List.mem_cons_self ..)
    have := ih fun y hy => h y (List.mem_cons_of_mem _ hy)
    omega
theorem lineC_len {ws : List V} (h : ∀ v ∈ ws, Wd v) (hl : ws.length ≤ 6) : (lineC ws).length ≤ 606 := by
  have h1 := jc_len [32] (ws.map fun v => co (wordS v))
  have h2 := sum_le (l := ws.map fun v => co (wordS v)) (k := 100) fun x hx => by
    obtain ⟨v, hv, rfl⟩ := List.mem_map.mp hx
    exact word_len (h v hv)
  rw [List.length_map] at h1 h2
  show (jc [32] _).length ≤ 606
  have : [32].length = 1 := rfl
  rw [this] at h1
  omega
theorem lineS_snoc {v : V} {r : List V} {w : V} : lineS (v :: r ++ [w]) = lineS (v :: r) ++ strOf [32] ++ wordS w := by
  apply ext_co
  rw [co_app, co_app, co_strOf]
  unfold lineS lineC
  rw [co_strOf, co_strOf, List.map_append, List.map_cons, List.map_cons, List.map_nil]
  exact jc_snoc _ _ _ _
theorem lineS_one {x : Str} : lineS [.str x] = x := ext_co (by unfold lineS lineC; rw [co_strOf]; rfl)
theorem len_lineS (ws : List V) : (lineS ws).length = (lineC ws).length := len_strOf _
structure TellOk (lo hi : Int) (us : List Str) (ts fs : List (List V)) : Prop where
  lo : YearOk lo
  hi : YearOk hi
  u : us.length ≤ 100 ∧ ∀ x ∈ us, x.length ≤ 100
  t : ts.length ≤ 100 ∧ ∀ ws ∈ ts, (∀ v ∈ ws, Wd v) ∧ ws.length ≤ 5 ∧ ∃ x r, ws = .str x :: r
  f : fs.length ≤ 100 ∧ ∀ ws ∈ fs, (∀ v ∈ ws, Wd v) ∧ ws.length = 4
theorem Told.lens {us : List Str} {ts fs rs : List (List V)} (t : Told us ts fs rs) : rs.length = us.length + ts.length + fs.length := by
  induction t with
  | nil => rfl
  | unit t _ _ ih => simp only [List.length_append, List.length_cons, List.length_nil]; omega
  | tie t _ _ ih => simp only [List.length_append, List.length_cons, List.length_nil]; omega
  | find t _ ih => simp only [List.length_append, List.length_cons, List.length_nil]; omega
theorem Told.tellOk {us : List Str} {ts fs rs : List (List V)} {lo hi : Int} (t : Told us ts fs rs) (hl : rs.length ≤ 63) (h1 : YearOk lo) (h2 : YearOk hi) : TellOk lo hi us ts fs := by
  have l := t.lens
  have n := t.names
  exact ⟨h1, h2, ⟨by omega, fun x hx => Nat.le_trans (name_le (n.2 x hx)) (by decide)⟩, ⟨by omega, fun ws hw => (t.ties ws hw).words n.2⟩, ⟨by omega, fun ws hw => (t.finds ws hw).words n.2⟩⟩
end Dm

namespace Dm
open PySem PySem.NumText L2
theorem wd_dig {lo hi : Int} (h1 : YearOk lo) (h2 : YearOk hi) : ∀ v ∈ [V.str "dig", V.int lo, V.int hi], Wd v := by
  intro v hv
  simp only [List.mem_cons, List.not_mem_nil, or_false] at hv
  rcases hv with rfl | rfl | rfl
  · exact .inl ⟨_, rfl, by decide +kernel⟩
  · exact .inr ⟨_, rfl, h1⟩
  · exact .inr ⟨_, rfl, h2⟩
theorem wd_two {lo hi : Int} (h1 : YearOk lo) (h2 : YearOk hi) : ∀ v ∈ [V.int lo, V.int hi], Wd v := fun v hv => wd_dig h1 h2 v (List.mem_cons_of_mem _ hv)
theorem cutV_ints (ns : List Int) (lo hi : Option Int) : ∃ cs : List Int, cutV (ns.map V.int) lo hi = cs.map V.int ∧ cs.length ≤ ns.length := by
  refine ⟨(ns.drop (HT.sIx (ns.map V.int).length 0 lo)).take (HT.sIx (ns.map V.int).length (ns.map V.int).length hi - HT.sIx (ns.map V.int).length 0 lo), ?_, ?_⟩
  · unfold cutV
    rw [List.map_take, List.map_drop]
  · rw [List.length_take, List.length_drop]
    omega
end Dm

/-! split; enumerate and zip, walked. -/
namespace L2
open PySem PySem.Spec PyProof.Rows
open Builtin Builtin.Str
theorem vals_strsFrom : ∀ (ys : List Str) (k : Nat), Vals (ys.map V.str) (strsFrom k ys)
  | [], _ => .nil
  | y :: ys, k => .cons ⟨k, rfl⟩ (vals_strsFrom ys (k + 1))
section
variable {X : Cx}
/-- a list of texts just made -/
theorem new_strs {pins : List (Addr × Obj)} {σ : St} {H : Hp} {s : Shared} {Q : VK} {ys : List Str} {us : List Value} {k n : Nat} (I : Inv X pins σ H s) (r : Vals (ys.map V.str) us) (hz : ys.length ≤ sizeLine) (q : ∀ p, H p = none → Q (.ref p) (upd H p (.lst (ys.map V.str)))) :
    EP X pins σ Q (.ref s.heap.objs.size) { s with heap := s.heap.push { cls := .type "list", data := .seq us.toArray n }, toks := k } :=
  ⟨.ref s.heap.objs.size, _, I.laid (t' := k) (o := .lst (ys.map V.str)) (fun b u e => Heap.get?_push_of_some _ e) (Nat.le_refl _) ⟨by rw [List.length_map]; exact hz, us, n, r, Heap.get?_push_size _ rfl⟩, rfl, q _ (I.hok.fresh (Nat.le_refl _))⟩
theorem mt_split : MtR X "str.split" (fun x xs H Q => ∃ a b, x = V.str a ∧ xs = [V.str b] ∧ (b.length == 0) = false ∧ a.length ≤ sizeLine ∧ (Txt.split a b).length ≤ sizeLine ∧ ∀ p, H p = none → Q (.ref p) (upd H p (.lst ((Txt.split a b).map V.str)))) := by
  intro pins s σ H x xs v us Q I rx rs h
  obtain ⟨a, b, rfl, rfl, hb, ha, hn, q⟩ := h
  obtain ⟨t, rfl⟩ := rx
  obtain ⟨u, rfl, t', rfl⟩ := vals1 rs
  have one : Txt.split a b = [a] → EP X pins σ Q (.ref s.heap.objs.size) { s with heap := s.heap.push { cls := .type "list", data := .seq [Value.str a t].toArray 0 }, toks := s.toks } := fun e => by
    rw [e] at q
    exact new_strs I (ys := [a]) (.cons ⟨t, rfl⟩ .nil) (by show 1 ≤ sizeLine; decide) q
  cases h1 : (decide (a.length < b.length) || decide (strKind a < strKind b))
  · cases hf : (occurrences a b 0 a.length (a.length + 1)).isEmpty
    · have e : Txt.split a b = partsBetween a (occurrences a b 0 a.length (a.length + 1)) b.length := by
        unfold Txt.split
        rw [h1, hf]; rfl
      rw [e] at hn q
      refine call_meets F.slot_str_split (typeIs_str _ _ _) F.entry_str_split (F.args_str_split_2 _ _) (meets_str_split_sep a b t t' h1 hb hf ha hn) ?_
      exact new_strs I (vals_strsFrom _ _) hn q
    · exact call_meets F.slot_str_split (typeIs_str _ _ _) F.entry_str_split (F.args_str_split_2 _ _) (meets_str_split_not_found a b t t' h1 hb hf) (one (by unfold Txt.split; rw [h1, hf]; rfl))
  · exact call_meets F.slot_str_split (typeIs_str _ _ _) F.entry_str_split (F.args_str_split_2 _ _) (meets_str_split_cannot_occur a b t t' h1) (one (by unfold Txt.split; rw [h1]; rfl))
end
end L2
namespace L2
open PySem PySem.Spec PyProof.Rows
section
variable {X : Cx} {pins : List (Addr × Obj)} {σ : St} {H : Hp} {s : Shared} {h' : Heap}
/-- some untracked records of ours have turned -/
theorem Inv.turnedL {t' : Nat} {ch : List Addr} (I : Inv X pins σ H s) (k : ∀ b o, b ∉ ch → s.heap.get? b = some o → h'.get? b = some o) (hf : ∀ b ∈ ch, FpOk X pins H b) : Inv X pins σ H { s with heap := h', toks := t' } := by
  have nit : ∀ b u, H b = some u → b ∉ ch := fun b u e z => by rw [(hf b z).1] at e; cases e
  refine I.step (g' := s.gens) (d' := s.drawn) (ch := ch) (fun b hb => ⟨(hf b hb).2.2.2.1, (hf b hb).2.1, (hf b hb).2.2.2.2.1, (hf b hb).2.2.2.2.2⟩) (fun b o _ _ hc e _ => k b o hc e) (fun b o _ _ hc e _ => ⟨o.slots, k b o hc e⟩) (fun _ _ _ _ n => n)
    (fun b o hc e => ⟨o, k b o hc e⟩) (fun _ _ e => e) (fun _ _ _ e => e) (fun b ps e => ⟨#[], by rw [e]; simp⟩) (fun m hm => ?_) (fun b u e => ?_) I.bare
  · obtain ⟨o, es, ep, ho, r⟩ := hm
    exact ⟨o, es, ep, k _ o (fun z => (hf _ z).2.1 rfl) ho, r⟩
  · refine (I.hok b u e).stay (fun c v hc q => k c v ?_ q) (fun _ q => q) fun _ _ q => q
    rcases hc with z | z
    · rw [z]; exact nit b u e
    · exact nit c _ z
/-- .. and a new object is laid and tracked -/
theorem Inv.turnedNew {t' : Nat} {ch : List Addr} {T : Addr} {o : HO} (I : Inv X pins σ H s) (k : ∀ b u, b ∉ ch → s.heap.get? b = some u → h'.get? b = some u) (hf : ∀ b ∈ ch, FpOk X pins H b) (hT : s.heap.objs.size ≤ T)
    (new : ObjOk X.prog X.w (upd H T o) h' T o) : Inv X pins σ (upd H T o) { s with heap := h', toks := t' } := by
  have hn : H T = none := I.hok.fresh hT
  have nit : ∀ b u, H b = some u → b ∉ ch := fun b u e z => by rw [(hf b z).1] at e; cases e
  have neT : ∀ b u, s.heap.get? b = some u → b ≠ T := fun b u e => Nat.ne_of_lt (Nat.lt_of_lt_of_le (Heap.lt_size e) hT)
  refine I.step (g' := s.gens) (d' := s.drawn) (ch := ch) (fun b hb => ⟨(hf b hb).2.2.2.1, (hf b hb).2.1, (hf b hb).2.2.2.2.1, (hf b hb).2.2.2.2.2⟩) (fun b u _ _ hc e _ => k b u hc e) (fun b u _ _ hc e _ => ⟨u.slots, k b u hc e⟩) (fun b u _ e n => by rw [upd_ne (neT b u e)]; exact n)
    (fun b u hc e => ⟨u, k b u hc e⟩) (fun b xs e => by rw [upd_ne (ne_of_none e hn)]; exact e) (fun b u v e => by rw [upd_ne (ne_of_none e hn)]; exact e) (fun b ps e => ⟨#[], by rw [upd_ne (ne_of_none e hn), e]; simp⟩) (fun m hm => ?_) (fun b u e => ?_) I.bare
  · obtain ⟨u, es, ep, ho, r⟩ := hm
    exact ⟨u, es, ep, k _ u (fun z => (hf _ z).2.1 rfl) ho, r⟩
  · by_cases hb : b = T
    · subst hb
      rw [upd_same] at e
      cases e
      exact new
    · rw [upd_ne hb] at e
      refine (I.hok b u e).stay (fun c v hc q => k c v ?_ q) (fun c q => by rw [upd_ne (ne_of_none q hn)]; exact q) fun c xs q => by rw [upd_ne (ne_of_none q hn)]; exact q
      rcases hc with z | z
      · rw [z]; exact nit b u e
      · exact nit c _ z
end
/-! ### enumerate -/
/-- indices moved on by a -/
theorem draws_shift {prog : Program} {w : World} {A : Around} {it : Addr} {fp : List Addr} {n : Nat} {P : Nat → Value → Prop} {St : Nat → Heap → Prop} (D : Draws prog w A it fp n P St) (a : Nat) :
    Draws prog w A it fp (n + a) (fun i v => P (i - a) v) (fun i h => a ≤ i ∧ St (i - a) h) where
  live := fun i h st => D.live _ h st.2
  frame := fun i h h' st k => ⟨st.1, D.frame _ h h' st.2 k⟩
  item := fun i s Q E hi st hQ => D.item (i - a) s Q E (by have := st.1; omega) st.2 fun x h1 tk p q r => hQ x h1 tk p ⟨by have := st.1; omega, by
    have : i + 1 - a = i - a + 1 := by have := st.1; omega
    rw [this]; exact q⟩ r
  done := fun s Q E st hE => D.done s Q E (by have := st.2; rwa [Nat.add_sub_cancel] at this) hE
/-- enumerate's end, wherever its number stands -/
theorem enum_end {prog : Program} {w : World} {A : Around} {E : Value → Shared → Prop} {s : Shared} {e it l : Addr} {i : Nat} {j : Int} {items : Array Value} {old : Value} {Q : Option Value → Shared → Prop} (hd : A.handled = none)
    (he : IsEnum s.heap e it j old) (hi : s.heap.IsListIter it l i) (hl : s.heap.IsList l items) (hx : items[i]? = none) (hQ : ∀ h1, Heap.ExtBut it s.heap h1 → Q none { s with heap := h1 }) : wpAny (model prog w) A (pyNext (.ref e)) Q E s := by
  have D : Draws prog w A.in1 it [it, l] i (fun _ _ => False) (fun k h => (k < i → False) ∧ h.IsListIter it l i ∧ h.IsList l items) :=
    ⟨fun _ _ q => let ⟨o, ho, _⟩ := q.2.1; ⟨o, ho⟩, fun _ _ _ q k => ⟨q.1, q.2.1.at fun o x => k it (by simp) o x, q.2.2.at fun o x => k l (by simp) o x⟩, fun k _ _ _ hk q _ => (q.1 hk).elim, fun s1 _ _ q hE => wpAny_nextOf_list_end (A := A.in1) hd q.2.1 q.2.2 hx hE⟩
  exact wpAny_pyNext_enum_endD D he ⟨fun z => Nat.lt_irrefl _ z, hi, hl⟩ hQ
/-- the list at a, each item with its number from st on -/
def Ite (K : PySem.W.Frag) (a : Addr) (st : Nat) : It :=
  ⟨fun i H => ∃ xs x, SqL K H a xs ∧ xs[i]? = some x, fun i H v H' => ∃ T x, H T = none ∧ v = .ref T ∧ H' = upd H T (.tup [.int ((st + i : Nat) : Int), x]) ∧ ∀ xs, SqL K H a xs → xs[i]? = some x, fun i H => ∃ xs, SqL K H a xs ∧ xs.length ≤ i⟩
theorem turn_enum {P : Program} {w : World} {K : PySem.W.Frag} {elts : List Expr} {ct : Nat} {pos : Pos} (a e it : Addr) (st : Nat) (hne : e ≠ it) :
    Turn P w K (.Tuple elts ct pos) (Ite K a st) [e, it] e (fun i h => (∃ old, IsEnum h e it ((st + i : Nat) : Int) old) ∧ h.IsListIter it a i) where
  mem := by simp
  obj := fun i h q b hb => by
    obtain ⟨⟨old, he⟩, o, ho, c, d⟩ := q
    rcases List.mem_cons.mp hb with hb | hb
    · subst hb
      exact ⟨_, he, fun v z => by cases z⟩
    · rw [List.mem_singleton] at hb
      subst hb
      exact ⟨o, ho, fun v z => by rw [d] at z; cases z⟩
  keep := fun i h h' q k => ⟨let ⟨old, he⟩ := q.1; ⟨old, k e (by simp) _ he⟩, q.2.at fun o x => k it (by simp) o x⟩
  item := by
    intro X hP hw hK hc i pins s σ H E I hf q hg
    subst hP hw hK
    obtain ⟨xs, x, hq, hx⟩ := hg
    obtain ⟨⟨old, he⟩, hit⟩ := q
    obtain ⟨its, rv, p, hz⟩ := I.list hq
    obtain ⟨u, hu, ru⟩ := rv.get hx
    have hl := p.isList
    have li : a ≠ it := by
      rintro rfl
      obtain ⟨o, ho, c, d⟩ := hit
      obtain ⟨o2, ho2, c2, _⟩ := hl
      rw [ho] at ho2; cases ho2; rw [c] at c2
      injection c2 with c2
      exact absurd c2 (by decide)
    have le : e ≠ a := by
      rintro rfl
      obtain ⟨o2, ho2, c2, _⟩ := hl
      rw [he] at ho2; cases ho2
      injection c2 with c2
      exact absurd c2 (by decide)
    have hi : i < its.toArray.size := by
      have := (List.getElem?_eq_some_iff.mp hu).1
      simpa using this
    have hel : e < s.heap.objs.size := Heap.lt_size he
    have hil : it < s.heap.objs.size := by obtain ⟨o, ho, _⟩ := hit; exact Heap.lt_size ho
    refine wpAny_pyNext_enum_itemD (draws_shift (Draws.list (A := X.A.in1) (I.ok.hd hc) it a li its.toArray) st) he ⟨by omega, by rw [Nat.add_sub_cancel_left]; exact ⟨hit, hl⟩⟩ (by omega) hne (by simp [hne, le]) fun y h1 tk py eo sy ht hsz kk => ?_
    have ey : y = u := by
      have py : its.toArray[st + i - st]? = some y := py
      rw [Nat.add_sub_cancel_left] at py
      have hu' : its.toArray[i]? = some u := by simpa using hu
      rw [hu'] at py
      exact (Option.some.inj py).symm
    subst ey
    refine ⟨_, rfl, ?_⟩
    have I1 : Inv X pins σ (upd H s.heap.objs.size (.tup [.int ((st + i : Nat) : Int), x])) { s with heap := h1, toks := tk + 1 } :=
      I.turnedNew (ch := [e, it]) (o := .tup [.int ((st + i : Nat) : Int), x]) (fun b o hb q => kk b o (fun z => hb (by simp [z])) (fun z => hb (by simp [z])) q) hf (Nat.le_refl _) ⟨(by show 2 ≤ sizeLine; decide), [_, y], .cons ⟨_, rfl⟩ (.cons ru .nil), _, ht, rfl, _, rfl⟩
    refine wpAny_letOwnedTupleGo_enum eo fun h2 he2 hs2 => ?_
    have fn : ∀ b ∈ [e, it], upd H s.heap.objs.size (.tup [.int ((st + i : Nat) : Int), x]) b = none := fun b hb => by
      have hb' : b ≠ s.heap.objs.size := by
        rcases List.mem_cons.mp hb with z | z
        · subst z; exact Nat.ne_of_lt hel
        · rw [List.mem_singleton] at z; subst z; exact Nat.ne_of_lt hil
      rw [upd_ne hb']
      exact (hf b hb).1
    have I2 := I1.turnedL (t' := tk + 1) (h' := h2) (ch := [e]) (fun b o hb q => (hs2.2 b (fun z => hb (by simp [z]))).trans q) (fun b hb => by
      rw [List.mem_singleton] at hb
      subst hb
      exact ⟨fn _ (by simp), (hf _ (by simp)).2⟩)
    have sy := sy.2
    rw [show st + i + 1 - st = i + 1 by omega] at sy
    refine ⟨.ref s.heap.objs.size, _, I2, rfl, ⟨_, x, I.hok.fresh (Nat.le_refl _), rfl, rfl, fun ys hy => by rw [I.list_inj hy hq]; exact hx⟩, ⟨⟨y, ?_⟩, sy.1.at fun o q => (hs2.2 it hne.symm).trans q⟩, fn⟩
    have : ((st + (i + 1) : Nat) : Int) = ((st + i : Nat) : Int) + 1 := by omega
    rw [this]
    exact he2
  done := by
    intro X hP hw hK hc i pins s σ H E I hf q hg
    subst hP hw hK
    obtain ⟨xs, hq, hx⟩ := hg
    obtain ⟨⟨old, he⟩, hit⟩ := q
    obtain ⟨its, rv, p, hz⟩ := I.list hq
    have hl := rv.length
    have hlist := p.isList
    have li : a ≠ it := by
      rintro rfl
      obtain ⟨o, ho, c, d⟩ := hit
      obtain ⟨o2, ho2, c2, _⟩ := hlist
      rw [ho] at ho2; cases ho2; rw [c] at c2
      injection c2 with c2
      exact absurd c2 (by decide)
    exact enum_end (I.ok.hd hc) he hit hlist (by simp; omega) fun h1 eb => ⟨rfl, I.turnedL (t' := s.toks) (ch := [it]) (fun b o hb q => eb b o (fun z => hb (by simp [z])) q) (fun b hb => hf b (by rw [List.mem_singleton] at hb; simp [hb]))⟩
  self := fun _ _ _ _ _ q h => let ⟨_, he⟩ := q.1; wpAny_pyIter_enum he h
end L2


/-! zip of two sequences, each a list or a tuple. -/
namespace L2
open PySem PySem.Spec PyProof.Rows
/-- an iterator of a tuple (true) or of a list, and what it walks -/
def SIt (b : Bool) (h : Heap) (it a : Addr) (i : Nat) : Prop := if b = true then h.IsTupleIter it a i else h.IsListIter it a i
def SSq (b : Bool) (h : Heap) (a : Addr) (items : Array Value) : Prop := if b = true then h.IsTuple a items else h.IsList a items
theorem SIt.at {b : Bool} {h h' : Heap} {it a : Addr} {i : Nat} (q : SIt b h it a i) (k : ∀ o, h.get? it = some o → h'.get? it = some o) : SIt b h' it a i := by
  cases b with
  | true => exact Heap.IsTupleIter.at (show h.IsTupleIter it a i from q) k
  | false => exact Heap.IsListIter.at (show h.IsListIter it a i from q) k
theorem SSq.at {b : Bool} {h h' : Heap} {a : Addr} {items : Array Value} (q : SSq b h a items) (k : ∀ o, h.get? a = some o → h'.get? a = some o) : SSq b h' a items := by
  cases b with
  | true =>
    obtain ⟨o, ho, r⟩ := show h.IsTuple a items from q
    exact ⟨o, k o ho, r⟩
  | false => exact Heap.IsList.at (show h.IsList a items from q) k
def sitName (b : Bool) : String := if b = true then "tuple_iterator" else "list_iterator"
theorem SIt.obj {b : Bool} {h : Heap} {it a : Addr} {i : Nat} (q : SIt b h it a i) : ∃ o, h.get? it = some o ∧ o.cls = .type (sitName b) ∧ o.data = .fields #[.ref a, .int i 0] := by
  cases b with
  | true =>
    obtain ⟨o, ho, c, d⟩ := show h.IsTupleIter it a i from q
    exact ⟨o, ho, c, d⟩
  | false =>
    obtain ⟨o, ho, c, d⟩ := show h.IsListIter it a i from q
    exact ⟨o, ho, c, d⟩
section
variable {prog : Program} {w : World} {A : Around} {E : Value → Shared → Prop} {s : Shared}
theorem seq_next {b : Bool} {it a : Addr} {i : Nat} {items : Array Value} {x : Value} {Q : Value → Shared → Prop} (hi : SIt b s.heap it a i) (ha : SSq b s.heap a items) (hx : items[i]? = some x)
    (hQ : ∀ h1, SIt b h1 it a (i + 1) → Heap.SameBut it s.heap h1 → Q x { s with heap := h1 }) : wpAny (model prog w) A (Builtin.SmallTypes.nextOf (.ref it)) Q E s := by
  cases b with
  | false => exact wpAny_nextOf_list_item (show s.heap.IsListIter it a i from hi) (show s.heap.IsList a items from ha) hx hQ
  | true =>
    have hi : s.heap.IsTupleIter it a i := hi
    obtain ⟨o, ho, hc, hd⟩ := id hi
    obtain ⟨oa, hoa, _, n, hda⟩ := show s.heap.IsTuple a items from ha
    unfold Builtin.SmallTypes.nextOf
    refine wpAny_bind (wpAny_callSpecial?_slot (name := Str.ofString "__next__") hi.typeIs F.slot_tuple_iterator_next (wpAny_call_entry F.slot_tuple_iterator_next hi.typeIs F.entry_tuple_iterator_next ?_ (F.args_tuple_iterator_next_1 _)))
    show wpAny (model prog w) A.in1 (field (.ref it) 0 >>= _) _ _ s
    refine wpAny_bind (wpAny_field ho hd (x := .ref a) rfl ?_)
    show wpAny (model prog w) A.in1 (if (Value.ref a == Value.none) = true then _ else _) _ _ s
    rw [if_neg (show ¬ ((Value.ref a == Value.none) = true) from Bool.false_ne_true)]
    show wpAny (model prog w) A.in1 (field (.ref it) 1 >>= _) _ _ s
    refine wpAny_bind (wpAny_field ho hd (x := .int i 0) rfl ?_)
    show wpAny (model prog w) A.in1 (seqItems? (.ref a) >>= _) _ _ s
    refine wpAny_bind (wpAny_seqItems hoa hda ?_)
    simp only [Int.toNat_natCast, hx]
    refine wpAny_bind (wpAny_setField ho hd (by simp) (wpAny_pure ⟨x, rfl, wpAny_pure (hQ _ ?_ (Heap.SameBut.update ..))⟩))
    exact ⟨_, Heap.get?_update_self _ ho (Obj.isFreed_of_fields (Obj.data_mapFields hd _)), (Obj.cls_mapFields ..).trans hc, by rw [Obj.data_mapFields hd]; simp [rawInt]⟩
theorem seq_end {b : Bool} {it a : Addr} {i : Nat} {items : Array Value} {Q : Value → Shared → Prop} (hd : A.handled = none) (hi : SIt b s.heap it a i) (ha : SSq b s.heap a items) (hx : items[i]? = none)
    (hE : ∀ h1 e, Heap.ExtBut it s.heap h1 → (∃ o, h1.get? e = some o ∧ o.cls = .type "StopIteration") → E (.ref e) { s with heap := h1 }) : wpAny (model prog w) A (Builtin.SmallTypes.nextOf (.ref it)) Q E s := by
  cases b with
  | false => exact wpAny_nextOf_list_end hd (show s.heap.IsListIter it a i from hi) (show s.heap.IsList a items from ha) hx hE
  | true =>
    have hi : s.heap.IsTupleIter it a i := hi
    obtain ⟨o, ho, hc, hd'⟩ := id hi
    obtain ⟨oa, hoa, _, n, hda⟩ := show s.heap.IsTuple a items from ha
    unfold Builtin.SmallTypes.nextOf
    refine wpAny_bind (wpAny_callSpecial?_slot (name := Str.ofString "__next__") hi.typeIs F.slot_tuple_iterator_next (wpAny_call_entry F.slot_tuple_iterator_next hi.typeIs F.entry_tuple_iterator_next ?_ (F.args_tuple_iterator_next_1 _)))
    show wpAny (model prog w) A.in1 (field (.ref it) 0 >>= _) _ _ s
    refine wpAny_bind (wpAny_field ho hd' (x := .ref a) rfl ?_)
    show wpAny (model prog w) A.in1 (if (Value.ref a == Value.none) = true then _ else _) _ _ s
    rw [if_neg (show ¬ ((Value.ref a == Value.none) = true) from Bool.false_ne_true)]
    show wpAny (model prog w) A.in1 (field (.ref it) 1 >>= _) _ _ s
    refine wpAny_bind (wpAny_field ho hd' (x := .int i 0) rfl ?_)
    show wpAny (model prog w) A.in1 (seqItems? (.ref a) >>= _) _ _ s
    refine wpAny_bind (wpAny_seqItems hoa hda ?_)
    simp only [Int.toNat_natCast, hx]
    refine wpAny_bind (wpAny_rule (wpAny_bind (wpAny_setField ho hd' (by simp) ?_)))
    show wpAny (model prog w) A.in1 (newExc (.type "StopIteration") [] >>= _) _ _ _
    refine wpAny_bind ?_
    simp only [newExc, newTuple]
    refine wpAny_bind (wpAny_newObj_type (wpAny_bind (m := firstArgMember _ _) (wpAny_of_eq (a := Value.none) (by first | rfl | (simp only [firstArgMember]; rfl)) (wpAny_newObj_type ?_ (by size_fits)))) (by size_fits))
    simp only [raiseNew]
    refine wpAny_bind (wpAny_handled ?_)
    rw [show A.in1.handled = none from hd]
    exact wpAny_bind (wpAny_pure (wpAny_throw (hE _ _ (((Heap.SameBut.update ..).extBut.push _).push _) ⟨_, Heap.get?_push_size _ rfl, rfl⟩)))
end
end L2
namespace L2
open PySem PySem.Spec PyProof.Rows
/-- the zip's own records stand apart from one another, and from what is walked -/
structure ZAp (z TI TO i1 i2 : Addr) : Prop where
  a1 : TI ≠ z
  a2 : TO ≠ z
  a3 : i1 ≠ z
  a4 : i2 ≠ z
  a5 : TI ≠ TO
  a6 : TI ≠ i1
  a7 : TI ≠ i2
  a8 : TO ≠ i1
  a9 : TO ≠ i2
  b1 : i1 ≠ i2
structure ZOff (l z TO i1 i2 : Addr) : Prop where
  c1 : l ≠ z
  c2 : l ≠ TO
  c3 : l ≠ i1
  c4 : l ≠ i2
section
variable {prog : Program} {w : World} {A : Around} {E : Value → Shared → Prop} {s : Shared} {z TI TO i1 i2 l1 l2 : Addr} {k1 k2 : Nat} {xs ys : Array Value} {x y a b : Value} {t1 t2 : Bool}
theorem zip_item {Q : Value → Shared → Prop} (D : ZAp z TI TO i1 i2) (O1 : ZOff l1 z TO i1 i2) (O2 : ZOff l2 z TO i1 i2)
    (hz : IsZip s.heap z TI TO .none) (hI : IsPair s.heap TI (.ref i1) (.ref i2)) (hO : IsPair s.heap TO a b) (h1 : SIt t1 s.heap i1 l1 k1) (h2 : SIt t2 s.heap i2 l2 k2) (q1 : SSq t1 s.heap l1 xs) (q2 : SSq t2 s.heap l2 ys) (hx : xs[k1]? = some x) (hy : ys[k2]? = some y)
    (hQ : ∀ g, IsZip g z TI TO (rawInt s.heap.objs.size) → IsPair g TO x y → SIt t1 g i1 l1 (k1 + 1) → SIt t2 g i2 l2 (k2 + 1) → IsPair g s.heap.objs.size x y →
      (∀ c o, c ≠ z → c ≠ TO → c ≠ i1 → c ≠ i2 → s.heap.get? c = some o → g.get? c = some o) → Q (.ref s.heap.objs.size) { s with heap := g }) :
    wpAny (model prog w) A (Builtin.«zip.__next__» ⟨[.ref z], []⟩) (fun fin s' => ∃ v, fin = .done (.ret v) ∧ Q v s') E s := by
  show wpAny (model prog w) A (field (.ref z) 2 >>= _) _ _ _
  refine wpAny_bind (wpAny_field hz rfl (x := .bool false) rfl ?_)
  show wpAny (model prog w) A (field (.ref z) 3 >>= _) _ _ _
  refine wpAny_bind (wpAny_field hz rfl (x := .ref TI) rfl (wpAny_bind (wpAny_seqItems hI rfl ?_)))
  show wpAny (model prog w) A (Builtin.SmallTypes.ownedTupleIsFree (.ref z) >>= _) _ _ _
  unfold Builtin.SmallTypes.ownedTupleIsFree
  refine wpAny_bind (wpAny_bind (wpAny_field hz rfl (x := .none) rfl (wpAny_pure ?_)))
  simp only [if_true]
  refine wpAny_bind (wpAny_rule (wpAny_bind (wpAny_field hz rfl (x := .ref TO) rfl (wpAny_bind (wpAny_setField_rec hz (by simp) fun g1 z1 e1 => ?_)))))
  have z1 : IsZip g1 z TI TO .ellipsis := z1
  have e1 : Heap.SameBut z s.heap g1 := e1
  refine wpAny_bind ?_
  simp only [List.zipIdx_cons, List.zipIdx_nil, List.forIn_cons, List.forIn_nil]
  refine wpAny_bind (wpAny_bind (wpAny_onRaise ?_))
  show wpAny (model prog w) A (Builtin.SmallTypes.nextOf (.ref i1) >>= _) _ _ _
  refine wpAny_bind (seq_next (h1.at fun o q => (e1.2 _ D.a3).trans q) (q1.at fun o q => (e1.2 _ O1.c1).trans q) hx fun g2 j1 e2 => wpAny_pure ?_)
  have e2 : Heap.SameBut i1 g1 g2 := e2
  have O2' : IsPair g2 TO a b := (e2.2 _ D.a8).trans ((e1.2 _ D.a2).trans hO)
  refine wpAny_bind (wpAny_seqItems O2' rfl (wpAny_bind (wpAny_updateSeq_pair O2' fun g3 O3 e3 => wpAny_bind (wpAny_letGo (wpAny_pure ?_)))))
  have O3 : IsPair g3 TO x b := O3
  have e3 : Heap.SameBut TO g2 g3 := e3
  refine wpAny_bind (wpAny_bind (wpAny_onRaise ?_))
  show wpAny (model prog w) A (Builtin.SmallTypes.nextOf (.ref i2) >>= _) _ _ _
  refine wpAny_bind (seq_next (h2.at fun o q => (e3.2 _ D.a9.symm).trans ((e2.2 _ D.b1.symm).trans ((e1.2 _ D.a4).trans q))) (q2.at fun o q => (e3.2 _ O2.c2).trans ((e2.2 _ O2.c3).trans ((e1.2 _ O2.c1).trans q))) hy fun g4 j2 e4 => wpAny_pure ?_)
  have e4 : Heap.SameBut i2 g3 g4 := e4
  have O4 : IsPair g4 TO x b := (e4.2 _ D.a9).trans O3
  refine wpAny_bind (wpAny_seqItems O4 rfl (wpAny_bind (wpAny_updateSeq_pair O4 fun g5 O5 e5 => wpAny_bind (wpAny_letGo (wpAny_pure (wpAny_pure ?_))))))
  have O5 : IsPair g5 TO x y := O5
  have e5 : Heap.SameBut TO g4 g5 := e5
  refine wpAny_bind (wpAny_seqItems O5 rfl (wpAny_bind (wpAny_newTuple ?_)))
  have sz : g5.objs.size = s.heap.objs.size := by rw [e5.1, e4.1, e3.1, e2.1, e1.1]
  have z5 : IsZip g5 z TI TO .ellipsis := (e5.2 _ D.a2.symm).trans ((e4.2 _ D.a4.symm).trans ((e3.2 _ D.a2.symm).trans ((e2.2 _ D.a3.symm).trans z1)))
  have k5 : ∀ c o, c ≠ z → c ≠ TO → c ≠ i1 → c ≠ i2 → s.heap.get? c = some o → g5.get? c = some o := fun c o c1 c2 c3 c4 q => (e5.2 _ c2).trans ((e4.2 _ c4).trans ((e3.2 _ c2).trans ((e2.2 _ c3).trans ((e1.2 _ c1).trans q))))
  have j1' : SIt t1 g5 i1 l1 (k1 + 1) := j1.at fun o q => (e5.2 _ D.a8.symm).trans ((e4.2 _ D.b1).trans ((e3.2 _ D.a8.symm).trans q))
  have j2' : SIt t2 g5 i2 l2 (k2 + 1) := j2.at fun o q => (e5.2 _ D.a9.symm).trans q
  have zl : z < g5.objs.size := Heap.lt_size z5
  show wpAny (model prog w) A (Builtin.SmallTypes.ownedTupleHandOut (.ref z) (.ref g5.objs.size) >>= _) _ _ _
  unfold Builtin.SmallTypes.ownedTupleHandOut
  have z6 : IsZip (g5.push { cls := .type "tuple", data := .seq #[x, y] }) z TI TO .ellipsis := Heap.get?_push_of_some _ z5
  refine wpAny_bind (wpAny_bind (wpAny_setField_rec z6 (by simp) fun g7 z7 e7 => ?_))
  have z7 : IsZip g7 z TI TO (rawInt g5.objs.size) := z7
  refine wpAny_setField_rec z7 (by simp) fun g8 z8 e8 => ?_
  have z8 : IsZip g8 z TI TO (rawInt g5.objs.size) := z8
  have up : ∀ c o, c ≠ z → g5.get? c = some o → g8.get? c = some o := fun c o c1 q => (e8.2 c c1).trans ((e7.2 c c1).trans (Heap.get?_push_of_some _ q))
  have T8 : IsPair g8 g5.objs.size x y := (e8.2 _ (Nat.ne_of_gt zl)).trans ((e7.2 _ (Nat.ne_of_gt zl)).trans (Heap.get?_push_size _ rfl))
  rw [sz] at z8 T8
  refine wpAny_pure ⟨_, rfl, ?_⟩
  show Q (.ref g5.objs.size) _
  rw [sz]
  exact hQ g8 z8 (up _ _ D.a2 O5) (j1'.at fun o q => up _ o D.a3 q) (j2'.at fun o q => up _ o D.a4 q) T8 fun c o c1 c2 c3 c4 q => up c o c1 (k5 c o c1 c2 c3 c4 q)
theorem zip_done {Q : Fin → Shared → Prop} (hd : A.handled = none) (D : ZAp z TI TO i1 i2) (O1 : ZOff l1 z TO i1 i2) (O2 : ZOff l2 z TO i1 i2)
    (hz : IsZip s.heap z TI TO .none) (hI : IsPair s.heap TI (.ref i1) (.ref i2)) (hO : IsPair s.heap TO a b) (h1 : SIt t1 s.heap i1 l1 k1) (h2 : SIt t2 s.heap i2 l2 k2) (q1 : SSq t1 s.heap l1 xs) (q2 : SSq t2 s.heap l2 ys) (hend : xs[k1]? = none ∨ ys[k2]? = none)
    (hE : ∀ g e, (∀ c o, c ≠ z → c ≠ TO → c ≠ i1 → c ≠ i2 → s.heap.get? c = some o → g.get? c = some o) → (∃ o, g.get? e = some o ∧ o.cls = .type "StopIteration") → E (.ref e) { s with heap := g }) :
    wpAny (model prog w) A (Builtin.«zip.__next__» ⟨[.ref z], []⟩) Q E s := by
  show wpAny (model prog w) A (field (.ref z) 2 >>= _) _ _ _
  refine wpAny_bind (wpAny_field hz rfl (x := .bool false) rfl ?_)
  show wpAny (model prog w) A (field (.ref z) 3 >>= _) _ _ _
  refine wpAny_bind (wpAny_field hz rfl (x := .ref TI) rfl (wpAny_bind (wpAny_seqItems hI rfl ?_)))
  show wpAny (model prog w) A (Builtin.SmallTypes.ownedTupleIsFree (.ref z) >>= _) _ _ _
  unfold Builtin.SmallTypes.ownedTupleIsFree
  refine wpAny_bind (wpAny_bind (wpAny_field hz rfl (x := .none) rfl (wpAny_pure ?_)))
  simp only [if_true]
  refine wpAny_bind (wpAny_rule (wpAny_bind (wpAny_field hz rfl (x := .ref TO) rfl (wpAny_bind (wpAny_setField_rec hz (by simp) fun g1 z1 e1 => ?_)))))
  have z1 : IsZip g1 z TI TO .ellipsis := z1
  have e1 : Heap.SameBut z s.heap g1 := e1
  refine wpAny_bind ?_
  simp only [List.zipIdx_cons, List.zipIdx_nil, List.forIn_cons, List.forIn_nil]
  refine wpAny_bind (wpAny_bind (wpAny_onRaise ?_))
  show wpAny (model prog w) A (Builtin.SmallTypes.nextOf (.ref i1) >>= _) _ _ _
  cases hx : xs[k1]? with
  | none =>
    refine wpAny_bind (seq_end hd (h1.at fun o q => (e1.2 _ D.a3).trans q) (q1.at fun o q => (e1.2 _ O1.c1).trans q) hx fun g2 e e2 he => ?_)
    obtain ⟨oe, hoe, ce⟩ := he
    have z2 : IsZip g2 z TI TO .ellipsis := e2 _ _ D.a3.symm z1
    have nz : e ≠ z := by
      rintro rfl
      rw [z2] at hoe; cases hoe
      injection ce with ce
      exact absurd ce (by decide)
    exact wpAny_setField_rec z2 (by simp) fun g3 _ e3 => hE g3 e (fun c o c1 _ c3 _ q => (e3.2 c c1).trans (e2 c o c3 ((e1.2 c c1).trans q))) ⟨oe, (e3.2 e nz).trans hoe, ce⟩
  | some x =>
    have hy : ys[k2]? = none := by
      rcases hend with h | h
      · rw [hx] at h; cases h
      · exact h
    refine wpAny_bind (seq_next (h1.at fun o q => (e1.2 _ D.a3).trans q) (q1.at fun o q => (e1.2 _ O1.c1).trans q) hx fun g2 j1 e2 => wpAny_pure ?_)
    have e2 : Heap.SameBut i1 g1 g2 := e2
    have O2' : IsPair g2 TO a b := (e2.2 _ D.a8).trans ((e1.2 _ D.a2).trans hO)
    refine wpAny_bind (wpAny_seqItems O2' rfl (wpAny_bind (wpAny_updateSeq_pair O2' fun g3 O3 e3 => wpAny_bind (wpAny_letGo (wpAny_pure ?_)))))
    have e3 : Heap.SameBut TO g2 g3 := e3
    refine wpAny_bind (wpAny_bind (wpAny_onRaise ?_))
    show wpAny (model prog w) A (Builtin.SmallTypes.nextOf (.ref i2) >>= _) _ _ _
    refine wpAny_bind (seq_end hd (h2.at fun o q => (e3.2 _ D.a9.symm).trans ((e2.2 _ D.b1.symm).trans ((e1.2 _ D.a4).trans q))) (q2.at fun o q => (e3.2 _ O2.c2).trans ((e2.2 _ O2.c3).trans ((e1.2 _ O2.c1).trans q))) hy fun g4 e e4 he => ?_)
    obtain ⟨oe, hoe, ce⟩ := he
    have z4 : IsZip g4 z TI TO .ellipsis := e4 _ _ D.a4.symm ((e3.2 _ D.a2.symm).trans ((e2.2 _ D.a3.symm).trans z1))
    have nz : e ≠ z := by
      rintro rfl
      rw [z4] at hoe; cases hoe
      injection ce with ce
      exact absurd ce (by decide)
    exact wpAny_setField_rec z4 (by simp) fun g5 _ e5 => hE g5 e (fun c o c1 c2 c3 c4 q => (e5.2 c c1).trans (e4 c o c4 ((e3.2 c c2).trans ((e2.2 c c3).trans ((e1.2 c c1).trans q))))) ⟨oe, (e5.2 e nz).trans hoe, ce⟩
end
end L2


/-! zip and enumerate as what a loop or a comprehension walks. -/
namespace L2
open PySem PySem.Spec PyProof.Rows
section
variable {prog : Program} {w : World} {A : Around} {E : Value → Shared → Prop} {s : Shared} {z TI TO i1 i2 l1 l2 : Addr} {k1 k2 : Nat} {xs ys : Array Value} {x y a b : Value} {t1 t2 : Bool}
theorem next_zip {Q : Option Value → Shared → Prop} (D : ZAp z TI TO i1 i2) (O1 : ZOff l1 z TO i1 i2) (O2 : ZOff l2 z TO i1 i2)
    (hz : IsZip s.heap z TI TO .none) (hI : IsPair s.heap TI (.ref i1) (.ref i2)) (hO : IsPair s.heap TO a b) (h1 : SIt t1 s.heap i1 l1 k1) (h2 : SIt t2 s.heap i2 l2 k2) (q1 : SSq t1 s.heap l1 xs) (q2 : SSq t2 s.heap l2 ys) (hx : xs[k1]? = some x) (hy : ys[k2]? = some y)
    (hQ : ∀ g, IsZip g z TI TO (rawInt s.heap.objs.size) → IsPair g TO x y → SIt t1 g i1 l1 (k1 + 1) → SIt t2 g i2 l2 (k2 + 1) → IsPair g s.heap.objs.size x y →
      (∀ c o, c ≠ z → c ≠ TO → c ≠ i1 → c ≠ i2 → s.heap.get? c = some o → g.get? c = some o) → Q (some (.ref s.heap.objs.size)) { s with heap := g }) : wpAny (model prog w) A (pyNext (.ref z)) Q E s := by
  have T : s.TypeIs (.ref z) "zip" := ⟨_, hz, rfl⟩
  unfold pyNext
  exact wpAny_bind (wpAny_attempt (wpAny_callSpecial?_slot (name := Str.ofString "__next__") T F.slot_zip_next (wpAny_call_entry F.slot_zip_next T F.entry_zip_next (zip_item D O1 O2 hz hI hO h1 h2 q1 q2 hx hy fun g r1 r2 r3 r4 r5 r6 => wpAny_pure (hQ g r1 r2 r3 r4 r5 r6)) (F.args_zip_next_1 _))))
theorem end_zip {Q : Option Value → Shared → Prop} (hd : A.handled = none) (D : ZAp z TI TO i1 i2) (O1 : ZOff l1 z TO i1 i2) (O2 : ZOff l2 z TO i1 i2)
    (hz : IsZip s.heap z TI TO .none) (hI : IsPair s.heap TI (.ref i1) (.ref i2)) (hO : IsPair s.heap TO a b) (h1 : SIt t1 s.heap i1 l1 k1) (h2 : SIt t2 s.heap i2 l2 k2) (q1 : SSq t1 s.heap l1 xs) (q2 : SSq t2 s.heap l2 ys) (hend : xs[k1]? = none ∨ ys[k2]? = none)
    (hQ : ∀ g, (∀ c o, c ≠ z → c ≠ TO → c ≠ i1 → c ≠ i2 → s.heap.get? c = some o → g.get? c = some o) → Q none { s with heap := g }) : wpAny (model prog w) A (pyNext (.ref z)) Q E s := by
  have T : s.TypeIs (.ref z) "zip" := ⟨_, hz, rfl⟩
  unfold pyNext
  refine wpAny_bind (wpAny_attempt (wpAny_callSpecial?_slot (name := Str.ofString "__next__") T F.slot_zip_next (wpAny_call_entry F.slot_zip_next T F.entry_zip_next (zip_done hd D O1 O2 hz hI hO h1 h2 q1 q2 hend fun g e hk he => ?_) (F.args_zip_next_1 _))))
  obtain ⟨o, ho, c⟩ := he
  exact wpAny_bind (wpAny_isInstance (T := "StopIteration") (b := true) ⟨o, ho, c⟩ isSubtype_stop (wpAny_pure (hQ _ hk)))
/-- an iterator of a list or a tuple -/
theorem seq_iter {b : Bool} {l : Addr} {items : Array Value} {Q : Value → Shared → Prop} (h : SSq b s.heap l items) (q : Q (.ref s.heap.objs.size) { s with heap := s.heap.push { cls := .type (sitName b), data := .fields #[.ref l, .int 0 0] } }) : wpAny (model prog w) A (pyIter (.ref l)) Q E s := by
  cases b with
  | true => exact wpAny_pyIter_tuple (show s.heap.IsTuple l items from h) q
  | false => exact wpAny_pyIter_list (show s.heap.IsList l items from h) q
end
/-- what is read: a tuple, a list -/
def SqV (K : PySem.W.Frag) (b : Bool) (H : Hp) (a : Addr) (xs : List V) : Prop := if b = true then SqT K H a xs else SqL K H a xs
section
variable {X : Cx} {pins : List (Addr × Obj)} {σ : St} {H : Hp} {s : Shared} {a : Addr} {xs ys : List V}
theorem Inv.sq {b : Bool} (I : Inv X pins σ H s) (h : SqV X.K b H a xs) : ∃ its : List Value, Vals xs its ∧ SSq b s.heap a its.toArray := by
  cases b with
  | true =>
    obtain ⟨its, r, p, _⟩ := I.tuple (show SqT X.K H a xs from h)
    exact ⟨its, r, p⟩
  | false =>
    obtain ⟨its, r, p, _⟩ := I.list (show SqL X.K H a xs from h)
    exact ⟨its, r, p.isList⟩
theorem Inv.sq_inj {b : Bool} (I : Inv X pins σ H s) (h : SqV X.K b H a xs) (h' : SqV X.K b H a ys) : xs = ys := by
  cases b with
  | true => exact I.tuple_inj (show SqT X.K H a xs from h) h'
  | false => exact I.list_inj (show SqL X.K H a xs from h) h'
/-- what is read is none of an iterator's own records -/
theorem Inv.off {b : Bool} {c : Addr} (I : Inv X pins σ H s) (h : SqV X.K b H a xs) (f : FpOk X pins H c) : a ≠ c := by
  have rd : ∀ u, Rd H a u → a ≠ c := fun u q => by
    rcases q with q | ⟨o, q⟩
    · exact ne_of_none q f.1
    · exact ne_of_none q f.1
  have kk : ∀ o, X.K.lookup a = some o → a ≠ c := fun o q => by
    have e := I.ok.mod.kin a o q
    rintro rfl
    rcases f.2.2.2.1 with z | z
    · exact I.ok.noex a o e z
    · exact absurd (Nat.lt_of_lt_of_le (Nat.lt_of_lt_of_le (Heap.lt_size e) I.ok.bsz) z) (Nat.lt_irrefl _)
  cases b with
  | true =>
    rcases show SqT X.K H a xs from h with q | ⟨o, _, _, q, _⟩
    · exact rd _ q
    · exact kk o q
  | false =>
    rcases show SqL X.K H a xs from h with q | ⟨o, _, _, q, _⟩
    · exact rd _ q
    · exact kk o q
end
def Itz (K : PySem.W.Frag) (b1 b2 : Bool) (l1 l2 : Addr) : It :=
  ⟨fun i H => ∃ xs ys x y, SqV K b1 H l1 xs ∧ SqV K b2 H l2 ys ∧ xs[i]? = some x ∧ ys[i]? = some y,
   fun i H v H' => ∃ T x y, H T = none ∧ v = .ref T ∧ H' = upd H T (.tup [x, y]) ∧ ∀ xs ys, SqV K b1 H l1 xs → SqV K b2 H l2 ys → xs[i]? = some x ∧ ys[i]? = some y,
   fun i H => ∃ xs ys, SqV K b1 H l1 xs ∧ SqV K b2 H l2 ys ∧ (xs.length ≤ i ∨ ys.length ≤ i)⟩
theorem turn_zip {P : Program} {w : World} {K : PySem.W.Frag} {elts : List Expr} {ct : Nat} {pos : Pos} {b1 b2 : Bool} {l1 l2 z TI TO i1 i2 : Addr} (D : ZAp z TI TO i1 i2) :
    Turn P w K (.Tuple elts ct pos) (Itz K b1 b2 l1 l2) [z, TI, TO, i1, i2] z (fun i h => IsZip h z TI TO .none ∧ IsPair h TI (.ref i1) (.ref i2) ∧ (∃ a b, IsPair h TO a b) ∧ SIt b1 h i1 l1 i ∧ SIt b2 h i2 l2 i) where
  mem := by simp
  obj := fun i h q b hb => by
    obtain ⟨hz, hI, ⟨a, c, hO⟩, h1, h2⟩ := q
    obtain ⟨o1, g1, _, d1⟩ := h1.obj
    obtain ⟨o2, g2, _, d2⟩ := h2.obj
    simp only [List.mem_cons, List.not_mem_nil, or_false] at hb
    rcases hb with rfl | rfl | rfl | rfl | rfl
    · exact ⟨_, hz, fun v z => by cases z⟩
    · exact ⟨_, hI, fun v z => by cases z⟩
    · exact ⟨_, hO, fun v z => by cases z⟩
    · exact ⟨_, g1, fun v z => by rw [d1] at z; cases z⟩
    · exact ⟨_, g2, fun v z => by rw [d2] at z; cases z⟩
  keep := fun i h h' q k => by
    obtain ⟨hz, hI, ⟨a, c, hO⟩, h1, h2⟩ := q
    exact ⟨k z (by simp) _ hz, k TI (by simp) _ hI, ⟨a, c, k TO (by simp) _ hO⟩, h1.at fun o x => k i1 (by simp) o x, h2.at fun o x => k i2 (by simp) o x⟩
  item := by
    intro X hP hw hK hc i pins s σ H E I hf q hg
    subst hP hw hK
    obtain ⟨xs, ys, x, y, s1, s2, hx, hy⟩ := hg
    obtain ⟨hz, hI, ⟨a, c, hO⟩, h1, h2⟩ := q
    obtain ⟨it1, r1, g1⟩ := I.sq s1
    obtain ⟨it2, r2, g2⟩ := I.sq s2
    obtain ⟨u, hu, ru⟩ := r1.get hx
    obtain ⟨v, hv, rv⟩ := r2.get hy
    have off1 : ZOff l1 z TO i1 i2 := ⟨I.off s1 (hf z (by simp)), I.off s1 (hf TO (by simp)), I.off s1 (hf i1 (by simp)), I.off s1 (hf i2 (by simp))⟩
    have off2 : ZOff l2 z TO i1 i2 := ⟨I.off s2 (hf z (by simp)), I.off s2 (hf TO (by simp)), I.off s2 (hf i1 (by simp)), I.off s2 (hf i2 (by simp))⟩
    have lt : ∀ b o, s.heap.get? b = some o → b ≠ s.heap.objs.size := fun b o e => Nat.ne_of_lt (Heap.lt_size e)
    refine next_zip D off1 off2 hz hI hO h1 h2 g1 g2 (x := u) (y := v) (by simpa using hu) (by simpa using hv) fun g z' O' j1 j2 T' kk => ⟨_, rfl, ?_⟩
    have fn : ∀ b ∈ [z, TI, TO, i1, i2], upd H s.heap.objs.size (.tup [x, y]) b = none := fun b hb => by
      have hb' : b ≠ s.heap.objs.size := by
        obtain ⟨o1, e1, _⟩ := h1.obj
        obtain ⟨o2, e2, _⟩ := h2.obj
        simp only [List.mem_cons, List.not_mem_nil, or_false] at hb
        rcases hb with rfl | rfl | rfl | rfl | rfl
        · exact lt _ _ hz
        · exact lt _ _ hI
        · exact lt _ _ hO
        · exact lt _ _ e1
        · exact lt _ _ e2
      rw [upd_ne hb']
      exact (hf b hb).1
    have I1 : Inv X pins σ (upd H s.heap.objs.size (.tup [x, y])) { s with heap := g, toks := s.toks } :=
      I.turnedNew (ch := [z, TO, i1, i2]) (o := .tup [x, y]) (fun b o hb q => kk b o (fun e => hb (by simp [e])) (fun e => hb (by simp [e])) (fun e => hb (by simp [e])) (fun e => hb (by simp [e])) q)
        (fun b hb => hf b (by simp only [List.mem_cons, List.not_mem_nil, or_false] at hb ⊢; rcases hb with h | h | h | h <;> simp [h])) (Nat.le_refl _) ⟨(by show 2 ≤ sizeLine; decide), [u, v], .cons ru (.cons rv .nil), _, T', rfl, _, rfl⟩
    refine wpAny_letOwnedTupleGo_zip z' fun g2 z2 e2 => ?_
    have I2 := I1.turnedL (t' := s.toks) (h' := g2) (ch := [z]) (fun b o hb q => (e2.2 b (fun e => hb (by simp [e]))).trans q) (fun b hb => by
      rw [List.mem_singleton] at hb
      subst hb
      exact ⟨fn _ (by simp), (hf _ (by simp)).2⟩)
    have hI2 : IsPair g TI (.ref i1) (.ref i2) := kk TI _ D.a1 D.a5 D.a6 D.a7 hI
    exact ⟨.ref s.heap.objs.size, _, I2, rfl, ⟨_, x, y, I.hok.fresh (Nat.le_refl _), rfl, rfl, fun xs' ys' p1 p2 => ⟨by rw [I.sq_inj p1 s1]; exact hx, by rw [I.sq_inj p2 s2]; exact hy⟩⟩,
      ⟨z2, (e2.2 _ D.a1).trans hI2, ⟨_, _, (e2.2 _ D.a2).trans O'⟩, j1.at fun o q => (e2.2 _ D.a3).trans q, j2.at fun o q => (e2.2 _ D.a4).trans q⟩, fn⟩
  done := by
    intro X hP hw hK hc i pins s σ H E I hf q hg
    subst hP hw hK
    obtain ⟨xs, ys, s1, s2, hend⟩ := hg
    obtain ⟨hz, hI, ⟨a, c, hO⟩, h1, h2⟩ := q
    obtain ⟨it1, r1, g1⟩ := I.sq s1
    obtain ⟨it2, r2, g2⟩ := I.sq s2
    have l1' := r1.length
    have l2' := r2.length
    have off1 : ZOff l1 z TO i1 i2 := ⟨I.off s1 (hf z (by simp)), I.off s1 (hf TO (by simp)), I.off s1 (hf i1 (by simp)), I.off s1 (hf i2 (by simp))⟩
    have off2 : ZOff l2 z TO i1 i2 := ⟨I.off s2 (hf z (by simp)), I.off s2 (hf TO (by simp)), I.off s2 (hf i1 (by simp)), I.off s2 (hf i2 (by simp))⟩
    refine end_zip (I.ok.hd hc) D off1 off2 hz hI hO h1 h2 g1 g2 ?_ fun g kk => ⟨rfl, I.turnedL (t' := s.toks) (ch := [z, TO, i1, i2]) (fun b o hb q => kk b o (fun e => hb (by simp [e])) (fun e => hb (by simp [e])) (fun e => hb (by simp [e])) (fun e => hb (by simp [e])) q)
        (fun b hb => hf b (by simp only [List.mem_cons, List.not_mem_nil, or_false] at hb ⊢; rcases hb with h | h | h | h <;> simp [h]))⟩
    rcases hend with h | h
    · exact .inl (by simp; omega)
    · exact .inr (by simp; omega)
  self := fun _ _ _ _ _ q h => wpAny_pyIter_zip q.1 h
end L2

/-! zip(..) and enumerate(.., start = n) made. -/
namespace L2
open PySem PySem.Spec PyProof.Rows
open Sem (wp)
def itObj (b : Bool) (l : Addr) : Obj := { cls := .type (sitName b), data := .fields #[.ref l, .int 0 0] }
def zp1 (h : Heap) (b1 : Bool) (l1 : Addr) : Heap := h.push (itObj b1 l1)
def zp2 (h : Heap) (b1 b2 : Bool) (l1 l2 : Addr) : Heap := (zp1 h b1 l1).push (itObj b2 l2)
def zp3 (h : Heap) (b1 b2 : Bool) (l1 l2 : Addr) : Heap := (zp2 h b1 b2 l1 l2).push { cls := .type "tuple", data := .seq #[.ref h.objs.size, .ref (zp1 h b1 l1).objs.size] }
def zp4 (h : Heap) (b1 b2 : Bool) (l1 l2 : Addr) : Heap := (zp3 h b1 b2 l1 l2).push { cls := .type "tuple", data := .seq #[.none, .none] }
def zp5 (h : Heap) (b1 b2 : Bool) (l1 l2 : Addr) : Heap := (zp4 h b1 b2 l1 l2).push { cls := .type "zip", data := .fields #[.none, .bool false, .bool false, .ref (zp2 h b1 b2 l1 l2).objs.size, .ref (zp3 h b1 b2 l1 l2).objs.size] }
theorem SSq.push {b : Bool} {h : Heap} {a : Addr} {items : Array Value} (q : SSq b h a items) (o : Obj) : SSq b (h.push o) a items := q.at fun _ e => Heap.get?_push_of_some _ e
theorem meets_zip2 (b1 b2 : Bool) (l1 l2 : Addr) (xs ys : Array Value) :
    Meets (Builtin.«zip.__new__» ⟨[.type "zip", .ref l1, .ref l2], []⟩) (fun _ R s => SSq b1 s.heap l1 xs ∧ SSq b2 s.heap l2 ys ∧ R (.ok (.ret (.ref (zp4 s.heap b1 b2 l1 l2).objs.size))) { s with heap := zp5 s.heap b1 b2 l1 l2 }) :=
  .of_wp fun prog w A R s h => by
    obtain ⟨hp, g, d, tk, os⟩ := s
    obtain ⟨q1, q2, h⟩ := h
    have sub := sub_zip
    have a1 : SSq b1 (Shared.heap ⟨hp, g, d, tk, os⟩) l1 xs := q1
    have a2 : SSq b2 (Shared.heap ⟨hp.push { cls := .type (sitName b1), data := .fields #[.ref l1, .int 0 0] }, g, d, tk, os⟩) l2 ys := q2.push _
    wp_walk using seq_iter a1, seq_iter a2
    exact ⟨_, rfl, h⟩
section
variable {prog : Program} {w : World} {A : Around} {E : Value → Shared → Prop} {s : Shared}
theorem call_zip {b1 b2 : Bool} {l1 l2 : Addr} {xs ys : Array Value} {Q : Value → Shared → Prop} (q1 : SSq b1 s.heap l1 xs) (q2 : SSq b2 s.heap l2 ys)
    (h : ∀ g, IsZip g (s.heap.objs.size + 4) (s.heap.objs.size + 2) (s.heap.objs.size + 3) .none → IsPair g (s.heap.objs.size + 2) (.ref s.heap.objs.size) (.ref (s.heap.objs.size + 1)) → IsPair g (s.heap.objs.size + 3) .none .none →
      SIt b1 g s.heap.objs.size l1 0 → SIt b2 g (s.heap.objs.size + 1) l2 0 → (∀ c o, s.heap.get? c = some o → g.get? c = some o) → Q (.ref (s.heap.objs.size + 4)) { s with heap := g }) :
    wpAny (model prog w) A (call (.type "zip") [.ref l1, .ref l2]) Q E s := by
  refine callType_new F.called_zip (by decide) (F.typeCall_zip_2 _ _) (F.newCall_zip_2 _ _) (fun obj => F.args_object_init_3 obj _ _) F.entry_zip_new (meets_zip2 b1 b2 l1 l2 xs ys) ⟨q1, q2, ?_⟩
  have n1 : (zp1 s.heap b1 l1).objs.size = s.heap.objs.size + 1 := Heap.size_push ..
  have n2 : (zp2 s.heap b1 b2 l1 l2).objs.size = s.heap.objs.size + 2 := by unfold zp2; rw [Heap.size_push, n1]
  have n3 : (zp3 s.heap b1 b2 l1 l2).objs.size = s.heap.objs.size + 3 := by unfold zp3; rw [Heap.size_push, n2]
  have n4 : (zp4 s.heap b1 b2 l1 l2).objs.size = s.heap.objs.size + 4 := by unfold zp4; rw [Heap.size_push, n3]
  have up4 : ∀ c o, (zp4 s.heap b1 b2 l1 l2).get? c = some o → (zp5 s.heap b1 b2 l1 l2).get? c = some o := fun c o e => Heap.get?_push_of_some _ e
  have up3 : ∀ c o, (zp3 s.heap b1 b2 l1 l2).get? c = some o → (zp5 s.heap b1 b2 l1 l2).get? c = some o := fun c o e => up4 c o (Heap.get?_push_of_some _ e)
  have up2 : ∀ c o, (zp2 s.heap b1 b2 l1 l2).get? c = some o → (zp5 s.heap b1 b2 l1 l2).get? c = some o := fun c o e => up3 c o (Heap.get?_push_of_some _ e)
  have up1 : ∀ c o, (zp1 s.heap b1 l1).get? c = some o → (zp5 s.heap b1 b2 l1 l2).get? c = some o := fun c o e => up2 c o (Heap.get?_push_of_some _ e)
  have g5 : IsZip (zp5 s.heap b1 b2 l1 l2) (s.heap.objs.size + 4) (s.heap.objs.size + 2) (s.heap.objs.size + 3) .none := by
    have := Heap.get?_push_size (zp4 s.heap b1 b2 l1 l2) (o := { cls := .type "zip", data := .fields #[.none, .bool false, .bool false, .ref (zp2 s.heap b1 b2 l1 l2).objs.size, .ref (zp3 s.heap b1 b2 l1 l2).objs.size] }) rfl
    rw [n4, n2, n3] at this
    unfold zp5
    rw [n2, n3]
    exact this
  have g4 : IsPair (zp5 s.heap b1 b2 l1 l2) (s.heap.objs.size + 3) .none .none := by
    have := up4 _ _ (Heap.get?_push_size (zp3 s.heap b1 b2 l1 l2) (o := { cls := .type "tuple", data := .seq #[.none, .none] }) rfl)
    rwa [n3] at this
  have g3 : IsPair (zp5 s.heap b1 b2 l1 l2) (s.heap.objs.size + 2) (.ref s.heap.objs.size) (.ref (s.heap.objs.size + 1)) := by
    have := up3 _ _ (Heap.get?_push_size (zp2 s.heap b1 b2 l1 l2) (o := { cls := .type "tuple", data := .seq #[.ref s.heap.objs.size, .ref (zp1 s.heap b1 l1).objs.size] }) rfl)
    rwa [n2, n1] at this
  have g2 := up2 _ _ (Heap.get?_push_size (zp1 s.heap b1 l1) (o := itObj b2 l2) rfl)
  rw [n1] at g2
  have g1 := up1 _ _ (Heap.get?_push_size s.heap (o := itObj b1 l1) rfl)
  have mk : ∀ (b : Bool) (l i : Addr), (zp5 s.heap b1 b2 l1 l2).get? i = some (itObj b l) → SIt b (zp5 s.heap b1 b2 l1 l2) i l 0 := fun b l i e => by
    cases b with
    | true => exact ⟨_, e, rfl, rfl⟩
    | false => exact ⟨_, e, rfl, rfl⟩
  show _ ∧ _
  rw [n4]
  exact ⟨⟨_, g5, rfl⟩, h _ g5 g3 g4 (mk _ _ _ g1) (mk _ _ _ g2) fun c o e => up1 c o (Heap.get?_push_of_some _ e)⟩
end
theorem zap_mk (n : Nat) : ZAp (n + 4) (n + 2) (n + 3) n (n + 1) :=
  ⟨fun h => absurd (show (n + 2 : Nat) = n + 4 from h) (by omega), fun h => absurd (show (n + 3 : Nat) = n + 4 from h) (by omega), fun h => absurd (show (n : Nat) = n + 4 from h) (by omega), fun h => absurd (show (n + 1 : Nat) = n + 4 from h) (by omega), fun h => absurd (show (n + 2 : Nat) = n + 3 from h) (by omega),
   fun h => absurd (show (n + 2 : Nat) = n from h) (by omega), fun h => absurd (show (n + 2 : Nat) = n + 1 from h) (by omega), fun h => absurd (show (n + 3 : Nat) = n from h) (by omega), fun h => absurd (show (n + 3 : Nat) = n + 1 from h) (by omega), fun h => absurd (show (n : Nat) = n + 1 from h) (by omega)⟩
/-! ### zip in a loop's head -/
def iZip (K : PySem.W.Frag) (b1 b2 : Bool) (ta : TA) : TI := fun σ H R => ta σ H fun vs H1 => ∃ l1 l2 xs ys, vs = [.ref l1, .ref l2] ∧ SqV K b1 H1 l1 xs ∧ SqV K b2 H1 l2 ys ∧ R (Itz K b1 b2 l1 l2) H1
section
variable {X : Cx}
theorem pi_zip {elts : List Expr} {ct : Nat} {tpos : Pos} {e1 e2 : Expr} {ta : TA} {p pos : Pos} (b1 b2 : Bool) (hg : Gl X "zip") (hm : X.mg "zip" = none) (ha : PA X [e1, e2] ta) (hs : starEach [e1, e2] X.env = [(false, eval e1 X.env), (false, eval e2 X.env)] := by rfl) (hs2 : starEach [e2] X.env = [(false, eval e2 X.env)] := by rfl) :
    PI X (.Tuple elts ct tpos) (.Call (.Name "zip" p) [e1, e2] [] pos) (iZip X.K b1 b2 ta) := by
  intro pins s σ H R I h
  refine Call_ (ld_blt I hg hm boot_zip (PyProof.Rows.callWith_type1 (thn (ha pos pins s σ H _ I h) fun us s1 hq0 => ?_) (by rw [hs, hs2]) (by rw [hs2]; rfl)))
  obtain ⟨vs, H1, I1, r1, q1⟩ := hq0
  obtain ⟨l1, l2, xs, ys, rfl, s1', s2', q⟩ := q1
  obtain ⟨u1, u2, rfl, ru1, ru2⟩ := vals2 r1
  cases ru1
  cases ru2
  obtain ⟨it1, r1', g1⟩ := I1.sq s1'
  obtain ⟨it2, r2', g2⟩ := I1.sq s2'
  refine call_zip g1 g2 fun g z I' O' j1 j2 kk => wpAny_pyIter_zip z ?_
  have f : ∀ k, FpOk X pins H1 (s1.heap.objs.size + k) := fun k => I1.fpOk (Nat.le_add_right _ _) (I1.hok.fresh (Nat.le_add_right _ _))
  refine ⟨s1.heap.objs.size + 4, [s1.heap.objs.size + 4, s1.heap.objs.size + 2, s1.heap.objs.size + 3, s1.heap.objs.size, s1.heap.objs.size + 1], _, _, H1, rfl, I1.kept (t' := s1.toks) kk, turn_zip (zap_mk _), ⟨z, I', ⟨_, _, O'⟩, j1, j2⟩, fun b hb => ?_, q⟩
  simp only [List.mem_cons, List.not_mem_nil, or_false] at hb
  rcases hb with rfl | rfl | rfl | rfl | rfl
  · exact f 4
  · exact f 2
  · exact f 3
  · exact f 0
  · exact f 1
end
/-! ### enumerate(.., start = n) -/
def enObj (it : Addr) (n : Int) : Obj := { cls := .type "enumerate", data := .fields #[.none, .bool false, .ref it, rawInt n, .none, .none] }
theorem kwCall_enumerate (a b : Value) : checkTypeCall "enumerate" ⟨[a], [("start", b)]⟩ = pure () := by kernel_rfl
theorem kwNew_enumerate (a b : Value) : checkBuiltinCall "enumerate.__new__" ⟨[.type "enumerate", a], [("start", b)]⟩ = pure () := by kernel_rfl
theorem meets_enum (b : Bool) (l : Addr) (xs : Array Value) (n : Int) (t : Tok) (hn : Builtin.SmallTypes.fitsIndex n = true) :
    Meets (Builtin.«enumerate.__new__» ⟨[.type "enumerate", .ref l], [("start", .int n t)]⟩) (fun _ R s => SSq b s.heap l xs ∧ R (.ok (.ret (.ref (s.heap.push (itObj b l)).objs.size))) { s with heap := (s.heap.push (itObj b l)).push (enObj s.heap.objs.size n) }) :=
  .of_wp fun prog w A R s h => by
    obtain ⟨hp, g, d, tk, os⟩ := s
    obtain ⟨q1, h⟩ := h
    have sub := sub_enumerate
    have a1 : SSq b (Shared.heap ⟨hp, g, d, tk, os⟩) l xs := q1
    wp_walk using seq_iter a1
    refine wpAny_stack_any (fun stk => wpAny_pure ?_)
    split
    · rename_i c _ _ _ _ _
      generalize (c == Value.type "enumerate") = short
      cases short
      all_goals
        wp_walk using seq_iter a1
        exact ⟨_, rfl, h⟩
    · wp_walk using seq_iter a1
      exact ⟨_, rfl, h⟩
theorem argsInit_kw (a b c : Value) : argsOk "object.__init__" ⟨[a, b], [("start", c)]⟩ := by
  unfold argsOk
  rw [signature?_of (id := "object.__init__") (n := "__tini__".toList) (o := "tcejbo".toList) (by kernel_rfl) F.owner_object]
  kernel_rfl
theorem objInit_kw {self a b : Value} {k : Str} : Meets (Builtin.«object.__init__» ⟨[self, a], [(k, b)]⟩) (fun _ R s => s.TypeIs self "enumerate" ∧ R (.ok (.ret .none)) s) := by
  refine Meets.of_wp fun prog w A R s hs => ?_
  obtain ⟨hT, hq⟩ := hs
  have hl : typeLookup (.type "enumerate") "__init__" = pure (some (.builtin "object.__init__")) := F.called_enumerate.init.lookup
  have hm := F.called_enumerate.made
  have hne : (some "enumerate.__new__" != some "object.__new__") = true := by decide
  repeat (any_goals first | wp_step | assumption)
  exact ⟨_, rfl, hq⟩
section
variable {prog : Program} {w : World} {A : Around} {E : Value → Shared → Prop} {s : Shared}
theorem call_enum {b : Bool} {l : Addr} {xs : Array Value} {n : Int} {t : Tok} {Q : Value → Shared → Prop} (hn : Builtin.SmallTypes.fitsIndex n = true) (q1 : SSq b s.heap l xs)
    (h : ∀ g, IsEnum g (s.heap.objs.size + 1) s.heap.objs.size n .none → SIt b g s.heap.objs.size l 0 → (∀ c o, s.heap.get? c = some o → g.get? c = some o) → Q (.ref (s.heap.objs.size + 1)) { s with heap := g }) :
    wpAny (model prog w) A (call (.type "enumerate") [.ref l] [("start", .int n t)]) Q E s := by
  have ft := F.called_enumerate
  obtain ⟨c, tl, hmro⟩ := ft.mro
  have hmade := ft.made
  have hsub := ft.sub
  have hct := kwCall_enumerate (.ref l) (.int n t)
  refine wpAny_call (codeAny_of_tree ?_)
  show wpAny (model prog w) _ (callAny (.type "enumerate") _) _ _ _
  refine wpAny_pure ⟨Code.quiet_builtin _ (by decide +kernel), codeAny_builtin F.entry_type_call ?_⟩
  rw [Around.under_plain (weight_type_call_type "enumerate" [.ref l] [("start", .int n t)]) (units_type_call_type "enumerate" [.ref l] [("start", .int n t)])]
  have h1 := ft.notType
  have h2 := ft.canCreate
  repeat (any_goals first | wp_step | assumption)
  have sz : (s.heap.push (itObj b l)).objs.size = s.heap.objs.size + 1 := Heap.size_push ..
  have en : IsEnum ((s.heap.push (itObj b l)).push (enObj s.heap.objs.size n)) (s.heap.objs.size + 1) s.heap.objs.size n .none := by
    have := Heap.get?_push_size (s.heap.push (itObj b l)) (o := enObj s.heap.objs.size n) rfl
    rwa [sz] at this
  have itg : ((s.heap.push (itObj b l)).push (enObj s.heap.objs.size n)).get? s.heap.objs.size = some (itObj b l) := Heap.get?_push_of_some _ (Heap.get?_push_size _ rfl)
  refine codeAny_mono (codeAny_call_builtin ft.plain F.entry_enumerate_new (wpAny_of_eq (kwNew_enumerate _ _) (meets_enum b l xs n t hn prog w A.in1
    (wants (fun obj s1 => obj = .ref (s.heap.objs.size + 1) ∧ s1 = { s with heap := (s.heap.push (itObj b l)).push (enObj s.heap.objs.size n) }) E) s ⟨q1, by rw [sz]; exact ⟨rfl, rfl⟩⟩))) fun r s1 hr => ?_
  cases r with
  | error e => exact hr
  | ok fl =>
    cases fl with
    | ret obj =>
      obtain ⟨rfl, rfl⟩ := hr
      have hT : ({ s with heap := (s.heap.push (itObj b l)).push (enObj s.heap.objs.size n) } : Shared).TypeIs (.ref (s.heap.objs.size + 1)) "enumerate" := ⟨_, en, rfl⟩
      have hli := ft.init.lookup
      have hbi := ft.init.bind (.ref (s.heap.objs.size + 1))
      repeat (any_goals first | wp_step | assumption)
      refine codeAny_mono (codeAny_call_builtin ft.init.plain F.entry_object_init (ft.init.check _ _ _ _ _ _ _ _ hT (argsInit_kw _ _ _) (objInit_kw prog w A.in1 (wants (fun r s2 => r = .none ∧ s2 = { s with heap := (s.heap.push (itObj b l)).push (enObj s.heap.objs.size n) }) E) _ ⟨hT, rfl, rfl⟩))) fun r2 s2 hr2 => ?_
      cases r2 with
      | error e => exact hr2
      | ok fl2 =>
        cases fl2 with
        | ret r =>
          obtain ⟨rfl, rfl⟩ := hr2
          repeat (any_goals first | wp_step | assumption)
          refine h _ en ?_ fun c o e => Heap.get?_push_of_some _ (Heap.get?_push_of_some _ e)
          cases b with
          | true => exact ⟨_, itg, rfl, rfl⟩
          | false => exact ⟨_, itg, rfl, rfl⟩
        | _ => exact hr2.elim
    | _ => exact hr.elim
end
def iEnum (K : PySem.W.Frag) (n : Nat) (te : TE) : TI := fun σ H R => te σ H fun x H1 => ∃ l xs, x = .ref l ∧ SqL K H1 l xs ∧ R (Ite K l n) H1
section
variable {X : Cx}
/-- enumerate(e, start = n), n written -/
theorem pi_enum {elts : List Expr} {ct : Nat} {tpos : Pos} {e : Expr} {te : TE} {p pos kpos cpos : Pos} {j : Nat} (n : Nat) (hn : Builtin.SmallTypes.fitsIndex (n : Int) = true) (hg : Gl X "enumerate") (hm : X.mg "enumerate" = none) (he : PE X e te)
    (hs : starEach [e] X.env = [(false, eval e X.env)] := by rfl) :
    PI X (.Tuple elts ct tpos) (.Call (.Name "enumerate" p) [e] [⟨some "start", .Constant (.int (n : Int)) j cpos, kpos⟩] pos) (iEnum X.K n te) := by
  intro pins s σ H R I h
  refine wpAny_Call_Name_kw (ld_blt I hg hm boot_enumerate ?_)
  refine PySem.W.callWith_of (P := fun _ => True) (first := []) (by rw [hs]; rfl) (fun h _ => ⟨.machine, .inr (.inl rfl), fun _ _ _ _ _ q => wpAny_pure q⟩) (PyProof.Rows.evalArgs_kw2 rfl ?_ hs)
  refine thn (pa_cons he pa_nil hs pos pins s σ H (fun vs H1 => match vs with | [x] => ∃ l xs, x = .ref l ∧ SqL X.K H1 l xs ∧ R (Ite X.K l n) H1 | _ => False) I h) fun us s1 hq0 => ?_
  obtain ⟨vs, H1, I1, r, q⟩ := hq0
  match vs, q with
  | [x], q =>
    obtain ⟨l, xs, rfl, hl, q⟩ := q
    obtain ⟨u, rfl, ru⟩ := vals1 r
    cases ru
    refine thn (pk_cons (nm := some "start") (kpos := kpos) (pe_int (i := (n : Int)) (j := j) (pos := cpos)) pk_nil pos pins s1 σ H1 (fun zs H2 => zs = [.int (n : Int)] ∧ H2 = H1) I1 ⟨rfl, rfl⟩) fun ws s2 ⟨zs, H2, I2, rz, q2⟩ => ⟨trivial, ?_⟩
    obtain ⟨rfl, rfl⟩ := q2
    obtain ⟨v, rfl, t, rfl⟩ := vals1 rz
    obtain ⟨its, r', g1⟩ := I2.sq (b := false) hl
    refine call_enum hn g1 fun g en it kk => wpAny_pyIter_enum en ?_
    have f : ∀ k, FpOk X pins H2 (s2.heap.objs.size + k) := fun k => I2.fpOk (Nat.le_add_right _ _) (I2.hok.fresh (Nat.le_add_right _ _))
    refine ⟨s2.heap.objs.size + 1, [s2.heap.objs.size + 1, s2.heap.objs.size], _, _, H2, rfl, I2.kept (t' := s2.toks) kk, turn_enum l _ _ n (Nat.succ_ne_self _), ⟨⟨_, en⟩, it⟩, fun b hb => ?_, q⟩
    simp only [List.mem_cons, List.not_mem_nil, or_false] at hb
    rcases hb with rfl | rfl
    · exact f 1
    · exact f 0
end
end L2

/-! a dict's keys, whatever they are, walked; list of a dict, of its values. -/
namespace L2
open PySem PySem.Spec PyProof.Rows
open Sem (wp)
/-- a dict by its very entries -/
def RawD (h : Heap) (d : Addr) (es : Array DictEntry) (ep : Nat) : Prop := ∃ o, h.get? d = some o ∧ o.ExactDict ∧ o.data = .dict es ep
theorem RawD.at {h h' : Heap} {d : Addr} {es : Array DictEntry} {ep : Nat} (q : RawD h d es ep) (k : ∀ o, h.get? d = some o → h'.get? d = some o) : RawD h' d es ep := let ⟨o, ho, r⟩ := q; ⟨o, k o ho, r⟩
theorem RawD.typeIs {s : Shared} {d : Addr} {es : Array DictEntry} {ep : Nat} (q : RawD s.heap d es ep) : s.TypeIs (.ref d) "dict" := let ⟨o, ho, c, _⟩ := q; ⟨o, ho, c.1⟩
section
variable {prog : Program} {w : World} {A : Around} {E : Value → Shared → Prop} {s : Shared}
theorem iter_raw {d : Addr} {es : Array DictEntry} {ep : Nat} {Q : Value → Shared → Prop} (hd : (d == sysModules) = false) (hm : RawD s.heap d es ep)
    (hQ : Q (.ref s.heap.objs.size) { s with heap := s.heap.push { cls := .type "dict_keyiterator", data := .fields #[.ref d, .int 0 0, .int es.size 0, .int ep 0] } }) : wpAny (model prog w) A (pyIter (.ref d)) Q E s := by
  obtain ⟨o, ho, hc, hdat⟩ := id hm
  have T : s.TypeIs (.ref d) "dict" := hm.typeIs
  refine wpAny_pyIter_slot T F.slot_dict_iter (wpAny_call_entry F.slot_dict_iter T F.entry_dict_iter ?_ (F.args_dict_iter_1 _))
  unfold Builtin.«dict.__iter__»
  refine wpAny_bind ?_
  unfold Builtin.Dict.dictSlotNone
  refine wpAny_bind (wpAny_notOrdered_dict T ?_)
  show wpAny (model prog w) _ (pure (Value.ref d)) _ _ s
  refine wpAny_pure ?_
  show wpAny (model prog w) _ (Builtin.Dict.showsAll d >>= _) _ _ s
  unfold Builtin.Dict.showsAll
  rw [if_neg (by rw [hd]; exact Bool.false_ne_true)]
  refine wpAny_bind (wpAny_pure (wpAny_bind (wpAny_dictEntries ho hdat (wpAny_bind (wpAny_dictEpoch ho hdat ?_)))))
  exact wpAny_bind (wpAny_newObj_type (wpAny_pure ⟨_, rfl, "dict_keyiterator", _, ⟨_, Heap.get?_push_size _ rfl, rfl⟩, F.slot_dict_keyiterator_next.lookup, hQ⟩))
theorem key_item {it d : Addr} {i ep : Nat} {es : Array DictEntry} {e : DictEntry} {Q : Option Value → Shared → Prop} (hit : s.heap.IsKeyIter it d i es.size ep) (hm : RawD s.heap d es ep) (hx : es[i]? = some e)
    (hQ : ∀ h1, h1.IsKeyIter it d (i + 1) es.size ep → Heap.SameBut it s.heap h1 → Q (some e.key) { s with heap := h1 }) : wpAny (model prog w) A (pyNext (.ref it)) Q E s := by
  obtain ⟨o, ho, hc, hd⟩ := id hit
  obtain ⟨od, hod, hcd, hdd⟩ := id hm
  obtain ⟨hlt, he⟩ := Array.getElem?_eq_some_iff.mp hx
  subst he
  unfold pyNext
  refine wpAny_bind (wpAny_attempt (wpAny_callSpecial?_slot (name := Str.ofString "__next__") hit.typeIs F.slot_dict_keyiterator_next (wpAny_call_entry F.slot_dict_keyiterator_next hit.typeIs F.entry_dict_keyiterator_next ?_ (F.args_dict_keyiterator_next_1 _))))
  refine wpAny_bind (wpAny_pure (wpAny_bind (wpAny_bind ?_)))
  refine wpAny_bind (wpAny_typeNameOfWhole_keyiter hit.typeIs (wpAny_pure (wpAny_bind (wpAny_fieldsOf ho hd ?_))))
  have own : Builtin.Dict_items.ownsTuple "dict_keyiterator" = false := by decide
  simp only [own, Bool.false_eq_true, if_false]
  show wpAny (model prog w) _ (if (Value.ref d == Value.none) = true then _ else _) _ _ s
  rw [if_neg (show ¬ ((Value.ref d == Value.none) = true) from Bool.false_ne_true)]
  refine wpAny_bind (wpAny_pure (wpAny_bind (wpAny_dictEntries hod hdd ?_)))
  rw [if_neg (by simp)]
  refine wpAny_bind (wpAny_pure (wpAny_bind (wpAny_dictEpoch hod hdd ?_)))
  rw [if_neg (by simp)]
  refine wpAny_pure ?_
  simp only [show ¬ ((i : Int) < 0) from by omega, if_false, Int.toNat_natCast, Array.getElem?_eq_getElem hlt]
  refine wpAny_bind (wpAny_bind (wpAny_typeNameOfWhole_keyiter hit.typeIs (wpAny_pure (wpAny_bind (wpAny_isOneOf_keyiter hit.typeIs ?_)))))
  show wpAny (model prog w) _ (setField (.ref it) 1 (rawInt ((i : Int) + 1)) >>= _) _ _ s
  refine wpAny_bind (wpAny_setField ho hd (by simp) ?_)
  have nx : (s.heap.update it (Obj.mapFields (·.setIfInBounds 1 (rawInt ((i : Int) + 1))))).IsKeyIter it d (i + 1) es.size ep :=
    ⟨_, Heap.get?_update_self _ ho (Obj.isFreed_of_fields (Obj.data_mapFields hd _)), (Obj.cls_mapFields ..).trans hc, by rw [Obj.data_mapFields hd]; simp [rawInt]⟩
  refine wpAny_bind (wpAny_holding (wpAny_bind (wpAny_isOneOf_keyiter (s := { s with heap := s.heap.update it (Obj.mapFields (·.setIfInBounds 1 (rawInt ((i : Int) + 1)))) }) nx.typeIs ?_)))
  show wpAny (model prog w) _ (pure es[i].key) _ _ _
  exact wpAny_pure (wpAny_pure ⟨_, rfl, wpAny_pure (hQ _ nx (Heap.SameBut.update ..))⟩)
theorem key_end {it d : Addr} {i ep : Nat} {es : Array DictEntry} {Q : Option Value → Shared → Prop} (hh : A.handled = none) (hit : s.heap.IsKeyIter it d i es.size ep) (hm : RawD s.heap d es ep) (hx : es.size ≤ i)
    (hQ : ∀ h1, Heap.ExtBut it s.heap h1 → Q none { s with heap := h1 }) : wpAny (model prog w) A (pyNext (.ref it)) Q E s := by
  obtain ⟨o, ho, hc, hd⟩ := id hit
  obtain ⟨od, hod, hcd, hdd⟩ := id hm
  unfold pyNext
  refine wpAny_bind (wpAny_attempt (wpAny_callSpecial?_slot (name := Str.ofString "__next__") hit.typeIs F.slot_dict_keyiterator_next (wpAny_call_entry F.slot_dict_keyiterator_next hit.typeIs F.entry_dict_keyiterator_next ?_ (F.args_dict_keyiterator_next_1 _))))
  refine wpAny_bind (wpAny_pure (wpAny_bind (wpAny_bind ?_)))
  refine wpAny_bind (wpAny_typeNameOfWhole_keyiter hit.typeIs (wpAny_pure (wpAny_bind (wpAny_fieldsOf ho hd ?_))))
  have own : Builtin.Dict_items.ownsTuple "dict_keyiterator" = false := by decide
  simp only [own, Bool.false_eq_true, if_false]
  show wpAny (model prog w) _ (if (Value.ref d == Value.none) = true then _ else _) _ _ s
  rw [if_neg (show ¬ ((Value.ref d == Value.none) = true) from Bool.false_ne_true)]
  refine wpAny_bind (wpAny_pure (wpAny_bind (wpAny_dictEntries hod hdd ?_)))
  rw [if_neg (by simp)]
  refine wpAny_bind (wpAny_pure (wpAny_bind (wpAny_dictEpoch hod hdd ?_)))
  rw [if_neg (by simp)]
  refine wpAny_pure ?_
  simp only [show ¬ ((i : Int) < 0) from by omega, if_false, Int.toNat_natCast, Array.getElem?_eq_none hx]
  refine wpAny_bind (wpAny_bind (wpAny_typeNameOfWhole_keyiter hit.typeIs (wpAny_pure ?_)))
  show wpAny (model prog w) _ (setField (.ref it) 0 .none >>= _) _ _ s
  refine wpAny_bind (wpAny_setField ho hd (by simp) ?_)
  show wpAny (model prog w) _ (newExc (.type "StopIteration") [] >>= _) _ _ _
  refine wpAny_bind ?_
  simp only [newExc, newTuple]
  refine wpAny_bind (wpAny_newObj_type (wpAny_bind (m := firstArgMember _ _) (wpAny_of_eq (a := Value.none) (by first | rfl | (simp only [firstArgMember]; rfl)) (wpAny_newObj_type ?_ (by size_fits)))) (by size_fits))
  simp only [raiseNew]
  refine wpAny_bind (wpAny_handled ?_)
  rw [show A.in1.handled = none from hh]
  refine wpAny_bind (wpAny_pure (wpAny_throw ?_))
  exact wpAny_bind (wpAny_isInstance (T := "StopIteration") (b := true) ⟨_, Heap.get?_push_size _ rfl, rfl⟩ isSubtype_stop (wpAny_pure (hQ _ (((Heap.SameBut.update ..).extBut.push _).push _))))
theorem walks_raw (hh : A.handled = none) (I d : Addr) (hne : d ≠ I) (es : Array DictEntry) (ep : Nat) :
    Walks prog w A I [I, d] [I] es.size (fun i v => ∃ e, es[i]? = some e ∧ v = e.key) (fun i h => h.IsKeyIter I d i es.size ep ∧ RawD h d es ep) where
  sub := fun b hb => by simp at hb; simp [hb]
  frame := fun _ _ _ st hk => ⟨st.1.at fun o e => hk I (by simp) o e, st.2.at fun o e => hk d (by simp) o e⟩
  item := fun i s Q E hi st hQ => by
    have hx : es[i]? = some es[i] := Array.getElem?_eq_getElem hi
    exact key_item st.1 st.2 hx fun h1 it' hs => hQ _ h1 s.toks ⟨_, hx, rfl⟩ ⟨it', st.2.at fun o e => (hs.2 d hne).trans e⟩ fun b o hb e => (hs.2 b (fun h => hb (by simp [h]))).trans e
  done := fun s Q E st hQ => key_end hh st.1 st.2 (Nat.le_refl _) fun h1 he => hQ h1 s.toks fun b o hb e => he b o (fun h => hb (by simp [h])) e
  self := fun _ _ _ _ st hQ => wpAny_pyIter_keyiter st.1 hQ
theorem hint_dict {d : Addr} {Q : Bool → Shared → Prop} (T : s.TypeIs (.ref d) "dict") (hq : Q false s) : wpAny (model prog w) A (Builtin.List.listLengthHint (.ref d)) Q E s := by
  unfold Builtin.List.listLengthHint
  refine wpAny_bind (wpAny_specialOf T F.slot_dict_len.lookup ?_)
  have e : splitId "dict.__len__" = some ("dict", "__len__") := by kernel_rfl
  simp only [e]
  have sub : isSubtype (.type "dict") (.type "dict") = pure true := by rw [isSubtype_type]; kernel_rfl
  exact wpAny_bind (wpAny_isInstance (T := "dict") (b := true) T sub (wpAny_bind (wpAny_typeOf T (wpAny_pure hq))))
theorem hint_vals {d : Addr} {Q : Bool → Shared → Prop} (T : s.TypeIs (.ref d) "dict_values") (hq : Q false s) : wpAny (model prog w) A (Builtin.List.listLengthHint (.ref d)) Q E s := by
  unfold Builtin.List.listLengthHint
  refine wpAny_bind (wpAny_specialOf T F.slot_dict_values_len.lookup ?_)
  have e : splitId "dict_values.__len__" = some ("dict_values", "__len__") := by kernel_rfl
  simp only [e]
  have sub : isSubtype (.type "dict_values") (.type "dict_values") = pure true := by rw [isSubtype_type]; kernel_rfl
  exact wpAny_bind (wpAny_isInstance (T := "dict_values") (b := true) T sub (wpAny_bind (wpAny_typeOf T (wpAny_pure hq))))
end
section
variable {prog : Program} {w : World} {A : Around} {s : Shared} {R : Result → Shared → Prop} {I : Addr} {fp wr : List Addr} {n : Nat} {P : Nat → Value → Prop} {St : Nat → Heap → Prop}
/-- the rest of list's making, where an iterator has come -/
theorem list_rest (W : Walks prog w A.in1 I fp wr n P St) (hn : n ≤ sizeLine) (S : Addr) (c : Nat) (hst : St 0 s.heap) (hS : S ∉ fp) (hl : s.heap.get? S = some { cls := .type "list", data := .seq #[] c })
    (hR : ∀ s1 acc c1, Moved (S :: wr) (fun a b => b = a) s s1 → s1.heap.get? S = some { cls := .type "list", dict := none, data := .seq acc c1, slots := #[] } → ItemsOf P acc n → R (.ok (.ret .none)) s1) :
    wpAny (model prog w) A.in1 (rule "list.extend.makes-room" >>= fun _ => Builtin.List.listTouch (.ref S) >>= fun _ => again (.builtin "list.extend.loop" ⟨[.ref S, .ref I, .none], []⟩))
      (fun fin s1 => match fin with | .done f => R (.ok f) s1 | .again c1 => c1.quiet = true ∧ codeAny (model prog w) A c1 R s1) (fun e s1 => R (.error e) s1) s := by
  refine wpAny_bind (wpAny_rule (wpAny_bind ?_))
  show wpAny (model prog w) A.in1 (updateSeq S (·.push .none) >>= fun _ => updateSeq S (·.pop)) _ _ _
  refine wpAny_bind (wpAny_updateSeq hl rfl ?_)
  have l2 := Heap.get?_update_self (Obj.mapSeq (·.push Value.none)) hl rfl
  refine wpAny_updateSeq (hz := by seq_fits) l2 rfl ?_
  have l3 := Heap.get?_update_self (Obj.mapSeq (·.pop)) l2 rfl
  have oth : ∀ b o, b ≠ S → s.heap.get? b = some o → ((s.heap.update S (Obj.mapSeq (·.push Value.none))).update S (Obj.mapSeq (·.pop))).get? b = some o := fun b o hb e => (Heap.get?_update_other _ _ (Ne.symm hb)).trans ((Heap.get?_update_other _ _ (Ne.symm hb)).trans e)
  refine wpAny_pure ⟨plainId_quiet F.plain_extend_loop _, codeAny_extend_loopS W.toS hn _ hS _ n 0 _ _ _ rfl (Nat.zero_le _) (W.toS.frame 0 s _ s.toks hst (Nat.le_refl _) fun b hb o e => oth b o (fun h => hS (h ▸ hb)) e) l3 (ItemsOf.nil P) fun s1 acc c1 hm h1 h2 => ?_⟩
  have m0 : Moved (S :: wr) (fun (a b : Array GenState) => b = a) s { s with heap := (s.heap.update S (Obj.mapSeq (·.push Value.none))).update S (Obj.mapSeq (·.pop)) } := ⟨fun b o hb e => oth b o (fun h => hb (by simp [h])) e, rfl, rfl, rfl, Nat.le_refl _⟩
  exact hR s1 acc c1 (Moved.trans (fun _ _ _ h1 h2 => h2.trans h1) m0 hm) h1 h2
end
section
variable {prog : Program} {w : World} {A : Around} {s : Shared} {R : Result → Shared → Prop}
/-- list's init: the new list is emptied, then it takes what comes -/
theorem list_init {S : Addr} {x : Value} (hl : s.heap.get? S = some { cls := .type "list", data := .seq #[] })
    (h : wpAny (model prog w) A.in1 (Builtin.List.listExtendWith (.ref S) x .none) (fun fin s1 => match fin with | .done f => R (.ok f) s1 | .again c1 => c1.quiet = true ∧ codeAny (model prog w) A c1 R s1) (fun e s1 => R (.error e) s1)
      { s with heap := s.heap.update S (Obj.mapSeq (fun _ => (#[] : Array Value))) }) :
    wpAny (model prog w) A.in1 (Builtin.«list.__init__» ⟨[.ref S, x], []⟩) (fun fin s1 => match fin with | .done f => R (.ok f) s1 | .again c1 => c1.quiet = true ∧ codeAny (model prog w) A c1 R s1) (fun e s1 => R (.error e) s1) s := by
  show wpAny (model prog w) A.in1 (do let was ← Builtin.List.listItems (.ref S); Builtin.List.listUpdate (.ref S) (fun _ => #[]); letGo was.toList.reverse; Builtin.List.listExtendWith (.ref S) x .none) _ _ s
  refine wpAny_bind ?_
  unfold Builtin.List.listItems
  refine wpAny_bind (wpAny_seqItems hl rfl (wpAny_pure ?_))
  show wpAny (model prog w) A.in1 (updateSeq S (fun _ => #[]) >>= fun _ => letGo (#[] : Array Value).toList.reverse >>= fun _ => Builtin.List.listExtendWith (.ref S) x .none) _ _ s
  exact wpAny_bind (wpAny_updateSeq hl rfl (wpAny_bind (wpAny_letGo h)))
end
section
variable {prog : Program} {w : World} {A : Around} {E : Value → Shared → Prop} {s : Shared}
theorem list_of_dict {d : Addr} {es : Array DictEntry} {ep : Nat} {Q : Value → Shared → Prop} (hh : A.handled = none) (hd : (d == sysModules) = false) (hm : RawD s.heap d es ep) (hn : es.size ≤ sizeLine)
    (hQ : ∀ h1 acc c tk, (∀ b o, s.heap.get? b = some o → h1.get? b = some o) → h1.get? s.heap.objs.size = some { cls := .type "list", dict := none, data := .seq acc c, slots := #[] } → ItemsOf (fun i v => ∃ e, es[i]? = some e ∧ v = e.key) acc es.size →
      Q (.ref s.heap.objs.size) { s with heap := h1, toks := tk }) : wpAny (model prog w) A (call (.type "list") [.ref d]) Q E s := by
  have dl : d < s.heap.objs.size := by obtain ⟨o, ho, _⟩ := hm; exact Heap.lt_size ho
  refine callType_codes (Q₁ := fun obj s1 => obj = .ref s.heap.objs.size ∧ s1 = { s with heap := s.heap.push { cls := .type "list", data := .seq #[] } }) F.called_list (F.typeCall_list_1 _) F.entry_list_init (code_list_new _ ⟨rfl, rfl⟩) fun obj s1 h1 => ?_
  obtain ⟨rfl, rfl⟩ := h1
  have hS : (s.heap.push { cls := .type "list", data := .seq #[] }).get? s.heap.objs.size = some { cls := .type "list", data := .seq #[] } := Heap.get?_push_size _ rfl
  refine ⟨⟨_, hS, rfl⟩, F.args_list_init_2 _ _, list_init hS ?_⟩
  have l2 := Heap.get?_update_self (Obj.mapSeq (fun _ => (#[] : Array Value))) hS rfl
  have old : ∀ b o, s.heap.get? b = some o → ((s.heap.push { cls := .type "list", data := .seq #[] }).update s.heap.objs.size (Obj.mapSeq (fun _ => (#[] : Array Value)))).get? b = some o := fun b o e =>
    (Heap.get?_update_other _ _ (fun z => Nat.lt_irrefl _ (z ▸ Heap.lt_size e))).trans (Heap.get?_push_of_some _ e)
  have hm2 := hm.at (h' := (s.heap.push { cls := .type "list", data := .seq #[] }).update s.heap.objs.size (Obj.mapSeq (fun _ => (#[] : Array Value)))) fun o e => old d o e
  have zu : ((s.heap.push { cls := .type "list", data := .seq #[] }).update s.heap.objs.size (Obj.mapSeq (fun _ => (#[] : Array Value)))).objs.size = s.heap.objs.size + 1 := by rw [Heap.size_update, Heap.size_push]
  generalize (s.heap.push { cls := .type "list", data := .seq #[] }).update s.heap.objs.size (Obj.mapSeq (fun _ => (#[] : Array Value))) = g at l2 old hm2 zu
  have T : ({ s with heap := g } : Shared).TypeIs (.ref d) "dict" := hm2.typeIs
  unfold Builtin.List.listExtendWith
  refine wpAny_bind (wpAny_typeOf T ?_)
  have sr : Builtin.List.listSameRef (.ref s.heap.objs.size) (.ref d) = false := by
    have : s.heap.objs.size ≠ d := Ne.symm (Nat.ne_of_lt dl)
    simp [Builtin.List.listSameRef, this]
  have t1 : (Value.type "dict" == Value.type "list") = false := by decide
  have t2 : (Value.type "dict" == Value.type "tuple") = false := by decide
  simp only [sr, t1, t2, Bool.or_false, Bool.false_eq_true, if_false]
  refine wpAny_bind (iter_raw (s := { s with heap := g }) hd hm2 ?_)
  have hm3 := hm2.at (h' := g.push { cls := .type "dict_keyiterator", data := .fields #[.ref d, .int 0 0, .int es.size 0, .int ep 0] }) fun o e => Heap.get?_push_of_some _ e
  refine wpAny_bind (wpAny_holding (hint_dict (s := { s with heap := g.push { cls := .type "dict_keyiterator", data := .fields #[.ref d, .int 0 0, .int es.size 0, .int ep 0] } }) hm3.typeIs ?_))
  have dI : d ≠ g.objs.size := by rw [zu]; exact Nat.ne_of_lt (Nat.lt_succ_of_lt dl)
  have SI : s.heap.objs.size ∉ [g.objs.size, d] := by
    rw [zu]
    intro z
    simp only [List.mem_cons, List.not_mem_nil, or_false] at z
    rcases z with z | z
    · exact absurd z (Nat.ne_of_lt (Nat.lt_succ_self _))
    · exact absurd z (Ne.symm (Nat.ne_of_lt dl))
  refine list_rest (A := A.in1) (s := { s with heap := g.push { cls := .type "dict_keyiterator", data := .fields #[.ref d, .int 0 0, .int es.size 0, .int ep 0] } }) (walks_raw (A := A.in1.in1) hh g.objs.size d dI es ep) hn _ _ ⟨⟨_, Heap.get?_push_size _ rfl, rfl, rfl⟩, hm3⟩ SI (Heap.get?_push_of_some _ l2) fun s2 acc c hmv h2 h3 => ?_
  obtain ⟨hp, ge, dr, tk, os⟩ := s2
  obtain ⟨m1, m2, m3, m4, m5⟩ := hmv
  obtain rfl : ge = s.gens := m2
  obtain rfl : dr = s.drawn := m3
  obtain rfl : os = s.os := m4
  refine ⟨rfl, hQ hp acc c tk (fun b o e => m1 b o ?_ (Heap.get?_push_of_some _ (old b o e))) h2 h3⟩
  intro z
  have bl := Heap.lt_size e
  simp only [List.mem_cons, List.not_mem_nil, or_false] at z
  rcases z with z | z
  · exact absurd bl (by rw [z]; exact Nat.lt_irrefl _)
  · have z : b = g.objs.size := z
    rw [z, zu] at bl
    exact absurd bl (Nat.not_lt_of_le (Nat.le_succ _))
theorem list_of_vals {κ : Type} [DecidableEq κ] {knd : KeyKind prog w κ} {d v : Addr} {kvs : List (κ × Value)} {Q : Value → Shared → Prop} (hh : A.handled = none) (hv : s.heap.IsValuesView v d) (hm : s.heap.DictOf knd d kvs) (hn : kvs.length ≤ sizeLine)
    (hQ : ∀ h1 acc c tk, (∀ b o, s.heap.get? b = some o → h1.get? b = some o) → h1.get? s.heap.objs.size = some { cls := .type "list", dict := none, data := .seq acc c, slots := #[] } → ItemsOf (fun i v => ∃ k, kvs[i]? = some (k, v)) acc kvs.length →
      Q (.ref s.heap.objs.size) { s with heap := h1, toks := tk }) : wpAny (model prog w) A (call (.type "list") [.ref v]) Q E s := by
  obtain ⟨ep, hm⟩ := hm.dictAt
  have dl : d < s.heap.objs.size := hm.lt_size
  have vl : v < s.heap.objs.size := by obtain ⟨o, ho, _⟩ := hv; exact Heap.lt_size ho
  refine callType_codes (Q₁ := fun obj s1 => obj = .ref s.heap.objs.size ∧ s1 = { s with heap := s.heap.push { cls := .type "list", data := .seq #[] } }) F.called_list (F.typeCall_list_1 _) F.entry_list_init (code_list_new _ ⟨rfl, rfl⟩) fun obj s1 h1 => ?_
  obtain ⟨rfl, rfl⟩ := h1
  have hS : (s.heap.push { cls := .type "list", data := .seq #[] }).get? s.heap.objs.size = some { cls := .type "list", data := .seq #[] } := Heap.get?_push_size _ rfl
  refine ⟨⟨_, hS, rfl⟩, F.args_list_init_2 _ _, list_init hS ?_⟩
  have l2 := Heap.get?_update_self (Obj.mapSeq (fun _ => (#[] : Array Value))) hS rfl
  have old : ∀ b o, s.heap.get? b = some o → ((s.heap.push { cls := .type "list", data := .seq #[] }).update s.heap.objs.size (Obj.mapSeq (fun _ => (#[] : Array Value)))).get? b = some o := fun b o e =>
    (Heap.get?_update_other _ _ (fun z => Nat.lt_irrefl _ (z ▸ Heap.lt_size e))).trans (Heap.get?_push_of_some _ e)
  have hm2 := hm.keep old
  have hv2 : ((s.heap.push { cls := .type "list", data := .seq #[] }).update s.heap.objs.size (Obj.mapSeq (fun _ => (#[] : Array Value)))).IsValuesView v d := let ⟨o, ho, r⟩ := hv; ⟨o, old v o ho, r⟩
  have zu : ((s.heap.push { cls := .type "list", data := .seq #[] }).update s.heap.objs.size (Obj.mapSeq (fun _ => (#[] : Array Value)))).objs.size = s.heap.objs.size + 1 := by rw [Heap.size_update, Heap.size_push]
  generalize (s.heap.push { cls := .type "list", data := .seq #[] }).update s.heap.objs.size (Obj.mapSeq (fun _ => (#[] : Array Value))) = g at l2 old hm2 hv2 zu
  have T : ({ s with heap := g } : Shared).TypeIs (.ref v) "dict_values" := hv2.typeIs
  unfold Builtin.List.listExtendWith
  refine wpAny_bind (wpAny_typeOf T ?_)
  have sr : Builtin.List.listSameRef (.ref s.heap.objs.size) (.ref v) = false := by
    have : s.heap.objs.size ≠ v := Ne.symm (Nat.ne_of_lt vl)
    simp [Builtin.List.listSameRef, this]
  have t1 : (Value.type "dict_values" == Value.type "list") = false := by decide
  have t2 : (Value.type "dict_values" == Value.type "tuple") = false := by decide
  simp only [sr, t1, t2, Bool.or_false, Bool.false_eq_true, if_false]
  refine wpAny_bind (wpAny_pyIter_values (s := { s with heap := g }) hv2 hm2 ?_)
  have hm3 := hm2.push { cls := .type "dict_valueiterator", data := .fields #[.ref d, .int 0 0, .int kvs.length 0, .int ep 0] }
  have hv3 : (g.push { cls := .type "dict_valueiterator", data := .fields #[.ref d, .int 0 0, .int kvs.length 0, .int ep 0] }).IsValuesView v d := let ⟨o, ho, r⟩ := hv2; ⟨o, Heap.get?_push_of_some _ ho, r⟩
  refine wpAny_bind (wpAny_holding (hint_vals (s := { s with heap := g.push { cls := .type "dict_valueiterator", data := .fields #[.ref d, .int 0 0, .int kvs.length 0, .int ep 0] } }) hv3.typeIs ?_))
  have dI : d ≠ g.objs.size := by rw [zu]; exact Nat.ne_of_lt (Nat.lt_succ_of_lt dl)
  have SI : s.heap.objs.size ∉ [g.objs.size, d] := by
    rw [zu]
    intro z
    simp only [List.mem_cons, List.not_mem_nil, or_false] at z
    rcases z with z | z
    · exact absurd z (Nat.ne_of_lt (Nat.lt_succ_self _))
    · exact absurd z (Ne.symm (Nat.ne_of_lt dl))
  refine list_rest (A := A.in1) (s := { s with heap := g.push { cls := .type "dict_valueiterator", data := .fields #[.ref d, .int 0 0, .int kvs.length 0, .int ep 0] } }) (Walks.dictValues (A := A.in1.in1) hh g.objs.size d dI kvs ep) hn _ _ ⟨⟨_, Heap.get?_push_size _ rfl, rfl, rfl⟩, hm3⟩ SI (Heap.get?_push_of_some _ l2) fun s2 acc c hmv h2 h3 => ?_
  obtain ⟨hp, ge, dr, tk, os⟩ := s2
  obtain ⟨m1, m2, m3, m4, m5⟩ := hmv
  obtain rfl : ge = s.gens := m2
  obtain rfl : dr = s.drawn := m3
  obtain rfl : os = s.os := m4
  refine ⟨rfl, hQ hp acc c tk (fun b o e => m1 b o ?_ (Heap.get?_push_of_some _ (old b o e))) h2 h3⟩
  intro z
  have bl := Heap.lt_size e
  simp only [List.mem_cons, List.not_mem_nil, or_false] at z
  rcases z with z | z
  · exact absurd bl (by rw [z]; exact Nat.lt_irrefl _)
  · have z : b = g.objs.size := z
    rw [z, zu] at bl
    exact absurd bl (Nat.not_lt_of_le (Nat.le_succ _))
end
end L2

/-! list(d), list(d.values()) as rules. -/
namespace L2
open PySem PySem.Spec PyProof.Rows
theorem Vals.of_get : ∀ {xs : List V} {us : List Value}, xs.length = us.length → (∀ (i : Nat) x u, xs[i]? = some x → us[i]? = some u → RelV x u) → Vals xs us
  | [], [], _, _ => .nil
  | x :: xs, u :: us, hl, h => .cons (h 0 x u rfl rfl) (Vals.of_get (by simpa using hl) fun i y v e1 e2 => h (i + 1) y v (by simpa using e1) (by simpa using e2))
  | [], _ :: _, hl, _ => by simp at hl
  | _ :: _, [], hl, _ => by simp at hl
theorem key_rel {k : Key} {v : Value} (h : keyIs k v = true) : RelV (kV k) v := by
  rcases keyIs_shape h with ⟨i, t, rfl, rfl⟩ | ⟨x, t, rfl, rfl⟩
  · exact ⟨t, rfl⟩
  · exact ⟨t, rfl⟩
theorem Paired.get' {α β : Type} {F : α → β → Prop} : ∀ {l₁ : List α} {l₂ : List β} {i : Nat} {a : α}, Paired F l₁ l₂ → l₁[i]? = some a → ∃ b, l₂[i]? = some b ∧ F a b
  | _, _, _, _, .nil, e => by simp at e
  | _, _, 0, _, .cons r _, e => by simp at e; subst e; exact ⟨_, rfl, r⟩
  | _, _, i + 1, a, .cons _ t, e => by
    obtain ⟨u, h1, h2⟩ := Paired.get' (i := i) (a := a) t (by simpa using e)
    exact ⟨u, by simpa using h1, h2⟩
section
variable {X : Cx}
/-- a list just made out of what was walked -/
theorem list_fin {pins : List (Addr × Obj)} {σ : St} {H : Hp} {s : Shared} {Q : VK} {ys : List V} {h1 : Heap} {acc : Array Value} {c tk : Nat} (I : Inv X pins σ H s) (kp : ∀ b o, s.heap.get? b = some o → h1.get? b = some o)
    (e : h1.get? s.heap.objs.size = some { cls := .type "list", dict := none, data := .seq acc c, slots := #[] }) (r : Vals ys acc.toList) (hz : ys.length ≤ sizeLine) (q : ∀ l, H l = none → Q (.ref l) (upd H l (.lst ys))) : EP X pins σ Q (.ref s.heap.objs.size) { s with heap := h1, toks := tk } :=
  ⟨.ref s.heap.objs.size, _, I.laid (t' := tk) (o := .lst ys) kp (Nat.le_refl _) ⟨hz, acc.toList, c, r, by simpa using e⟩, rfl, q _ (I.hok.fresh (Nat.le_refl _))⟩
theorem call_list_dK (hc : X.calm = true) : CallR X (.type "list") (fun xs H Q => ∃ p kvs, xs = [V.ref p] ∧ H p = some (.dK kvs) ∧ ∀ l, H l = none → Q (.ref l) (upd H l (.lst (kvs.map fun kv => kV kv.1)))) := by
  intro pins s σ H xs us Q I r h
  obtain ⟨p, kvs, rfl, hp, q⟩ := h
  obtain ⟨u, rfl, ru⟩ := vals1 r
  cases ru
  obtain ⟨z, hd, vs, rel, o, es, ep, e, ex, dt, kk, pr, nd⟩ := I.hok p _ hp
  have l1 : kvs.length = vs.length := Paired.length rel
  have l2 : es.size = vs.length := by rw [← pr.length]; simp
  refine list_of_dict (I.ok.hd hc) hd ⟨o, e, ex, dt⟩ (by omega) fun h1 acc c tk kp el it => list_fin I kp el (Vals.of_get ?_ fun i x v ex ev => ?_) (by rw [List.length_map]; exact z) q
  · have := it.1
    simp only [List.length_map, Array.length_toList]
    omega
  · rw [List.getElem?_map] at ex
    cases ek : kvs[i]? with
    | none => rw [ek] at ex; cases ex
    | some kv =>
      rw [ek] at ex
      cases ex
      obtain ⟨en, hen, rfl⟩ := it.2 i v (by simpa using ev)
      obtain ⟨w', hw, rw'⟩ := Paired.get' rel ek
      have := (pr.get? (e := en) (k := w'.1) (v := w'.2) (by simpa using hen) (by rw [hw])).1
      have e1 : kv.1 = w'.1 := rw'.1
      show RelV (kV kv.1) en.key
      rw [e1]
      exact key_rel this
/-- the tuples that are a dict's keys -/
abbrev KeyTups (H : Hp) : List Addr → List (List Key × V) → Prop := Paired fun a kv => H a = some (.tup (kv.1.map kV))
theorem keyTups_of {H : Hp} : ∀ {kvs : List (List Key × V)} {ys : List (List Key × Addr × Value)}, Paired (fun (p : List Key × V) (q : List Key × Addr × Value) => p.1 = q.1 ∧ H q.2.1 = some (.tup (p.1.map kV)) ∧ RelV p.2 q.2.2) kvs ys → KeyTups H (ys.map fun y => y.2.1) kvs
  | _, _, .nil => .nil
  | _, _, .cons r t => .cons r.2.1 (keyTups_of t)
theorem call_list_dT (hc : X.calm = true) : CallR X (.type "list") (fun xs H Q => ∃ p kvs, xs = [V.ref p] ∧ H p = some (.dT kvs) ∧ ∀ l as, KeyTups H as kvs → H l = none → Q (.ref l) (upd H l (.lst (as.map V.ref)))) := by
  intro pins s σ H xs us Q I r h
  obtain ⟨p, kvs, rfl, hp, q⟩ := h
  obtain ⟨u, rfl, ru⟩ := vals1 r
  cases ru
  obtain ⟨z, hd, ys, rel, o, es, ep, e, ex, dt, he, nd⟩ := I.hok p _ hp
  have l1 : kvs.length = ys.length := Paired.length rel
  have l2 : es.size = ys.length := by
    have := congrArg List.length he
    simpa using this
  have kt : KeyTups H (ys.map fun y => y.2.1) kvs := keyTups_of rel
  refine list_of_dict (I.ok.hd hc) hd ⟨o, e, ex, dt⟩ (by omega) fun h1 acc c tk kp el it => list_fin (ys := (ys.map fun y => y.2.1).map V.ref) I kp el (Vals.of_get ?_ fun i x v ex ev => ?_) (by simp only [List.length_map]; omega) fun l hl => q l _ kt hl
  · have := it.1
    simp only [List.length_map, Array.length_toList]
    omega
  · obtain ⟨en, hen, rfl⟩ := it.2 i v (by simpa using ev)
    have hen : es.toList[i]? = some en := by simpa using hen
    rw [he, List.getElem?_map] at hen
    rw [List.map_map, List.getElem?_map] at ex
    cases ek : ys[i]? with
    | none => rw [ek] at ex; cases ex
    | some y =>
      rw [ek] at ex hen
      cases ex
      cases hen
      exact rfl
/-- a view of a dict's values -/
def vwO (p d : Addr) : HO := .ext fun h => h.IsValuesView p d
theorem mt_values : MtR X "dict.values" (fun x xs H Q => ∃ d kvs, x = V.ref d ∧ xs = [] ∧ H d = some (.dK kvs) ∧ ∀ p, H p = none → Q (.ref p) (upd H p (vwO p d))) := by
  intro pins s σ H x xs v us Q I rx rs h
  obtain ⟨d, kvs, rfl, rfl, hd, q⟩ := h
  cases rx
  cases rs
  obtain ⟨z, hs, vs, rel, dd⟩ := I.hok d _ hd
  refine call_meetsIn PySem.F.slot_dict_values dd.typeIs PySem.F.entry_dict_values (PySem.F.args_dict_values_1 _) (meets_dict_values (mixKind X.prog X.w) d hs) ⟨⟨vs, dd⟩, ?_⟩
  refine ⟨.ref s.heap.objs.size, _, I.laid (t' := s.toks) (a := s.heap.objs.size) (o := vwO s.heap.objs.size d) (fun b u e => Heap.get?_push_of_some _ e) (Nat.le_refl _) ⟨⟨_, Heap.get?_push_size _ rfl, rfl, rfl⟩, ⟨_, Heap.get?_push_size _ rfl⟩, fun h1 h2 ⟨o, ho, r⟩ k => ⟨o, k o ho, r⟩⟩, rfl, q _ (I.hok.fresh (Nat.le_refl _))⟩
theorem call_list_vw (hc : X.calm = true) : CallR X (.type "list") (fun xs H Q => ∃ p d kvs, xs = [V.ref p] ∧ H p = some (vwO p d) ∧ H d = some (.dK kvs) ∧ ∀ l, H l = none → Q (.ref l) (upd H l (.lst (kvs.map (·.2))))) := by
  intro pins s σ H xs us Q I r h
  obtain ⟨p, d, kvs, rfl, hp, hd, q⟩ := h
  obtain ⟨u, rfl, ru⟩ := vals1 r
  cases ru
  obtain ⟨z, hs, vs, rel, dd⟩ := I.hok d _ hd
  obtain ⟨hv, _, _⟩ := I.hok p _ hp
  have l1 : kvs.length = vs.length := Paired.length rel
  refine list_of_vals (I.ok.hd hc) hv dd (by omega) fun h1 acc c tk kp el it => list_fin I kp el (Vals.of_get ?_ fun i x v ex ev => ?_) (by rw [List.length_map]; exact z) q
  · have := it.1
    simp only [List.length_map, Array.length_toList]
    omega
  · rw [List.getElem?_map] at ex
    cases ek : kvs[i]? with
    | none => rw [ek] at ex; cases ex
    | some kv =>
      rw [ek] at ex
      cases ex
      obtain ⟨k, hk⟩ := it.2 i v (by simpa using ev)
      obtain ⟨w', hw, rw'⟩ := Paired.get' rel ek
      rw [hk] at hw
      cases hw
      exact rw'.2
end
end L2

/-! a dict of the module's, its values tuples of texts; methods by promise; a comprehension over zip. -/
namespace L2
open PySem PySem.Spec PyProof.Rows
/-- a tuple of the module's -/
def KTup (K : PySem.W.Frag) (ad : Addr) (ws : List V) : Prop := ∃ (o : Obj) (its : Array Value) (n : Nat), K.lookup ad = some o ∧ o.cls = .type "tuple" ∧ o.data = .seq its n ∧ its.size ≤ sizeLine ∧ Vals ws its.toList
theorem KTup.sq {K : PySem.W.Frag} {ad : Addr} {ws : List V} (h : KTup K ad ws) (H : Hp) : SqT K H ad ws := .inr h
inductive KEnts (w : World) (K : PySem.W.Frag) : List DictEntry → List (Str × List V) → Prop where
  | nil : KEnts w K [] []
  | cons {k : Str} {t : Tok} {ad : Addr} {ws : List V} {es : List DictEntry} {l : List (Str × List V)} {od : Option Addr} {its : Array Value} {n : Nat} {sl : Array (Option Value)} (hl : K.lookup ad = some ⟨.type "tuple", od, .seq its n, sl⟩)
      (hz : its.size ≤ sizeLine) (hv : Vals ws its.toList) (r : KEnts w K es l) : KEnts w K (⟨PyData.keyHash w.params k, .str k t, .ref ad⟩ :: es) ((k, ws) :: l)
/-- the module's dict at a -/
structure KDT (w : World) (K : PySem.W.Frag) (a : Addr) (l : List (Str × List V)) : Prop where
  ob : ∃ es ep, K.lookup a = some { cls := .type "dict", data := .dict es ep } ∧ KEnts w K es.toList l
  nm : (a == sysModules) = false
  nd : (l.map (·.1)).Nodup
theorem KEnts.pairs {P : Program} {w : World} {K : PySem.W.Frag} : ∀ {es : List DictEntry} {l : List (Str × List V)}, KEnts w K es l → ∃ vs : List (Key × Value), Pairs (mixKind P w) es vs ∧ vs.map (·.1) = l.map (fun x => (Sum.inr x.1 : Key)) ∧
    (∀ e ∈ es, ∃ k, (mixKind P w).is k e.key = true ∧ e.hash = (mixKind P w).hash k) ∧ ∀ x ws, (x, ws) ∈ l → ∃ ad, ((Sum.inr x : Key), Value.ref ad) ∈ vs ∧ KTup K ad ws
  | _, _, .nil => ⟨[], .nil, rfl, (fun e h => nomatch h), (fun x ws h => nomatch h)⟩
  | _, _, .cons (k := k) (t := t) (ad := ad) hl hz hv r => by
    obtain ⟨vs, p, e1, e2, e3⟩ := KEnts.pairs (P := P) r
    refine ⟨((Sum.inr k : Key), Value.ref ad) :: vs, .cons (mixKind_str P w k t) rfl p, by rw [List.map_cons, List.map_cons, e1], fun e h => ?_, fun x ws h => ?_⟩
    · rcases List.mem_cons.mp h with rfl | h
      · exact ⟨Sum.inr k, mixKind_str P w k t, rfl⟩
      · exact e2 e h
    · rcases List.mem_cons.mp h with h | h
      · cases h
        exact ⟨ad, List.mem_cons_self .., _, _, _, hl, rfl, rfl, hz, hv⟩
      · obtain ⟨ad', h1, h2⟩ := e3 x ws h
        exact ⟨ad', List.mem_cons_of_mem _ h1, h2⟩
theorem valueAt_mem {κ : Type} [DecidableEq κ] : ∀ {vs : List (κ × Value)} {k : κ} {v : Value}, (vs.map (·.1)).Nodup → (k, v) ∈ vs → valueAt vs k = some v
  | (k', v') :: vs, k, v, nd, h => by
    unfold valueAt
    rw [List.map_cons, List.nodup_cons] at nd
    rcases List.mem_cons.mp h with h | h
    · cases h
      simp
    · have ne : k' ≠ k := fun e => nd.1 (List.mem_map.mpr ⟨_, h, e.symm⟩)
      rw [List.find?_cons_of_neg (by simpa using ne)]
      exact valueAt_mem nd.2 h
theorem valueAt_none {κ : Type} [DecidableEq κ] {vs : List (κ × Value)} {k : κ} (h : k ∉ vs.map (·.1)) : valueAt vs k = none := by
  unfold valueAt
  rw [Option.map_eq_none_iff, List.find?_eq_none]
  intro x hx e
  exact h (List.mem_map.mpr ⟨x, hx, by simpa using e⟩)
section
variable {X : Cx} {pins : List (Addr × Obj)} {σ : St} {H : Hp} {s : Shared}
theorem KDT.at {a : Addr} {l : List (Str × List V)} (D : KDT X.w X.K a l) (I : Inv X pins σ H s) : ∃ vs : List (Key × Value), s.heap.DictOf (mixKind X.prog X.w) a vs ∧ vs.map (·.1) = l.map (fun x => (Sum.inr x.1 : Key)) ∧ ∀ x ws, (x, ws) ∈ l → ∃ ad, valueAt vs (Sum.inr x) = some (.ref ad) ∧ KTup X.K ad ws := by
  obtain ⟨es, ep, hl, he⟩ := D.ob
  obtain ⟨vs, p, e1, e2, e3⟩ := he.pairs (P := X.prog)
  have nd : (vs.map (·.1)).Nodup := by
    rw [e1]
    have := D.nd
    unfold List.Nodup at this ⊢
    rw [List.pairwise_map] at this ⊢
    exact this.imp fun h z => h (Sum.inr.inj z)
  refine ⟨vs, ⟨_, es, ep, I.kIn a _ hl, ⟨rfl, rfl, rfl⟩, rfl, fun e h => e2 e (by simpa using h), p, nd⟩, e1, fun x ws h => ?_⟩
  obtain ⟨ad, h1, h2⟩ := e3 x ws h
  exact ⟨ad, valueAt_mem nd h1, h2⟩
end
/-! ### x in, not in, D[x] for it -/
def tKIn (l : List (Str × List V)) (neg : Bool) (ty : TE) : TE := fun σ H Q => ty σ H fun y H1 => ∃ x, y = .str x ∧ Q (.bl (if neg then !decide (x ∈ l.map (·.1)) else decide (x ∈ l.map (·.1)))) H1
def tKGet (K : PySem.W.Frag) (l : List (Str × List V)) (ty : TE) : TE := fun σ H Q => ty σ H fun y H1 => ∃ x ws, y = .str x ∧ (x, ws) ∈ l ∧ ∀ ad, KTup K ad ws → Q (.ref ad) H1
section
variable {X : Cx} {a : Addr} {l : List (Str × List V)} {g : Str} {e : Expr} {ty : TE} {p pos : Pos}
theorem valueAt_iff {vs : List (Key × Value)} (e1 : vs.map (·.1) = l.map (fun x => (Sum.inr x.1 : Key))) (x : Str) : (valueAt vs (Sum.inr x : Key)).isSome = decide (x ∈ l.map (·.1)) := by
  have m : (Sum.inr x : Key) ∈ vs.map (·.1) ↔ x ∈ l.map (·.1) := by
    rw [e1]
    constructor
    · intro h
      obtain ⟨y, hy, e⟩ := List.mem_map.mp h
      exact List.mem_map.mpr ⟨y, hy, Sum.inr.inj e⟩
    · intro h
      obtain ⟨y, hy, e⟩ := List.mem_map.mp h
      exact List.mem_map.mpr ⟨y, hy, congrArg Sum.inr e⟩
  by_cases h : x ∈ l.map (·.1)
  · rw [decide_eq_true h]
    obtain ⟨y, hy, e⟩ := List.mem_map.mp (m.mpr h)
    unfold valueAt
    rw [Option.isSome_map, List.find?_isSome]
    exact ⟨y, hy, by simpa using e⟩
  · rw [decide_eq_false h, valueAt_none (fun z => h (m.mp z))]; rfl
theorem pc_knotin (D : KDT X.w X.K a l) (hg : Gl X g) (hm : X.mg g = some (.ref a)) (he : PE X e ty) (hdb : (g == ("__debug__" : Str)) = false := by decide) : PC X .NotIn e (.Name g p) (tKIn l true ty) := by
  intro pins s σ H Q I h
  refine thn (he pins s σ H _ I h) fun iv s1 hq0 => ?_
  obtain ⟨y, H1, I1, ry, q1⟩ := hq0
  obtain ⟨x, rfl, q⟩ := q1
  obtain ⟨vs, dd, e1, _⟩ := D.at I1
  refine ld_glob I1 hg hm ?_ hdb
  refine wpAny_notIn_of (kV_is (k := Sum.inr x) ry) D.nm dd.mapOf ?_
  rw [valueAt_iff e1]
  exact ⟨.bl _, H1, I1.tok _, rfl, q⟩
theorem pe_kget (D : KDT X.w X.K a l) (hg : Gl X g) (hm : X.mg g = some (.ref a)) (he : PE X e ty) (hs : NoSl e) (hdb : (g == ("__debug__" : Str)) = false := by decide) : PE X (.Subscript (.Name g p) e pos) (tKGet X.K l ty) := by
  intro pins s σ H Q I h
  refine subD_of PySem.F.slot_dict_getitem.lookup hs (ld_glob I hg hm ?_ hdb)
  refine thn (he pins s σ H _ I h) fun iv s1 hq0 => ?_
  obtain ⟨y, H1, I1, ry, q1⟩ := hq0
  obtain ⟨x, ws, rfl, hx, q⟩ := q1
  obtain ⟨vs, dd, e1, e2⟩ := D.at I1
  obtain ⟨ad, hv, kt⟩ := e2 x ws hx
  exact ⟨dd.typeIs, wpAny_getItem_of (kV_is (k := Sum.inr x) ry) dd.mapOf hv ⟨.ref ad, H1, I1.tok _, rfl, q ad kt⟩⟩
end
/-! ### methods by promise -/
/-- the method m of the class at C, as the top has left it -/
def DfM (K : PySem.W.Frag) (C : Addr) (qual m : Str) (st : Stmt) (ps : List Str) : Prop :=
  ∃ (f : Addr) (fd : FuncData), Fun K m qual st f fd ∧ Meth K C m f ∧ ∀ us : List Value, us.length = ps.length → bindArgs fd ⟨us, []⟩ = pure (ps.zip us)
theorem dfm_mk {K : PySem.W.Frag} {C : Addr} {qual m : Str} {st : Stmt} {ps : List Str} {f : Addr} {oc kV dc pm cd ct : Value} {od an : Option Addr} {sl : Array (Option Value)}
    (hb : ∀ (kV doc pm : Value) (an : Option Addr) (cdv ct : Value) (us : List Value), us.length = ps.length → bindArgs (PySem.W.fnOf m qual (defArgs st) (defBody st) (defScope st) .none kV doc pm an cdv ct) ⟨us, []⟩ = pure (ps.zip us))
    (a : PySem.W.findIn K (.ref C) m = some (some (.ref f))) (l : K.lookup f = some ⟨oc, od, .func (PySem.W.fnOf m qual (defArgs st) (defBody st) (defScope st) .none kV dc pm an cd ct), sl⟩) (c : PySem.W.codeIn K cd qual = true) (k : PySem.W.keepIn K (.ref f) = true)
    (i : PySem.W.isFn K (.ref f) = true) : DfM K C qual m st ps := ⟨f, _, fun_mk l c k, ⟨a, i, k⟩, fun us hl => hb kV dc pm an cd ct us hl⟩
def HasM (P : Program) (w : World) (K : PySem.W.Frag) (mg : Str → Option Value) (base : Heap) (C : Addr) (m : Str) (ps : List Str) (k : Nat) (sp : Sp) : Prop :=
  ∃ (f : Addr) (fd : FuncData), Meth K C m f ∧ (∀ us : List Value, us.length = ps.length → bindArgs fd ⟨us, []⟩ = pure (ps.zip us)) ∧ FnOk P w K mg base CX0 k f fd ps sp
section
variable {P : Program} {w : World} {K : PySem.W.Frag} {mg : Str → Option Value} {base : Heap}
theorem DfM.has {C : Addr} {qual m : Str} {st : Stmt} {N ps : List Str} {k : Nat} {sp : Sp} (D : DfM K C qual m st ps) (S : FnScope N ps (defScope st)) (len : ∀ vs H Q E, sp vs H Q E → vs.length = ps.length)
    (hbody : ∀ (f : Addr) (cdv : Value) (A : Around) (outer : List Env) (s : Shared) (H : Hp) (vs : List V) (Q : VK) (E : XK), Room k (A.deeper (envOfC qual (defScope st) s.heap.objs.size f cdv)) → sp vs H Q E →
      ∃ t, PSs (cxOf CX0 P w K mg base N qual (defScope st) f cdv A outer s H E).nox (defBody st) t ∧ t { nx := fun _ H' => Q .non H', rt := Q } (start N vs) H) : HasM P w K mg base C m ps (k + 1) sp := by
  obtain ⟨f, fd, F, a, b⟩ := D
  obtain ⟨oc, od, kV, doc, pm, an, cdv, ct, osl, e, lk, hcd⟩ := id F.ex
  exact ⟨f, fd, a, b, F.ok S len (hbody f)⟩
end
section
variable {X : Cx} {k : Nat} {ps : List Str} {sp : Sp} {C : Addr} {m x : Str} {p pos apos : Pos} {o e : Expr} {es : List Expr} {t : TA} {ta : TE}
theorem pe_mth {pl : Sem Bool} (F : HasM X.prog X.w X.K X.mg X.base C m ps k sp) (c : Cls X.K C) (hr : Room k X.A) (he : PE X o ta) (ha : PA X (e :: es) t)
    (hst : starEach (e :: es) X.env = (false, eval e X.env) :: starEach es X.env := by rfl) (hpl : (backTo pos (starEach es X.env)).any (·.1) = false := by rfl)
    (ht : eval (.Call (.Attribute o m apos) (e :: es) [] pos) X.env = (do
      let ov ← eval o X.env
      standAt apos.atName
      let (f, first) ← holding [ov] (getMethod ov m pl)
      callWith pos f first (backTo pos (starEach (e :: es) X.env)) (backToKw pos (keywordEach [] X.env))) := by rfl) :
    PE X (.Call (.Attribute o m apos) (e :: es) [] pos) (tMeth C m sp [] E0 ta t) := by
  obtain ⟨f, fd, a, b, G⟩ := F
  exact pe_meth he c a G hr (.all b) .nil pass0 ha hst hpl ht
theorem pe_mth0 {pl : Sem Bool} (F : HasM X.prog X.w X.K X.mg X.base C m ps k sp) (c : Cls X.K C) (hr : Room k X.A) (he : PE X o ta)
    (ht : eval (.Call (.Attribute o m apos) [] [] pos) X.env = (do
      let ov ← eval o X.env
      standAt apos.atName
      let (f, first) ← holding [ov] (getMethod ov m pl)
      callWith pos f first (backTo pos (starEach [] X.env)) (backToKw pos (keywordEach [] X.env))) := by rfl) :
    PE X (.Call (.Attribute o m apos) [] [] pos) (tMeth C m sp [] E0 ta tNil) := by
  obtain ⟨f, fd, a, b, G⟩ := F
  exact pe_meth0 he c a G hr (.all b) .nil pass0 ht
/-- C() of a class of the text: its __init__ has promised -/
theorem pe_new0 (F : HasM X.prog X.w X.K X.mg X.base C "__init__" ps k sp) (hmk : PySem.W.makesIn X.K C = true) (hk : PySem.W.keepIn X.K (.ref C) = true) (hr : Room (k + 1) X.A) (hg : Gl X x) (hm : X.mg x = some (.ref C)) (hdb : (x == ("__debug__" : Str)) = false := by decide) :
    PE X (.Call (.Name x p) [] [] pos) (tMake C sp [] E0 tNil) := by
  obtain ⟨f, fd, a, b, G⟩ := F
  exact pe_make0 ⟨hmk, a.at_, a.fn, hk⟩ G hr hg hm (.all b) .nil pass0 hdb
end
/-! ### [e for x, y in zip(..)] -/
theorem comp_zip {K : PySem.W.Frag} {b1 b2 : Bool} {l1 l2 : Addr} {xs ys : List V} {own : List Str} {ix : List Nat} {te : TE} {σ : St} {H1 : Hp} {D : Addr} {Q : VK} (f : V → V → V) (hD : H1 D = none)
    (h1 : ∀ H', Same H1 H' → SqV K b1 H' l1 xs) (h2 : ∀ H', Same H1 H' → SqV K b2 H' l2 ys) (hl : xs.length = ys.length) (hz : xs.length ≤ sizeLine)
    (he : ∀ (i : Nat) x y, xs[i]? = some x → ys[i]? = some y → ∀ H' (Q' : VK), Same H1 H' → (∀ H'', Same H' H'' → Q' (f x y) H'') → te (((st0 own ix σ).set 0 (some x)).set 1 (some y)) H' Q')
    (hQ : ∀ H', Same H1 H' → H' D = some (.lst (List.zipWith f xs ys)) → Q (.ref D) H') : CompW own ix (Itz K b1 b2 l1 l2) (gTup K 2 (gCons (gName 0) (gCons (gName 1) gNil))) tYes te σ H1 D Q := by
  refine ⟨fun i m σ' zs H' => m = xs.length - i ∧ i ≤ xs.length ∧ (∀ z z', (σ'.set 0 z).set 1 z' = ((st0 own ix σ).set 0 z).set 1 z') ∧ zs = List.zipWith f (xs.take i) (ys.take i) ∧ Same H1 H' ∧ H' D = some (.lst zs),
    ⟨xs.length, by simp, Nat.zero_le _, fun _ _ => rfl, by simp, Same.new hD, upd_same⟩, ?_⟩
  rintro i m σ' zs H' ⟨rfl, hi, hσ, rfl, hs, hDy⟩
  refine ⟨hDy, ?_⟩
  by_cases hlt : i < xs.length
  · have hlt2 : i < ys.length := by omega
    have ex : xs[i]? = some xs[i] := List.getElem?_eq_getElem hlt
    have ey : ys[i]? = some ys[i] := List.getElem?_eq_getElem hlt2
    refine .inr ⟨⟨xs, ys, xs[i], ys[i], h1 _ hs, h2 _ hs, ex, ey⟩, ?_, fun v H2 y => ?_⟩
    · rw [List.length_zipWith, List.length_take, List.length_take]; omega
    · obtain ⟨T, x, y, hT, rfl, rfl, hxy⟩ := y
      obtain ⟨e1, e2⟩ := hxy xs ys (h1 _ hs) (h2 _ hs)
      have sT := Same.new (o := .tup [x, y]) hT
      have sA := hs.trans sT
      refine ⟨T, [x, y], rfl, SqT.of upd_same, rfl, x, _, rfl, y, _, rfl, rfl, ?_⟩
      unfold tYes
      dsimp only
      rw [if_pos rfl, hσ]
      refine he i x y e1 e2 _ _ sA fun H'' hs' => ⟨hs' D _ (sT D _ hDy), xs.length - (i + 1), by omega, rfl, hlt, fun z z' => ?_, ?_, (sA.trans hs').upd hD, upd_same⟩
      · have : ∀ (l : St) (a b c d : Option V), ((((l.set 0 a).set 1 b).set 0 c).set 1 d) = (l.set 0 c).set 1 d := fun l a b c d => by
          cases l with
          | nil => rfl
          | cons p l =>
            cases l with
            | nil => rfl
            | cons q l => rfl
        exact this ..
      · rw [List.take_add_one, List.take_add_one, e1, e2, List.zipWith_append (by simp; omega)]; rfl
  · have e : i = xs.length := by omega
    subst e
    refine .inl ⟨⟨xs, ys, h1 _ hs, h2 _ hs, .inl (Nat.le_refl _)⟩, hQ _ hs ?_⟩
    rw [List.take_length, hl, List.take_length] at hDy
    exact hDy
end L2
namespace L2
open PySem PySem.Spec PyProof.Rows
theorem kdt_mk {K : PySem.W.Frag} {h : Heap} {mg : Str → Option Value} {w : World} (X : K.In h) (G : h.Ns mainGlobals mg) {x : Str} {a : Addr} {es : Array DictEntry} {ep : Nat} {l : List (Str × List V)} (e : PySem.W.nsIn K mainGlobals x = some (some (.ref a)))
    (lk : K.lookup a = some { cls := .type "dict", data := .dict es ep }) (ke : KEnts w K es.toList l) (nm : (a == sysModules) = false) (nd : (l.map (·.1)).Nodup) : ∃ a, mg x = some (.ref a) ∧ KDT w K a l :=
  ⟨a, PySem.W.mg_of X G e, ⟨es, ep, lk, ke⟩, nm, nd⟩
section
variable {X : Cx} (K : PySem.W.Frag) (h : X.K = K)
include h
theorem pi_enumK {elts : List Expr} {ct : Nat} {tpos : Pos} {e : Expr} {te : TE} {p pos kpos cpos : Pos} {j : Nat} (n : Nat) (hn : Builtin.SmallTypes.fitsIndex (n : Int) = true) (hg : Gl X "enumerate") (hm : X.mg "enumerate" = none) (he : PE X e te)
    (hs : starEach [e] X.env = [(false, eval e X.env)] := by rfl) :
    PI X (.Tuple elts ct tpos) (.Call (.Name "enumerate" p) [e] [⟨some "start", .Constant (.int (n : Int)) j cpos, kpos⟩] pos) (iEnum K n te) := h ▸ pi_enum n hn hg hm he hs
theorem pi_zipK {elts : List Expr} {ct : Nat} {tpos : Pos} {e1 e2 : Expr} {ta : TA} {p pos : Pos} (b1 b2 : Bool) (hg : Gl X "zip") (hm : X.mg "zip" = none) (ha : PA X [e1, e2] ta) (hs : starEach [e1, e2] X.env = [(false, eval e1 X.env), (false, eval e2 X.env)] := by rfl) (hs2 : starEach [e2] X.env = [(false, eval e2 X.env)] := by rfl) :
    PI X (.Tuple elts ct tpos) (.Call (.Name "zip" p) [e1, e2] [] pos) (iZip K b1 b2 ta) := h ▸ pi_zip b1 b2 hg hm ha hs hs2
end
end L2


/-! Texts split; words of a line; what the reading of lines makes of a telling. -/
namespace Dm
open PySem PySem.NumText L2
theorem app_sep_inj {c : Nat} : ∀ {a b p q : List Nat}, c ∉ a → c ∉ b → a ++ c :: p = b ++ c :: q → a = b ∧ p = q
  | [], [], _, _, _, _, e => ⟨rfl, by simpa using e⟩
  | [], y :: b, _, _, _, hb, e => by
    have e1 : c = y := (List.cons.inj e).1
    exact absurd (by rw [e1]; exact List.mem_cons_self ..) hb
  | x :: a, [], _, _, ha, _, e => by
    have e1 : x = c := (List.cons.inj e).1
    exact absurd (by rw [← e1]; exact List.mem_cons_self ..) ha
  | x :: a, y :: b, p, q, ha, hb, e => by
    obtain ⟨e1, e2⟩ := List.cons.inj e
    obtain ⟨r1, r2⟩ := app_sep_inj (fun z => ha (List.mem_cons_of_mem _ z)) (fun z => hb (List.mem_cons_of_mem _ z)) e2
    exact ⟨by rw [e1, r1], r2⟩
theorem jc_inj {c : Nat} : ∀ {l m : List (List Nat)}, l ≠ [] → m ≠ [] → (∀ x ∈ l, c ∉ x) → (∀ x ∈ m, c ∉ x) → jc [c] l = jc [c] m → l = m
  | [], _, h, _, _, _, _ => absurd rfl h
  | _, [], _, h, _, _, _ => absurd rfl h
  | [x], [y], _, _, _, _, e => by rw [show x = y from e]
  | [x], y :: z :: m, _, _, hl, _, e => by
    have e : x = y ++ [c] ++ jc [c] (z :: m) := e
    exact absurd (by rw [e]; simp) (hl x (List.mem_cons_self ..))
  | x :: w :: l, [y], _, _, _, hm, e => by
    have e : x ++ [c] ++ jc [c] (w :: l) = y := e
    exact absurd (by rw [← e]; simp) (hm y (List.mem_cons_self ..))
  | x :: w :: l, y :: z :: m, _, _, hl, hm, e => by
    have e : x ++ [c] ++ jc [c] (w :: l) = y ++ [c] ++ jc [c] (z :: m) := e
    rw [List.append_assoc, List.append_assoc] at e
    obtain ⟨e1, e2⟩ := app_sep_inj (hl x (List.mem_cons_self ..)) (hm y (List.mem_cons_self ..)) e
    rw [e1, jc_inj (List.cons_ne_nil _ _) (List.cons_ne_nil _ _) (fun u hu => hl u (List.mem_cons_of_mem _ hu)) (fun u hu => hm u (List.mem_cons_of_mem _ hu)) e2]
/-- a text glued of parts that the sign is not in, split at it -/
theorem split_glued {c : Nat} {ls : List (List Nat)} (h0 : ls ≠ []) (hf : ∀ x ∈ ls, c ∉ x) : Txt.split (strOf (jc [c] ls)) ⟨#[c]⟩ = ls.map strOf := by
  have j := StrLaws.join_split (strOf (jc [c] ls)) ⟨#[c]⟩
  have f := StrLaws.split_free (strOf (jc [c] ls)) c
  have p := PyProof.Rows.split_pos (strOf (jc [c] ls)) ⟨#[c]⟩
  generalize Txt.split (strOf (jc [c] ls)) ⟨#[c]⟩ = ps at j f p
  have hne : ps ≠ [] := by
    rintro rfl
    simp at p
  have e : jc [c] (ps.map co) = jc [c] ls := by
    have := congrArg co j
    rw [co_strOf] at this
    rw [← this]
    cases ps with
    | nil => exact absurd rfl hne
    | cons a r =>
      have := co_glued ⟨#[c]⟩ (a :: r)
      rw [show Txt.join ⟨#[c]⟩ (a :: r) = Str.join ⟨#[c]⟩ (a :: r) from StrLaws.glued_eq_join _ _] at this
      exact this.symm
  have e2 := jc_inj (by simpa using hne) h0 (fun x hx => by
    obtain ⟨q, hq, rfl⟩ := List.mem_map.mp hx
    exact f q hq) hf e
  rw [← e2, List.map_map]
  refine (List.map_id' ps).symm.trans (List.map_congr_left fun x _ => ?_)
  exact ext_co (by rw [Function.comp, co_strOf])
theorem blank_one : (Str.ofString " " : Str) = ⟨#[32]⟩ := by decide +kernel
theorem feed_one : (Str.ofString "\n" : Str) = ⟨#[10]⟩ := by decide +kernel
/-- the words of a line -/
def wordsOf (x : Str) : List Str := (Txt.split x " ").filter fun y => !decide (y = "")
def passedB : List Str → Bool
  | [] => true
  | y :: _ => Txt.startswith y ";"
/-! ### signs of words -/
theorem names_signs : ∀ c ∈ co NAMES, c ≠ 32 ∧ c ≠ 10 ∧ c ≠ 59 := by decide +kernel
theorem name_signs {x : Str} (h : nameB x = true) : (∀ c ∈ co x, c ≠ 32 ∧ c ≠ 10 ∧ c ≠ 59) ∧ co x ≠ [] := by
  unfold nameB at h
  simp only [Bool.and_eq_true, decide_eq_true_eq] at h
  obtain ⟨⟨h1, h2⟩, h3⟩ := h
  refine ⟨fun c hc => names_signs c (of_decide_eq_true (List.all_eq_true.mp h3 c hc)), fun z => ?_⟩
  rw [← co_len, z] at h1
  exact absurd h1 (by decide)
theorem num_signs (n : Int) : (∀ c ∈ co (Str.ofString (toString n)), c ≠ 32 ∧ c ≠ 10 ∧ c ≠ 59) ∧ co (Str.ofString (toString n)) ≠ [] := by
  have d : ∀ m : Nat, ∀ c ∈ dg m, c ≠ 32 ∧ c ≠ 10 ∧ c ≠ 59 := fun m c hc => by
    have := dg_all m c hc
    omega
  have e : ∀ m : Nat, dg m ≠ [] := fun m z => by
    have := dg_pos m
    rw [z] at this
    exact absurd this (by decide)
  cases n with
  | ofNat m =>
    have q : co (Str.ofString (toString (Int.ofNat m))) = dg m := co_str_nat m
    rw [q]
    exact ⟨d m, e m⟩
  | negSucc m =>
    have q : co (Str.ofString (toString (Int.negSucc m))) = 45 :: dg (m + 1) := co_str_neg m
    rw [q]
    refine ⟨fun c hc => ?_, by simp⟩
    rcases List.mem_cons.mp hc with rfl | hc
    · decide
    · exact d _ c hc
/-- words that rows are made of -/
def FIRSTS : List Str := ["dig", "unit", "over", "cuts", "fills", "after", "same", "find"]
theorem firsts_signs : ∀ x ∈ FIRSTS, (∀ c ∈ co x, c ≠ 32 ∧ c ≠ 10 ∧ c ≠ 59) ∧ co x ≠ [] := by decide +kernel
/-! ### what a row may be -/
inductive RowOk : List V → Prop where
  | dig {lo hi : Int} (hl : lo ≤ hi) (h1 : YearOk lo) (h2 : YearOk hi) : RowOk [.str "dig", .int lo, .int hi]
  | unit {x : Str} (hx : nameB x = true) : RowOk [.str "unit", .str x]
  | plain {kd x y : Str} (hk : kd ∈ KINDS) (hx : nameB x = true) (hy : nameB y = true) : RowOk [.str kd, .str x, .str y]
  | after {x y : Str} {n : Int} (hx : nameB x = true) (hy : nameB y = true) (h0 : 0 ≤ n) (h1 : YearOk n) : RowOk [.str "after", .str x, .str y, .int n]
  | find {nm x : Str} {lo hi : Int} (hn : nameB nm = true) (hx : nameB x = true) (hl : lo ≤ hi) (h1 : YearOk lo) (h2 : YearOk hi) : RowOk [.str "find", .str nm, .str x, .int lo, .int hi]
theorem kinds_firsts : ∀ k ∈ KINDS, k ∈ FIRSTS := by decide +kernel
theorem RowOk.signs {ws : List V} (h : RowOk ws) : ∀ v ∈ ws, (∀ c ∈ co (wordS v), c ≠ 32 ∧ c ≠ 10 ∧ c ≠ 59) ∧ co (wordS v) ≠ [] := by
  have F : ∀ x ∈ FIRSTS, (∀ c ∈ co (wordS (.str x)), c ≠ 32 ∧ c ≠ 10 ∧ c ≠ 59) ∧ co (wordS (.str x)) ≠ [] := firsts_signs
  cases h with
  | dig hl h1 h2 =>
    intro v hv
    simp only [List.mem_cons, List.not_mem_nil, or_false] at hv
    rcases hv with rfl | rfl | rfl
    · exact F _ (by decide +kernel)
    · exact num_signs _
    · exact num_signs _
  | unit hx =>
    intro v hv
    simp only [List.mem_cons, List.not_mem_nil, or_false] at hv
    rcases hv with rfl | rfl
    · exact F _ (by decide +kernel)
    · exact name_signs hx
  | plain hk hx hy =>
    intro v hv
    simp only [List.mem_cons, List.not_mem_nil, or_false] at hv
    rcases hv with rfl | rfl | rfl
    · exact F _ (kinds_firsts _ hk)
    · exact name_signs hx
    · exact name_signs hy
  | after hx hy h0 h1 =>
    intro v hv
    simp only [List.mem_cons, List.not_mem_nil, or_false] at hv
    rcases hv with rfl | rfl | rfl | rfl
    · exact F _ (by decide +kernel)
    · exact name_signs hx
    · exact name_signs hy
    · exact num_signs _
  | find hn hx hl h1 h2 =>
    intro v hv
    simp only [List.mem_cons, List.not_mem_nil, or_false] at hv
    rcases hv with rfl | rfl | rfl | rfl | rfl
    · exact F _ (by decide +kernel)
    · exact name_signs hn
    · exact name_signs hx
    · exact num_signs _
    · exact num_signs _
theorem RowOk.ne {ws : List V} (h : RowOk ws) : ws ≠ [] := by cases h <;> simp
theorem starts_semi {y : Str} : Txt.startswith y ";" = decide ((co y).head? = some 59) := by
  show Txt.startswith y (Str.ofString ";") = _
  rw [show (Str.ofString ";" : Str) = ⟨#[59]⟩ by decide +kernel]
  exact starts_one y 59
theorem RowOk.notPassed {ws : List V} (h : RowOk ws) : passedB (ws.map wordS) = false := by
  cases ws with
  | nil => exact absurd rfl h.ne
  | cons v r =>
    show Txt.startswith (wordS v) ";" = false
    rw [starts_semi]
    have s := h.signs v (List.mem_cons_self ..)
    cases e : co (wordS v) with
    | nil => exact absurd e s.2
    | cons c l =>
      refine decide_eq_false fun z => ?_
      have z : c = 59 := Option.some.inj z
      exact (s.1 c (by rw [e]; exact List.mem_cons_self ..)).2.2 z
/-! ### the state of a reading -/
structure RS where
  fr : Option (Int × Int)
  us : List Str
  ts : List (List V)
  fs : List (List V)
inductive StepOk : RS → List V → RS → Prop where
  | dig {us : List Str} {ts fs : List (List V)} {lo hi : Int} (hl : lo ≤ hi) (h1 : YearOk lo) (h2 : YearOk hi) : StepOk ⟨none, us, ts, fs⟩ [.str "dig", .int lo, .int hi] ⟨some (lo, hi), us, ts, fs⟩
  | unit {f : Int × Int} {us : List Str} {ts fs : List (List V)} {x : Str} (hx : nameB x = true) (hn : x ∉ us) : StepOk ⟨some f, us, ts, fs⟩ [.str "unit", .str x] ⟨some f, us ++ [x], ts, fs⟩
  | tie {f : Int × Int} {us : List Str} {ts fs : List (List V)} {ws : List V} (ht : TieOk us ws) (hn : ws ∉ ts) : StepOk ⟨some f, us, ts, fs⟩ ws ⟨some f, us, ts ++ [ws], fs⟩
  | find {f : Int × Int} {us : List Str} {ts fs : List (List V)} {ws : List V} (hf : FindOk us fs ws) : StepOk ⟨some f, us, ts, fs⟩ (.str "find" :: ws) ⟨some f, us, ts, fs ++ [ws]⟩
theorem TieOk.row {us : List Str} {ws : List V} (h : TieOk us ws) (hu : ∀ x ∈ us, nameB x = true) : RowOk ws := by
  cases h with
  | plain hk hx hy => exact .plain hk (hu _ hx) (hu _ hy)
  | after hx hy h0 h1 => exact .after (hu _ hx) (hu _ hy) h0 h1
theorem StepOk.row {s s' : RS} {ws : List V} (h : StepOk s ws s') (hu : ∀ x ∈ s.us, nameB x = true) : RowOk ws ∧ ∀ x ∈ s'.us, nameB x = true := by
  cases h with
  | dig hl h1 h2 => exact ⟨.dig hl h1 h2, hu⟩
  | unit hx hn =>
    refine ⟨.unit hx, fun y hy => ?_⟩
    rcases List.mem_append.mp hy with hy | hy
    · exact hu y hy
    · rw [List.mem_singleton] at hy; subst hy; exact hx
  | tie ht hn => exact ⟨ht.row hu, hu⟩
  | find hf =>
    cases hf with
    | mk hn hx hl h1 h2 _ => exact ⟨.find hn (hu _ hx) hl h1 h2, hu⟩
/-- the lines ls lead from s to s' -/
inductive Reads : RS → List Str → RS → Prop where
  | nil {s : RS} : Reads s [] s
  | skip {s s' : RS} {l : Str} {ls : List Str} (h : passedB (wordsOf l) = true) (r : Reads s ls s') : Reads s (l :: ls) s'
  | row {s s1 s' : RS} {l : Str} {ls : List Str} {ws : List V} (h : wordsOf l = ws.map wordS) (st : StepOk s ws s1) (r : Reads s1 ls s') : Reads s (l :: ls) s'
/-- a told telling's rows, in the order in which they were told, are read -/
theorem Reads.append {s s1 s2 : RS} {ls ms : List Str} (h : Reads s ls s1) (h2 : Reads s1 ms s2) : Reads s (ls ++ ms) s2 := by
  induction h with
  | nil => exact h2
  | skip h _ ih => exact .skip h (ih h2)
  | row h st _ ih => exact .row h st (ih h2)
end Dm

/-! Keys of dicts; the reading object on the heap; a telling's lines in groups. -/
namespace Dm
open PySem PySem.NumText L2
theorem atI_last2 {α : Type} (xs : List α) (u v : α) : atI (xs ++ [u, v]) (-2) = some u := by
  have hl : (xs ++ [u, v]).length = xs.length + 2 := by simp
  have e : ixN (xs ++ [u, v]).length (-2) = some xs.length := by
    unfold ixN
    rw [hl, if_neg (by decide), if_pos (by omega)]
    congr 1
    omega
  unfold atI
  rw [e]
  simp
theorem atI_last1 {α : Type} (xs : List α) (u v : α) : atI (xs ++ [u, v]) (-1) = some v := by
  have := atI_last (xs ++ [u]) v
  rwa [List.append_assoc] at this
/-- the value that a word writes, by its kind -/
def valF : V → V → V
  | .str kd, .str y => if kd = (Str.ofString "name" : Str) then .str y else .int (numI y)
  | _, _ => .non
/-- words as keys -/
def kW : V → Key
  | .str x => .inr x
  | .int i => .inl i
  | _ => .inl 0
theorem kV_kW {v : V} (h : Wd v) : kV (kW v) = v := by
  rcases h with ⟨x, rfl, _⟩ | ⟨i, rfl, _⟩ <;> rfl
theorem kV_map {ws : List V} (h : ∀ v ∈ ws, Wd v) : (ws.map kW).map kV = ws := by
  rw [List.map_map]
  refine (List.map_congr_left fun v hv => ?_).trans (List.map_id' ws)
  exact kV_kW (h v hv)
theorem kW_inj {ws vs : List V} (h1 : ∀ v ∈ ws, Wd v) (h2 : ∀ v ∈ vs, Wd v) (e : ws.map kW = vs.map kW) : ws = vs := by
  rw [← kV_map h1, ← kV_map h2, e]
theorem valV_none' {κ : Type} [DecidableEq κ] {kvs : List (κ × V)} {k : κ} (h : k ∉ kvs.map (·.1)) : valV kvs k = none := by
  unfold valV
  rw [Option.map_eq_none_iff, List.find?_eq_none]
  intro x hx e
  exact h (List.mem_map.mpr ⟨x, hx, by simpa using e⟩)
theorem valV_some' {κ : Type} [DecidableEq κ] {kvs : List (κ × V)} {k : κ} (h : k ∈ kvs.map (·.1)) : (valV kvs k).isSome = true := by
  rw [← valV_any, List.any_eq_true]
  obtain ⟨x, hx, e⟩ := List.mem_map.mp h
  exact ⟨x, hx, decide_eq_true e⟩
/-! ### the reading object -/
theorem n_fu : ¬ (("frame" : Str) = "units") := by decide +kernel
theorem n_ft : ¬ (("frame" : Str) = "ties") := by decide +kernel
theorem n_fi : ¬ (("frame" : Str) = "finds") := by decide +kernel
theorem n_ut : ¬ (("units" : Str) = "ties") := by decide +kernel
theorem n_ui : ¬ (("units" : Str) = "finds") := by decide +kernel
theorem n_ti : ¬ (("ties" : Str) = "finds") := by decide +kernel
def rfl4 (fv : V) (du dt df : Addr) : List (Str × V) := [("frame", fv), ("units", .ref du), ("ties", .ref dt), ("finds", .ref df)]
theorem rfl4_make (fv : V) (du dt df : Addr) : putF "finds" (.ref df) (putF "ties" (.ref dt) (putF "units" (.ref du) (putF "frame" fv []))) = rfl4 fv du dt df := by
  show putF "finds" (.ref df) (putF "ties" (.ref dt) (if ("frame" : Str) = "units" then _ else _)) = _
  rw [if_neg n_fu]
  show putF "finds" (.ref df) (if ("frame" : Str) = "ties" then _ else (("frame" : Str), fv) :: (if ("units" : Str) = "ties" then _ else _)) = _
  rw [if_neg n_ft, if_neg n_ut]
  show (if ("frame" : Str) = "finds" then _ else (("frame" : Str), fv) :: (if ("units" : Str) = "finds" then _ else (("units" : Str), V.ref du) :: (if ("ties" : Str) = "finds" then _ else _))) = _
  rw [if_neg n_fi, if_neg n_ui, if_neg n_ti]
  rfl
theorem rfl4_frame (fv fv' : V) (du dt df : Addr) : putF "frame" fv' (rfl4 fv du dt df) = rfl4 fv' du dt df := by
  show (if ("frame" : Str) = "frame" then _ else _) = _
  rw [if_pos rfl]
  rfl
theorem look1 {k x : Str} {v : V} {r : List (Str × V)} (h : k = x) : List.lookup k ((x, v) :: r) = some v := by subst h; simp
theorem look2 {k x : Str} {v : V} {r : List (Str × V)} (h : ¬ k = x) : List.lookup k ((x, v) :: r) = List.lookup k r := by
  rw [List.lookup_cons, beq_eq_false_iff_ne.mpr h]
theorem rfl4_f (fv : V) (du dt df : Addr) : (rfl4 fv du dt df).lookup ("frame" : Str) = some fv := look1 rfl
theorem rfl4_u (fv : V) (du dt df : Addr) : (rfl4 fv du dt df).lookup ("units" : Str) = some (.ref du) := by
  unfold rfl4
  rw [look2 (fun z => n_fu z.symm), look1 rfl]
theorem rfl4_t (fv : V) (du dt df : Addr) : (rfl4 fv du dt df).lookup ("ties" : Str) = some (.ref dt) := by
  unfold rfl4
  rw [look2 (fun z => n_ft z.symm), look2 (fun z => n_ut z.symm), look1 rfl]
theorem rfl4_i (fv : V) (du dt df : Addr) : (rfl4 fv du dt df).lookup ("finds" : Str) = some (.ref df) := by
  unfold rfl4
  rw [look2 (fun z => n_fi z.symm), look2 (fun z => n_ui z.symm), look2 (fun z => n_ti z.symm), look1 rfl]
theorem rfl4_no (fv : V) (du dt df : Addr) {m : Str} (h : m ∉ (["frame", "units", "ties", "finds"] : List Str)) : (rfl4 fv du dt df).lookup m = none := by
  simp only [List.mem_cons, List.not_mem_nil, or_false, not_or] at h
  unfold rfl4
  rw [look2 h.1, look2 h.2.1, look2 h.2.2.1, look2 h.2.2.2]; rfl
/-- the dicts' pairs -/
def dU (us : List Str) : List (Key × V) := us.map fun x => (Sum.inr x, V.bl true)
def dTi (ts : List (List V)) : List (List Key × V) := ts.map fun ws => (ws.map kW, V.bl true)
def fName : List V → Key
  | v :: _ => kW v
  | [] => .inl 0
def dF (fs : List (List V)) (af : List Addr) : List (Key × V) := (fs.map fName).zip (af.map V.ref)
def frV (H : Hp) : Option (Int × Int) → V → Prop
  | none, v => v = .non
  | some (lo, hi), v => ∃ p, v = .ref p ∧ H p = some (.tup [.int lo, .int hi])
/-- a reading at r, in the state s -/
structure ReadAt (C : Addr) (H : Hp) (r du dt df : Addr) (s : RS) : Prop where
  ob : ∃ dx fv, H r = some (.ins C dx (rfl4 fv du dt df)) ∧ frV H s.fr fv
  u : H du = some (.dK (dU s.us))
  t : H dt = some (.dT (dTi s.ts))
  f : ∃ af, Tups H af s.fs ∧ H df = some (.dK (dF s.fs af))
  nu : du ≠ df
  names : ∀ x ∈ s.us, nameB x = true
  ties : ∀ ws ∈ s.ts, ∀ v ∈ ws, Wd v
/-- all but the reading's own things is as it was -/
def Keep4 (H H' : Hp) (r du dt df : Addr) : Prop := ∀ b o, H b = some o → b ≠ r → b ≠ du → b ≠ dt → b ≠ df → H' b = some o
theorem Keep4.trans {H H1 H2 : Hp} {r du dt df : Addr} (a : Keep4 H H1 r du dt df) (b : Keep4 H1 H2 r du dt df) : Keep4 H H2 r du dt df := fun c o h h1 h2 h3 h4 => b c o (a c o h h1 h2 h3 h4) h1 h2 h3 h4
theorem Same.keep4 {H H' : Hp} {r du dt df : Addr} (s : Same H H') : Keep4 H H' r du dt df := fun b o h _ _ _ _ => s b o h
theorem Keep4.same {H0 H H' : Hp} {r du dt df : Addr} (s : Same H0 H) (k : Keep4 H H' r du dt df) (h1 : H0 r = none) (h2 : H0 du = none) (h3 : H0 dt = none) (h4 : H0 df = none) : Same H0 H' := fun b o e =>
  k b o (s b o e) (ne_of_none e h1) (ne_of_none e h2) (ne_of_none e h3) (ne_of_none e h4)
theorem ReadAt.same {C : Addr} {H H' : Hp} {r du dt df : Addr} {s : RS} (R : ReadAt C H r du dt df s) (e : Same H H') : ReadAt C H' r du dt df s := by
  obtain ⟨dx, fv, h, hv⟩ := R.ob
  obtain ⟨af, ht, hf⟩ := R.f
  refine ⟨⟨dx, fv, e _ _ h, ?_⟩, e _ _ R.u, e _ _ R.t, ⟨af, ht.same e, e _ _ hf⟩, R.nu, R.names, R.ties⟩
  cases q : s.fr with
  | none => rw [q] at hv; exact hv
  | some f =>
    rw [q] at hv
    obtain ⟨p, e1, e2⟩ := hv
    exact ⟨p, e1, e _ _ e2⟩
theorem frV.stay {H H' : Hp} {o : Option (Int × Int)} {v : V} (h : frV H o v) (st : ∀ b xs, H b = some (.tup xs) → H' b = some (.tup xs)) : frV H' o v := by
  cases o with
  | none => exact h
  | some f =>
    obtain ⟨p, e1, e2⟩ := h
    exact ⟨p, e1, st _ _ e2⟩
theorem dU_mem {us : List Str} {x : Str} : (Sum.inr x : Key) ∈ (dU us).map (·.1) ↔ x ∈ us := by
  unfold dU
  rw [List.map_map]
  constructor
  · intro h
    obtain ⟨y, hy, e⟩ := List.mem_map.mp h
    cases e; exact hy
  · intro h
    exact List.mem_map.mpr ⟨x, h, rfl⟩
theorem dU_snoc {us : List Str} {x : Str} (h : x ∉ us) : putK (dU us) (Sum.inr x : Key) (.bl true) = dU (us ++ [x]) := by
  rw [putK_new _ (valV_none' fun z => h (dU_mem.mp z))]
  unfold dU
  rw [List.map_append]; rfl
theorem dTi_mem {ts : List (List V)} {ws : List V} (h1 : ∀ vs ∈ ts, ∀ v ∈ vs, Wd v) (h2 : ∀ v ∈ ws, Wd v) : ws.map kW ∈ (dTi ts).map (·.1) ↔ ws ∈ ts := by
  unfold dTi
  rw [List.map_map]
  constructor
  · intro h
    obtain ⟨y, hy, e⟩ := List.mem_map.mp h
    rw [← kW_inj (h1 y hy) h2 e]; exact hy
  · intro h
    exact List.mem_map.mpr ⟨ws, h, rfl⟩
theorem dTi_snoc {ts : List (List V)} {ws : List V} (h1 : ∀ vs ∈ ts, ∀ v ∈ vs, Wd v) (h2 : ∀ v ∈ ws, Wd v) (h : ws ∉ ts) : putK (dTi ts) (ws.map kW) (.bl true) = dTi (ts ++ [ws]) := by
  rw [putK_new _ (valV_none' fun z => h ((dTi_mem h1 h2).mp z))]
  unfold dTi
  rw [List.map_append]; rfl
theorem dF_snoc {fs : List (List V)} {af : List Addr} {ws : List V} {p : Addr} {nm : Str} (hl : af.length = fs.length) (hn : ∀ f ∈ fs, f.head? ≠ some (.str nm)) (hw : ∃ r, ws = .str nm :: r) (hfs : ∀ f ∈ fs, ∃ x r, f = V.str x :: r) :
    valV (dF fs af) (Sum.inr nm : Key) = none ∧ putK (dF fs af) (Sum.inr nm : Key) (.ref p) = dF (fs ++ [ws]) (af ++ [p]) := by
  have e : valV (dF fs af) (Sum.inr nm : Key) = none := valV_none' fun z => by
    unfold dF at z
    rw [List.map_fst_zip (by simp; omega)] at z
    obtain ⟨f, hf, ef⟩ := List.mem_map.mp z
    obtain ⟨x, r, rfl⟩ := hfs f hf
    have ef : (Sum.inr x : Key) = Sum.inr nm := ef
    cases ef
    exact hn _ hf rfl
  refine ⟨e, ?_⟩
  rw [putK_new _ e]
  obtain ⟨r, rfl⟩ := hw
  unfold dF
  rw [List.map_append, List.map_append, List.zip_append (by simp; omega)]
  rfl
end Dm

/-! A telling's lines in groups are read. -/
namespace Dm
open PySem PySem.NumText L2
end Dm

namespace L2
open PySem PySem.Spec PyProof.Rows
/-- for i, x in enumerate(the list at a, n), which the body leaves as it is -/
theorem for_enum {K : PySem.W.Frag} {a : Addr} {n : Nat} {xs : List V} {g : TG} {tb : TS} {D : Ends} {σ : St} {H : Hp} (Pv : Nat → St → Hp → Prop) (h0 : Pv 0 σ H) (hl : ∀ i σ H, i ≤ xs.length → Pv i σ H → SqL K H a xs)
    (hs : ∀ i x σ H T, xs[i]? = some x → Pv i σ H → H T = none → g (.ref T) σ (upd H T (.tup [.int ((n + i : Nat) : Int), x])) fun σ2 H2 => tb { D with nx := Pv (i + 1), ct := Pv (i + 1), bk := D.nx } σ2 H2) (hd : ∀ σ H, Pv xs.length σ H → D.nx σ H) :
    ∃ W : Nat → Nat → St → Hp → Prop, (∃ m, W 0 m σ H) ∧ ∀ i m σ H, W i m σ H →
      ((Ite K a n).stop i H ∧ D.nx σ H) ∨ ((Ite K a n).go i H ∧ ∃ N : St → Hp → Prop, (∀ σ' H', N σ' H' → ∃ m', m' < m ∧ W (i + 1) m' σ' H') ∧ ∀ x H', (Ite K a n).yld i H x H' → g x σ H' fun σ2 H2 => tb { D with nx := N, ct := N, bk := D.nx } σ2 H2) := by
  refine ⟨fun i m σ H => m = xs.length - i ∧ i ≤ xs.length ∧ Pv i σ H, ⟨xs.length, by simp, Nat.zero_le _, h0⟩, ?_⟩
  rintro i m σ H ⟨rfl, hi, p⟩
  have q := hl i σ H hi p
  by_cases hlt : i < xs.length
  · refine .inr ⟨⟨xs, xs[i], q, by simp [hlt]⟩, Pv (i + 1), fun σ' H' p' => ⟨xs.length - (i + 1), by omega, rfl, hlt, p'⟩, fun x H' y => ?_⟩
    obtain ⟨T, z, hT, rfl, rfl, y⟩ := y
    exact hs i z σ H T (y xs q) p hT
  · have e : i = xs.length := by omega
    subst e
    exact .inl ⟨⟨xs, q, Nat.le_refl _⟩, hd σ H p⟩
theorem ix_seqK {X : Cx} (K : PySem.W.Frag) (h : X.K = K) : IxR X (rIx K) := h ▸ ix_seq
end L2

/-! blanks: a text times an int. -/
namespace L2
open PySem PySem.Spec PyProof.Rows
section
variable {X : Cx}
theorem glue_same (c : Nat) : ∀ (n : Nat) (a : Array Nat), List.foldl (fun x y => x ++ y) a (List.replicate n #[c]) = a ++ (List.replicate n c).toArray
  | 0, a => by simp
  | n + 1, a => by
    rw [List.replicate_succ, List.foldl_cons, glue_same c n, List.replicate_succ]
    apply Array.ext'
    simp
theorem op_blanks : OpR X (binaryOp .Mult) (fun x y H Q => ∃ k : Int, x = .str (Str.ofString " ") ∧ y = .int k ∧ 0 ≤ k ∧ k ≤ 1000 ∧ Q (.str ⟨(List.replicate k.toNat 32).toArray⟩) H) := by
  intro pins s σ H x y v u Q I rx ry h
  obtain ⟨k, rfl, rfl, h0, h1, q⟩ := h
  obtain ⟨t, rfl⟩ := rx
  obtain ⟨t', rfl⟩ := ry
  have e1 : (Str.ofString " " : Str) = ⟨#[32]⟩ := by decide +kernel
  have el : (Str.ofString " " : Str).length = 1 := by decide +kernel
  have hs : (1000 : Nat) ≤ sizeLine := by decide
  refine PySem.P.mul_str ?_ (fun _ _ => ?_) (fun _ _ => ?_) ?_
  · rw [decide_eq_false (by omega), decide_eq_false (by omega)]; rfl
  · rw [el]
    have : (1 : Int) ≤ (2 ^ 63 - 1) / k ∨ k < 1 := by
      by_cases c : k < 1
      · exact .inr c
      · exact .inl (by rw [Int.le_ediv_iff_mul_le (by omega)]; omega)
    omega
  · rw [el]
    exact decide_eq_false (by omega)
  · by_cases c0 : k < 1
    · rw [if_pos c0]
      have : k.toNat = 0 := by omega
      rw [this] at q
      exact ⟨by decide, ⟨.str Str.empty, H, I.tok _, ⟨_, rfl⟩, q⟩⟩
    · rw [if_neg c0]
      by_cases c1 : (k == 1 || (Str.ofString " " : Str).length == 0) = true
      · rw [if_pos c1]
        have : k.toNat = 1 := by
          rw [el] at c1
          simp at c1
          omega
        rw [this] at q
        refine ⟨.str (Str.ofString " "), H, I, ⟨_, rfl⟩, ?_⟩
        rw [e1]
        exact q
      · rw [if_neg c1]
        have e2 : (⟨List.foldl (fun x y => x ++ y) #[] (List.replicate k.toNat (Str.ofString " " : Str).cps)⟩ : Str) = ⟨(List.replicate k.toNat 32).toArray⟩ := by
          rw [e1, glue_same]
          simp
        rw [e2]
        refine ⟨?_, ⟨.str _, H, I.tok _, ⟨_, rfl⟩, q⟩⟩
        show (List.replicate k.toNat 32).toArray.size ≤ sizeLine
        rw [List.size_toArray, List.length_replicate]
        omega
end
end L2

/-! Lines with blanks put in freely; rows read in the order in which they are told. -/
namespace Dm
open PySem PySem.NumText L2
/-- parts, glued by blanks: those that are not empty are the words -/
structure Gaps (ps : List (List Nat)) (x : Str) (us : List Str) : Prop where
  ne : ps ≠ []
  fr : ∀ p ∈ ps, 32 ∉ p
  co : co x = jc [32] ps
  ws : ps.filter (fun p => !decide (p = [])) = us.map Dm.co
theorem co_nil {x : Str} : co x = [] ↔ x = "" := by
  constructor
  · intro h
    exact ext_co (by rw [h]; decide +kernel)
  · rintro rfl
    decide +kernel
theorem filter_strOf : ∀ ps : List (List Nat), (ps.map strOf).filter (fun y : Str => !decide (y = "")) = (ps.filter fun p => !decide (p = [])).map strOf
  | [] => rfl
  | p :: ps => by
    have e : decide (strOf p = "") = decide (p = []) := by
      apply decide_eq_decide.mpr
      rw [← co_nil, co_strOf]
    rw [List.map_cons, List.filter_cons, List.filter_cons, e, filter_strOf ps]
    split
    · rw [List.map_cons]
    · rfl
theorem strOf_co (x : Str) : strOf (co x) = x := ext_co (by rw [co_strOf])
theorem Gaps.words {ps : List (List Nat)} {x : Str} {us : List Str} (g : Gaps ps x us) : wordsOf x = us := by
  unfold wordsOf
  have e : Txt.split x " " = ps.map strOf := by
    have := split_glued g.ne g.fr
    rw [← g.co, strOf_co, ← blank_one] at this
    exact this
  rw [e, filter_strOf, g.ws, List.map_map]
  refine (List.map_congr_left fun y _ => ?_).trans (List.map_id us)
  exact strOf_co y
theorem jc_end {ps : List (List Nat)} (h : ps ≠ []) (p : List Nat) : jc [32] (ps ++ [p]) = jc [32] ps ++ [32] ++ p := by
  cases ps with
  | nil => exact absurd rfl h
  | cons a r => exact jc_snoc _ _ _ _
theorem jc_last (ps : List (List Nat)) (p : List Nat) : jc [32] (ps ++ [p]) = jc [32] (ps ++ [[]]) ++ p := by
  cases ps with
  | nil => rfl
  | cons a r => rw [jc_end (by simp), jc_end (by simp), List.append_nil]
theorem gaps_nil : Gaps [[]] (strOf []) [] := ⟨by simp, by simp, by rw [co_strOf]; rfl, rfl⟩
/-- blanks behind -/
theorem Gaps.blank {ps : List (List Nat)} {x : Str} {us : List Str} (g : Gaps ps x us) : Gaps (ps ++ [[]]) (x ++ strOf [32]) us := by
  refine ⟨by simp, fun p hp => ?_, ?_, ?_⟩
  · rcases List.mem_append.mp hp with h | h
    · exact g.fr p h
    · rw [List.mem_singleton] at h; subst h; simp
  · rw [co_app, co_strOf, g.co, jc_end g.ne, List.append_nil]
  · rw [List.filter_append, g.ws]
    simp
theorem app_two (x : Str) (a b : List Nat) : x ++ strOf (a ++ b) = x ++ strOf a ++ strOf b := ext_co (by rw [co_app, co_app, co_app, co_strOf, co_strOf, co_strOf, List.append_assoc])
theorem app_none (x : Str) : x ++ strOf [] = x := ext_co (by rw [co_app, co_strOf, List.append_nil])
theorem Gaps.blanks {ps : List (List Nat)} {x : Str} {us : List Str} (g : Gaps ps x us) : ∀ n : Nat, Gaps (ps ++ List.replicate n []) (x ++ strOf (List.replicate n 32)) us
  | 0 => by
    rw [List.replicate_zero, List.replicate_zero, List.append_nil, app_none]
    exact g
  | n + 1 => by
    rw [List.replicate_succ', List.replicate_succ', ← List.append_assoc, app_two]
    exact (Gaps.blanks g n).blank
/-- a word behind a blank, or at the head -/
theorem Gaps.word {ps : List (List Nat)} {x y : Str} {us : List Str} (g : Gaps (ps ++ [[]]) x us) (hb : 32 ∉ Dm.co y) (hn : Dm.co y ≠ []) : Gaps (ps ++ [Dm.co y]) (x ++ y) (us ++ [y]) := by
  refine ⟨by simp, fun p hp => ?_, ?_, ?_⟩
  · rcases List.mem_append.mp hp with h | h
    · exact g.fr p (List.mem_append_left _ h)
    · rw [List.mem_singleton] at h; subst h; exact hb
  · rw [co_app, g.co, ← jc_last]
  · have := g.ws
    rw [List.filter_append] at this ⊢
    have e : List.filter (fun p => !decide (p = [])) [([] : List Nat)] = [] := rfl
    rw [e, List.append_nil] at this
    rw [this, List.map_append]
    congr 1
    rw [List.filter_cons, decide_eq_false hn]
    rfl
/-- as a line of ws is made with blanks put in: i words are there -/
structure FreeAt (ws : List V) (i : Nat) (x : Str) : Prop where
  g : ∃ ps, Gaps ps x ((ws.map wordS).take i)
  z : i = 0 → ∃ ps, Gaps (ps ++ [[]]) x []
  fd : 10 ∉ co x
  ln : x.length ≤ 3 + i * 104
theorem len_app (x y : Str) : (x ++ y).length = x.length + y.length := by rw [← co_len, co_app, List.length_append, co_len, co_len]
theorem blanks_len (n : Nat) : (strOf (List.replicate n 32)).length = n := by rw [len_strOf, List.length_replicate]
theorem blanks_fd (n : Nat) : 10 ∉ co (strOf (List.replicate n 32)) := by
  rw [co_strOf]
  intro h
  have := List.eq_of_mem_replicate h
  omega
theorem free_start (ws : List V) {n : Nat} (h : n ≤ 3) : FreeAt ws 0 (strOf (List.replicate n 32)) := by
  have g := gaps_nil.blanks n
  have e : strOf [] ++ strOf (List.replicate n 32) = strOf (List.replicate n 32) := ext_co (by rw [co_app, co_strOf]; rfl)
  rw [e] at g
  refine ⟨⟨_, g⟩, fun _ => ?_, blanks_fd n, by rw [blanks_len]; omega⟩
  cases n with
  | zero => exact ⟨[], g⟩
  | succ n =>
    rw [List.replicate_succ', ← List.append_assoc] at g
    exact ⟨_, g⟩
theorem free_word {ws : List V} {i : Nat} {x : Str} {v : V} (f : FreeAt ws i x) (hv : ws[i]? = some v) (hs : (∀ c ∈ co (wordS v), c ≠ 32 ∧ c ≠ 10 ∧ c ≠ 59) ∧ co (wordS v) ≠ []) (hl : (wordS v).length ≤ 100) {n : Nat} (hn : n ≤ 3) (h0 : i = 0 ↔ n = 0) :
    FreeAt ws (i + 1) (x ++ strOf (List.replicate n 32) ++ wordS v) := by
  have e : (ws.map wordS).take (i + 1) = (ws.map wordS).take i ++ [wordS v] := by
    rw [List.take_add_one, List.getElem?_map, hv]; rfl
  have hb : 32 ∉ co (wordS v) := fun z => (hs.1 32 z).1 rfl
  obtain ⟨ps, g⟩ : ∃ ps, Gaps (ps ++ [[]]) (x ++ strOf (List.replicate n 32)) ((ws.map wordS).take i) := by
    cases n with
    | zero =>
      have hi : i = 0 := h0.mpr rfl
      obtain ⟨ps, g⟩ := f.z hi
      subst hi
      rw [List.replicate_zero, app_none]
      exact ⟨ps, g⟩
    | succ n =>
      obtain ⟨ps, g⟩ := f.g
      have g := g.blanks (n + 1)
      rw [List.replicate_succ' (n := n) (a := ([] : List Nat)), ← List.append_assoc] at g
      exact ⟨_, g⟩
  refine ⟨⟨ps ++ [co (wordS v)], by rw [e]; exact g.word hb hs.2⟩, fun z => absurd z (Nat.succ_ne_zero i), ?_, ?_⟩
  · rw [co_app, co_app]
    intro z
    rcases List.mem_append.mp z with z | z
    · rcases List.mem_append.mp z with z | z
      · exact f.fd z
      · exact blanks_fd n z
    · exact (hs.1 10 z).2.1 rfl
  · rw [len_app, len_app, blanks_len]
    have := f.ln
    have := Nat.succ_mul i 104
    omega
/-- a line of ws -/
structure FreeLn (ws : List V) (y : Str) : Prop where
  words : wordsOf y = ws.map wordS
  feed : 10 ∉ co y
  len : y.length ≤ 900
theorem free_end {ws : List V} {x : Str} (f : FreeAt ws ws.length x) (hl : ws.length ≤ 6) {n : Nat} (hn : n ≤ 3) : FreeLn ws (x ++ strOf (List.replicate n 32)) := by
  obtain ⟨ps, g⟩ := f.g
  rw [List.take_of_length_le (by simp)] at g
  refine ⟨(g.blanks n).words, ?_, ?_⟩
  · rw [co_app]
    intro z
    rcases List.mem_append.mp z with z | z
    · exact f.fd z
    · exact blanks_fd n z
  · rw [len_app, blanks_len]
    have := f.ln
    have : ws.length * 104 ≤ 6 * 104 := Nat.mul_le_mul_right _ hl
    omega
theorem split_line {ws : List V} (h : RowOk ws) : Txt.split (lineS ws) " " = ws.map wordS := by
  have := split_glued (c := 32) (ls := ws.map fun v => co (wordS v)) (by simpa using h.ne) (fun x hx => by
    obtain ⟨v, hv, rfl⟩ := List.mem_map.mp hx
    exact fun z => ((h.signs v hv).1 32 z).1 rfl)
  rw [← blank_one, List.map_map] at this
  refine this.trans (List.map_congr_left fun v _ => strOf_co _)
/-- a line that is passed over -/
structure PassLn (y : Str) : Prop where
  pass : passedB (wordsOf y) = true
  feed : 10 ∉ co y
  len : y.length ≤ 900
instance (y : Str) : Decidable (PassLn y) := decidable_of_iff (passedB (wordsOf y) = true ∧ 10 ∉ co y ∧ y.length ≤ 900) ⟨fun h => ⟨h.1, h.2.1, h.2.2⟩, fun h => ⟨h.pass, h.feed, h.len⟩⟩
def PASSED : List Str := [";", "; unit a", ";dig 1 2", "", " ", "   ", "  ; unit a", " ;unit b"]
theorem passed_ok : ∀ y ∈ PASSED, PassLn y := by decide +kernel
/-- rows that lead from s to s' -/
inductive Steps : RS → List (List V) → RS → Prop where
  | nil {s : RS} : Steps s [] s
  | row {s s1 s' : RS} {ws : List V} {rs : List (List V)} (st : StepOk s ws s1) (r : Steps s1 rs s') : Steps s (ws :: rs) s'
theorem Steps.snoc {s s1 s2 : RS} {ws : List V} {rs : List (List V)} (h : Steps s rs s1) (st : StepOk s1 ws s2) : Steps s (rs ++ [ws]) s2 := by
  induction h with
  | nil => exact .row st .nil
  | row st' _ ih => exact .row st' (ih st)
theorem Told.steps {us : List Str} {ts fs rs : List (List V)} {f : Int × Int} (t : Told us ts fs rs) : Steps ⟨some f, [], [], []⟩ rs ⟨some f, us, ts, fs⟩ := by
  induction t with
  | nil => exact .nil
  | unit t hn hx ih => exact ih.snoc (.unit hn hx)
  | tie t h hn ih => exact ih.snoc (.tie h hn)
  | find t h ih => exact ih.snoc (.find h)
/-- a text of lines -/
theorem lines_text {ls : List Str} (h0 : ls ≠ []) (hf : ∀ l ∈ ls, 10 ∉ co l) : Txt.split (Txt.join "\n" ls) "\n" = ls := by
  have := split_glued (c := 10) (ls := ls.map co) (by simpa using h0) (fun x hx => by
    obtain ⟨v, hv, rfl⟩ := List.mem_map.mp hx
    exact hf v hv)
  rw [← feed_one, List.map_map] at this
  have e : Txt.join "\n" ls = strOf (jc [10] (ls.map co)) := by
    show Txt.join (Str.ofString "\n") ls = _
    rw [join_strOf, feed_is, co_strOf]
  rw [e]
  exact this.trans ((List.map_congr_left fun v _ => strOf_co _).trans (List.map_id ls))
theorem lines_len {ls : List Str} (hl : ls.length ≤ 400) (h : ∀ l ∈ ls, l.length ≤ 900) : (Txt.join "\n" ls).length ≤ 1000000 ∧ (ls.map (·.length)).sum + ls.length * (Str.ofString "\n" : Str).length ≤ 16777216 := by
  have e : Txt.join "\n" ls = strOf (jc [10] (ls.map co)) := by
    show Txt.join (Str.ofString "\n") ls = _
    rw [join_strOf, feed_is, co_strOf]
  have h1 := jc_len [10] (ls.map co)
  have h2 := sum_le (l := ls.map co) (k := 900) fun x hx => by
    obtain ⟨v, hv, rfl⟩ := List.mem_map.mp hx
    rw [co_len]
    exact h v hv
  have h3 : (ls.map co).map List.length = ls.map (·.length) := by
    rw [List.map_map]
    exact List.map_congr_left fun v _ => co_len v
  have e1 : (Str.ofString "\n" : Str).length = 1 := by decide +kernel
  rw [h3] at h1 h2
  rw [List.length_map] at h1 h2
  have : [10].length = 1 := rfl
  rw [this] at h1
  rw [e, len_strOf, e1]
  omega
end Dm

/-! A comprehension with any target; a op b op c op d; a sign times an int. -/
namespace L2
open PySem PySem.Spec PyProof.Rows
section
variable {X : Cx} {a b c d : Expr} {ta tb tc td : TE} {pos : Pos}
end
end L2

/-! min and sorted of texts; list.insert. -/
namespace L2
open PySem PySem.Spec PyProof.Rows
section
variable {X : Cx}
end
end L2

/-! t[lo:hi] where it may be the whole of t; d.setdefault(k, x). -/
namespace HT
open PySem PySem.Spec PyProof.Rows PySem.Calls
section
variable {prog : Program} {w : World} {A : Around} {E : Value → Shared → Prop} {s : Shared}
theorem getItem_tuple_all {t sl : Addr} {items : Array Value} {vl vu : Value} {lo hi : Option Int} {Q : Value → Shared → Prop} (ht : IsTup s.heap t items) (hs : s.heap.IsSliceOf sl vl vu .none) (pl : IsPart vl lo) (pu : IsPart vu hi)
    (hw : sIx items.size 0 lo = 0 ∧ sIx items.size items.size hi = items.size) (h : Q (.ref t) s) : wpAny (model prog w) A (getItem (.ref t) (.ref sl)) Q E s := by
  obtain ⟨os, hos, hcs, hds⟩ := id hs
  have hTs : s.TypeIs (.ref sl) "slice" := ⟨os, hos, hcs⟩
  unfold getItem
  try with_reducible refine wpAny_holding ?_
  first | refine wpAny_bind (wpAny_pure ?_) | skip
  refine wpAny_bind (wpAny_sequenceKey ht.typeIs (by decide) ?_)
  refine wpAny_bind (wpAny_callSpecial?_slot (name := Str.ofString "__getitem__") ht.typeIs PyProof.Rows.slot_tuple_getitem
    (wpAny_call_entry PyProof.Rows.slot_tuple_getitem ht.typeIs entry_tuple_getitem ?_ (args_tuple_getitem _ _)))
  show wpAny _ _ (Builtin.Tuple.tupleItemsOf (.ref t) >>= _) _ _ s
  refine wpAny_bind (tupleItemsOf_ ht ?_)
  refine wpAny_bind (wpAny_typeOf hTs ?_)
  rw [if_pos (by decide)]
  refine wpAny_bind (sliceApplied_gen hs pl pu ?_)
  have hyes : (((sIx items.size 0 lo : Nat) : Int) == 0 && (1 : Int) == 1 && (sIx items.size items.size hi - sIx items.size 0 lo) == items.size) = true := by
    rw [hw.1, hw.2]
    simp
  show wpAny _ _ (if (((sIx items.size 0 lo : Nat) : Int) == 0 && (1 : Int) == 1 && (sIx items.size items.size hi - sIx items.size 0 lo) == items.size) = true then _ else _) _ _ s
  rw [if_pos hyes]
  refine wpAny_bind (m := Builtin.Tuple.tupleIsExact (.ref t)) (wpAny_bind (wpAny_typeOf ht.typeIs (wpAny_pure ?_)))
  rw [if_pos (by decide)]
  refine wpAny_bind (wpAny_rule ?_)
  first
    | exact wpAny_pure ⟨_, rfl, wpAny_pure h⟩
    | exact wpAny_bind (wpAny_pure (wpAny_pure ⟨_, rfl, wpAny_pure h⟩))
end
end HT
namespace L2
open PySem PySem.Spec PyProof.Rows
section
variable {X : Cx}
/-- t[lo:hi]; the whole of it is t itself -/
def rSlW (K : PySem.W.Frag) : V → Option Int → Option Int → Hp → VK → Prop := fun x lo hi H Q => ∃ a xs, x = .ref a ∧ SqT K H a xs ∧
  ((HT.sIx xs.length 0 lo = 0 ∧ HT.sIx xs.length xs.length hi = xs.length) → Q (.ref a) H) ∧
  (¬ (HT.sIx xs.length 0 lo = 0 ∧ HT.sIx xs.length xs.length hi = xs.length) → ∀ p, H p = none → Q (.ref p) (upd H p (.tup (cutV xs lo hi))))
theorem sl_tupW {K : PySem.W.Frag} (hK : X.K = K) : SlR X (rSlW K) := by
  subst hK
  intro pins s σ H x v vl vu lo hi sl Q I rx hs pl pu h
  obtain ⟨a, xs, rfl, hx, q1, q2⟩ := h
  by_cases hw : HT.sIx xs.length 0 lo = 0 ∧ HT.sIx xs.length xs.length hi = xs.length
  · cases rx
    obtain ⟨its, r, ht, hz⟩ := I.tuple hx
    have hlen : its.toArray.size = xs.length := by rw [List.size_toArray]; exact r.length.symm
    refine ⟨"tuple", _, PyProof.Rows.slot_tuple_getitem.lookup, ht.typeIs, ?_⟩
    exact HT.getItem_tuple_all ht hs pl pu (by rw [hlen]; exact hw) ⟨.ref a, H, I, rfl, q1 hw⟩
  · exact sl_tup pins s σ H _ v vl vu lo hi sl Q I rx hs pl pu ⟨a, xs, rfl, hx, hw, q2 hw⟩
end
section
variable {X : Cx} {pins : List (Addr × Obj)} {σ : St} {H : Hp} {s : Shared} {a : Addr} {u r : Value} {A : Around} {E : Value → Shared → Prop}
end
end L2

namespace LK04
open PySem L2 Dm PySem.NumText
def top (i : Nat) : Stmt := PySem.Challenge.pw_digmatrix_k04_a_telling_read_freely.main.body.getD i (.Pass ⟨0, 0, 0, 0⟩)
def l_FORMS : List (Str × List V) := [("dig", [V.str "year", V.str "year"]), ("unit", [V.str "name"]), ("over", [V.str "name", V.str "name"]), ("cuts", [V.str "name", V.str "name"]), ("fills", [V.str "name", V.str "name"]), ("after", [V.str "name", V.str "name", V.str "gap"]), ("same", [V.str "name", V.str "name"]), ("find", [V.str "name", V.str "name", V.str "year", V.str "year"])]
/-- what the top has left -/
structure Tx (K : PySem.W.Frag) (mg : Str → Option Value) (w : World) (C_Reading : Addr) : Prop where
  mg_Reading : mg "Reading" = some (.ref C_Reading)
  cl_Reading : Cls K C_Reading
  mk_Reading : PySem.W.makesIn K C_Reading = true
  kp_Reading : PySem.W.keepIn K (.ref C_Reading) = true
  na_Reading_frame : NoAttr K C_Reading "frame"
  na_Reading_units : NoAttr K C_Reading "units"
  na_Reading_ties : NoAttr K C_Reading "ties"
  na_Reading_finds : NoAttr K C_Reading "finds"
  d_Reading___init__ : DfM K C_Reading "Reading.__init__" "__init__" (inClass (top 24) 0) ["self"]
  d_Reading_take_words : DfM K C_Reading "Reading.take_words" "take_words" (inClass (top 24) 1) ["self", "words", "row"]
  d_Reading_take_entry : DfM K C_Reading "Reading.take_entry" "take_entry" (inClass (top 24) 2) ["self", "entry", "row"]
  d_Reading_take_unit : DfM K C_Reading "Reading.take_unit" "take_unit" (inClass (top 24) 3) ["self", "name", "row"]
  d_Reading_take_tie : DfM K C_Reading "Reading.take_tie" "take_tie" (inClass (top 24) 4) ["self", "tie", "row"]
  d_Reading_take_find : DfM K C_Reading "Reading.take_find" "take_find" (inClass (top 24) 5) ["self", "find", "row"]
  d_Reading_need_unit : DfM K C_Reading "Reading.need_unit" "need_unit" (inClass (top 24) 6) ["self", "name", "row"]
  d_Reading_telling : DfM K C_Reading "Reading.telling" "telling" (inClass (top 24) 7) ["self"]
  d_is_name : Df K mg "is_name" (top 14) ["text"]
  d_read_number : Df K mg "read_number" (top 15) ["text"]
  d_is_made_of : Df K mg "is_made_of" (top 16) ["text", "signs"]
  d_split_words : Df K mg "split_words" (top 19) ["line"]
  d_is_passed_over : Df K mg "is_passed_over" (top 20) ["words"]
  d_read_entry : Df K mg "read_entry" (top 21) ["words", "row"]
  d_read_form : Df K mg "read_form" (top 22) ["form", "words", "row"]
  d_read_value : Df K mg "read_value" (top 23) ["kind", "word", "row"]
  d_read_telling : Df K mg "read_telling" (top 25) ["text"]
  d__law_cell_at : Df K mg "_law_cell_at" (top 27) ["_law_script", "_law_k"]
  d__law_part : Df K mg "_law_part" (top 28) ["_law_cell", "_law_k", "_law_many"]
  d__law_names : Df K mg "_law_names" (top 29) ["_law_one", "_law_other", "_law_many"]
  d__law_year : Df K mg "_law_year" (top 30) ["_law_cell", "_law_k"]
  d__law_tie : Df K mg "_law_tie" (top 31) ["_law_units", "_law_cell"]
  d__law_find : Df K mg "_law_find" (top 32) ["_law_marks", "_law_units", "_law_finds", "_law_cell"]
  d__law_told : Df K mg "_law_told" (top 33) ["_law_names_here", "_law_marks", "_law_cells"]
  d__law_frame : Df K mg "_law_frame" (top 34) ["_law_cell"]
  d__law_line : Df K mg "_law_line" (top 35) ["_law_row"]
  d__law_alike : Df K mg "_law_alike" (top 36) ["_law_one", "_law_due"]
  d__law_free : Df K mg "_law_free" (top 37) ["_law_row", "_law_cell"]
  d__law_passed : Df K mg "_law_passed" (top 38) ["_law_cell"]
  d_law : Df K mg "law" (top 39) ["_law_script"]
  c_FIGURES : ∃ u, mg "FIGURES" = some u ∧ RelV (.str "0123456789") u
  c_NAME_SIGNS : ∃ u, mg "NAME_SIGNS" = some u ∧ RelV (.str "abcdefghijklmnopqrstuvwxyz0123456789-") u
  c_LONGEST_NAME : ∃ u, mg "LONGEST_NAME" = some u ∧ RelV (.int 12) u
  c_MOST_FIGURES : ∃ u, mg "MOST_FIGURES" = some u ∧ RelV (.int 60) u
  c_FORMS : ∃ a, mg "FORMS" = some (.ref a) ∧ KDT w K a l_FORMS
  int : mg "int" = none
  all : mg "all" = none
  enumerate : mg "enumerate" = none
  range : mg "range" = none
  sorted : mg "sorted" = none
  isinstance : mg "isinstance" = none
  str : mg "str" = none
  len : mg "len" = none
  tuple : mg "tuple" = none
  zip : mg "zip" = none
  list : mg "list" = none
  bool : mg "bool" = none
theorem Tx.ex {K : PySem.W.Frag} {mg : Str → Option Value} {w : World} {C_Reading : Addr} (T : Tx K mg w C_Reading) : ∃ C_Reading, Tx K mg w C_Reading := ⟨_, T⟩
theorem sc_is_name : FnScope ["text"] ["text"] (defScope (top 14)) := ⟨rfl, rfl, rfl, by decide +kernel, rfl, by decide +kernel, by decide +kernel⟩
theorem sc_read_number : FnScope ["text", "figures"] ["text"] (defScope (top 15)) := ⟨rfl, rfl, rfl, by decide +kernel, rfl, by decide +kernel, by decide +kernel⟩
theorem sc_is_made_of : FnScope ["text", "signs"] ["text", "signs"] (defScope (top 16)) := ⟨rfl, rfl, rfl, by decide +kernel, rfl, by decide +kernel, by decide +kernel⟩
theorem sc_split_words : FnScope ["line"] ["line"] (defScope (top 19)) := ⟨rfl, rfl, rfl, by decide +kernel, rfl, by decide +kernel, by decide +kernel⟩
theorem sc_is_passed_over : FnScope ["words"] ["words"] (defScope (top 20)) := ⟨rfl, rfl, rfl, by decide +kernel, rfl, by decide +kernel, by decide +kernel⟩
theorem sc_read_entry : FnScope ["words", "row"] ["words", "row"] (defScope (top 21)) := ⟨rfl, rfl, rfl, by decide +kernel, rfl, by decide +kernel, by decide +kernel⟩
theorem sc_read_form : FnScope ["form", "words", "row", "values"] ["form", "words", "row"] (defScope (top 22)) := ⟨rfl, rfl, rfl, by decide +kernel, rfl, by decide +kernel, by decide +kernel⟩
theorem sc_read_value : FnScope ["kind", "word", "row", "number"] ["kind", "word", "row"] (defScope (top 23)) := ⟨rfl, rfl, rfl, by decide +kernel, rfl, by decide +kernel, by decide +kernel⟩
theorem sc_read_telling : FnScope ["text", "reading", "row", "line", "words"] ["text"] (defScope (top 25)) := ⟨rfl, rfl, rfl, by decide +kernel, rfl, by decide +kernel, by decide +kernel⟩
theorem sc__law_cell_at : FnScope ["_law_script", "_law_k"] ["_law_script", "_law_k"] (defScope (top 27)) := ⟨rfl, rfl, rfl, by decide +kernel, rfl, by decide +kernel, by decide +kernel⟩
theorem sc__law_part : FnScope ["_law_cell", "_law_k", "_law_many"] ["_law_cell", "_law_k", "_law_many"] (defScope (top 28)) := ⟨rfl, rfl, rfl, by decide +kernel, rfl, by decide +kernel, by decide +kernel⟩
theorem sc__law_names : FnScope ["_law_one", "_law_other", "_law_many", "_law_signs", "_law_size", "_law_at", "_law_names_here", "_law_k", "_law_name", "_law_j", "_law_number"] ["_law_one", "_law_other", "_law_many"] (defScope (top 29)) := ⟨rfl, rfl, rfl, by decide +kernel, rfl, by decide +kernel, by decide +kernel⟩
theorem sc__law_year : FnScope ["_law_cell", "_law_k", "_law_some"] ["_law_cell", "_law_k"] (defScope (top 30)) := ⟨rfl, rfl, rfl, by decide +kernel, rfl, by decide +kernel, by decide +kernel⟩
theorem sc__law_tie : FnScope ["_law_units", "_law_cell", "_law_one", "_law_other", "_law_kind"] ["_law_units", "_law_cell"] (defScope (top 31)) := ⟨rfl, rfl, rfl, by decide +kernel, rfl, by decide +kernel, by decide +kernel⟩
theorem sc__law_find : FnScope ["_law_marks", "_law_units", "_law_finds", "_law_cell", "_law_years"] ["_law_marks", "_law_units", "_law_finds", "_law_cell"] (defScope (top 32)) := ⟨rfl, rfl, rfl, by decide +kernel, rfl, by decide +kernel, by decide +kernel⟩
theorem sc__law_told : FnScope ["_law_names_here", "_law_marks", "_law_cells", "_law_units", "_law_ties", "_law_finds", "_law_rows", "_law_cell", "_law_way", "_law_tie_here"] ["_law_names_here", "_law_marks", "_law_cells"] (defScope (top 33)) := ⟨rfl, rfl, rfl, by decide +kernel, rfl, by decide +kernel, by decide +kernel⟩
theorem sc__law_frame : FnScope ["_law_cell", "_law_years"] ["_law_cell"] (defScope (top 34)) := ⟨rfl, rfl, rfl, by decide +kernel, rfl, by decide +kernel, by decide +kernel⟩
theorem sc__law_line : FnScope ["_law_row", "_law_line_here", "_law_part_here"] ["_law_row"] (defScope (top 35)) := ⟨rfl, rfl, rfl, by decide +kernel, rfl, by decide +kernel, by decide +kernel⟩
theorem sc__law_alike : FnScope ["_law_one", "_law_due"] ["_law_one", "_law_due"] (defScope (top 36)) := ⟨rfl, rfl, rfl, by decide +kernel, rfl, by decide +kernel, by decide +kernel⟩
theorem sc__law_free : FnScope ["_law_row", "_law_cell", "_law_line_here", "_law_words", "_law_k"] ["_law_row", "_law_cell"] (defScope (top 37)) := ⟨rfl, rfl, rfl, by decide +kernel, rfl, by decide +kernel, by decide +kernel⟩
theorem sc__law_passed : FnScope ["_law_cell"] ["_law_cell"] (defScope (top 38)) := ⟨rfl, rfl, rfl, by decide +kernel, rfl, by decide +kernel, by decide +kernel⟩
theorem sc_law : FnScope ["_law_script", "_law_names_here", "_law_marks", "_law_frame_here", "_law_units", "_law_ties", "_law_finds", "_law_rows", "_law_lines", "_law_row", "_law_cell", "_law_text"] ["_law_script"] (defScope (top 39)) := ⟨rfl, rfl, rfl, by decide +kernel, rfl, by decide +kernel, by decide +kernel⟩
theorem sc_Reading___init__ : FnScope ["self"] ["self"] (defScope (inClass (top 24) 0)) := ⟨rfl, rfl, rfl, by decide +kernel, rfl, by decide +kernel, by decide +kernel⟩
theorem sc_Reading_take_words : FnScope ["self", "words", "row"] ["self", "words", "row"] (defScope (inClass (top 24) 1)) := ⟨rfl, rfl, rfl, by decide +kernel, rfl, by decide +kernel, by decide +kernel⟩
theorem sc_Reading_take_entry : FnScope ["self", "entry", "row"] ["self", "entry", "row"] (defScope (inClass (top 24) 2)) := ⟨rfl, rfl, rfl, by decide +kernel, rfl, by decide +kernel, by decide +kernel⟩
theorem sc_Reading_take_unit : FnScope ["self", "name", "row"] ["self", "name", "row"] (defScope (inClass (top 24) 3)) := ⟨rfl, rfl, rfl, by decide +kernel, rfl, by decide +kernel, by decide +kernel⟩
theorem sc_Reading_take_tie : FnScope ["self", "tie", "row"] ["self", "tie", "row"] (defScope (inClass (top 24) 4)) := ⟨rfl, rfl, rfl, by decide +kernel, rfl, by decide +kernel, by decide +kernel⟩
theorem sc_Reading_take_find : FnScope ["self", "find", "row"] ["self", "find", "row"] (defScope (inClass (top 24) 5)) := ⟨rfl, rfl, rfl, by decide +kernel, rfl, by decide +kernel, by decide +kernel⟩
theorem sc_Reading_need_unit : FnScope ["self", "name", "row"] ["self", "name", "row"] (defScope (inClass (top 24) 6)) := ⟨rfl, rfl, rfl, by decide +kernel, rfl, by decide +kernel, by decide +kernel⟩
theorem sc_Reading_telling : FnScope ["self"] ["self"] (defScope (inClass (top 24) 7)) := ⟨rfl, rfl, rfl, by decide +kernel, rfl, by decide +kernel, by decide +kernel⟩
section
variable {P : Program} {w : World} {K : PySem.W.Frag} {mg : Str → Option Value} {base : Heap} {C_Reading : Addr}
local macro_rules | `(tactic| walk_at "rd") => `(tactic| repeat (first | refine ⟨_, rfl, ?_⟩ | refine ⟨_, _, rfl, rfl, ?_⟩ | refine ⟨_, _, _, rfl, ?_⟩))
local macro_rules | `(tactic| walk_at "rd") => `(tactic| repeat (first | refine ⟨_, rfl, ?_⟩ | refine ⟨_, _, rfl, rfl, ?_⟩ | refine ⟨_, _, _, rfl, ?_⟩))
/-! ### cells and parts -/
def sp_cell : Sp := fun vs H Q _ => ∃ (a : Addr) (ns : List Int) (i : Int), vs = [.ref a, .int i] ∧ SqL K H a (ns.map V.int) ∧ 0 ≤ i ∧ Q (.int (cellI ns i)) H
theorem h__law_cell_at (T : Tx K mg w C_Reading) : Has P w K mg base "_law_cell_at" ["_law_script", "_law_k"] 1 (sp_cell (K := K)) := by
  refine T.d__law_cell_at.has sc__law_cell_at (fun vs H Q E h => ?_) (fun f cdv A outer s H vs Q E hr h => ?_)
  · obtain ⟨a, ns, i, rfl, _⟩ := h; rfl
  · obtain ⟨a, ns, i, rfl, ha, h0, k⟩ := h
    refine ⟨_, (pss_cons (ps_if (pt_cmpR op_lt (pv 1) (pe_callB (call_len_seqK K rfl) (by rfl) T.len boot_len (pa_cons (pv 0) pa_nil)) (nomark _)) (pss_one (ps_ret (pe_ix (ix_listK K rfl) (pv 0) (pv 1) (fun _ _ => rfl)))) pss_nil)
      (pss_one (ps_ret pe_int))), ?_⟩
    refine ⟨_, rfl, _, rfl, a, _, rfl, .inl ha, _, _, rfl, rfl, _, rfl, ?_⟩
    refine ite2 (fun c => ?_) (fun c => ?_)
    · have c := of_decide_eq_true c
      rw [List.length_map] at c
      have hi : i.toNat < ns.length := by omega
      refine ⟨_, rfl, _, rfl, a, _, i, .int (cellI ns i), rfl, rfl, ha, ?_, k⟩
      have e : cellI ns i = ns[i.toNat] := by unfold cellI; rw [List.getD_eq_getElem?_getD, List.getElem?_eq_getElem hi]; rfl
      have := atI_nat (xs := ns.map V.int) (j := i.toNat) (v := .int (cellI ns i)) (by rw [e]; simp [hi])
      rw [Int.toNat_of_nonneg h0] at this
      exact this
    · have c : ¬ i < ((ns.map V.int).length : Int) := fun z => c (decide_eq_true z)
      rw [List.length_map] at c
      have e : cellI ns i = 0 := by unfold cellI; rw [List.getD_eq_getElem?_getD, List.getElem?_eq_none (by omega)]; rfl
      rw [e] at k
      exact k
def sp_part : Sp := fun vs H Q _ => ∃ c k m : Int, vs = [.int c, .int k, .int m] ∧ 0 < m ∧ Q (.int (pt c k m)) H
theorem h__law_part (T : Tx K mg w C_Reading) : Has P w K mg base "_law_part" ["_law_cell", "_law_k", "_law_many"] 1 sp_part := by
  refine T.d__law_part.has sc__law_part (fun vs H Q E h => ?_) (fun f cdv A outer s H vs Q E hr h => ?_)
  · obtain ⟨c, i, m, rfl, _⟩ := h; rfl
  · obtain ⟨c, i, m, rfl, hm, k⟩ := h
    refine ⟨_, (pss_one (ps_ret (pe_op op_mod (pe_op op_mod (pe_op op_mul (pe_op op_mod (pe_op op_mul (pe_op op_add (pe_op op_mod (pv 0) pe_int) pe_int) (pe_op op_add pe_int (pe_op op_mul pe_int (pv 1)))) pe_int) (pe_op op_add (pv 1) pe_int)) pe_int) (pv 2)))), ?_⟩
    have b1 := Int.emod_nonneg c (show (99991 : Int) ≠ 0 by decide)
    have b2 := Int.emod_lt_of_pos c (show (0 : Int) < 99991 by decide)
    have b3 := Int.emod_nonneg ((c % 99991 + 17) * (48271 + 7919 * i)) (show (65537 : Int) ≠ 0 by decide)
    have b4 := Int.emod_lt_of_pos ((c % 99991 + 17) * (48271 + 7919 * i)) (show (0 : Int) < 65537 by decide)
    walk_at "rd"
    refine ⟨(by decide : (0 : Int) < 99991), ?_⟩
    walk_at "rd"
    refine ⟨.inl ⟨by decide, by decide⟩, ?_⟩
    walk_at "rd"
    refine ⟨.inl ⟨by omega, by omega⟩, ?_⟩
    walk_at "rd"
    refine ⟨(by decide : (0 : Int) < 65537), ?_⟩
    walk_at "rd"
    refine ⟨.inl ⟨by omega, by omega⟩, ?_⟩
    walk_at "rd"
    refine ⟨(by decide : (0 : Int) < 8191), ?_⟩
    walk_at "rd"
    exact ⟨hm, k⟩
/-! ### names -/
theorem at37 (z : Int) (one at' : Int) (k j : Nat) (h : z = nmI one at' k j) : atI NAMES.cps.toList (z % 37) = some (nmN one at' k j) := by
  obtain ⟨h0, h1⟩ := ix37 z
  subst h
  have := atI_nat (xs := co NAMES) (j := (nmI one at' k j % 37).toNat) (v := nmN one at' k j) (by unfold nmN; rw [List.getD_eq_getElem?_getD, List.getElem?_eq_getElem h1]; rfl)
  rw [Int.toNat_of_nonneg h0] at this
  exact this
def cutF (l : List Nat) (size : Int) : V → V
  | .int z => .str (Txt.slice (strOf l) none (some (size - z)))
  | _ => .non
def sp_names : Sp := fun vs H Q _ => ∃ one other : Int, vs = [.int one, .int other, .int 9] ∧ ∀ (p : Addr) (xs : List Str) (H' : Hp), xs.length = 9 → xs.Nodup → (∀ x ∈ xs, nameB x = true) → H p = none → H' p = some (.lst (xs.map V.str)) → Same H H' → Q (.ref p) H'
set_option maxHeartbeats 4000000 in
theorem h__law_names (T : Tx K mg w C_Reading) : Has P w K mg base "_law_names" ["_law_one", "_law_other", "_law_many"] 2 sp_names := by
  refine T.d__law_names.has sc__law_names (fun vs H Q E h => ?_) (fun f cdv A outer s H vs Q E hr h => ?_)
  · obtain ⟨one, other, rfl, _⟩ := h; rfl
  · obtain ⟨one, other, rfl, k⟩ := h
    refine ⟨_, (pss_cons (ps_set (i := 3) sc__law_names.nd rfl (Or.inl rfl) pe_str)
      (pss_cons (ps_set (i := 4) sc__law_names.nd rfl (Or.inr rfl) (pe_op op_add pe_int (pe_fn (h__law_part T) (hr.mono (by decide)) (by rfl) (pa_cons (pv 0) (pa_cons pe_int (pa_cons pe_int pa_nil))))))
      (pss_cons (ps_set (i := 5) sc__law_names.nd rfl (Or.inl rfl) (pe_fn (h__law_part T) (hr.mono (by decide)) (by rfl) (pa_cons (pv 1) (pa_cons pe_int (pa_cons (pv 4) pa_nil)))))
      (pss_cons (ps_set (i := 6) sc__law_names.nd rfl (Or.inr rfl) (pe_lst pa_nil))
      (pss_cons (ps_for PassesOwn.never rfl (pi_range1 (by rfl) T.range (pa_cons (pv 2) pa_nil)) (pg_name (i := 7) sc__law_names.nd rfl (Or.inl rfl)) (pss_cons (ps_set (i := 8) sc__law_names.nd rfl (Or.inl rfl) pe_str)
        (pss_cons (ps_for PassesOwn.never rfl (pi_range1 (by rfl) T.range (pa_cons (pv 4) pa_nil)) (pg_name (i := 9) sc__law_names.nd rfl (Or.inl rfl)) (pss_cons (ps_set (i := 10) sc__law_names.nd rfl (Or.inl rfl) (pe_fn (h__law_part T) (hr.mono (by decide)) (by rfl) (pa_cons (pv 0) (pa_cons (pe_op op_add (pv 9) pe_int) (pa_cons pe_int pa_nil)))))
          (pss_cons (ps_if (pt_cmpR op_eq (pv 9) (pv 5) (nomark _)) (pss_one (ps_set (i := 10) sc__law_names.nd rfl (Or.inl rfl) (pe_op op_add (pv 10) (pv 7)))) pss_nil)
          (pss_one (ps_set (i := 8) sc__law_names.nd rfl (Or.inl rfl) (pe_op op_add_str (pv 8) (pe_ix ix_str (pv 3) (pe_op op_mod (pv 10) pe_int) (fun _ _ => rfl))))))))
        (pss_one (ps_expr (pe_bmK K rfl PySem.F.plainAttrs_list PySem.F.slot_list_append PySem.F.type_list_append mt_append (pv 6) (pa_cons (pv 8) pa_nil)))))))
      (pss_cons (ps_if (PW.pt (pw_and (pt_cmpR op_ge (pv 4) (pv 2) (nomark _)) (pw_and1 (pt_cmpR op_eq (pe_op op_mod (pv 1) pe_int) pe_int (nomark _))))) (pss_one (ps_ret (pe_comp (own := ["_law_k"]) (cap := ["_law_names_here", "_law_size"]) (ix := [6, 4]) (osc := defScope (top 29)) rfl ⟨rfl, by decide +kernel, by decide +kernel, by decide +kernel, by decide +kernel⟩ rfl (pi_range1 (by rfl) T.range (pa_cons (pv 2) pa_nil)) (fun _ _ _ _ => pg_name (i := 0) (show List.Nodup (["_law_k", "_law_names_here", "_law_size"] : List Str) by decide +kernel) rfl (Or.inl rfl)) (fun _ _ _ _ => pif_nil) (fun _ _ _ _ => (pe_slice sl_str (pe_ix (ix_listK K rfl) (pv 1) pe_int (fun _ _ => rfl)) po_none (po_some (pe_op op_sub (pv 2) (pv 0)))))))) pss_nil)
      (pss_one (ps_ret (pv 6))))))))), ?_⟩
    walk_at "rd"
    refine ⟨by decide, ?_⟩
    walk_at "rd"
    obtain ⟨s1, s2⟩ := pt_bd one 0 12 (by decide)
    have hs : ∃ size : Nat, 1 + pt one 0 12 = (size : Int) ∧ 1 ≤ size ∧ size ≤ 12 := ⟨(1 + pt one 0 12).toNat, by omega, by omega, by omega⟩
    obtain ⟨size, es, z1, z2⟩ := hs
    rw [es]
    refine ⟨by omega, ?_⟩
    obtain ⟨a1, a2⟩ := pt_bd other 1 (size : Int) (by omega)
    generalize pt other 1 (size : Int) = at' at a1 a2
    refine ⟨by decide, fun p hp => ?_⟩
    refine ⟨_, rfl, 9, rfl, by decide, by decide, for_range (lo := 0) (n := 9) (fun i σ H' => ∃ v7 v8 v9 v10, σ = [some (.int one), some (.int other), some (.int 9), some (.str NAMES), some (.int size), some (.int at'), some (.ref p), v7, v8, v9, v10] ∧ Same H H' ∧
      H' p = some (.lst (((List.range i).map fun k => strOf (nmC one at' k size)).map V.str))) ⟨none, none, none, none, (by rw [← es]; rfl), Same.new hp, upd_same⟩ ?_ ?_⟩
    · rintro i σ H1 hi ⟨v7, v8, v9, v10, rfl, q1, q2⟩
      simp only [Int.zero_add]
      refine ⟨_, rfl, (size : Int), rfl, by omega, by omega, for_range (lo := 0) (n := size) (fun j σ H2 => ∃ v9 v10, σ = [some (.int one), some (.int other), some (.int 9), some (.str NAMES), some (.int size), some (.int at'), some (.ref p), some (.int i), some (.str (strOf ((List.range j).map (nmN one at' i)))), v9, v10] ∧ H2 = H1)
        ⟨v9, v10, by rw [emp_is]; rfl, rfl⟩ ?_ ?_⟩
      · rintro j σ H2 hj ⟨v9, v10, rfl, rfl⟩
        simp only [Int.zero_add]
        walk_at "rd"
        refine ⟨by decide, ?_⟩
        refine ⟨_, rfl, _, rfl, rfl, _, rfl, ?_⟩
        refine ite2 (fun c => ?_) (fun c => ?_)
        all_goals
          walk_at "rd"
          refine ⟨(by decide : (0 : Int) < 37), NAMES, _, nmN one at' i j, rfl, rfl, by decide, ?_, ?_⟩
        · refine at37 _ one at' i j ?_
          have c := of_decide_eq_true c
          have c : (j : Int) = at' := V.int.inj c
          unfold nmI
          rw [if_pos c]
        · refine ⟨_, _, rfl, rfl, ?_, some (.int j), some (.int (pt one ((j : Int) + 2) 37 + i)), ?_, rfl⟩
          · rw [len_strOf, List.length_map, List.length_range]
            exact Nat.le_trans (show j + 1 ≤ 100 by omega) (by decide)
          · rw [show (⟨#[nmN one at' i j]⟩ : Str) = strOf [nmN one at' i j] from rfl, app_strOf, List.range_succ, List.map_append]
            rfl
        · refine at37 _ one at' i j ?_
          have c : ¬ (j : Int) = at' := fun z => c (decide_eq_true (congrArg V.int z))
          unfold nmI
          rw [if_neg c]
        · refine ⟨_, _, rfl, rfl, ?_, some (.int j), some (.int (pt one ((j : Int) + 2) 37)), ?_, rfl⟩
          · rw [len_strOf, List.length_map, List.length_range]
            exact Nat.le_trans (show j + 1 ≤ 100 by omega) (by decide)
          · rw [show (⟨#[nmN one at' i j]⟩ : Str) = strOf [nmN one at' i j] from rfl, app_strOf, List.range_succ, List.map_append]
            rfl
      · rintro σ H2 ⟨v9, v10, rfl, rfl⟩
        refine ⟨_, rfl, .inl ⟨rfl, _, SqL.of q2⟩, _, rfl, p, _, _, rfl, rfl, q2, ?_, ?_⟩
        · rw [List.length_map, List.length_map, List.length_range]
          exact small1000 (by omega)
        · refine ⟨_, _, _, _, rfl, q1.upd hp, ?_⟩
          rw [upd_same, List.range_succ, List.map_append, List.map_append]
          rfl
    · rintro σ H1 ⟨v7, v8, v9, v10, rfl, q1, q2⟩
      obtain ⟨n1, n2, n3⟩ := names1_ok (one := one) a1 a2 z1 z2
      have fin : Q (.ref p) H1 := k p _ H1 n3 n1 n2 hp q2 q1
      refine ⟨_, rfl, _, rfl, _, _, rfl, rfl, _, rfl, ?_⟩
      refine ite2 (fun c => ?_) (fun c => ?_)
      · have c := of_decide_eq_true c
        walk_at "rd"
        refine ⟨(by decide : (0 : Int) < 2), ?_⟩
        refine ⟨rfl, _, rfl, ?_⟩
        refine ite2 (fun c2 => ?_) (fun c2 => ?_)
        · obtain ⟨m1, m2, m3⟩ := names2_ok (one := one) (at' := at') (size := size) (by omega) z2
          refine ⟨_, rfl, 9, rfl, by decide, by decide, fun D hD => ?_⟩
          have npD : p ≠ D := ne_of_none q2 hD
          refine comp_pure (fix_rng (lo := 0) (n := 9)) (fun _ => true) (cutF (nmC one at' 0 size) size) (fun _ => trivial) (by decide) (fun v hv ys Q' q => q) (fun v hv _ ys Q' q => ?_) ?_
          · obtain ⟨z, hz, rfl⟩ := List.mem_map.mp hv
            refine ⟨_, rfl, p, _, 0, .str (strOf (nmC one at' 0 size)), rfl, rfl, SqL.of (by rw [upd_ne npD]; exact q2), rfl, ?_⟩
            refine ⟨_, rfl, _, rfl, _, _, rfl, rfl, _, rfl, _, rfl, ?_, q⟩
            rw [len_strOf, nmC_len]
            exact Nat.le_trans z2 (by decide)
          · refine k D _ _ m3 m1 m2 (q1.free hD) ?_ (q1.trans (Same.new hD))
            rw [upd_same]
            congr 2
            unfold names2
            rw [List.filter_eq_self.mpr (fun _ _ => rfl), List.map_map, List.map_map]
            apply List.map_congr_left
            intro i hi
            have hi := List.mem_range.mp hi
            show V.str (Txt.slice (strOf (nmC one at' 0 size)) none (some ((size : Int) - (0 + (i : Int))))) = V.str (strOf ((nmC one at' 0 size).take (size - i)))
            rw [slice_take _ _ (by omega) (by rw [nmC_len]; omega)]
            congr 3
            omega
        · exact ⟨_, rfl, fin⟩
      · exact iteF ⟨_, rfl, fin⟩
/-! ### years, ties, finds -/
theorem c60 : CPow 10 60 := ⟨by decide, by decide, by decide⟩
theorem c59 : CPow 10 59 := ⟨by decide, by decide, by decide⟩
theorem m60 : (0 : Int) < 10 ^ (60 : Int).toNat := by decide
theorem m59 : (0 : Int) < 10 ^ (59 : Int).toNat := by decide
def sp_year : Sp := fun vs H Q _ => ∃ c k : Int, vs = [.int c, .int k] ∧ ∀ (z : Int) (H' : Hp), YearOk z → Same H H' → Q (.int z) H'
set_option maxHeartbeats 4000000 in
theorem h__law_year (T : Tx K mg w C_Reading) : Has P w K mg base "_law_year" ["_law_cell", "_law_k"] 2 sp_year := by
  refine T.d__law_year.has sc__law_year (fun vs H Q E h => ?_) (fun f cdv A outer s H vs Q E hr h => ?_)
  · obtain ⟨c, i, rfl, _⟩ := h; rfl
  · obtain ⟨c, i, rfl, k⟩ := h
    refine ⟨_, (pss_cons (ps_set (i := 2) sc__law_year.nd rfl (Or.inl rfl) (pe_lst (pa_cons (pe_op op_sub (pe_fn (h__law_part T) (hr.mono (by decide)) (by rfl) (pa_cons (pv 0) (pa_cons (pv 1) (pa_cons pe_int pa_nil)))) pe_int) (pa_cons (pe_fn (h__law_part T) (hr.mono (by decide)) (by rfl) (pa_cons (pv 0) (pa_cons (pv 1) (pa_cons pe_int pa_nil)))) (pa_cons (pe_op op_mod (pe_op op_mul (pv 0) pe_int) (pe_op op_pow pe_int pe_int)) pa_nil)))))
      (pss_cons (ps_set (i := 2) sc__law_year.nd rfl (Or.inl rfl) (pe_op op_cat (pv 2) (pe_lst (pa_cons (pe_op op_sub (pe_un un_neg pe_int) (pe_op op_mod (pe_op op_mul (pv 0) pe_int) (pe_op op_pow pe_int pe_int))) pa_nil))))
      (pss_one (ps_ret (pe_ix (ix_listK K rfl) (pv 2) (pe_fn (h__law_part T) (hr.mono (by decide)) (by rfl) (pa_cons (pv 0) (pa_cons (pe_op op_add (pv 1) pe_int) (pa_cons pe_int pa_nil)))) (fun _ _ => rfl)))))), ?_⟩
    walk_at "rd"
    refine ⟨by decide, ?_⟩
    walk_at "rd"
    refine ⟨by decide, ?_⟩
    walk_at "rd"
    refine ⟨.inr ⟨by decide, by decide⟩, ?_⟩
    walk_at "rd"
    refine ⟨c60, ?_⟩
    walk_at "rd"
    refine ⟨m60, (by show 3 ≤ sizeLine; decide), fun p1 hp1 => ?_⟩
    walk_at "rd"
    refine ⟨.inr ⟨by decide, by decide⟩, ?_⟩
    walk_at "rd"
    refine ⟨c59, ?_⟩
    walk_at "rd"
    refine ⟨m59, ?_⟩
    walk_at "rd"
    refine ⟨(by show 1 ≤ sizeLine; decide), fun p2 hp2 => ?_⟩
    have n12 : p1 ≠ p2 := ne_of_none upd_same hp2
    refine ⟨p1, p2, _, _, rfl, rfl, by rw [upd_ne n12, upd_same], upd_same, (by show 4 ≤ sizeLine; decide), fun p3 hp3 => ?_⟩
    walk_at "rd"
    refine ⟨by decide, ?_⟩
    obtain ⟨b1, b2⟩ := pt_bd c (i + 1) 4 (by decide)
    obtain ⟨d1, d2⟩ := pt_bd c i 60 (by decide)
    obtain ⟨d3, d4⟩ := pt_bd c i 12 (by decide)
    have d5 := Int.emod_nonneg (c * 48271) (show (10 ^ (60 : Int).toNat : Int) ≠ 0 by decide)
    have d6 := Int.emod_lt_of_pos (c * 48271) m60
    have d7 := Int.emod_nonneg (c * 40692) (show (10 ^ (59 : Int).toNat : Int) ≠ 0 by decide)
    have d8 := Int.emod_lt_of_pos (c * 40692) m59
    have e60 : (10 : Int) ^ (60 : Int).toNat = 10 ^ 60 := rfl
    have e59 : (10 : Int) ^ (59 : Int).toNat = 10 ^ 59 := rfl
    rw [e60] at d5 d6
    rw [e59] at d7 d8
    have h4 : pt c (i + 1) 4 = 0 ∨ pt c (i + 1) 4 = 1 ∨ pt c (i + 1) 4 = 2 ∨ pt c (i + 1) 4 = 3 := by omega
    rcases h4 with h4 | h4 | h4 | h4
    all_goals
      rw [h4]
      refine ⟨p3, _, _, _, rfl, rfl, SqL.of upd_same, rfl, k _ _ ?_ ((Same.new hp1).trans ((Same.new hp2).trans (Same.new hp3)))⟩
    · show (pt c i 60 - 20).natAbs < 10 ^ 60
      omega
    · show (pt c i 12).natAbs < 10 ^ 60
      omega
    · show (c * 48271 % 10 ^ 60).natAbs < 10 ^ 60
      omega
    · show (-1 - c * 40692 % 10 ^ 59).natAbs < 10 ^ 60
      omega
def sp_tie : Sp := fun vs H Q _ => ∃ (a : Addr) (us : List Str) (c : Int), vs = [.ref a, .int c] ∧ SqL K H a (us.map V.str) ∧ 1 ≤ us.length ∧ ∀ (p : Addr) (ws : List V) (H' : Hp), TieOk us ws → H p = none → H' p = some (.tup ws) → Same H H' → Q (.ref p) H'
theorem at_us {us : List Str} {i : Int} (h0 : 0 ≤ i) (h1 : i < (us.length : Int)) : ∃ x ∈ us, atI (us.map V.str) i = some (.str x) := by
  have hi : i.toNat < us.length := by omega
  refine ⟨us[i.toNat], List.getElem_mem hi, ?_⟩
  have := atI_nat (xs := us.map V.str) (j := i.toNat) (v := .str us[i.toNat]) (by simp [hi])
  rw [Int.toNat_of_nonneg h0] at this
  exact this
def tieKinds : List V := [.str "over", .str "cuts", .str "fills", .str "after", .str "same"]
theorem kind_at {i : Int} (h0 : 0 ≤ i) (h1 : i < 5) : ∃ kd : Str, atI tieKinds i = some (.str kd) ∧ (kd = "after" ∨ kd ∈ KINDS) := by
  have h : i = 0 ∨ i = 1 ∨ i = 2 ∨ i = 3 ∨ i = 4 := by omega
  rcases h with rfl | rfl | rfl | rfl | rfl
  · exact ⟨_, rfl, .inr (by decide +kernel)⟩
  · exact ⟨_, rfl, .inr (by decide +kernel)⟩
  · exact ⟨_, rfl, .inr (by decide +kernel)⟩
  · exact ⟨_, rfl, .inl rfl⟩
  · exact ⟨_, rfl, .inr (by decide +kernel)⟩
set_option maxHeartbeats 4000000 in
theorem h__law_tie (T : Tx K mg w C_Reading) : Has P w K mg base "_law_tie" ["_law_units", "_law_cell"] 2 (sp_tie (K := K)) := by
  refine T.d__law_tie.has sc__law_tie (fun vs H Q E h => ?_) (fun f cdv A outer s H vs Q E hr h => ?_)
  · obtain ⟨a, us, c, rfl, _⟩ := h; rfl
  · obtain ⟨a, us, c, rfl, ha, hl, k⟩ := h
    refine ⟨_, (pss_cons (ps_set (i := 2) sc__law_tie.nd rfl (Or.inl rfl) (pe_ix (ix_listK K rfl) (pv 0) (pe_fn (h__law_part T) (hr.mono (by decide)) (by rfl) (pa_cons (pv 1) (pa_cons pe_int (pa_cons (pe_callB (call_len_seqK K rfl) (by rfl) T.len boot_len (pa_cons (pv 0) pa_nil)) pa_nil)))) (fun _ _ => rfl)))
      (pss_cons (ps_set (i := 3) sc__law_tie.nd rfl (Or.inl rfl) (pe_ix (ix_listK K rfl) (pv 0) (pe_fn (h__law_part T) (hr.mono (by decide)) (by rfl) (pa_cons (pv 1) (pa_cons pe_int (pa_cons (pe_callB (call_len_seqK K rfl) (by rfl) T.len boot_len (pa_cons (pv 0) pa_nil)) pa_nil)))) (fun _ _ => rfl)))
      (pss_cons (ps_set (i := 4) sc__law_tie.nd rfl (Or.inl rfl) (pe_ix (ix_listK K rfl) (pe_lst (pa_cons pe_str (pa_cons pe_str (pa_cons pe_str (pa_cons pe_str (pa_cons pe_str pa_nil)))))) (pe_fn (h__law_part T) (hr.mono (by decide)) (by rfl) (pa_cons (pv 1) (pa_cons pe_int (pa_cons pe_int pa_nil)))) (fun _ _ => rfl)))
      (pss_cons (ps_if (pt_cmpR op_eq (pv 4) pe_str (nomark _)) (pss_one (ps_ret (pe_tup (pa_cons (pv 4) (pa_cons (pv 2) (pa_cons (pv 3) (pa_cons (pe_ix (ix_listK K rfl) (pe_lst (pa_cons (pe_fn (h__law_part T) (hr.mono (by decide)) (by rfl) (pa_cons (pv 1) (pa_cons pe_int (pa_cons pe_int pa_nil)))) (pa_cons (pe_op op_mod (pe_op op_mul (pv 1) pe_int) (pe_op op_pow pe_int pe_int)) pa_nil))) (pe_fn (h__law_part T) (hr.mono (by decide)) (by rfl) (pa_cons (pv 1) (pa_cons pe_int (pa_cons pe_int pa_nil)))) (fun _ _ => rfl)) pa_nil))))))) pss_nil)
      (pss_one (ps_ret (pe_tup (pa_cons (pv 4) (pa_cons (pv 2) (pa_cons (pv 3) pa_nil)))))))))), ?_⟩
    have hn : (0 : Int) < (us.length : Int) := by omega
    refine ⟨_, rfl, _, rfl, _, rfl, a, _, rfl, .inl ha, ?_⟩
    rw [List.length_map]
    refine ⟨_, _, _, rfl, hn, ?_⟩
    obtain ⟨x, hx, ex⟩ := at_us (pt_bd c 2 _ hn).1 (pt_bd c 2 _ hn).2
    refine ⟨a, _, _, _, rfl, rfl, ha, ex, ?_⟩
    refine ⟨_, rfl, _, rfl, _, rfl, a, _, rfl, .inl ha, ?_⟩
    rw [List.length_map]
    refine ⟨_, _, _, rfl, hn, ?_⟩
    obtain ⟨y, hy, ey⟩ := at_us (pt_bd c 3 _ hn).1 (pt_bd c 3 _ hn).2
    refine ⟨a, _, _, _, rfl, rfl, ha, ey, ?_⟩
    refine ⟨(by show 5 ≤ sizeLine; decide), fun p1 hp1 => ?_⟩
    refine ⟨_, rfl, _, _, _, rfl, by decide, ?_⟩
    obtain ⟨kd, ek, hk⟩ := kind_at (pt_bd c 4 5 (by decide)).1 (pt_bd c 4 5 (by decide)).2
    have s1 : Same H (upd H p1 (.lst tieKinds)) := Same.new hp1
    refine ⟨p1, tieKinds, _, _, rfl, rfl, SqL.of upd_same, ek, ?_⟩
    show tSeq _ _ _ _ (upd H p1 (.lst tieKinds))
    generalize upd H p1 (.lst tieKinds) = H1 at s1
    refine ⟨_, rfl, rfl, _, rfl, ?_⟩
    refine ite2 (fun c1 => ?_) (fun c1 => ?_)
    · have c1 := V.str.inj (of_decide_eq_true c1)
      subst c1
      refine ⟨_, rfl, _, rfl, _, rfl, _, rfl, _, _, _, rfl, by decide, ?_⟩
      walk_at "rd"
      refine ⟨.inr ⟨by decide, by decide⟩, ?_⟩
      walk_at "rd"
      refine ⟨c60, ?_⟩
      walk_at "rd"
      refine ⟨m60, (by show 2 ≤ sizeLine; decide), fun p2 hp2 => ?_⟩
      walk_at "rd"
      refine ⟨by decide, ?_⟩
      obtain ⟨b1, b2⟩ := pt_bd c 6 2 (by decide)
      obtain ⟨d1, d2⟩ := pt_bd c 5 9 (by decide)
      have d5 := Int.emod_nonneg (c * 48271) (show (10 ^ (60 : Int).toNat : Int) ≠ 0 by decide)
      have d6 := Int.emod_lt_of_pos (c * 48271) m60
      have e60 : (10 : Int) ^ (60 : Int).toNat = 10 ^ 60 := rfl
      rw [e60] at d5 d6
      have h2 : pt c 6 2 = 0 ∨ pt c 6 2 = 1 := by omega
      rcases h2 with h2 | h2
      all_goals
        rw [h2]
        refine ⟨p2, _, _, _, rfl, rfl, SqL.of upd_same, rfl, (by show 4 ≤ sizeLine; decide), fun p3 hp3 => k p3 _ _ (.after hx hy ?_ ?_) (s1.free ((Same.new hp2).free hp3)) upd_same (s1.trans ((Same.new hp2).trans (Same.new hp3)))⟩
      · exact d1
      · show (pt c 5 9).natAbs < 10 ^ 60
        omega
      · exact d5
      · show (c * 48271 % 10 ^ 60).natAbs < 10 ^ 60
        omega
    · refine ⟨_, rfl, _, rfl, _, rfl, (by show 3 ≤ sizeLine; decide), fun p2 hp2 => ?_⟩
      have hk' : kd ∈ KINDS := by
        rcases hk with hk | hk
        · exact absurd (decide_eq_true (congrArg V.str hk)) c1
        · exact hk
      exact k p2 _ _ (.plain hk' hx hy) (s1.free hp2) upd_same (s1.trans (Same.new hp2))
theorem two_sorted {a b : Int} {ms : List Int} (h : ms.Perm [a, b]) (hs : ms.Pairwise (· ≤ ·)) : ∃ lo hi, ms = [lo, hi] ∧ lo ≤ hi ∧ (lo = a ∨ lo = b) ∧ (hi = a ∨ hi = b) := by
  have hl := h.length_eq
  match ms, hl with
  | [lo, hi], _ =>
    have m1 := h.mem_iff (a := lo)
    have m2 := h.mem_iff (a := hi)
    have e1 := m1.mp (by simp)
    have e2 := m2.mp (by simp)
    simp at e1 e2
    refine ⟨lo, hi, rfl, ?_, e1, e2⟩
    have := List.rel_of_pairwise_cons hs (a' := hi) (by simp)
    exact this
def sp_find : Sp := fun vs H Q _ => ∃ (m a f : Addr) (ms us : List Str) (fs : List V) (c : Int), vs = [.ref m, .ref a, .ref f, .int c] ∧ SqL K H m (ms.map V.str) ∧ SqL K H a (us.map V.str) ∧ SqL K H f fs ∧ 1 ≤ us.length ∧ fs.length < ms.length ∧
  ∀ (p : Addr) (x nm : Str) (lo hi : Int) (H' : Hp), x ∈ us → ms[fs.length]? = some nm → lo ≤ hi → YearOk lo → YearOk hi → H p = none → H' p = some (.tup [.str nm, .str x, .int lo, .int hi]) → Same H H' → Q (.ref p) H'
set_option maxHeartbeats 4000000 in
theorem h__law_find (T : Tx K mg w C_Reading) : Has P w K mg base "_law_find" ["_law_marks", "_law_units", "_law_finds", "_law_cell"] 3 (sp_find (K := K)) := by
  refine T.d__law_find.has sc__law_find (fun vs H Q E h => ?_) (fun f cdv A outer s H vs Q E hr h => ?_)
  · obtain ⟨m, a, f', ms, us, fs, c, rfl, _⟩ := h; rfl
  · obtain ⟨m, a, f', ms, us, fs, c, rfl, hm, ha, hf, hl, hz, k⟩ := h
    refine ⟨_, (pss_cons (ps_set (i := 4) sc__law_find.nd rfl (Or.inl rfl) (pe_callB (call_sortedIK K rfl) (by rfl) T.sorted PyProof.Rows.boot_sorted (pa_cons (pe_lst (pa_cons (pe_fn (h__law_year T) (hr.mono (by decide)) (by rfl) (pa_cons (pv 3) (pa_cons pe_int pa_nil))) (pa_cons (pe_fn (h__law_year T) (hr.mono (by decide)) (by rfl) (pa_cons (pv 3) (pa_cons pe_int pa_nil))) pa_nil))) pa_nil)))
      (pss_one (ps_ret (pe_tup (pa_cons (pe_ix (ix_listK K rfl) (pv 0) (pe_callB (call_len_seqK K rfl) (by rfl) T.len boot_len (pa_cons (pv 2) pa_nil)) (fun _ _ => rfl)) (pa_cons (pe_ix (ix_listK K rfl) (pv 1) (pe_fn (h__law_part T) (hr.mono (by decide)) (by rfl) (pa_cons (pv 3) (pa_cons pe_int (pa_cons (pe_callB (call_len_seqK K rfl) (by rfl) T.len boot_len (pa_cons (pv 1) pa_nil)) pa_nil)))) (fun _ _ => rfl)) (pa_cons (pe_ix (ix_listK K rfl) (pv 4) pe_int (fun _ _ => rfl)) (pa_cons (pe_ix (ix_listK K rfl) (pv 4) pe_int (fun _ _ => rfl)) pa_nil)))))))), ?_⟩
    have hn : (0 : Int) < (us.length : Int) := by omega
    refine ⟨_, rfl, _, _, rfl, fun z1 H1 y1 s1 => ?_⟩
    refine ⟨_, rfl, _, _, rfl, fun z2 H2 y2 s2 => ?_⟩
    refine ⟨(by show 2 ≤ sizeLine; decide), fun p1 hp1 => ?_⟩
    have s3 : Same H (upd H2 p1 (.lst [.int z1, .int z2])) := s1.trans (s2.trans (Same.new hp1))
    refine ⟨p1, [z1, z2], rfl, SqL.of upd_same, (by show 2 < 64; decide), fun p2 zs hp2 pm ps => ?_⟩
    obtain ⟨lo, hi, rfl, o1, o2, o3⟩ := two_sorted pm ps
    have s4 : Same H (upd (upd H2 p1 (.lst [.int z1, .int z2])) p2 (.lst ([lo, hi].map V.int))) := s3.trans (Same.new hp2)
    have e4 : upd (upd H2 p1 (.lst [.int z1, .int z2])) p2 (.lst ([lo, hi].map V.int)) p2 = some (.lst [.int lo, .int hi]) := upd_same
    generalize upd (upd H2 p1 (.lst [.int z1, .int z2])) p2 (.lst ([lo, hi].map V.int)) = H4 at s4 e4
    have hi' : fs.length < (ms.map V.str).length := by rw [List.length_map]; exact hz
    refine ⟨_, rfl, _, rfl, f', fs, rfl, .inl (s4.seq hf), m, _, _, .str ms[fs.length], rfl, rfl, s4.seq hm, atI_nat (by simp [hz]), ?_⟩
    refine ⟨_, rfl, _, rfl, _, rfl, a, _, rfl, .inl (s4.seq ha), ?_⟩
    rw [List.length_map]
    refine ⟨_, _, _, rfl, hn, ?_⟩
    obtain ⟨x, hx, ex⟩ := at_us (pt_bd c 2 _ hn).1 (pt_bd c 2 _ hn).2
    refine ⟨a, _, _, _, rfl, rfl, s4.seq ha, ex, ?_⟩
    refine ⟨_, rfl, p2, _, _, _, rfl, rfl, SqL.of e4, rfl, ?_⟩
    refine ⟨_, rfl, p2, _, _, _, rfl, rfl, SqL.of e4, rfl, ?_⟩
    refine ⟨(by show 4 ≤ sizeLine; decide), fun p3 hp3 => k p3 x _ lo hi _ hx (List.getElem?_eq_getElem hz) o1 ?_ ?_ (s4.free hp3) upd_same (s4.trans (Same.new hp3))⟩
    · rcases o2 with rfl | rfl
      · exact y1
      · exact y2
    · rcases o3 with rfl | rfl
      · exact y1
      · exact y2
def sp_frame : Sp := fun vs H Q _ => ∃ c : Int, vs = [.int c] ∧ ∀ (p : Addr) (lo hi : Int) (H' : Hp), lo ≤ hi → YearOk lo → YearOk hi → H p = none → H' p = some (.tup [.int lo, .int hi]) → Same H H' → Q (.ref p) H'
set_option maxHeartbeats 4000000 in
theorem h__law_frame (T : Tx K mg w C_Reading) : Has P w K mg base "_law_frame" ["_law_cell"] 3 sp_frame := by
  refine T.d__law_frame.has sc__law_frame (fun vs H Q E h => ?_) (fun f cdv A outer s H vs Q E hr h => ?_)
  · obtain ⟨c, rfl, _⟩ := h; rfl
  · obtain ⟨c, rfl, k⟩ := h
    refine ⟨_, (pss_cons (ps_set (i := 1) sc__law_frame.nd rfl (Or.inl rfl) (pe_callB (call_sortedIK K rfl) (by rfl) T.sorted PyProof.Rows.boot_sorted (pa_cons (pe_lst (pa_cons (pe_fn (h__law_year T) (hr.mono (by decide)) (by rfl) (pa_cons (pv 0) (pa_cons pe_int pa_nil))) (pa_cons (pe_fn (h__law_year T) (hr.mono (by decide)) (by rfl) (pa_cons (pv 0) (pa_cons pe_int pa_nil))) pa_nil))) pa_nil)))
      (pss_one (ps_ret (pe_tup (pa_cons (pe_ix (ix_listK K rfl) (pv 1) pe_int (fun _ _ => rfl)) (pa_cons (pe_ix (ix_listK K rfl) (pv 1) pe_int (fun _ _ => rfl)) pa_nil)))))), ?_⟩
    refine ⟨_, rfl, _, _, rfl, fun z1 H1 y1 s1 => ?_⟩
    refine ⟨_, rfl, _, _, rfl, fun z2 H2 y2 s2 => ?_⟩
    refine ⟨(by show 2 ≤ sizeLine; decide), fun p1 hp1 => ?_⟩
    have s3 : Same H (upd H2 p1 (.lst [.int z1, .int z2])) := s1.trans (s2.trans (Same.new hp1))
    refine ⟨p1, [z1, z2], rfl, SqL.of upd_same, (by show 2 < 64; decide), fun p2 zs hp2 pm ps => ?_⟩
    obtain ⟨lo, hi, rfl, o1, o2, o3⟩ := two_sorted pm ps
    have s4 : Same H (upd (upd H2 p1 (.lst [.int z1, .int z2])) p2 (.lst ([lo, hi].map V.int))) := s3.trans (Same.new hp2)
    have e4 : upd (upd H2 p1 (.lst [.int z1, .int z2])) p2 (.lst ([lo, hi].map V.int)) p2 = some (.lst [.int lo, .int hi]) := upd_same
    generalize upd (upd H2 p1 (.lst [.int z1, .int z2])) p2 (.lst ([lo, hi].map V.int)) = H4 at s4 e4
    refine ⟨_, rfl, p2, _, _, _, rfl, rfl, SqL.of e4, rfl, ?_⟩
    refine ⟨_, rfl, p2, _, _, _, rfl, rfl, SqL.of e4, rfl, ?_⟩
    refine ⟨(by show 2 ≤ sizeLine; decide), fun p3 hp3 => k p3 lo hi _ o1 ?_ ?_ (s4.free hp3) upd_same (s4.trans (Same.new hp3))⟩
    · rcases o2 with rfl | rfl
      · exact y1
      · exact y2
    · rcases o3 with rfl | rfl
      · exact y1
      · exact y2
/-! ### the telling -/
def sp_told : Sp := fun vs H Q _ => ∃ (n m c : Addr) (xs ms : List Str) (cs : List Int), vs = [.ref n, .ref m, .ref c] ∧ SqL K H n (xs.map V.str) ∧ SqL K H m (ms.map V.str) ∧ SqL K H c (cs.map V.int) ∧
  xs.length = 9 ∧ xs.Nodup ∧ (∀ x ∈ xs, nameB x = true) ∧ ms.length = 9 ∧ ms.Nodup ∧ (∀ x ∈ ms, nameB x = true) ∧ cs.length ≤ 63 ∧
  ∀ (p pu pt pf pr : Addr) (us : List Str) (ts fs rs : List (List V)) (at' af ar : List Addr) (H' : Hp), Told us ts fs rs → us = xs.take us.length → rs.length ≤ cs.length → ToldAt H' pu pt pf pr us ts fs rs at' af ar → H' p = some (.tup [.ref pu, .ref pt, .ref pf, .ref pr]) →
    H pu = none → H pt = none → H pf = none → H pr = none → pu ≠ pt → pu ≠ pf → pt ≠ pf → Same H H' → Q (.ref p) H'
set_option maxHeartbeats 4000000 in
theorem h__law_told (T : Tx K mg w C_Reading) : Has P w K mg base "_law_told" ["_law_names_here", "_law_marks", "_law_cells"] 4 (sp_told (K := K)) := by
  refine T.d__law_told.has sc__law_told (fun vs H Q E h => ?_) (fun f cdv A outer s H vs Q E hr h => ?_)
  · obtain ⟨n, m, c, xs, ms, cs, rfl, _⟩ := h; rfl
  · obtain ⟨n, m, c, xs, ms, cs, rfl, hn, hm, hc, x1, x2, x3, m1, m2, m3, hl, k⟩ := h
    refine ⟨_, (pss_cons (ps_set (i := 3) sc__law_told.nd rfl (Or.inl rfl) (pe_lst pa_nil))
      (pss_cons (ps_set (i := 4) sc__law_told.nd rfl (Or.inl rfl) (pe_lst pa_nil))
      (pss_cons (ps_set (i := 5) sc__law_told.nd rfl (Or.inl rfl) (pe_lst pa_nil))
      (pss_cons (ps_set (i := 6) sc__law_told.nd rfl (Or.inl rfl) (pe_lst pa_nil))
      (pss_cons (ps_for PassesOwn.never rfl (pi_listK K rfl (pv 2)) (pg_name (i := 7) sc__law_told.nd rfl (Or.inl rfl)) (pss_cons (ps_set (i := 8) sc__law_told.nd rfl (Or.inl rfl) (pe_fn (h__law_part T) (hr.mono (by decide)) (by rfl) (pa_cons (pv 7) (pa_cons pe_int (pa_cons pe_int pa_nil)))))
        (pss_one (ps_if (PW.pt (pw_or (pt_cmpR (op_eqDK K rfl (hu10 hr)) (pv 3) (pe_lst pa_nil) (nomark _)) (pw_or1 (PW.pt (pw_and (pt_cmpR op_lt (pv 8) pe_int (nomark _)) (pw_and1 (pt_cmpR op_lt (pe_callB (call_len_seqK K rfl) (by rfl) T.len boot_len (pa_cons (pv 3) pa_nil)) (pe_callB (call_len_seqK K rfl) (by rfl) T.len boot_len (pa_cons (pv 0) pa_nil)) (nomark _)))))))) (pss_cons (ps_expr (pe_bmK K rfl PySem.F.plainAttrs_list PySem.F.slot_list_append PySem.F.type_list_append mt_append (pv 3) (pa_cons (pe_ix (ix_listK K rfl) (pv 0) (pe_callB (call_len_seqK K rfl) (by rfl) T.len boot_len (pa_cons (pv 3) pa_nil)) (fun _ _ => rfl)) pa_nil)))
          (pss_one (ps_expr (pe_bmK K rfl PySem.F.plainAttrs_list PySem.F.slot_list_append PySem.F.type_list_append mt_append (pv 6) (pa_cons (pe_tup (pa_cons pe_str (pa_cons (pe_ix (ix_listK K rfl) (pv 3) (pe_un un_neg pe_int) (fun _ _ => rfl)) pa_nil))) pa_nil))))) (pss_one (ps_if (pt_cmpR op_lt (pv 8) pe_int (nomark _)) (pss_cons (ps_set (i := 9) sc__law_told.nd rfl (Or.inl rfl) (pe_fn (h__law_tie T) (hr.mono (by decide)) (by rfl) (pa_cons (pv 3) (pa_cons (pv 7) pa_nil))))
            (pss_one (ps_if (pt_cmpR (op_notInDK K rfl (hu11 hr)) (pv 9) (pv 4) (by with_unfolding_all rfl)) (pss_cons (ps_expr (pe_bmK K rfl PySem.F.plainAttrs_list PySem.F.slot_list_append PySem.F.type_list_append mt_append (pv 4) (pa_cons (pv 9) pa_nil)))
              (pss_one (ps_expr (pe_bmK K rfl PySem.F.plainAttrs_list PySem.F.slot_list_append PySem.F.type_list_append mt_append (pv 6) (pa_cons (pv 9) pa_nil))))) pss_nil))) (pss_one (ps_if (pt_cmpR op_lt (pe_callB (call_len_seqK K rfl) (by rfl) T.len boot_len (pa_cons (pv 5) pa_nil)) (pe_callB (call_len_seqK K rfl) (by rfl) T.len boot_len (pa_cons (pv 1) pa_nil)) (nomark _)) (pss_cons (ps_expr (pe_bmK K rfl PySem.F.plainAttrs_list PySem.F.slot_list_append PySem.F.type_list_append mt_append (pv 5) (pa_cons (pe_fn (h__law_find T) (hr.mono (by decide)) (by rfl) (pa_cons (pv 1) (pa_cons (pv 3) (pa_cons (pv 5) (pa_cons (pv 7) pa_nil))))) pa_nil)))
              (pss_one (ps_expr (pe_bmK K rfl PySem.F.plainAttrs_list PySem.F.slot_list_append PySem.F.type_list_append mt_append (pv 6) (pa_cons (pe_op (op_catTK K rfl) (pe_tup (pa_cons pe_str pa_nil)) (pe_ix (ix_listK K rfl) (pv 5) (pe_un un_neg pe_int) (fun _ _ => rfl))) pa_nil))))) pss_nil))))))))
      (pss_one (ps_ret (pe_tup (pa_cons (pv 3) (pa_cons (pv 4) (pa_cons (pv 5) (pa_cons (pv 6) pa_nil)))))))))))), ?_⟩
    refine ⟨by decide, fun pu hpu => ?_⟩
    refine ⟨by decide, fun pt' hpt => ?_⟩
    refine ⟨by decide, fun pf hpf => ?_⟩
    refine ⟨by decide, fun pr hpr => ?_⟩
    have nut : pu ≠ pt' := ne_of_none upd_same hpt
    have s1 : Same H (upd H pu (.lst [])) := Same.new hpu
    have s2 := s1.trans (Same.new (o := .lst []) hpt)
    have s3 := s2.trans (Same.new (o := .lst []) hpf)
    have s4 := s3.trans (Same.new (o := .lst []) hpr)
    have hu2 : upd (upd H pu (.lst [])) pt' (.lst []) pu = some (.lst []) := Same.new hpt _ _ upd_same
    have hu3 := Same.new (o := .lst []) hpf _ _ hu2
    have ht3 := Same.new (o := .lst []) hpf _ _ (upd_same (H := upd H pu (.lst [])) (a := pt') (o := .lst []))
    have nuf : pu ≠ pf := ne_of_none hu2 hpf
    have ntf : pt' ≠ pf := ne_of_none upd_same hpf
    have nur : pu ≠ pr := ne_of_none hu3 hpr
    have ntr : pt' ≠ pr := ne_of_none ht3 hpr
    have nfr : pf ≠ pr := ne_of_none upd_same hpr
    have T0 : ToldAt (upd (upd (upd (upd H pu (.lst [])) pt' (.lst [])) pf (.lst [])) pr (.lst [])) pu pt' pf pr [] [] [] [] [] [] [] :=
      ⟨Same.new hpr _ _ hu3, Same.new hpr _ _ ht3, .nil, Same.new hpr _ _ upd_same, .nil, upd_same, .nil⟩
    have fu := hpu
    have ft := s1.free hpt
    have ff := s2.free hpf
    have fr := s3.free hpr
    refine ⟨_, rfl, c, rfl, ⟨_, s4.seq hc⟩, for_list (xs := cs.map V.int) (fun i σ H' => ∃ v7 v8 v9 us ts fs rs at' af ar, σ = [some (.ref n), some (.ref m), some (.ref c), some (.ref pu), some (.ref pt'), some (.ref pf), some (.ref pr), v7, v8, v9] ∧ Same H H' ∧
      Told us ts fs rs ∧ ToldAt H' pu pt' pf pr us ts fs rs at' af ar ∧ us = xs.take us.length ∧ fs.map List.head? = (ms.take fs.length).map (fun x => some (V.str x)) ∧ rs.length ≤ i ∧ ts.length ≤ i ∧ fs.length ≤ 9)
      ⟨none, none, none, [], [], [], [], [], [], [], rfl, s4, .nil, T0, rfl, rfl, Nat.le_refl _, Nat.le_refl _, by decide⟩ (fun i σ H' _ h => by obtain ⟨_, _, _, _, _, _, _, _, _, _, _, q, _⟩ := h; exact q.seq hc) ?_ ?_⟩
    · rintro i x σ H1 hx ⟨v7, v8, v9, us, ts, fs, rs, at', af, ar, rfl, q, td, ta, ex, ef, lr, lt, lf⟩
      have hi : i < cs.length := by
        have := (List.getElem?_eq_some_iff.mp hx).1
        simpa using this
      obtain ⟨cl, rfl⟩ : ∃ z, x = V.int z := by
        rw [List.getElem?_map] at hx
        cases e : cs[i]? with
        | none => rw [e] at hx; cases hx
        | some z => rw [e] at hx; exact ⟨z, (Option.some.inj hx).symm⟩
      have nm := td.names
      have lus : us.length ≤ 9 := by rw [ex, List.length_take]; omega
      have lat := ta.tt.len
      have laf := ta.ft.len
      have lar := ta.rt.len
      refine ⟨_, rfl, cl, 0, 8, rfl, by decide, ?_⟩
      generalize pt cl 0 8 = way


      have lx : (xs.map V.str).length = xs.length := List.length_map _
      have lu : (us.map V.str).length = us.length := List.length_map _
      dsimp only [gName]
      refine ifS_same (decide (us = [] ∨ (way < 2 ∧ us.length < 9))) (fun Q' hQ => ?_) (fun H2 s2 => ?_)
      · refine ⟨_, rfl, by decide, fun e he => ?_⟩
        refine ⟨pu, e, _, rfl, rfl, DEq.nilL (SqL.of (Same.new he _ _ ta.u)) (SqL.of upd_same), _, rfl, ?_⟩
        refine ite2 (fun c => ?_) (fun c => ?_)
        · have c := of_decide_eq_true c
          rw [List.map_eq_nil_iff] at c
          rw [decide_eq_true (Or.inl c)] at hQ
          exact hQ _ (Same.new he)
        · have c : ¬ us = [] := fun z => c (decide_eq_true (by rw [z]; rfl))
          refine ⟨_, rfl, _, _, rfl, rfl, _, rfl, ?_⟩
          refine ite2 (fun c2 => ?_) (fun c2 => ?_)
          · have c2 := of_decide_eq_true c2
            refine ⟨_, rfl, pu, _, rfl, .inl (SqL.of (Same.new he _ _ ta.u)), _, rfl, n, _, rfl, .inl ((q.trans (Same.new he)).seq hn), _, _, rfl, rfl, _, rfl, ?_⟩
            rw [lu, lx, x1]
            have e2 : decide (((us.length : Nat) : Int) < ((9 : Nat) : Int)) = decide (us = [] ∨ (way < 2 ∧ us.length < 9)) := by
              apply decide_eq_decide.mpr
              constructor
              · intro z; exact .inr ⟨c2, by omega⟩
              · rintro (z | z)
                · exact absurd z c
                · omega
            rw [e2]
            exact hQ _ (Same.new he)
          · have c2 : ¬ way < 2 := fun z => c2 (decide_eq_true z)
            rw [decide_eq_false (fun z => z.elim c fun z => c2 z.1)] at hQ
            exact hQ _ (Same.new he)
      have ta2 := ta.same s2
      have q2 := q.trans s2
      refine ite2 (fun c => ?_) (fun c => ?_)
      · have c := of_decide_eq_true c
        have hlt : us.length < 9 := by
          rcases c with c | c
          · rw [c]; decide
          · exact c.2
        have hix : us.length < xs.length := by omega
        have hg : (xs.map V.str)[us.length]? = some (V.str xs[us.length]) := by simp [hix]
        refine ⟨_, rfl, .inl ⟨rfl, _, SqL.of ta2.u⟩, _, rfl, _, rfl, pu, _, rfl, .inl (SqL.of ta2.u), n, _, _, _, rfl, rfl, q2.seq hn, by rw [lu]; exact atI_nat hg, ?_⟩
        refine ⟨pu, _, _, rfl, rfl, ta2.u, by rw [lu]; exact small1000 (by omega), ?_⟩
        have ta3 := ta2.addU nut.symm nuf.symm nur.symm xs[us.length]
        have q3 : Same H _ := q2.upd (o := .lst (us.map V.str ++ [.str xs[us.length]])) fu
        refine ⟨_, rfl, .inl ⟨rfl, _, SqL.of ta3.r⟩, _, rfl, _, rfl, pu, _, _, _, rfl, rfl, SqL.of upd_same, atI_last _ _, (by show 2 ≤ sizeLine; decide), fun p hp => ?_⟩
        have ta4 := ta3.same (Same.new (o := .tup [.str "unit", .str xs[us.length]]) hp)
        refine ⟨pr, _, _, rfl, rfl, ta4.r, by rw [List.length_map]; exact small1000 (by omega), ?_⟩
        have hx' : xs[us.length] ∉ us := fun z => take_fresh x2 us.length hix (by
          have all : ∀ y, y ∈ us → y ∈ xs.take us.length := fun y hy => by rw [← ex]; exact hy
          exact all _ z)
        refine ⟨some (.int cl), some (.int way), v9, _, _, _, _, _, _, _, rfl, (q3.trans (Same.new hp)).upd fr, td.unit (x3 _ (List.getElem_mem hix)) hx', ta4.addR nur ntr nfr upd_same, ?_, ef, ?_, ?_, lf⟩
        · rw [List.length_append]
          show us ++ [xs[us.length]] = xs.take (us.length + 1)
          rw [List.take_add_one, List.getElem?_eq_getElem hix, ← ex]; rfl
        · rw [List.length_append]
          exact Nat.succ_le_succ lr
        · omega
      · have c : ¬ (us = [] ∨ (way < 2 ∧ us.length < 9)) := fun z => c (decide_eq_true z)
        have hne : 1 ≤ us.length := by
          cases us with
          | nil => exact absurd (.inl rfl) c
          | cons a b => simp
        refine ⟨_, rfl, _, _, rfl, rfl, _, rfl, ?_⟩
        refine ite2 (fun c2 => ?_) (fun c2 => ?_)
        · refine ⟨_, rfl, _, rfl, pu, us, cl, rfl, SqL.of ta2.u, hne, fun p ws H3 tok hp1 hp s3 => ?_⟩
          have ta3 := ta2.same s3
          have q3 := q2.trans s3
          have hw := tok.words nm.2
          have hts : ∀ vs ∈ ts, ∀ v ∈ vs, Wd v := fun vs hv => ((td.ties vs hv).words nm.2).1
          refine ⟨_, rfl, _, rfl, pt', _, _, rfl, .inl (SqL.of ta3.t), ta3.tt.deq (n := 7) hts hp hw.1, _, rfl, ?_⟩
          rw [if_pos rfl, ta3.tt.anyE]
          refine ite2 (fun c3 => ?_) (fun c3 => ?_)
          · have c3 : ws ∉ ts := by simpa using c3
            refine ⟨_, rfl, .inl ⟨rfl, _, SqL.of ta3.t⟩, _, rfl, pt', _, _, rfl, rfl, ta3.t, by rw [List.length_map]; exact small1000 (by omega), ?_⟩
            have ta4 := ta3.addT nut ntf.symm ntr.symm hp
            have hp4 := tup_stay (ys := at'.map V.ref ++ [.ref p]) ta3.t _ _ hp
            refine ⟨_, rfl, .inl ⟨rfl, _, SqL.of ta4.r⟩, _, rfl, pr, _, _, rfl, rfl, ta4.r, by rw [List.length_map]; exact small1000 (by omega), ?_⟩
            refine ⟨some (.int cl), some (.int way), some (.ref p), _, _, _, _, _, _, _, rfl, (q3.upd ft).upd fr, td.tie tok c3, ta4.addR nur ntr nfr hp4, ex, ef, ?_, ?_, lf⟩
            · rw [List.length_append]; exact Nat.succ_le_succ lr
            · rw [List.length_append]; exact Nat.succ_le_succ lt
          · exact ⟨some (.int cl), some (.int way), some (.ref p), us, ts, fs, rs, at', af, ar, rfl, q3, td, ta3, ex, ef, by omega, by omega, lf⟩
        · refine ⟨_, rfl, pf, _, rfl, .inl (SqL.of ta2.f), _, rfl, m, _, rfl, .inl (q2.seq hm), _, _, rfl, rfl, _, rfl, ?_⟩
          rw [List.length_map, List.length_map, m1]
          refine ite2 (fun c3 => ?_) (fun c3 => ?_)
          · have c3 := of_decide_eq_true c3
            have hlf : fs.length < 9 := by omega
            refine ⟨_, rfl, .inl ⟨rfl, _, SqL.of ta2.f⟩, _, rfl, _, rfl, _, rfl, _, rfl, m, pu, pf, ms, us, af.map V.ref, cl, rfl, q2.seq hm, SqL.of ta2.u, SqL.of ta2.f, hne, by rw [List.length_map]; omega, fun p x nm' lo hi H3 hx hnm hlo y1 y2 hp1 hp s3 => ?_⟩
            rw [List.length_map, laf] at hnm
            have ta3 := ta2.same s3
            have q3 := q2.trans s3
            refine ⟨pf, _, _, rfl, rfl, ta3.f, by rw [List.length_map]; exact small1000 (by omega), ?_⟩
            have ta4 := ta3.addF nuf ntf nfr.symm hp
            have hp4 := tup_stay (ys := af.map V.ref ++ [.ref p]) ta3.f _ _ hp
            refine ⟨_, rfl, .inl ⟨rfl, _, SqL.of ta4.r⟩, by decide, fun p5 hp5 => ?_⟩
            have s5 := Same.new (o := .tup [.str "find"]) hp5
            have ta5 := ta4.same s5
            refine ⟨_, rfl, _, rfl, pf, _, _, _, rfl, rfl, SqL.of (s5 _ _ upd_same), atI_last _ _, ?_⟩
            refine ⟨p5, p, _, _, rfl, rfl, SqT.of upd_same, SqT.of (s5 _ _ hp4), by simp, (by show 1 + 4 ≤ sizeLine; decide), fun z => by simp at z, fun _ p6 hp6 => ?_⟩
            have ta6 := ta5.same (Same.new (o := .tup ([.str "find"] ++ [.str nm', .str x, .int lo, .int hi])) hp6)
            refine ⟨pr, _, _, rfl, rfl, ta6.r, by rw [List.length_map]; exact small1000 (by omega), ?_⟩
            have hnk := List.getElem?_eq_some_iff.mp hnm
            refine ⟨some (.int cl), some (.int way), v9, _, _, _, _, _, _, _, rfl, (((q3.upd ff).trans s5).trans (Same.new hp6)).upd fr, td.find (.mk (m3 _ (List.mem_of_getElem? hnm)) hx hlo y1 y2 ?_), ta6.addR nur ntr nfr upd_same, ex, ?_, ?_, by omega, ?_⟩
            · intro f' hf' z
              have : List.head? f' ∈ fs.map List.head? := List.mem_map.mpr ⟨f', hf', rfl⟩
              rw [ef, z] at this
              obtain ⟨y, hy, e⟩ := List.mem_map.mp this
              have e : y = nm' := V.str.inj (Option.some.inj e)
              subst e
              obtain ⟨j, hj, e⟩ := List.mem_iff_getElem.mp hy
              rw [List.getElem_take] at e
              rw [List.length_take] at hj
              obtain ⟨hk, e'⟩ := hnk
              have := (List.getElem_inj m2).mp (e.trans e'.symm)
              omega
            · rw [List.map_append, List.length_append, ef]
              show _ = (ms.take (fs.length + 1)).map _
              rw [List.take_add_one, hnm, List.map_append]; rfl
            · rw [List.length_append]; exact Nat.succ_le_succ lr
            · rw [List.length_append]
              show fs.length + 1 ≤ 9
              omega
          · exact ⟨some (.int cl), some (.int way), v9, us, ts, fs, rs, at', af, ar, rfl, q2, td, ta2, ex, ef, by omega, by omega, lf⟩
    · rintro σ H1 ⟨v7, v8, v9, us, ts, fs, rs, at', af, ar, rfl, q, td, ta, ex, ef, lr, lt, lf⟩
      rw [List.length_map] at lr
      refine ⟨_, rfl, _, rfl, _, rfl, _, rfl, (by show 4 ≤ sizeLine; decide), fun p hp => ?_⟩
      exact k p pu pt' pf pr us ts fs rs at' af ar _ td ex lr (ta.same (Same.new hp)) upd_same fu ft ff fr nut nuf ntf (q.trans (Same.new hp))
/-! ### lines and texts -/
def sp_line : Sp := fun vs H Q _ => ∃ (a : Addr) (x : Str) (r : List V), vs = [.ref a] ∧ SqT K H a (.str x :: r) ∧ x.length ≤ 100 ∧ (∀ v ∈ r, Wd v) ∧ r.length ≤ 5 ∧ ∀ H', Same H H' → Q (.str (lineS (.str x :: r))) H'
set_option maxHeartbeats 4000000 in
theorem h__law_line (T : Tx K mg w C_Reading) : Has P w K mg base "_law_line" ["_law_row"] 1 (sp_line (K := K)) := by
  refine T.d__law_line.has sc__law_line (fun vs H Q E h => ?_) (fun f cdv A outer s H vs Q E hr h => ?_)
  · obtain ⟨a, x, r, rfl, _⟩ := h; rfl
  · obtain ⟨a, x, r, rfl, ha, hx, hr', hl, k⟩ := h
    refine ⟨_, (pss_cons (ps_set (i := 1) sc__law_line.nd rfl (Or.inl rfl) (pe_ix (ix_tupK K rfl) (pv 0) pe_int (fun _ _ => rfl)))
      (pss_cons (ps_for PassesOwn.never rfl (pi_tupK K rfl (pe_slice (sl_tupK K rfl) (pv 0) (po_some pe_int) po_none)) (pg_name (i := 2) sc__law_line.nd rfl (Or.inl rfl)) (pss_one (ps_set (i := 1) sc__law_line.nd rfl (Or.inl rfl) (pe_op op_add_str (pe_op op_add_str (pv 1) pe_str) (pe_callTy call_strW (by rfl) T.str PyProof.Rows.boot_str (pa_cons (pv 2) pa_nil))))))
      (pss_one (ps_ret (pv 1))))), ?_⟩
    refine ⟨_, rfl, a, _, _, _, rfl, rfl, ha, atI_0, ?_⟩
    refine ⟨_, rfl, _, rfl, a, _, rfl, ha, ?_, fun p hp => ?_⟩
    · rintro ⟨z, _⟩
      unfold HT.sIx at z
      simp at z
    rw [cutV_from1]
    refine ⟨p, rfl, ⟨_, SqT.of upd_same⟩, for_tup (xs := r) (fun i σ H' => ∃ v2, σ = [some (.ref a), some (.str (lineS (.str x :: r.take i))), v2] ∧ H' = upd H p (.tup r))
      ⟨none, by rw [List.take_zero, lineS_one]; rfl, rfl⟩ (fun i σ H' _ h => by obtain ⟨_, _, e⟩ := h; rw [e]; exact SqT.of upd_same) ?_ ?_⟩
    · rintro i v σ H' hv ⟨v2, rfl, rfl⟩
      have hm := hr' v (List.mem_of_getElem? hv)
      have hi := (List.getElem?_eq_some_iff.mp hv).1
      have b1 : (lineS (.str x :: r.take i)).length ≤ 606 := by
        rw [len_lineS]
        refine lineC_len (fun z hz => ?_) (by simp; omega)
        rcases List.mem_cons.mp hz with rfl | hz
        · exact .inl ⟨_, rfl, hx⟩
        · exact hr' z (List.mem_of_mem_take hz)
      have b2 := word_len hm
      rw [co_len] at b2
      refine ⟨_, rfl, _, _, rfl, rfl, ?_, _, rfl, v, rfl, hm, _, _, rfl, rfl, ?_, some v, ?_, rfl⟩
      · exact le_line (by show _ + 1 ≤ 1000; omega)
      · refine le_line ?_
        rw [show ((lineS (.str x :: r.take i)) ++ (Str.ofString " " : Str)).length = (lineS (.str x :: r.take i)).length + 1 by rw [← co_len, co_app, List.length_append, co_len]; rfl]
        omega
      · rw [List.take_add_one, hv]
        show _ = [some (V.ref a), some (V.str (lineS (V.str x :: r.take i ++ [v]))), some v]
        rw [lineS_snoc, ← blank_is]; rfl
    · rintro σ H' ⟨v2, rfl, rfl⟩
      rw [List.take_length]
      exact ⟨_, rfl, k _ (Same.new hp)⟩
/-! ### names and numbers, read -/
theorem all_id_map {l : List Nat} {f : Nat → Bool} : (l.map f).all id = l.all f := by rw [List.all_map]; rfl
/-- c in a text: what a walk over signs finds -/
def inF (sg : Str) : V → V
  | .str z => .bl (!(Builtin.Str.occurrences sg z 0 sg.length 1).isEmpty)
  | _ => .non
theorem filtT (l : List V) : l.filter (fun _ => true) = l := List.filter_eq_self.mpr fun _ _ => rfl
theorem inF_list (x sg : Str) : (((co x).map L2.sg).filter fun _ => true).map (inF sg) = ((co x).map fun c => decide (c ∈ co sg)).map V.bl := by
  rw [filtT, List.map_map, List.map_map]
  apply List.map_congr_left
  intro c _
  show V.bl (!(Builtin.Str.occurrences sg ⟨#[c]⟩ 0 sg.length 1).isEmpty) = V.bl (decide (c ∈ sg.cps.toList))
  rw [StrLaws.found_one]
def sp_made : Sp := fun vs H Q _ => ∃ x sg, vs = [.str x, .str sg] ∧ x.length ≤ 1000 ∧ ∀ H', Same H H' → Q (.bl (mades (co x) sg)) H'
theorem h_is_made_of (T : Tx K mg w C_Reading) : Has P w K mg base "is_made_of" ["text", "signs"] 1 sp_made := by
  refine T.d_is_made_of.has sc_is_made_of (fun vs H Q E h => ?_) (fun f cdv A outer s H vs Q E hr h => ?_)
  · obtain ⟨x, sg, rfl, _⟩ := h; rfl
  · obtain ⟨x, sg, rfl, hl, k⟩ := h
    refine ⟨_, (pss_one (ps_ret (pe_callB (call_allBK K rfl rfl) (by rfl) T.all PyProof.Rows.boot_all (pa_cons (pe_comp (own := ["sign"]) (cap := ["signs"]) (ix := [1]) (osc := defScope (top 16)) rfl ⟨rfl, by decide +kernel, by decide +kernel, by decide +kernel, by decide +kernel⟩ rfl (pi_str (pv 0)) (fun _ _ _ _ => pg_name (i := 0) (show List.Nodup (["sign", "signs"] : List Str) by decide +kernel) rfl (Or.inl rfl)) (fun _ _ _ _ => pif_nil) (fun _ _ _ _ => (pe_cmpR op_in_str (pv 0) (pv 1) (by with_unfolding_all rfl)))) pa_nil)))), ?_⟩
    refine ⟨_, rfl, x, rfl, fun D hD => ?_⟩
    refine comp_pure (fix_str (x := x)) (fun _ => true) (inF sg) (fun _ => trivial) (by rw [List.length_map, co_len]; exact le_line hl) (fun v hv ys Q' q => q) (fun v hv _ ys Q' q => ?_) ?_
    · obtain ⟨c, _, rfl⟩ := List.mem_map.mp hv
      exact ⟨_, rfl, _, rfl, _, _, rfl, rfl, q⟩
    · refine ⟨D, (co x).map fun c => decide (c ∈ co sg), rfl, .inl (.inl ?_), ?_⟩
      · rw [upd_same, inF_list]
      · rw [all_id_map]
        exact k _ (Same.new hD)
def sp_name : Sp := fun vs H Q _ => ∃ x, vs = [.str x] ∧ x.length ≤ 1000 ∧ ∀ H', Same H H' → Q (.bl (nameB x)) H'
theorem h_is_name (T : Tx K mg w C_Reading) : Has P w K mg base "is_name" ["text"] 2 sp_name := by
  refine T.d_is_name.has sc_is_name (fun vs H Q E h => ?_) (fun f cdv A outer s H vs Q E hr h => ?_)
  · obtain ⟨x, rfl, _⟩ := h; rfl
  · obtain ⟨x, rfl, hl, k⟩ := h
    obtain ⟨u_NAME_SIGNS, h_NAME_SIGNS, r_NAME_SIGNS⟩ := T.c_NAME_SIGNS
    obtain ⟨u_LONGEST_NAME, h_LONGEST_NAME, r_LONGEST_NAME⟩ := T.c_LONGEST_NAME
    refine ⟨_, (pss_one (ps_ret (pe_and (pe_chain op_le op_le pe_int (pe_callB call_len_str (by rfl) T.len boot_len (pa_cons (pv 0) pa_nil)) (pe_glob (v := .int 12) (by rfl) h_LONGEST_NAME r_LONGEST_NAME)) (pe_one (pe_fn (h_is_made_of T) (hr.mono (by decide)) (by rfl) (pa_cons (pv 0) (pa_cons (pe_glob (v := .str "abcdefghijklmnopqrstuvwxyz0123456789-") (by rfl) h_NAME_SIGNS r_NAME_SIGNS) pa_nil))))))), ?_⟩
    refine ⟨_, rfl, x, rfl, le_line hl, _, _, rfl, rfl, _, rfl, ?_⟩
    by_cases c1 : 1 ≤ x.length
    · rw [decide_eq_true (show (1 : Int) ≤ (x.length : Int) by omega)]
      refine iteT ⟨_, _, rfl, rfl, _, rfl, ?_⟩
      by_cases c2 : x.length ≤ 12
      · rw [decide_eq_true (show (x.length : Int) ≤ 12 by omega)]
        refine iteT ⟨_, rfl, x, NAMES, rfl, hl, fun H' s' => ?_⟩
        have := k H' s'
        unfold nameB at this
        rw [decide_eq_true c1, decide_eq_true c2] at this
        exact this
      · rw [decide_eq_false (show ¬ (x.length : Int) ≤ 12 by omega)]
        refine iteF ?_
        have := k H (Same.refl H)
        unfold nameB at this
        rw [decide_eq_false c2, Bool.and_false, Bool.false_and] at this
        exact this
    · rw [decide_eq_false (show ¬ (1 : Int) ≤ (x.length : Int) by omega)]
      refine iteF ⟨_, rfl, iteF ?_⟩
      have := k H (Same.refl H)
      unfold nameB at this
      rw [decide_eq_false c1, Bool.false_and, Bool.false_and] at this
      exact this
/-! ### read_number -/
def numV (x : Str) : V := if okNum x = true then .int (numI x) else .non
def sp_num : Sp := fun vs H Q _ => ∃ x, vs = [.str x] ∧ x.length ≤ 1000 ∧ ∀ H', Same H H' → Q (numV x) H'
theorem numV_no {x : Str} (h : okNum x = false) : numV x = .non := by unfold numV; rw [h]; exact if_neg Bool.false_ne_true
theorem numV_yes {x : Str} (h : okNum x = true) : numV x = .int (numI x) := if_pos h
theorem minus_is : (Str.ofString "-" : Str) = ⟨#[45]⟩ := by decide +kernel
theorem zero_is : (Str.ofString "0" : Str) = ⟨#[48]⟩ := by decide +kernel
theorem figs_of_minus {x : Str} (h : (co x).head? = some 45) : figs (co x) = (co x).drop 1 := by
  cases e : co x with
  | nil => rw [e] at h; cases h
  | cons c r =>
    rw [e] at h
    have h : c = 45 := Option.some.inj h
    subst h
    rw [figs_neg]; rfl
theorem figs_of_other {x : Str} (h : ¬ (co x).head? = some 45) : figs (co x) = co x := by
  cases e : co x with
  | nil => rfl
  | cons c r =>
    rw [e] at h
    exact figs_pos r fun z => h (by rw [z]; rfl)
theorem figs_le (l : List Nat) : (figs l).length ≤ l.length := by
  cases l with
  | nil => exact Nat.le_refl _
  | cons c r =>
    by_cases h : c = 45
    · subst h; rw [figs_neg]; exact Nat.le_succ _
    · rw [figs_pos r h]; exact Nat.le_refl _
theorem okNum_len {x : Str} (h : ¬ (1 ≤ (figs (co x)).length ∧ (figs (co x)).length ≤ 60)) : okNum x = false := by
  unfold okNum
  by_cases h1 : 1 ≤ (figs (co x)).length
  · rw [decide_eq_false (fun z => h ⟨h1, z⟩), Bool.and_false, Bool.false_and, Bool.false_and]
  · rw [decide_eq_false h1, Bool.false_and, Bool.false_and, Bool.false_and]
theorem okNum_made {x : Str} (h : mades (figs (co x)) FIGS = false) : okNum x = false := by
  unfold okNum
  rw [h, Bool.and_false, Bool.false_and]
theorem okNum_all {x : Str} (h1 : 1 ≤ (figs (co x)).length) (h2 : (figs (co x)).length ≤ 60) (h3 : mades (figs (co x)) FIGS = true) : okNum x = !(decide ((figs (co x)).head? = some 48) && !decide (x = ZERO)) := by
  unfold okNum
  rw [decide_eq_true h1, decide_eq_true h2, h3]; rfl
theorem h_read_number (T : Tx K mg w C_Reading) : Has P w K mg base "read_number" ["text"] 2 sp_num := by
  refine T.d_read_number.has sc_read_number (fun vs H Q E h => ?_) (fun f cdv A outer s H vs Q E hr h => ?_)
  · obtain ⟨x, rfl, _⟩ := h; rfl
  · obtain ⟨x, rfl, hl, k⟩ := h
    obtain ⟨u_FIGURES, h_FIGURES, r_FIGURES⟩ := T.c_FIGURES
    obtain ⟨u_MOST_FIGURES, h_MOST_FIGURES, r_MOST_FIGURES⟩ := T.c_MOST_FIGURES
    refine ⟨_, (pss_cons (ps_set (i := 1) sc_read_number.nd rfl (Or.inl rfl) (pe_ifExp (pt_val (pe_bmK K rfl PySem.F.plainAttrs_str PySem.F.slot_str_startswith PySem.F.type_str_startswith mt_starts (pv 0) (pa_cons pe_str pa_nil))) (pe_slice sl_str (pv 0) (po_some pe_int) po_none) (pv 0)))
      (pss_cons (ps_if (pt_not (pt_chain op_le op_le pe_int (pe_callB call_len_str (by rfl) T.len boot_len (pa_cons (pv 1) pa_nil)) (pe_glob (v := .int 60) (by rfl) h_MOST_FIGURES r_MOST_FIGURES))) (pss_one (ps_ret pe_non)) pss_nil)
      (pss_cons (ps_if (pt_not (pt_val (pe_fn (h_is_made_of T) (hr.mono (by decide)) (by rfl) (pa_cons (pv 1) (pa_cons (pe_glob (v := .str "0123456789") (by rfl) h_FIGURES r_FIGURES) pa_nil))))) (pss_one (ps_ret pe_non)) pss_nil)
      (pss_cons (ps_if (PW.pt (pw_and (pt_val (pe_bmK K rfl PySem.F.plainAttrs_str PySem.F.slot_str_startswith PySem.F.type_str_startswith mt_starts (pv 1) (pa_cons pe_str pa_nil))) (pw_and1 (pt_cmpR op_ne (pv 0) pe_str (nomark _))))) (pss_one (ps_ret pe_non)) pss_nil)
      (pss_one (ps_ret (pe_callTy call_intT (by rfl) T.int PyProof.Rows.boot_int (pa_cons (pv 0) pa_nil)))))))), ?_⟩
    refine ⟨_, rfl, rfl, x, _, rfl, rfl, _, rfl, ?_⟩
    -- figures: some text y of the figures' codes
    have key : ∀ R : V → Hp → Prop, (∀ y, co y = figs (co x) → R (.str y) H) → (if Txt.startswith x (Str.ofString "-") = true then tSl rSlS (tVar 0) (tPart (tC (.int 1))) tNoPart (start ["text", "figures"] [.str x]) H R else tVar 0 (start ["text", "figures"] [.str x]) H R) := fun R hR => by
      rw [minus_is, starts_one]
      by_cases c : (co x).head? = some 45
      · rw [decide_eq_true c]
        exact iteT ⟨_, rfl, _, rfl, x, rfl, le_line hl, hR _ (by rw [slice_from1, figs_of_minus c])⟩
      · rw [decide_eq_false c]
        exact iteF ⟨_, rfl, hR x (figs_of_other c).symm⟩
    refine key _ fun y hy => ?_
    have hyl : y.length = (figs (co x)).length := by rw [← co_len, hy]
    have hyl2 : y.length ≤ 1000 := by rw [hyl]; exact Nat.le_trans (figs_le _) (by rw [co_len]; exact hl)
    have no : okNum x = false → ∀ H', Same H H' → Q .non H' := fun z H' s' => by
      have := k H' s'
      rw [numV_no z] at this
      exact this
    refine ⟨_, rfl, y, rfl, le_line hyl2, _, _, rfl, rfl, _, rfl, ?_⟩
    by_cases c1 : 1 ≤ y.length
    · rw [decide_eq_true (show (1 : Int) ≤ (y.length : Int) by omega)]
      refine iteT ⟨_, _, rfl, rfl, _, rfl, ?_⟩
      by_cases c2 : y.length ≤ 60
      · rw [decide_eq_true (show (y.length : Int) ≤ 60 by omega)]
        refine iteF ⟨_, rfl, y, FIGS, rfl, hyl2, fun H1 s1 => ⟨_, rfl, ?_⟩⟩
        rw [hy]
        cases c3 : mades (figs (co x)) FIGS with
        | false => exact iteT (no (okNum_made c3) H1 s1)
        | true =>
          refine iteF ⟨_, rfl, rfl, y, _, rfl, rfl, _, rfl, ?_⟩
          have ok := okNum_all (by omega) (by omega) c3
          rw [zero_is, starts_one, hy]
          have fin : okNum x = true → ∀ H', Same H H' → tRet (tCB (fun xs H Q => ∃ x n, xs = [V.str x] ∧ PySem.intText? x = some n ∧ x.length ≤ 640 ∧ Q (.int n) H) (tCons (tVar 0) tNil)) { nx := fun _ H' => Q .non H', rt := Q } [some (.str x), some (.str y)] H' := fun z H' s' => by
            obtain ⟨e1, e2⟩ := int_text z
            refine ⟨_, rfl, x, numI x, rfl, e1, Nat.le_trans e2 (by decide), ?_⟩
            have := k H' s'
            rw [numV_yes z] at this
            exact this
          by_cases c4 : (figs (co x)).head? = some 48
          · rw [decide_eq_true c4] at ok ⊢
            refine iteT ⟨_, rfl, rfl, _, rfl, ?_⟩
            by_cases c5 : x = ZERO
            · rw [decide_eq_true c5] at ok
              rw [decide_eq_true (show V.str x = V.str (⟨#[48]⟩ : Str) by rw [c5]; exact congrArg V.str zero_is)]
              exact iteF (fin ok H1 s1)
            · rw [decide_eq_false c5] at ok
              rw [decide_eq_false (show ¬ V.str x = V.str (⟨#[48]⟩ : Str) from fun z => c5 ((V.str.inj z).trans zero_is.symm))]
              exact iteT (no ok H1 s1)
          · rw [decide_eq_false c4] at ok ⊢
            exact iteF (iteF (fin ok H1 s1))
      · rw [decide_eq_false (show ¬ (y.length : Int) ≤ 60 by omega)]
        exact iteT (no (okNum_len (by omega)) H (Same.refl H))
    · rw [decide_eq_false (show ¬ (1 : Int) ≤ (y.length : Int) by omega)]
      exact iteF ⟨_, rfl, iteT (no (okNum_len (by omega)) H (Same.refl H))⟩
/-! ### words, values, entries -/
def strP : V → Bool
  | .str y => !decide (y = (Str.ofString "" : Str))
  | _ => false
def sp_split : Sp := fun vs H Q _ => ∃ x, vs = [.str x] ∧ x.length ≤ 1000000 ∧ ∀ (D : Addr) (H' : Hp), H D = none → H' D = some (.lst ((Dm.wordsOf x).map V.str)) → Same H H' → Q (.ref D) H'
theorem split_len (x : Str) (h : x.length ≤ 1000000) (y : Str) : (Txt.split x y).length ≤ sizeLine := by
  have := (PyProof.Rows.fact_split x y).2
  exact Nat.le_trans this (Nat.le_trans (show x.length + 2 ≤ 1000002 by omega) (by decide))
theorem big_line {n : Nat} (h : n ≤ 1000000) : n ≤ sizeLine := Nat.le_trans h (by decide)
theorem h_split_words (T : Tx K mg w C_Reading) : Has P w K mg base "split_words" ["line"] 1 sp_split := by
  refine T.d_split_words.has sc_split_words (fun vs H Q E h => ?_) (fun f cdv A outer s H vs Q E hr h => ?_)
  · obtain ⟨x, rfl, _⟩ := h; rfl
  · obtain ⟨x, rfl, hl, k⟩ := h
    refine ⟨_, (pss_one (ps_ret (pe_comp (own := ["word"]) (cap := []) (ix := []) (osc := defScope (top 19)) rfl ⟨rfl, by decide +kernel, by decide +kernel, by decide +kernel, by decide +kernel⟩ rfl (pi_listK K rfl (pe_bmK K rfl PySem.F.plainAttrs_str PySem.F.slot_str_split PySem.F.type_str_split mt_split (pv 0) (pa_cons pe_str pa_nil))) (fun _ _ _ _ => pg_name (i := 0) (show List.Nodup (["word"] : List Str) by decide +kernel) rfl (Or.inl rfl)) (fun _ _ _ _ => pif_one (pt_cmpR op_ne (pv 0) pe_str (nomark _))) (fun _ _ _ _ => (pv 0))))), ?_⟩
    refine ⟨_, rfl, rfl, x, _, rfl, rfl, by decide +kernel, big_line hl, split_len x hl _, fun p hp => ?_⟩
    refine ⟨p, rfl, ⟨_, SqL.of upd_same⟩, fun D hD => ?_⟩
    have npD : p ≠ D := ne_of_none upd_same hD
    refine comp_pure (fix_list (a := p) (K := K) (xs := (Txt.split x (Str.ofString " ")).map V.str)) strP (fun v => v) (fun ys => SqL.of (by rw [upd_ne npD, upd_same])) (by rw [List.length_map]; exact split_len x hl _) (fun v hv ys Q' q => ?_) (fun v hv _ ys Q' q => ?_) ?_
    · obtain ⟨y, _, rfl⟩ := List.mem_map.mp hv
      refine ⟨_, rfl, rfl, _, rfl, ?_⟩
      have e : strP (V.str y) = !decide (V.str y = V.str (Str.ofString "")) := by
        show (!decide (y = (Str.ofString "" : Str))) = _
        congr 1
        exact decide_eq_decide.mpr ⟨fun z => congrArg V.str z, fun z => V.str.inj z⟩
      rw [e] at q
      exact q
    · exact ⟨_, rfl, q⟩
    · refine k D _ ((Same.new hp).free hD) ?_ ((Same.new hp).trans (Same.new hD))
      rw [upd_same, List.map_id', List.filter_map]
      rfl
def sp_passed : Sp := fun vs H Q _ => ∃ (a : Addr) (wl : List Str), vs = [.ref a] ∧ SqL K H a (wl.map V.str) ∧ ∀ H', Same H H' → Q (.bl (passedB wl)) H'
theorem h_is_passed_over (T : Tx K mg w C_Reading) : Has P w K mg base "is_passed_over" ["words"] 1 (sp_passed (K := K)) := by
  refine T.d_is_passed_over.has sc_is_passed_over (fun vs H Q E h => ?_) (fun f cdv A outer s H vs Q E hr h => ?_)
  · obtain ⟨a, wl, rfl, _⟩ := h; rfl
  · obtain ⟨a, wl, rfl, ha, k⟩ := h
    refine ⟨_, (pss_one (ps_ret (pe_or (pe_cmpR (op_eqDK K rfl (hu10 hr)) (pv 0) (pe_lst pa_nil) (nomark _)) (pe_one (pe_bmK K rfl PySem.F.plainAttrs_str PySem.F.slot_str_startswith PySem.F.type_str_startswith mt_starts (pe_ix (ix_listK K rfl) (pv 0) pe_int (fun _ _ => rfl)) (pa_cons pe_str pa_nil)))))), ?_⟩
    refine ⟨_, rfl, by decide, fun e he => ?_⟩
    have s1 := Same.new (o := .lst []) he
    refine ⟨a, e, _, rfl, rfl, DEq.nilL (s1.seq ha) (SqL.of upd_same), _, rfl, ?_⟩
    cases wl with
    | nil => exact iteT (k _ s1)
    | cons y r =>
      refine iteF ⟨_, rfl, a, _, _, _, rfl, rfl, s1.seq ha, atI_0, rfl, y, _, rfl, rfl, k _ s1⟩
/-- a value that a word writes -/
inductive ValOk : Str → V → Prop where
  | name {x : Str} (h : nameB x = true) : ValOk "name" (.str x)
  | year {n : Int} (h : YearOk n) : ValOk "year" (.int n)
  | gap {n : Int} (h0 : 0 ≤ n) (h : YearOk n) : ValOk "gap" (.int n)
def sp_value : Sp := fun vs H Q _ => ∃ (kd : Str) (v r : V), vs = [.str kd, .str (wordS v), r] ∧ ValOk kd v ∧ ∀ H', Same H H' → Q v H'
theorem sne {a b : String} (h : ¬ (Str.ofString a : Str) = Str.ofString b) : decide (V.str (Str.ofString a) = V.str (Str.ofString b)) = false := decide_eq_false fun z => h (V.str.inj z)
theorem h_read_value (T : Tx K mg w C_Reading) : Has P w K mg base "read_value" ["kind", "word", "row"] 3 sp_value := by
  refine T.d_read_value.has sc_read_value (fun vs H Q E h => ?_) (fun f cdv A outer s H vs Q E hr h => ?_)
  · obtain ⟨kd, v, r, rfl, _⟩ := h; rfl
  · obtain ⟨kd, v, r, rfl, hv, k⟩ := h
    refine ⟨_, (pss_cons (ps_if (pt_cmpR op_eq (pv 0) pe_str (nomark _)) (pss_cons (ps_if (pt_not (pt_val (pe_fn (h_is_name T) (hr.mono (by decide)) (by rfl) (pa_cons (pv 1) pa_nil)))) (pss_one ps_never) pss_nil)
        (pss_one (ps_ret (pv 1)))) pss_nil)
      (pss_cons (ps_set (i := 3) sc_read_value.nd rfl (Or.inl rfl) (pe_fn (h_read_number T) (hr.mono (by decide)) (by rfl) (pa_cons (pv 1) pa_nil)))
      (pss_cons (ps_if (PW.pt (pw_or (pt_cmp (pc_isN (pv 3))) (pw_or1 (PW.pt (pw_and (pt_cmpR op_eq (pv 0) pe_str (nomark _)) (pw_and1 (pt_cmpR op_lt (pv 3) pe_int (nomark _)))))))) (pss_one ps_never) pss_nil)
      (pss_one (ps_ret (pv 3)))))), ?_⟩
    cases hv with
    | name h =>
      rename_i x
      have lx := name_le h
      refine ⟨_, rfl, rfl, _, rfl, ?_⟩
      rw [decide_eq_true rfl]
      refine iteT ⟨_, rfl, x, rfl, by omega, fun H1 s1 => ⟨_, rfl, ?_⟩⟩
      rw [h]
      exact iteF ⟨_, rfl, k _ s1⟩
    | year h =>
      rename_i n
      obtain ⟨o1, o2, o3⟩ : okNum (wordS (.int n)) = true ∧ numI (wordS (.int n)) = n ∧ (wordS (.int n)).length ≤ 61 := str_num n h
      refine ⟨_, rfl, rfl, _, rfl, ?_⟩
      rw [sne (by decide +kernel)]
      refine iteF ⟨_, rfl, _, rfl, by omega, fun H1 s1 => ?_⟩
      rw [numV_yes o1, o2]
      refine ⟨_, rfl, _, rfl, ?_⟩
      rw [decide_eq_false (fun z => nomatch z)]
      refine iteF ⟨_, rfl, rfl, _, rfl, ?_⟩
      rw [sne (by decide +kernel)]
      exact iteF (iteF ⟨_, rfl, k _ s1⟩)
    | gap h0 h =>
      rename_i n
      obtain ⟨o1, o2, o3⟩ : okNum (wordS (.int n)) = true ∧ numI (wordS (.int n)) = n ∧ (wordS (.int n)).length ≤ 61 := str_num n h
      refine ⟨_, rfl, rfl, _, rfl, ?_⟩
      rw [sne (by decide +kernel)]
      refine iteF ⟨_, rfl, _, rfl, by omega, fun H1 s1 => ?_⟩
      rw [numV_yes o1, o2]
      refine ⟨_, rfl, _, rfl, ?_⟩
      rw [decide_eq_false (fun z => nomatch z)]
      refine iteF ⟨_, rfl, rfl, _, rfl, ?_⟩
      rw [decide_eq_true rfl]
      refine iteT ⟨_, rfl, _, _, rfl, rfl, _, rfl, ?_⟩
      rw [decide_eq_false (by omega)]
      exact iteF ⟨_, rfl, k _ s1⟩
/-! ### an entry -/
structure EntOk (ws : List V) (kd : Str) (ks : List Str) (vs : List V) : Prop where
  eq : ws = .str kd :: vs
  form : (kd, ks.map V.str) ∈ l_FORMS
  vals : Paired ValOk ks vs
  years : (Str.ofString "year" : Str) ∈ ks → ∃ pre lo hi, vs = pre ++ [.int lo, .int hi] ∧ lo ≤ hi
theorem row_ent {ws : List V} (h : RowOk ws) : ∃ kd ks vs, EntOk ws kd ks vs := by
  cases h with
  | dig hl h1 h2 => exact ⟨"dig", ["year", "year"], _, rfl, by simp [l_FORMS], .cons (.year h1) (.cons (.year h2) .nil), fun _ => ⟨[], _, _, rfl, hl⟩⟩
  | unit hx => exact ⟨"unit", ["name"], _, rfl, by simp [l_FORMS], .cons (.name hx) .nil, fun z => absurd z (by decide +kernel)⟩
  | plain hk hx hy =>
    rename_i kd x y
    refine ⟨kd, ["name", "name"], _, rfl, ?_, .cons (.name hx) (.cons (.name hy) .nil), fun z => absurd z (by decide +kernel)⟩
    unfold KINDS at hk
    simp only [List.mem_cons, List.not_mem_nil, or_false] at hk
    rcases hk with rfl | rfl | rfl | rfl <;> simp [l_FORMS]
  | after hx hy h0 h1 => exact ⟨"after", ["name", "name", "gap"], _, rfl, by simp [l_FORMS], .cons (.name hx) (.cons (.name hy) (.cons (.gap h0 h1) .nil)), fun z => absurd z (by decide +kernel)⟩
  | find hn hx hl h1 h2 => exact ⟨"find", ["name", "name", "year", "year"], _, rfl, by simp [l_FORMS], .cons (.name hn) (.cons (.name hx) (.cons (.year h1) (.cons (.year h2) .nil))), fun _ => ⟨[.str _, .str _], _, _, rfl, hl⟩⟩
theorem val_eq {kd : Str} {v : V} (h : ValOk kd v) : valF (.str kd) (.str (wordS v)) = v := by
  cases h with
  | name h =>
    rename_i x
    show (if (Str.ofString "name" : Str) = Str.ofString "name" then V.str x else V.int (numI x)) = V.str x
    exact if_pos rfl
  | year h =>
    rename_i n
    show (if (Str.ofString "year" : Str) = Str.ofString "name" then V.str (wordS (.int n)) else V.int (numI (Str.ofString (toString n)))) = V.int n
    rw [if_neg (by decide +kernel), (str_num _ h).2.1]
  | gap h0 h =>
    rename_i n
    show (if (Str.ofString "gap" : Str) = Str.ofString "name" then V.str (wordS (.int n)) else V.int (numI (Str.ofString (toString n)))) = V.int n
    rw [if_neg (by decide +kernel), (str_num _ h).2.1]
theorem vals_eq : ∀ {ks : List Str} {vs : List V}, Paired ValOk ks vs → List.zipWith valF (ks.map V.str) (vs.map fun v => V.str (wordS v)) = vs
  | _, _, .nil => rfl
  | _, _, .cons h t => by rw [List.map_cons, List.map_cons, List.zipWith_cons_cons, val_eq h, vals_eq t]
theorem forms_len : ∀ x ∈ l_FORMS, x.2.length ≤ 4 := by decide +kernel
theorem forms_ne : ∀ x ∈ l_FORMS, x.2 ≠ [] := by decide +kernel
theorem mem_keys {kd : Str} {ks : List V} (h : (kd, ks) ∈ l_FORMS) : decide (kd ∈ l_FORMS.map (·.1)) = true := decide_eq_true (List.mem_map.mpr ⟨_, h, rfl⟩)
def sp_entry : Sp := fun vs H Q _ => ∃ (a : Addr) (ws : List V) (r : V), vs = [.ref a, r] ∧ SqL K H a (ws.map fun v => V.str (wordS v)) ∧ RowOk ws ∧ ∀ (p : Addr) (H' : Hp), H p = none → H' p = some (.tup ws) → Same H H' → Q (.ref p) H'
def sp_form : Sp := fun vs H Q _ => ∃ (ad a : Addr) (kd : Str) (ks : List Str) (us : List V) (r : V), vs = [.ref ad, .ref a, r] ∧ (∀ H', SqT K H' ad (ks.map V.str)) ∧ SqL K H a ((V.str kd :: us).map fun v => V.str (wordS v)) ∧
  EntOk (V.str kd :: us) kd ks us ∧ ∀ (p : Addr) (H' : Hp), H p = none → H' p = some (.tup (.str kd :: us)) → Same H H' → Q (.ref p) H'
theorem wd_strs {ks : List Str} (h : ∀ x ∈ ks, x.length ≤ 100) : ∀ v ∈ ks.map V.str, Wd v := by
  intro v hv
  obtain ⟨x, hx, rfl⟩ := List.mem_map.mp hv
  exact .inl ⟨x, rfl, h x hx⟩
theorem forms_short : ∀ x ∈ l_FORMS, ∀ v ∈ x.2, ∀ y, v = V.str y → y.length ≤ 100 := by
  intro x hx v hv y e
  subst e
  simp [l_FORMS] at hx
  rcases hx with rfl | rfl | rfl | rfl | rfl | rfl | rfl | rfl <;> simp at hv <;> (rcases hv with rfl | rfl) <;> decide +kernel
set_option maxHeartbeats 4000000 in
theorem h_read_form (T : Tx K mg w C_Reading) : Has P w K mg base "read_form" ["form", "words", "row"] 4 (sp_form (K := K)) := by
  refine T.d_read_form.has sc_read_form (fun vs H Q E h => ?_) (fun f cdv A outer s H vs Q E hr h => ?_)
  · obtain ⟨ad, a, kd, ks, us, r, rfl, _⟩ := h; rfl
  · obtain ⟨ad, a, kd, ks, vs, r, rfl, kt, ha, ⟨_, hf, hv, hy⟩, k⟩ := h
    refine ⟨_, (pss_cons (ps_if (pt_cmpR op_ne (pe_callB (call_len_seqK K rfl) (by rfl) T.len boot_len (pa_cons (pv 1) pa_nil)) (pe_op op_add (pe_callB (call_len_seqK K rfl) (by rfl) T.len boot_len (pa_cons (pv 0) pa_nil)) pe_int) (nomark _)) (pss_one ps_never) pss_nil)
      (pss_cons (ps_setC (i := 3) (own := ["kind", "word"]) (cap := ["row"]) (ix := [2]) (osc := defScope (top 22)) rfl sc_read_form.nd rfl rfl rfl ⟨rfl, by decide +kernel, by decide +kernel, by decide +kernel, by decide +kernel⟩ rfl (pi_zipK K rfl true false (by rfl) T.zip (pa_cons (pv 0) (pa_cons (pe_slice (sl_listK K rfl) (pv 1) (po_some pe_int) po_none) pa_nil))) (fun _ _ _ _ => pg_tupK (n := 2) K rfl rfl (pgs_cons (pg_name (i := 0) (show List.Nodup (["kind", "word", "row"] : List Str) by decide +kernel) rfl (Or.inl rfl)) (pgs_cons (pg_name (i := 1) (show List.Nodup (["kind", "word", "row"] : List Str) by decide +kernel) rfl (Or.inl rfl)) pgs_nil))) (fun _ _ _ _ => pif_nil) (fun _ _ _ _ => (pe_fn (h_read_value T) (hr.mono (by decide)) (by rfl) (pa_cons (pv 0) (pa_cons (pv 1) (pa_cons (pv 2) pa_nil))))))
      (pss_cons (ps_if (PW.pt (pw_and (pt_cmpR (op_eqDK K rfl (hu10 hr)) (pe_slice (sl_tupW (K := K) rfl) (pv 0) (po_some (pe_un un_neg pe_int)) po_none) (pe_tup (pa_cons pe_str (pa_cons pe_str pa_nil))) (nomark _)) (pw_and1 (pt_cmpR op_gt (pe_ix (ix_listK K rfl) (pv 3) (pe_un un_neg pe_int) (fun _ _ => rfl)) (pe_ix (ix_listK K rfl) (pv 3) (pe_un un_neg pe_int) (fun _ _ => rfl)) (nomark _))))) (pss_one ps_never) pss_nil)
      (pss_one (ps_ret (pe_op (op_catTK K rfl) (pe_tup (pa_cons (pe_ix (ix_listK K rfl) (pv 1) pe_int (fun _ _ => rfl)) pa_nil)) (pe_callTy (call_tuple_ofK K rfl) (by rfl) T.tuple PyProof.Rows.boot_tuple (pa_cons (pv 3) pa_nil)))))))), ?_⟩
    have hl : ks.length = vs.length := Paired.length hv
    have h4 := forms_len _ hf
    have h4 : ks.length ≤ 4 := by simpa using h4
    have hsh : ∀ x ∈ ks, x.length ≤ 100 := fun x hx => forms_short _ hf (.str x) (List.mem_map.mpr ⟨x, hx, rfl⟩) x rfl
    refine ⟨_, rfl, a, _, rfl, .inl ha, _, rfl, ad, _, rfl, .inr (kt H), _, _, rfl, rfl, rfl, _, rfl, ?_⟩
    rw [decide_eq_true (by simp only [List.length_map, List.length_cons]; congr 1; omega)]
    refine iteF ?_
    refine ⟨_, rfl, _, rfl, _, rfl, a, _, rfl, ha, fun p hp => ?_⟩
    have s1 := Same.new (o := .lst (cutV ((V.str kd :: vs).map fun v => V.str (wordS v)) (some 1) none)) hp
    have e1 : upd H p (.lst (cutV ((V.str kd :: vs).map fun v => V.str (wordS v)) (some 1) none)) p = some (.lst (vs.map fun v => V.str (wordS v))) := by rw [upd_same, List.map_cons, cutV_from1]
    generalize upd H p (.lst (cutV ((V.str kd :: vs).map fun v => V.str (wordS v)) (some 1) none)) = H1 at s1 e1
    refine ⟨ad, p, _, _, rfl, kt H1, SqL.of e1, fun D hD => ?_⟩
    refine comp_zip (xs := ks.map V.str) (ys := vs.map fun v => V.str (wordS v)) valF hD (fun H' s => kt H') (fun H' s => s.seq (SqL.of e1)) (by simp only [List.length_map]; exact hl) (le_line (by rw [List.length_map]; omega)) (fun i x y ex ey H' Q' s hQ => ?_) (fun H2 s2 hD2 => ?_)
    · rw [List.getElem?_map] at ex ey
      cases ek : ks[i]? with
      | none => rw [ek] at ex; cases ex
      | some kd' =>
        obtain ⟨v, ev, hkv⟩ := Paired.get' hv ek
        rw [ek] at ex
        rw [ev] at ey
        cases ex
        cases ey
        rw [val_eq hkv] at hQ
        exact ⟨_, rfl, _, rfl, _, rfl, kd', v, r, rfl, hkv, hQ⟩
    rw [vals_eq hv] at hD2
    have q2 := s1.trans s2
    dsimp only [gName]
    refine ifS_same false (fun Q' hQ => ?_) (fun H3 t3 => iteF ?_)
    · have yr : (Str.ofString "year" : Str).length ≤ 100 := by decide +kernel
      have wy : ∀ v ∈ [V.str "year", V.str "year"], Wd v := fun v hv => by
        simp at hv
        subst hv
        exact .inl ⟨_, rfl, yr⟩
      have fin : ∀ (t : Addr) (zs : List V) (H4 : Hp), Same H2 H4 → SqT K H4 t zs → (∀ z ∈ zs, z ∈ ks.map V.str) → ∀ p2, H4 p2 = none → ∃ b, DEq K (upd H4 p2 (.tup [.str "year", .str "year"])) 8 (.ref t) (.ref p2) b ∧ (b = true → (Str.ofString "year" : Str) ∈ ks) := by
        intro t zs H4 s4 ht hz p2 hp2
        have wz : ∀ v ∈ zs, Wd v := fun v hv => wd_strs hsh v (hz v hv)
        refine ⟨_, DEq.flatT (n := 7) ((Same.new hp2).tup ht) (SqT.of upd_same) (fun x hx => (wz x hx).flat) (fun x hx => (wy x hx).flat), fun z => ?_⟩
        rw [eqL_wd wz wy] at z
        have z := of_decide_eq_true z
        have := hz (.str "year") (by rw [z]; simp)
        obtain ⟨x, hx, e⟩ := List.mem_map.mp this
        have e := V.str.inj e
        subst e
        exact hx
      refine ⟨_, rfl, _, rfl, _, rfl, ad, _, rfl, kt H2, fun hw => ?W, fun hw p9 hp9 => ?C⟩
      case' W =>
        obtain ⟨t, et⟩ : ∃ t, t = ad := ⟨_, rfl⟩
        obtain ⟨H4, eH⟩ : ∃ H4, H4 = H2 := ⟨_, rfl⟩
        have s4 : Same H2 H4 := by rw [eH]; exact (Same.refl _)
        have hd4 := s4 _ _ hD2
        have fin := fin t (ks.map V.str) H4 s4 (by rw [et]; exact kt H4) (fun z h => h)
        rw [← eH, ← et]
      case' C =>
        have s4 : Same H2 (upd H2 p9 (.tup (cutV (ks.map V.str) (some (-2)) none))) := Same.new hp9
        have e4 : upd H2 p9 (.tup (cutV (ks.map V.str) (some (-2)) none)) p9 = some (.tup (cutV (ks.map V.str) (some (-2)) none)) := upd_same
        obtain ⟨t, et⟩ : ∃ t, t = p9 := ⟨_, rfl⟩
        rw [← et]
        rw [← et] at e4 s4
        generalize upd H2 t (.tup (cutV (ks.map V.str) (some (-2)) none)) = H4 at s4 e4
        have hd4 := s4 _ _ hD2
        have fin := fin t _ H4 s4 (SqT.of e4) (fun z h => List.mem_of_mem_drop (List.mem_of_mem_take h))
      all_goals
        refine ⟨(by show 2 ≤ sizeLine; decide), fun p2 hp2 => ?_⟩
        obtain ⟨b, hb, hb'⟩ := fin p2 hp2
        have t5 := Same.new (o := .tup [.str "year", .str "year"]) hp2
        refine ⟨t, p2, b, rfl, rfl, hb, _, rfl, ?_⟩
        refine ite2 (fun c => ?_) (fun c => hQ _ (s4.trans t5))
        obtain ⟨pre, lo, hi, rfl, hlo⟩ := hy (hb' c)
        have hd5 := t5 _ _ hd4
        refine ⟨_, rfl, _, rfl, D, _, _, _, rfl, rfl, SqL.of hd5, atI_last2 _ _ _, _, rfl, _, rfl, D, _, _, _, rfl, rfl, SqL.of hd5, atI_last1 _ _ _, _, _, rfl, rfl, _, rfl, ?_⟩
        rw [decide_eq_false (by omega)]
        exact hQ _ (s4.trans t5)
    have hD3 := t3 _ _ hD2
    have q3 := q2.trans t3
    refine ⟨_, rfl, a, _, _, _, rfl, rfl, q3.seq ha, atI_0, (by show 1 ≤ sizeLine; decide), fun p1 hp1 => ?_⟩
    have s3 := Same.new (o := .tup [.str kd]) hp1
    refine ⟨_, rfl, D, _, rfl, .inl ⟨SqL.of (s3 _ _ hD3), fun p2 hp2 => ?_⟩⟩
    have s4 := s3.trans (Same.new (o := .tup vs) hp2)
    refine ⟨p1, p2, _, _, rfl, rfl, SqT.of (Same.new hp2 _ _ upd_same), SqT.of upd_same, by simp, le_line (by show 1 + vs.length ≤ 1000; omega), fun z => ?_, fun _ p3 hp3 => ?_⟩
    · subst z
      have : ks = [] := List.length_eq_zero_iff.mp (by simpa using hl)
      subst this
      exact (forms_ne _ hf rfl).elim
    · exact k p3 _ ((q3.trans s4).free hp3) upd_same ((q3.trans s4).trans (Same.new hp3))
theorem h_read_entry (T : Tx K mg w C_Reading) : Has P w K mg base "read_entry" ["words", "row"] 5 (sp_entry (K := K)) := by
  refine T.d_read_entry.has sc_read_entry (fun vs H Q E h => ?_) (fun f cdv A outer s H vs Q E hr h => ?_)
  · obtain ⟨a, ws, r, rfl, _⟩ := h; rfl
  · obtain ⟨a, ws, r, rfl, ha, hw, k⟩ := h
    obtain ⟨a_FORMS, m_FORMS, k_FORMS⟩ := T.c_FORMS
    refine ⟨_, (pss_cons (ps_if (pt_cmp (pc_knotin k_FORMS (by rfl) m_FORMS (pe_ix (ix_listK K rfl) (pv 0) pe_int (fun _ _ => rfl)))) (pss_one ps_never) pss_nil)
      (pss_one (ps_ret (pe_fn (h_read_form T) (hr.mono (by decide)) (by rfl) (pa_cons (pe_kget k_FORMS (by rfl) m_FORMS (pe_ix (ix_listK K rfl) (pv 0) pe_int (fun _ _ => rfl)) (fun _ _ => rfl)) (pa_cons (pv 0) (pa_cons (pv 1) pa_nil))))))), ?_⟩
    obtain ⟨kd, ks, vs, ent⟩ := row_ent hw
    have hf := ent.form
    have ew := ent.eq
    subst ew
    refine ⟨_, rfl, a, _, _, _, rfl, rfl, ha, atI_0, kd, rfl, _, rfl, ?_⟩
    rw [mem_keys hf]
    refine iteF ?_
    refine ⟨_, rfl, a, _, _, _, rfl, rfl, ha, atI_0, kd, _, rfl, hf, fun ad kt => ?_⟩
    exact ⟨_, rfl, _, rfl, ad, a, kd, ks, vs, r, rfl, fun H' => kt.sq H', ha, ent, k⟩
/-! ### the reading's methods -/
def sp_init : Sp := fun vs H Q _ => ∃ (p dx : Addr), vs = [.ref p] ∧ H p = some (.ins C_Reading dx []) ∧ ∀ (du dt df : Addr) (H' : Hp), H du = none → H dt = none → H df = none → ReadAt C_Reading H' p du dt df ⟨none, [], [], []⟩ → (∀ b o, H b = some o → b ≠ p → H' b = some o) → Q .non H'
theorem m_Reading___init__ (T : Tx K mg w C_Reading) : HasM P w K mg base C_Reading "__init__" ["self"] 1 (sp_init (C_Reading := C_Reading)) := by
  refine T.d_Reading___init__.has sc_Reading___init__ (fun vs H Q E h => ?_) (fun f cdv A outer s H vs Q E hr h => ?_)
  · obtain ⟨p, dx, rfl, _⟩ := h; rfl
  · obtain ⟨p, dx, rfl, hp, k⟩ := h
    refine ⟨_, (pss_cons (ps_fld (pv 0) pe_non rfl)
      (pss_cons (ps_fld (pv 0) pe_dnewK rfl)
      (pss_cons (ps_fld (pv 0) pe_dnewT rfl)
      (pss_one (ps_fld (pv 0) pe_dnewK rfl))))), ?_⟩
    refine ⟨_, rfl, p, C_Reading, dx, [], rfl, hp, T.cl_Reading, T.na_Reading_frame, (by show 0 < 1000; decide), ?_⟩
    intro du hdu
    have n1 : p ≠ du := ne_of_none upd_same hdu
    refine ⟨_, rfl, p, C_Reading, dx, _, rfl, by rw [upd_ne n1, upd_same], T.cl_Reading, T.na_Reading_units, (by show 1 < 1000; decide), ?_⟩
    intro dt hdt
    have n2 : p ≠ dt := ne_of_none upd_same hdt
    refine ⟨_, rfl, p, C_Reading, dx, _, rfl, by rw [upd_ne n2, upd_same], T.cl_Reading, T.na_Reading_ties, ?_, ?_⟩
    · exact Nat.lt_of_le_of_lt (length_putF _ _ _) (by show 1 + 1 < 1000; decide)
    intro df hdf
    have n3 : p ≠ df := ne_of_none upd_same hdf
    refine ⟨_, rfl, p, C_Reading, dx, _, rfl, by rw [upd_ne n3, upd_same], T.cl_Reading, T.na_Reading_finds, ?_, ?_⟩
    · exact Nat.lt_of_le_of_lt (length_putF _ _ _) (Nat.lt_of_le_of_lt (Nat.succ_le_succ (length_putF _ _ _)) (by show 1 + 1 + 1 < 1000; decide))
    have a0 : ∀ {b : Addr} {o : HO} {G : Hp}, upd G p o b = none → b ≠ p → G b = none := fun h n => by rwa [upd_ne n] at h
    have f1 : H du = none := a0 hdu n1.symm
    have e1 : upd (upd (upd H p (.ins C_Reading dx (putF "frame" .non []))) du (.dK [])) p (.ins C_Reading dx (putF "units" (.ref du) (putF "frame" .non []))) du = some (.dK []) := by rw [upd_ne n1.symm, upd_same]
    have nut : du ≠ dt := ne_of_none e1 hdt
    have f2 : H dt = none := by
      have := a0 hdt n2.symm
      rw [upd_ne nut.symm] at this
      exact a0 this n2.symm
    have e2 := ne_of_none (H := upd (upd (upd (upd (upd H p (.ins C_Reading dx (putF "frame" .non []))) du (.dK [])) p (.ins C_Reading dx (putF "units" (.ref du) (putF "frame" .non [])))) dt (.dT [])) p (.ins C_Reading dx (putF "ties" (.ref dt) (putF "units" (.ref du) (putF "frame" .non []))))) (a := dt) (b := df) (o := .dT []) (by rw [upd_ne n2.symm, upd_same]) hdf
    have e3 := ne_of_none (H := upd (upd (upd (upd (upd H p (.ins C_Reading dx (putF "frame" .non []))) du (.dK [])) p (.ins C_Reading dx (putF "units" (.ref du) (putF "frame" .non [])))) dt (.dT [])) p (.ins C_Reading dx (putF "ties" (.ref dt) (putF "units" (.ref du) (putF "frame" .non []))))) (a := du) (b := df) (o := .dK []) (by rw [upd_ne n1.symm, upd_ne nut, e1]) hdf
    have f3 : H df = none := by
      have := a0 hdf n3.symm
      rw [upd_ne e2.symm] at this
      have := a0 this n3.symm
      rw [upd_ne e3.symm] at this
      exact a0 this n3.symm
    refine k du dt df _ f1 f2 f3 ⟨⟨dx, .non, ?_, rfl⟩, ?_, ?_, ⟨[], .nil, ?_⟩, e3, (fun _ h => nomatch h), (fun _ h => nomatch h)⟩ fun b o e hb => ?_
    · rw [upd_same, rfl4_make]
    · rw [upd_ne n1.symm, upd_ne e3, upd_ne n1.symm, upd_ne nut, e1]; rfl
    · rw [upd_ne n2.symm, upd_ne e2, upd_ne n2.symm, upd_same]; rfl
    · rw [upd_ne n3.symm, upd_same]; rfl
    · rw [upd_ne hb, upd_ne (ne_of_none e f3), upd_ne hb, upd_ne (ne_of_none e f2), upd_ne hb, upd_ne (ne_of_none e f1), upd_ne hb]
      exact e
def sp_need : Sp := fun vs H Q _ => ∃ (p du dt df : Addr) (s : RS) (x : Str) (r : V), vs = [.ref p, .str x, r] ∧ ReadAt C_Reading H p du dt df s ∧ x ∈ s.us ∧ Q .non H
theorem m_Reading_need_unit (T : Tx K mg w C_Reading) : HasM P w K mg base C_Reading "need_unit" ["self", "name", "row"] 1 (sp_need (C_Reading := C_Reading)) := by
  refine T.d_Reading_need_unit.has sc_Reading_need_unit (fun vs H Q E h => ?_) (fun f cdv A outer s H vs Q E hr h => ?_)
  · obtain ⟨p, du, dt, df, st, x, r, rfl, _⟩ := h; rfl
  · obtain ⟨p, du, dt, df, st, x, r, rfl, R, hx, k⟩ := h
    have hu := hu_of hr
    refine ⟨_, (pss_one (ps_if (pt_cmp (pc_dnotin hu (pv 1) (pe_fld (pv 0) rfl))) (pss_one ps_never) pss_nil)), ?_⟩
    obtain ⟨dx, fv, h1, _⟩ := R.ob
    refine ⟨_, rfl, _, rfl, p, C_Reading, dx, _, _, rfl, h1, T.cl_Reading, T.na_Reading_units, rfl4_u _ _ _ _, du, _, rfl, DGet.k (k := Sum.inr x) R.u, _, rfl, ?_⟩
    rw [valV_some' (dU_mem.mpr hx)]
    exact iteF k
theorem readAt_u {H : Hp} {p du dt df : Addr} {s : RS} {x : Str} (R : ReadAt C_Reading H p du dt df s) (hx : nameB x = true) (hn : x ∉ s.us) : ReadAt C_Reading (upd H du (.dK (putK (dU s.us) (Sum.inr x : Key) (.bl true)))) p du dt df ⟨s.fr, s.us ++ [x], s.ts, s.fs⟩ := by
  obtain ⟨dx, fv, h1, h2⟩ := R.ob
  obtain ⟨af, ht, hf⟩ := R.f
  have st : ∀ b xs, H b = some (.tup xs) → upd H du (.dK (putK (dU s.us) (Sum.inr x : Key) (.bl true))) b = some (.tup xs) := fun b xs e => by
    rw [upd_ne (ne_of e R.u (by intro z; cases z))]; exact e
  rw [dU_snoc hn] at st ⊢
  refine ⟨⟨dx, fv, ?_, h2.stay st⟩, upd_same, ?_, ⟨af, ht.stay st, ?_⟩, R.nu, fun y hy => ?_, R.ties⟩
  · rw [upd_ne (ne_of h1 R.u (by intro z; cases z))]; exact h1
  · rw [upd_ne (ne_of R.t R.u (by intro z; cases z))]; exact R.t
  · rw [upd_ne R.nu.symm]; exact hf
  · rcases List.mem_append.mp hy with hy | hy
    · exact R.names y hy
    · rw [List.mem_singleton] at hy; subst hy; exact hx
theorem small_of {n : Nat} (h : n ≤ 1000) : n < sizeLine := small1000 h
def sp_tunit : Sp := fun vs H Q _ => ∃ (p du dt df : Addr) (s : RS) (x : Str) (r : V), vs = [.ref p, .str x, r] ∧ ReadAt C_Reading H p du dt df s ∧ nameB x = true ∧ x ∉ s.us ∧ s.us.length ≤ 1000 ∧
  ∀ H', ReadAt C_Reading H' p du dt df ⟨s.fr, s.us ++ [x], s.ts, s.fs⟩ → Keep4 H H' p du dt df → Q .non H'
theorem m_Reading_take_unit (T : Tx K mg w C_Reading) : HasM P w K mg base C_Reading "take_unit" ["self", "name", "row"] 1 (sp_tunit (C_Reading := C_Reading)) := by
  refine T.d_Reading_take_unit.has sc_Reading_take_unit (fun vs H Q E h => ?_) (fun f cdv A outer s H vs Q E hr h => ?_)
  · obtain ⟨p, du, dt, df, st, x, r, rfl, _⟩ := h; rfl
  · obtain ⟨p, du, dt, df, st, x, r, rfl, R, hx, hn, hl, k⟩ := h
    have hu := hu_of hr
    refine ⟨_, (pss_cons (ps_if (pt_cmp (pc_din hu (pv 1) (pe_fld (pv 0) rfl))) (pss_one ps_never) pss_nil)
      (pss_one (ps_dput hu (pe_fld (pv 0) rfl) (pv 1) pe_bl rfl))), ?_⟩
    obtain ⟨dx, fv, h1, _⟩ := R.ob
    refine ⟨_, rfl, _, rfl, p, C_Reading, dx, _, _, rfl, h1, T.cl_Reading, T.na_Reading_units, rfl4_u _ _ _ _, du, _, rfl, DGet.k (k := Sum.inr x) R.u, _, rfl, ?_⟩
    rw [valV_none' (fun z => hn (dU_mem.mp z))]
    refine iteF ⟨_, rfl, p, C_Reading, dx, _, _, rfl, h1, T.cl_Reading, T.na_Reading_units, rfl4_u _ _ _ _, _, rfl, du, _, rfl, DPut.k (k := Sum.inr x) R.u ?_, ?_⟩
    · unfold dU
      rw [List.length_map]
      exact small_of hl
    · exact k _ (readAt_u R hx hn) fun b o e b1 b2 b3 b4 => by rw [upd_ne b2]; exact e
def sp_ttie : Sp := fun vs H Q _ => ∃ (p du dt df a : Addr) (s : RS) (ws : List V) (r : V), vs = [.ref p, .ref a, r] ∧ ReadAt C_Reading H p du dt df s ∧ H a = some (.tup ws) ∧ TieOk s.us ws ∧ ws ∉ s.ts ∧ s.ts.length ≤ 1000 ∧
  ∀ H', ReadAt C_Reading H' p du dt df ⟨s.fr, s.us, s.ts ++ [ws], s.fs⟩ → Keep4 H H' p du dt df → Q .non H'
theorem readAt_t {H : Hp} {p du dt df : Addr} {s : RS} {ws : List V} (R : ReadAt C_Reading H p du dt df s) (hw : ∀ v ∈ ws, Wd v) (hn : ws ∉ s.ts) : ReadAt C_Reading (upd H dt (.dT (putK (dTi s.ts) (ws.map kW) (.bl true)))) p du dt df ⟨s.fr, s.us, s.ts ++ [ws], s.fs⟩ := by
  obtain ⟨dx, fv, h1, h2⟩ := R.ob
  obtain ⟨af, ht, hf⟩ := R.f
  have st : ∀ b xs, H b = some (.tup xs) → upd H dt (.dT (putK (dTi s.ts) (ws.map kW) (.bl true))) b = some (.tup xs) := fun b xs e => by
    rw [upd_ne (ne_of e R.t (by intro z; cases z))]; exact e
  rw [dTi_snoc R.ties hw hn] at st ⊢
  refine ⟨⟨dx, fv, ?_, h2.stay st⟩, ?_, upd_same, ⟨af, ht.stay st, ?_⟩, R.nu, R.names, fun y hy => ?_⟩
  · rw [upd_ne (ne_of h1 R.t (by intro z; cases z))]; exact h1
  · rw [upd_ne (ne_of R.u R.t (by intro z; cases z))]; exact R.u
  · rw [upd_ne (ne_of hf R.t (by intro z; cases z))]; exact hf
  · rcases List.mem_append.mp hy with hy | hy
    · exact R.ties y hy
    · rw [List.mem_singleton] at hy; subst hy; exact hw
theorem tie_parts {us : List Str} {ws : List V} (h : TieOk us ws) : ∃ kd x y, x ∈ us ∧ y ∈ us ∧ atI ws 0 = some (.str kd) ∧ atI ws 1 = some (.str x) ∧ atI ws 2 = some (.str y) ∧ kd ∉ ([Str.ofString "dig", Str.ofString "unit", Str.ofString "find"] : List Str) := by
  cases h with
  | plain hk hx hy =>
    refine ⟨_, _, _, hx, hy, rfl, rfl, rfl, ?_⟩
    unfold KINDS at hk
    simp only [List.mem_cons, List.not_mem_nil, or_false] at hk
    rcases hk with rfl | rfl | rfl | rfl <;> decide +kernel
  | after hx hy h0 h1 => exact ⟨_, _, _, hx, hy, rfl, rfl, rfl, by decide +kernel⟩
theorem m_Reading_take_tie (T : Tx K mg w C_Reading) : HasM P w K mg base C_Reading "take_tie" ["self", "tie", "row"] 2 (sp_ttie (C_Reading := C_Reading)) := by
  refine T.d_Reading_take_tie.has sc_Reading_take_tie (fun vs H Q E h => ?_) (fun f cdv A outer s H vs Q E hr h => ?_)
  · obtain ⟨p, du, dt, df, a, st, ws, r, rfl, _⟩ := h; rfl
  · obtain ⟨p, du, dt, df, a, st, ws, r, rfl, R, ha, ht, hn, hl, k⟩ := h
    have hu := hu_of hr
    refine ⟨_, (pss_cons (ps_if (pt_cmp (pc_din hu (pv 1) (pe_fld (pv 0) rfl))) (pss_one ps_never) pss_nil)
      (pss_cons (ps_expr (pe_mth (m_Reading_need_unit T) T.cl_Reading (hr.mono (by decide)) (pv 0) (pa_cons (pe_ix (ix_tupK K rfl) (pv 1) pe_int (fun _ _ => rfl)) (pa_cons (pv 2) pa_nil))))
      (pss_cons (ps_expr (pe_mth (m_Reading_need_unit T) T.cl_Reading (hr.mono (by decide)) (pv 0) (pa_cons (pe_ix (ix_tupK K rfl) (pv 1) pe_int (fun _ _ => rfl)) (pa_cons (pv 2) pa_nil))))
      (pss_one (ps_dput hu (pe_fld (pv 0) rfl) (pv 1) pe_bl rfl))))), ?_⟩
    obtain ⟨dx, fv, h1, _⟩ := R.ob
    have hw := (ht.words R.names).1
    have ha' : H a = some (.tup ((ws.map kW).map kV)) := by rw [kV_map hw]; exact ha
    obtain ⟨kd, x, y, hx, hy, i0, i1, i2, _⟩ := tie_parts ht
    refine ⟨_, rfl, _, rfl, p, C_Reading, dx, _, _, rfl, h1, T.cl_Reading, T.na_Reading_ties, rfl4_t _ _ _ _, dt, _, rfl, DGet.t R.t ha', _, rfl, ?_⟩
    rw [valV_none' (fun z => hn ((dTi_mem R.ties hw).mp z))]
    refine iteF ⟨_, rfl, p, dx, _, rfl, h1, rfl4_no _ _ _ _ (by decide +kernel), _, rfl, a, _, _, _, rfl, rfl, SqT.of ha, i1, _, rfl, p, du, dt, df, st, x, r, rfl, R, hx, ?_⟩
    refine ⟨_, rfl, p, dx, _, rfl, h1, rfl4_no _ _ _ _ (by decide +kernel), _, rfl, a, _, _, _, rfl, rfl, SqT.of ha, i2, _, rfl, p, du, dt, df, st, y, r, rfl, R, hy, ?_⟩
    refine ⟨_, rfl, p, C_Reading, dx, _, _, rfl, h1, T.cl_Reading, T.na_Reading_ties, rfl4_t _ _ _ _, _, rfl, dt, _, rfl, DPut.t R.t ha' ?_, ?_⟩
    · unfold dTi
      rw [List.length_map]
      exact small_of hl
    · exact k _ (readAt_t R hw hn) fun b o e b1 b2 b3 b4 => by rw [upd_ne b3]; exact e
def sp_tfind : Sp := fun vs H Q _ => ∃ (p du dt df a : Addr) (s : RS) (ws : List V) (r : V), vs = [.ref p, .ref a, r] ∧ ReadAt C_Reading H p du dt df s ∧ H a = some (.tup ws) ∧ FindOk s.us s.fs ws ∧ (∀ f ∈ s.fs, ∃ x r, f = V.str x :: r) ∧ s.fs.length ≤ 1000 ∧
  ∀ H', ReadAt C_Reading H' p du dt df ⟨s.fr, s.us, s.ts, s.fs ++ [ws]⟩ → Keep4 H H' p du dt df → Q .non H'
theorem m_Reading_take_find (T : Tx K mg w C_Reading) : HasM P w K mg base C_Reading "take_find" ["self", "find", "row"] 2 (sp_tfind (C_Reading := C_Reading)) := by
  refine T.d_Reading_take_find.has sc_Reading_take_find (fun vs H Q E h => ?_) (fun f cdv A outer s H vs Q E hr h => ?_)
  · obtain ⟨p, du, dt, df, a, st, ws, r, rfl, _⟩ := h; rfl
  · obtain ⟨p, du, dt, df, a, st, ws, r, rfl, R, ha, ht, hfs, hl, k⟩ := h
    have hu := hu_of hr
    refine ⟨_, (pss_cons (ps_if (pt_cmp (pc_din hu (pe_ix (ix_tupK K rfl) (pv 1) pe_int (fun _ _ => rfl)) (pe_fld (pv 0) rfl))) (pss_one ps_never) pss_nil)
      (pss_cons (ps_expr (pe_mth (m_Reading_need_unit T) T.cl_Reading (hr.mono (by decide)) (pv 0) (pa_cons (pe_ix (ix_tupK K rfl) (pv 1) pe_int (fun _ _ => rfl)) (pa_cons (pv 2) pa_nil))))
      (pss_one (ps_dput hu (pe_fld (pv 0) rfl) (pe_ix (ix_tupK K rfl) (pv 1) pe_int (fun _ _ => rfl)) (pv 1) rfl)))), ?_⟩
    obtain ⟨dx, fv, h1, h2⟩ := R.ob
    obtain ⟨af, htf, hf⟩ := R.f
    cases ht with
    | mk hn hx hlo y1 y2 hfr =>
      rename_i nm x lo hi
      obtain ⟨e1, e2⟩ := dF_snoc (p := a) (ws := [.str nm, .str x, .int lo, .int hi]) htf.len hfr ⟨_, rfl⟩ hfs
      refine ⟨_, rfl, a, _, _, _, rfl, rfl, SqT.of ha, rfl, _, rfl, p, C_Reading, dx, _, _, rfl, h1, T.cl_Reading, T.na_Reading_finds, rfl4_i _ _ _ _, df, _, rfl, DGet.k (k := Sum.inr nm) hf, _, rfl, ?_⟩
      rw [e1]
      refine iteF ⟨_, rfl, p, dx, _, rfl, h1, rfl4_no _ _ _ _ (by decide +kernel), _, rfl, a, _, _, _, rfl, rfl, SqT.of ha, rfl, _, rfl, p, du, dt, df, st, x, r, rfl, R, hx, ?_⟩
      refine ⟨_, rfl, _, rfl, p, C_Reading, dx, _, _, rfl, h1, T.cl_Reading, T.na_Reading_finds, rfl4_i _ _ _ _, _, rfl, a, _, _, _, rfl, rfl, SqT.of ha, rfl, df, _, rfl, DPut.k (k := Sum.inr nm) hf ?_, ?_⟩
      · unfold dF
        rw [List.length_zip, List.length_map]
        exact small_of (Nat.le_trans (Nat.min_le_left _ _) hl)
      · have st' : ∀ b xs, H b = some (.tup xs) → upd H df (.dK (putK (dF st.fs af) (Sum.inr nm : Key) (.ref a))) b = some (.tup xs) := fun b xs e => by
          rw [upd_ne (ne_of e hf (by intro z; cases z))]; exact e
        refine k _ ⟨⟨dx, fv, ?_, h2.stay st'⟩, ?_, ?_, ⟨af ++ [a], (htf.stay st').snoc (st' _ _ ha), ?_⟩, R.nu, R.names, R.ties⟩ fun b o e b1 b2 b3 b4 => by rw [upd_ne b4]; exact e
        · rw [upd_ne (ne_of h1 hf (by intro z; cases z))]; exact h1
        · rw [upd_ne R.nu]; exact R.u
        · rw [upd_ne (ne_of R.t hf (by intro z; cases z))]; exact R.t
        · rw [upd_same, e2]
/-- finds begin with their names -/
def FsOk (s : RS) : Prop := (∀ f ∈ s.fs, ∃ x r, f = V.str x :: r) ∧ s.us.length ≤ 1000 ∧ s.ts.length ≤ 1000 ∧ s.fs.length ≤ 1000
def sp_tentry : Sp := fun vs H Q _ => ∃ (p du dt df a : Addr) (s s' : RS) (ws : List V) (r : V), vs = [.ref p, .ref a, r] ∧ ReadAt C_Reading H p du dt df s ∧ H a = some (.tup ws) ∧ StepOk s ws s' ∧ FsOk s ∧
  ∀ H', ReadAt C_Reading H' p du dt df s' → Keep4 H H' p du dt df → Q .non H'
theorem seq_str {a b : String} (h : (Str.ofString a : Str) = Str.ofString b) : decide (V.str (Str.ofString a) = V.str (Str.ofString b)) = true := decide_eq_true (congrArg V.str h)
theorem cut1 {x : V} {xs : List V} : ¬ (HT.sIx (x :: xs).length 0 (some 1) = 0 ∧ HT.sIx (x :: xs).length (x :: xs).length none = (x :: xs).length) := by
  rintro ⟨z, _⟩
  unfold HT.sIx at z
  simp at z
set_option maxHeartbeats 1000000 in
theorem m_Reading_take_entry (T : Tx K mg w C_Reading) : HasM P w K mg base C_Reading "take_entry" ["self", "entry", "row"] 3 (sp_tentry (C_Reading := C_Reading)) := by
  refine T.d_Reading_take_entry.has sc_Reading_take_entry (fun vs H Q E h => ?_) (fun f cdv A outer s H vs Q E hr h => ?_)
  · obtain ⟨p, du, dt, df, a, st, st', ws, r, rfl, _⟩ := h; rfl
  · obtain ⟨p, du, dt, df, a, st, st', ws, r, rfl, R, ha, ht, hfs, k⟩ := h
    refine ⟨_, (pss_one (ps_if (pt_cmpR op_eq (pe_ix (ix_tupK K rfl) (pv 1) pe_int (fun _ _ => rfl)) pe_str (nomark _)) (pss_one (ps_fld (pv 0) (pe_slice (sl_tupK K rfl) (pv 1) (po_some pe_int) po_none) rfl)) (pss_one (ps_if (pt_cmpR op_eq (pe_ix (ix_tupK K rfl) (pv 1) pe_int (fun _ _ => rfl)) pe_str (nomark _)) (pss_one (ps_expr (pe_mth (m_Reading_take_unit T) T.cl_Reading (hr.mono (by decide)) (pv 0) (pa_cons (pe_ix (ix_tupK K rfl) (pv 1) pe_int (fun _ _ => rfl)) (pa_cons (pv 2) pa_nil))))) (pss_one (ps_if (pt_cmpR op_eq (pe_ix (ix_tupK K rfl) (pv 1) pe_int (fun _ _ => rfl)) pe_str (nomark _)) (pss_one (ps_expr (pe_mth (m_Reading_take_find T) T.cl_Reading (hr.mono (by decide)) (pv 0) (pa_cons (pe_slice (sl_tupK K rfl) (pv 1) (po_some pe_int) po_none) (pa_cons (pv 2) pa_nil))))) (pss_one (ps_expr (pe_mth (m_Reading_take_tie T) T.cl_Reading (hr.mono (by decide)) (pv 0) (pa_cons (pv 1) (pa_cons (pv 2) pa_nil))))))))))), ?_⟩
    obtain ⟨dx, fv, h1, h2⟩ := R.ob
    cases ht with
    | dig hl y1 y2 =>
      rename_i us0 ts0 fs0 lo hi
      refine ⟨_, rfl, a, _, _, _, rfl, rfl, SqT.of ha, rfl, rfl, _, rfl, ?_⟩
      rw [seq_str rfl]
      refine iteT ⟨_, rfl, _, rfl, a, _, rfl, SqT.of ha, cut1, fun q hq => ?_⟩
      rw [cutV_from1]
      have s1 := Same.new (o := .tup [V.int lo, V.int hi]) hq
      refine ⟨_, rfl, p, C_Reading, dx, _, rfl, s1 _ _ h1, T.cl_Reading, T.na_Reading_frame, (by show 4 < 1000; decide), ?_⟩
      have R1 := R.same s1
      have st'' : ∀ b xs o, upd H q (.tup [V.int lo, V.int hi]) b = some (.tup xs) → upd (upd H q (.tup [V.int lo, V.int hi])) p (.ins C_Reading dx o) b = some (.tup xs) := fun b xs o e => by
        rw [upd_ne (ne_of e (s1 _ _ h1) (by intro z; cases z))]; exact e
      obtain ⟨af, htf, hf⟩ := R1.f
      refine k _ ⟨⟨dx, .ref q, ?_, q, rfl, st'' _ _ _ upd_same⟩, ?_, ?_, ⟨af, htf.stay fun b xs e => st'' b xs _ e, ?_⟩, R.nu, R.names, R.ties⟩ fun b o e b1 b2 b3 b4 => ?_
      · rw [upd_same, rfl4_frame]
      · rw [upd_ne (ne_of R1.u (s1 _ _ h1) (by intro z; cases z))]; exact R1.u
      · rw [upd_ne (ne_of R1.t (s1 _ _ h1) (by intro z; cases z))]; exact R1.t
      · rw [upd_ne (ne_of hf (s1 _ _ h1) (by intro z; cases z))]; exact hf
      · rw [upd_ne b1]; exact s1 _ _ e
    | unit hx hn =>
      refine ⟨_, rfl, a, _, _, _, rfl, rfl, SqT.of ha, rfl, rfl, _, rfl, ?_⟩
      rw [sne (by decide +kernel)]
      refine iteF ⟨_, rfl, a, _, _, _, rfl, rfl, SqT.of ha, rfl, rfl, _, rfl, ?_⟩
      rw [seq_str rfl]
      exact iteT ⟨_, rfl, p, dx, _, rfl, h1, rfl4_no _ _ _ _ (by decide +kernel), _, rfl, a, _, _, _, rfl, rfl, SqT.of ha, rfl, _, rfl, p, du, dt, df, _, _, r, rfl, R, hx, hn, hfs.2.1, k⟩
    | tie ht hn =>
      obtain ⟨kd, x, y, hx, hy, i0, i1, i2, hk⟩ := tie_parts ht
      simp only [List.mem_cons, List.not_mem_nil, or_false, not_or] at hk
      refine ⟨_, rfl, a, _, _, _, rfl, rfl, SqT.of ha, i0, rfl, _, rfl, ?_⟩
      rw [decide_eq_false (fun z => hk.1 (V.str.inj z))]
      refine iteF ⟨_, rfl, a, _, _, _, rfl, rfl, SqT.of ha, i0, rfl, _, rfl, ?_⟩
      rw [decide_eq_false (fun z => hk.2.1 (V.str.inj z))]
      refine iteF ⟨_, rfl, a, _, _, _, rfl, rfl, SqT.of ha, i0, rfl, _, rfl, ?_⟩
      rw [decide_eq_false (fun z => hk.2.2 (V.str.inj z))]
      exact iteF ⟨_, rfl, p, dx, _, rfl, h1, rfl4_no _ _ _ _ (by decide +kernel), _, rfl, _, rfl, p, du, dt, df, a, _, _, r, rfl, R, ha, ht, hn, hfs.2.2.1, k⟩
    | find hf =>
      refine ⟨_, rfl, a, _, _, _, rfl, rfl, SqT.of ha, atI_0, rfl, _, rfl, ?_⟩
      rw [sne (by decide +kernel)]
      refine iteF ⟨_, rfl, a, _, _, _, rfl, rfl, SqT.of ha, atI_0, rfl, _, rfl, ?_⟩
      rw [sne (by decide +kernel)]
      refine iteF ⟨_, rfl, a, _, _, _, rfl, rfl, SqT.of ha, atI_0, rfl, _, rfl, ?_⟩
      rw [seq_str rfl]
      refine iteT ⟨_, rfl, p, dx, _, rfl, h1, rfl4_no _ _ _ _ (by decide +kernel), _, rfl, _, rfl, a, _, rfl, SqT.of ha, cut1, fun q hq => ?_⟩
      rw [cutV_from1]
      rename_i f0 us0 ts0 fs0 ws0
      have s1 := Same.new (o := .tup ws0) hq
      exact ⟨_, rfl, p, du, dt, df, q, _, ws0, r, rfl, R.same s1, upd_same, hf, hfs.1, hfs.2.2.2, fun H' R' kp => k H' R' ((Same.keep4 s1).trans kp)⟩
def sp_twords : Sp := fun vs H Q _ => ∃ (p du dt df a : Addr) (s s' : RS) (ws : List V) (r : V), vs = [.ref p, .ref a, r] ∧ ReadAt C_Reading H p du dt df s ∧ SqL K H a (ws.map fun v => V.str (wordS v)) ∧ StepOk s ws s' ∧ FsOk s ∧
  ∀ H', ReadAt C_Reading H' p du dt df s' → Keep4 H H' p du dt df → Q .non H'
theorem step_first {s s' : RS} {ws : List V} (h : StepOk s ws s') : ∃ kd r, ws = .str kd :: r ∧ decide (kd = (Str.ofString "dig" : Str)) = s.fr.isNone := by
  cases h with
  | dig hl y1 y2 => exact ⟨_, _, rfl, by show decide _ = true; decide +kernel⟩
  | unit hx hn => exact ⟨_, _, rfl, by show decide _ = false; decide +kernel⟩
  | tie ht hn =>
    cases ht with
    | plain hk hx hy =>
      refine ⟨_, _, rfl, ?_⟩
      unfold KINDS at hk
      simp only [List.mem_cons, List.not_mem_nil, or_false] at hk
      rcases hk with rfl | rfl | rfl | rfl <;> (show decide _ = false; decide +kernel)
    | after hx hy h0 h1 => exact ⟨_, _, rfl, by show decide _ = false; decide +kernel⟩
  | find hf => exact ⟨_, _, rfl, by show decide _ = false; decide +kernel⟩
theorem m_Reading_take_words (T : Tx K mg w C_Reading) : HasM P w K mg base C_Reading "take_words" ["self", "words", "row"] 6 (sp_twords (K := K) (C_Reading := C_Reading)) := by
  refine T.d_Reading_take_words.has sc_Reading_take_words (fun vs H Q E h => ?_) (fun f cdv A outer s H vs Q E hr h => ?_)
  · obtain ⟨p, du, dt, df, a, st, st', ws, r, rfl, _⟩ := h; rfl
  · obtain ⟨p, du, dt, df, a, st, st', ws, r, rfl, R, ha, ht, hfs, k⟩ := h
    refine ⟨_, (pss_cons (ps_if (pt_cmpR op_ne (pe_cmpR op_eq (pe_ix (ix_listK K rfl) (pv 1) pe_int (fun _ _ => rfl)) pe_str (nomark _)) (pe_cmp (pc_isN (pe_fld (pv 0) rfl))) (nomark _)) (pss_one ps_never) pss_nil)
      (pss_one (ps_expr (pe_mth (m_Reading_take_entry T) T.cl_Reading (hr.mono (by decide)) (pv 0) (pa_cons (pe_fn (h_read_entry T) (hr.mono (by decide)) (by rfl) (pa_cons (pv 1) (pa_cons (pv 2) pa_nil))) (pa_cons (pv 2) pa_nil)))))), ?_⟩
    obtain ⟨dx, fv, h1, h2⟩ := R.ob
    obtain ⟨kd, rest, rfl, hd⟩ := step_first ht
    have row := (ht.row R.names).1
    refine ⟨_, rfl, a, _, _, _, rfl, rfl, ha, atI_0, rfl, _, rfl, p, C_Reading, dx, _, _, rfl, h1, T.cl_Reading, T.na_Reading_frame, rfl4_f _ _ _ _, rfl, _, rfl, ?_⟩
    have e1 : decide (V.str (wordS (.str kd)) = V.str (Str.ofString "dig")) = decide (kd = (Str.ofString "dig" : Str)) := decide_eq_decide.mpr ⟨fun z => V.str.inj z, fun z => congrArg V.str z⟩
    have e2 : decide (fv = .non) = st.fr.isNone := by
      cases q : st.fr with
      | none => rw [q] at h2; rw [show fv = V.non from h2]; rfl
      | some f =>
        rw [q] at h2
        obtain ⟨pp, e, _⟩ := h2
        rw [e]; rfl
    rw [e1, e2, hd, decide_eq_true rfl]
    refine iteF ⟨_, rfl, p, dx, _, rfl, h1, rfl4_no _ _ _ _ (by decide +kernel), _, rfl, _, rfl, a, _, r, rfl, ha, row, fun q H1 hq e s1 => ?_⟩
    exact ⟨_, rfl, p, du, dt, df, q, st, st', _, r, rfl, R.same s1, e, ht, hfs, fun H' R' kp => k H' R' ((Same.keep4 s1).trans kp)⟩
def sp_telling : Sp := fun vs H Q _ => ∃ (p du dt df : Addr) (s : RS) (lo hi : Int), vs = [.ref p] ∧ ReadAt C_Reading H p du dt df s ∧ s.fr = some (lo, hi) ∧
  ∀ (tl pm pu pt pf : Addr) (at' af : List Addr) (H' : Hp), H tl = none → H pu = none → H pt = none → H pf = none → H' tl = some (.tup [.ref pm, .ref pu, .ref pt, .ref pf]) → H' pm = some (.tup [.int lo, .int hi]) →
    H' pu = some (.lst (s.us.map V.str)) → H' pt = some (.lst (at'.map V.ref)) → Tups H' at' s.ts → H' pf = some (.lst (af.map V.ref)) → Tups H' af s.fs → pu ≠ pt → pu ≠ pf → pt ≠ pf → Same H H' → Q (.ref tl) H'
theorem keyTups_tups {H : Hp} : ∀ {as : List Addr} {ts : List (List V)}, (∀ ws ∈ ts, ∀ v ∈ ws, Wd v) → KeyTups H as (dTi ts) → Tups H as ts
  | [], [], _, _ => .nil
  | a :: as, ws :: ts, hw, .cons h t => by
    have h : H a = some (.tup ((ws.map kW).map kV)) := h
    rw [kV_map (hw ws (List.mem_cons_self ..))] at h
    exact .cons h (keyTups_tups (fun vs hv => hw vs (List.mem_cons_of_mem _ hv)) t)
theorem dF_vals {fs : List (List V)} {af : List Addr} (h : af.length = fs.length) : (dF fs af).map (·.2) = af.map V.ref := by
  unfold dF
  rw [List.map_snd_zip (by simp; omega)]
theorem m_Reading_telling (T : Tx K mg w C_Reading) : HasM P w K mg base C_Reading "telling" ["self"] 1 (sp_telling (C_Reading := C_Reading)) := by
  refine T.d_Reading_telling.has sc_Reading_telling (fun vs H Q E h => ?_) (fun f cdv A outer s H vs Q E hr h => ?_)
  · obtain ⟨p, du, dt, df, st, lo, hi, rfl, _⟩ := h; rfl
  · obtain ⟨p, du, dt, df, st, lo, hi, rfl, R, hfr, k⟩ := h
    refine ⟨_, (pss_one (ps_ret (pe_tup (pa_cons (pe_fld (pv 0) rfl) (pa_cons (pe_callTy (call_list_dK rfl) (by rfl) T.list PyProof.Rows.boot_list (pa_cons (pe_fld (pv 0) rfl) pa_nil)) (pa_cons (pe_callTy (call_list_dT rfl) (by rfl) T.list PyProof.Rows.boot_list (pa_cons (pe_fld (pv 0) rfl) pa_nil)) (pa_cons (pe_callTy (call_list_vw rfl) (by rfl) T.list PyProof.Rows.boot_list (pa_cons (pe_bm0K K rfl PySem.F.plainAttrs_dict PySem.F.slot_dict_values PySem.F.type_dict_values mt_values (pe_fld (pv 0) rfl)) pa_nil)) pa_nil))))))), ?_⟩
    obtain ⟨dx, fv, h1, h2⟩ := R.ob
    obtain ⟨af, htf, hf⟩ := R.f
    rw [hfr] at h2
    obtain ⟨pm, rfl, hpm⟩ := h2
    refine ⟨_, rfl, p, C_Reading, dx, _, _, rfl, h1, T.cl_Reading, T.na_Reading_frame, rfl4_f _ _ _ _, ?_⟩
    refine ⟨_, rfl, p, C_Reading, dx, _, _, rfl, h1, T.cl_Reading, T.na_Reading_units, rfl4_u _ _ _ _, du, _, rfl, R.u, fun pu hpu => ?_⟩
    have s1 := Same.new (o := .lst ((dU st.us).map fun kv => kV kv.1)) hpu
    have e1 : upd H pu (.lst ((dU st.us).map fun kv => kV kv.1)) pu = some (.lst (st.us.map V.str)) := by
      rw [upd_same]
      unfold dU
      rw [List.map_map]; rfl
    generalize upd H pu (.lst ((dU st.us).map fun kv => kV kv.1)) = H1 at s1 e1
    refine ⟨_, rfl, p, C_Reading, dx, _, _, rfl, s1 _ _ h1, T.cl_Reading, T.na_Reading_ties, rfl4_t _ _ _ _, dt, _, rfl, s1 _ _ R.t, fun pt' as kt hpt => ?_⟩
    have tt := keyTups_tups R.ties kt
    have s2 := Same.new (o := .lst (as.map V.ref)) hpt
    have q2 := s1.trans s2
    refine ⟨_, rfl, p, C_Reading, dx, _, _, rfl, q2 _ _ h1, T.cl_Reading, T.na_Reading_finds, rfl4_i _ _ _ _, .inr (.inr (.inl ⟨rfl, .inl ⟨_, q2 _ _ hf⟩⟩)), df, _, rfl, rfl, q2 _ _ hf, fun pv hpv => ?_⟩
    have s3 := Same.new (o := vwO pv df) hpv
    refine ⟨pv, df, _, rfl, upd_same, s3 _ _ (q2 _ _ hf), fun pf hpf => ?_⟩
    rw [dF_vals htf.len]
    have s4 := Same.new (o := .lst (af.map V.ref)) hpf
    have q4 := q2.trans (s3.trans s4)
    refine ⟨(by show 4 ≤ sizeLine; decide), fun tl htl => ?_⟩
    have s5 := Same.new (o := .tup [.ref pm, .ref pu, .ref pt', .ref pf]) htl
    have g1 := s2 _ _ e1
    have g2 : upd H1 pt' (.lst (as.map V.ref)) pt' = _ := upd_same
    have n1 : pu ≠ pt' := ne_of_none e1 hpt
    have n2 : pu ≠ pf := ne_of_none (s3 _ _ g1) hpf
    have n3 : pt' ≠ pf := ne_of_none (s3 _ _ g2) hpf
    exact k tl pm pu pt' pf as af _ (q4.free htl) hpu (s1.free hpt) ((q2.trans s3).free hpf) upd_same (s5 _ _ (q4 _ _ hpm)) (s5 _ _ (s4 _ _ (s3 _ _ g1))) (s5 _ _ (s4 _ _ (s3 _ _ g2))) (tt.same (s2.trans (s3.trans (s4.trans s5)))) (s5 _ _ upd_same) (htf.same (q4.trans s5)) n1 n2 n3 (q4.trans s5)
/-! ### the telling read -/
def Fs2 (s : RS) (i : Nat) : Prop := (∀ f ∈ s.fs, ∃ x r, f = V.str x :: r) ∧ s.us.length ≤ i ∧ s.ts.length ≤ i ∧ s.fs.length ≤ i
theorem Fs2.step {s s' : RS} {ws : List V} {i : Nat} (h : Fs2 s i) (st : StepOk s ws s') : Fs2 s' (i + 1) := by
  obtain ⟨a, b, c, d⟩ := h
  cases st with
  | dig hl y1 y2 => exact ⟨a, Nat.le_succ_of_le b, Nat.le_succ_of_le c, Nat.le_succ_of_le d⟩
  | unit hx hn => exact ⟨a, by simp at b ⊢; omega, by simp at c ⊢; omega, by simp at d ⊢; omega⟩
  | tie ht hn => exact ⟨a, by simp at b ⊢; omega, by simp at c ⊢; omega, by simp at d ⊢; omega⟩
  | find hf =>
    refine ⟨fun f hf' => ?_, by simp at b ⊢; omega, by simp at c ⊢; omega, by simp at d ⊢; omega⟩
    rcases List.mem_append.mp hf' with z | z
    · exact a f z
    · rw [List.mem_singleton] at z
      subst z
      cases hf with
      | mk hn hx hl h1 h2 _ => exact ⟨_, _, rfl⟩
/-- what comes out: a telling of its own -/
def ToldOut (H : Hp) (s : RS) (lo hi : Int) (Q : VK) : Prop := ∀ (tl pm pu pt pf : Addr) (at' af : List Addr) (H' : Hp), H tl = none → H pu = none → H pt = none → H pf = none → H' tl = some (.tup [.ref pm, .ref pu, .ref pt, .ref pf]) → H' pm = some (.tup [.int lo, .int hi]) →
    H' pu = some (.lst (s.us.map V.str)) → H' pt = some (.lst (at'.map V.ref)) → Tups H' at' s.ts → H' pf = some (.lst (af.map V.ref)) → Tups H' af s.fs → pu ≠ pt → pu ≠ pf → pt ≠ pf → Same H H' → Q (.ref tl) H'
def sp_read : Sp := fun vs H Q _ => ∃ (x : Str) (s : RS) (lo hi : Int), vs = [.str x] ∧ x.length ≤ 1000000 ∧ (∀ l ∈ Txt.split x "\n", l.length ≤ 1000000) ∧ (Txt.split x "\n").length ≤ 900 ∧ Reads ⟨none, [], [], []⟩ (Txt.split x "\n") s ∧ s.fr = some (lo, hi) ∧ ToldOut H s lo hi Q
set_option maxHeartbeats 1000000 in
theorem h_read_telling (T : Tx K mg w C_Reading) : Has P w K mg base "read_telling" ["text"] 7 sp_read := by
  refine T.d_read_telling.has sc_read_telling (fun vs H Q E h => ?_) (fun f cdv A outer s H vs Q E hr h => ?_)
  · obtain ⟨x, st, lo, hi, rfl, _⟩ := h; rfl
  · obtain ⟨x, st, lo, hi, rfl, hl, hls, hn, rd, hfr, k⟩ := h
    refine ⟨_, (pss_cons (ps_if (pt_not (pt_val (pe_callB (call_isiK K rfl) (by rfl) T.isinstance PyProof.Rows.boot_isinstance (pa_cons (pv 0) (pa_cons (pe_bltn (v := .ty "str") (by rfl) T.str PyProof.Rows.boot_str rfl) pa_nil))))) (pss_one ps_never) pss_nil)
      (pss_cons (ps_set (i := 1) sc_read_telling.nd rfl (Or.inl rfl) (pe_new0 (m_Reading___init__ T) T.mk_Reading T.kp_Reading (hr.mono (by decide)) (by rfl) T.mg_Reading))
      (pss_cons (ps_for PassesOwn.never rfl (pi_enumK K rfl 1 (by decide) (by rfl) T.enumerate (pe_bmK K rfl PySem.F.plainAttrs_str PySem.F.slot_str_split PySem.F.type_str_split mt_split (pv 0) (pa_cons pe_str pa_nil))) (pg_tupK K rfl rfl (pgs_cons (pg_name (i := 2) sc_read_telling.nd rfl (Or.inl rfl)) (pgs_cons (pg_name (i := 3) sc_read_telling.nd rfl (Or.inl rfl)) pgs_nil))) (pss_cons (ps_set (i := 4) sc_read_telling.nd rfl (Or.inl rfl) (pe_fn (h_split_words T) (hr.mono (by decide)) (by rfl) (pa_cons (pv 3) pa_nil)))
        (pss_one (ps_if (pt_not (pt_val (pe_fn (h_is_passed_over T) (hr.mono (by decide)) (by rfl) (pa_cons (pv 4) pa_nil)))) (pss_one (ps_expr (pe_mth (m_Reading_take_words T) T.cl_Reading (hr.mono (by decide)) (pv 1) (pa_cons (pv 4) (pa_cons (pv 2) pa_nil))))) pss_nil))))
      (pss_cons (ps_if (pt_cmp (pc_isN (pe_fld (pv 1) rfl))) (pss_one ps_never) pss_nil)
      (pss_one (ps_ret (pe_mth0 (m_Reading_telling T) T.cl_Reading (hr.mono (by decide)) (pv 1)))))))), ?_⟩
    refine ⟨_, rfl, _, _, _, true, rfl, .str _, rfl, _, rfl, iteF ?_⟩
    intro r dx hr0 hdx nrx
    have s0 : Same H (upd (upd H dx (.own r)) r (.ins C_Reading dx [])) := fun b o e => by
      rw [upd_ne (ne_of_none e hr0), upd_ne (ne_of_none e hdx)]; exact e
    refine ⟨r, dx, rfl, upd_same, fun du dt df H1 f1 f2 f3 R1 kp => ⟨rfl, ?_⟩⟩
    have s1 : Same H H1 := fun b o e => kp b o (s0 b o e) (ne_of_none e hr0)
    have fu := s0.free f1
    have ft := s0.free f2
    have ff := s0.free f3
    refine ⟨_, rfl, rfl, x, _, rfl, rfl, by decide +kernel, big_line hl, split_len x hl _, fun l hpl => ?_⟩
    generalize hls' : Txt.split x (Str.ofString "\n") = lines at hpl
    have eL : Txt.split x "\n" = lines := hls'
    rw [eL] at hls hn rd
    have s2 := Same.new (o := .lst (lines.map V.str)) hpl
    have fl := s1.free hpl
    have nlr : l ≠ r := by
      rintro rfl
      obtain ⟨_, _, e, _⟩ := R1.ob
      rw [e] at hpl; cases hpl
    have nlu : l ≠ du := fun e => by subst e; rw [R1.u] at hpl; cases hpl
    have nlt : l ≠ dt := fun e => by subst e; rw [R1.t] at hpl; cases hpl
    have nlf : l ≠ df := fun e => by
      subst e
      obtain ⟨_, _, e⟩ := R1.f
      rw [e] at hpl; cases hpl
    refine ⟨l, _, rfl, SqL.of upd_same, for_enum (xs := lines.map V.str) (fun i σ H' => ∃ (si : RS) (v2 v3 v4 : Option V), σ = [some (.str x), some (.ref r), v2, v3, v4] ∧ ReadAt C_Reading H' r du dt df si ∧ Reads si (lines.drop i) st ∧ Fs2 si i ∧ Same H H' ∧ H' l = some (.lst (lines.map V.str)))
      ⟨_, none, none, none, rfl, R1.same s2, by rw [List.drop_zero]; exact rd, ⟨(fun _ h => nomatch h), Nat.le_refl _, Nat.le_refl _, Nat.le_refl _⟩, s1.trans s2, upd_same⟩ (fun i σ H' _ h => by obtain ⟨_, _, _, _, _, _, _, _, _, e⟩ := h; exact SqL.of e) ?_ ?_⟩
    · rintro i v σ H' Tp hv ⟨si, v2, v3, v4, rfl, R, rdi, fs, q, el⟩ hTp
      rw [List.getElem?_map] at hv
      cases ey : lines[i]? with
      | none => rw [ey] at hv; cases hv
      | some y =>
        rw [ey] at hv
        cases hv
        have hi := (List.getElem?_eq_some_iff.mp ey).1
        have ed : lines.drop i = y :: lines.drop (i + 1) := by
          rw [List.drop_eq_getElem_cons hi]
          congr 1
          exact (List.getElem?_eq_some_iff.mp ey).2
        rw [ed] at rdi
        have sT := Same.new (o := .tup [.int ((1 + i : Nat) : Int), .str y]) hTp
        refine ⟨Tp, _, rfl, SqT.of upd_same, rfl, _, _, rfl, _, _, rfl, rfl, ?_⟩
        refine ⟨_, rfl, y, rfl, hls y (List.mem_of_getElem? ey), fun D H2 fD hD s2' => ?_⟩
        have sA := sT.trans s2'
        refine ⟨_, rfl, D, _, rfl, SqL.of hD, fun H3 s3 => ⟨_, rfl, ?_⟩⟩
        have sB := sA.trans s3
        cases rdi with
        | skip h rr =>
          rw [h]
          exact iteF ⟨si, _, _, _, rfl, R.same sB, rr, ⟨fs.1, by have := fs.2.1; omega, by have := fs.2.2.1; omega, by have := fs.2.2.2; omega⟩, q.trans sB, sB _ _ el⟩
        | row h stp rr =>
          rename_i s1' ws
          have np := ((stp.row R.names).1).notPassed
          rw [h, np]
          obtain ⟨dx', fv', h1', _⟩ := (R.same sB).ob
          have hD3 : SqL K H3 D (ws.map fun v => V.str (wordS v)) := by
            have := s3 _ _ hD
            rw [h, List.map_map] at this
            exact SqL.of this
          refine iteT ⟨_, rfl, r, dx', _, rfl, h1', rfl4_no _ _ _ _ (by decide +kernel), _, rfl, _, rfl, r, du, dt, df, D, si, s1', ws, _, rfl, R.same sB, hD3, stp, ⟨fs.1, by have := fs.2.1; omega, by have := fs.2.2.1; omega, by have := fs.2.2.2; omega⟩, fun H4 R4 kp4 => ?_⟩
          exact ⟨s1', _, _, _, rfl, R4, rr, fs.step stp, Keep4.same (q.trans sB) kp4 hr0 fu ft ff, kp4 _ _ (sB _ _ el) nlr nlu nlt nlf⟩
    · rintro σ H' ⟨si, v2, v3, v4, rfl, R, rdi, fs, q, el⟩
      rw [List.length_map, List.drop_length] at rdi
      cases rdi
      obtain ⟨dx', fv', h1', h2'⟩ := R.ob
      rw [hfr] at h2'
      obtain ⟨pm, rfl, hpm⟩ := h2'
      refine ⟨_, rfl, r, C_Reading, dx', _, _, rfl, h1', T.cl_Reading, T.na_Reading_frame, rfl4_f _ _ _ _, _, rfl, ?_⟩
      rw [decide_eq_false (fun z => nomatch z)]
      refine iteF ⟨_, rfl, r, dx', _, rfl, h1', rfl4_no _ _ _ _ (by decide +kernel), r, du, dt, df, st, lo, hi, rfl, R, hfr, fun tl pm pu pt' pf at' af H5 g1 g2 g3 g4 g5 g6 g7 g8 g9 ga gb gc gd ge sF => ?_⟩
      exact k tl pm pu pt' pf at' af H5 (q.free g1) (q.free g2) (q.free g3) (q.free g4) g5 g6 g7 g8 g9 ga gb gc gd ge (q.trans sF)
/-! ### alike -/
inductive Alike (H : Hp) : Nat → V → V → Prop where
  | str {n : Nat} (x : Str) : Alike H n (.str x) (.str x)
  | int {n : Nat} (i : Int) : Alike H n (.int i) (.int i)
  | lst {n : Nat} {a b : Addr} {xs ys : List V} (hx : H a = some (.lst xs)) (hy : H b = some (.lst ys)) (hl : xs.length = ys.length) (hz : xs.length ≤ 1000) (h : ∀ (i : Nat) x y, xs[i]? = some x → ys[i]? = some y → Alike H n x y) : Alike H (n + 1) (.ref a) (.ref b)
  | tup {n : Nat} {a b : Addr} {xs ys : List V} (hx : H a = some (.tup xs)) (hy : H b = some (.tup ys)) (hl : xs.length = ys.length) (hz : xs.length ≤ 1000) (h : ∀ (i : Nat) x y, xs[i]? = some x → ys[i]? = some y → Alike H n x y) : Alike H (n + 1) (.ref a) (.ref b)
theorem Alike.same {H H' : Hp} {n : Nat} {x y : V} (h : Alike H n x y) (s : Same H H') : Alike H' n x y := by
  induction h with
  | str x => exact .str x
  | int i => exact .int i
  | lst hx hy hl hz _ ih => exact .lst (s _ _ hx) (s _ _ hy) hl hz ih
  | tup hx hy hl hz _ ih => exact .tup (s _ _ hx) (s _ _ hy) hl hz ih
def sp_alike (n : Nat) : Sp := fun vs H Q _ => ∃ x y, vs = [x, y] ∧ Alike H n x y ∧ ∀ H', Same H H' → Q (.bl true) H'
theorem all_true (n : Nat) : (List.replicate n true).all id = true := by
  rw [List.all_eq_true]
  intro x hx
  exact List.eq_of_mem_replicate hx
theorem bl_ne (a : Bool) : (!decide (V.bl a = V.bl a)) = false := by rw [decide_eq_true rfl]; rfl
theorem alike0 (T : Tx K mg w C_Reading) : Has P w K mg base "_law_alike" ["_law_one", "_law_due"] 1 (sp_alike 0) := by
  refine T.d__law_alike.has sc__law_alike (fun vs H Q E h => ?_) (fun f cdv A outer s H vs Q E hr h => ?_)
  · obtain ⟨x, y, rfl, _⟩ := h; rfl
  · obtain ⟨x, y, rfl, ha, k⟩ := h
    refine ⟨_, (pss_cons (ps_if (pt_val (pe_callB (call_isiK K rfl) (by rfl) T.isinstance PyProof.Rows.boot_isinstance (pa_cons (pv 1) (pa_cons (pe_bltn (v := .ty "str") (by rfl) T.str PyProof.Rows.boot_str rfl) pa_nil)))) (pss_one (ps_ret (pe_and (pe_callB (call_isiK K rfl) (by rfl) T.isinstance PyProof.Rows.boot_isinstance (pa_cons (pv 0) (pa_cons (pe_bltn (v := .ty "str") (by rfl) T.str PyProof.Rows.boot_str rfl) pa_nil))) (pe_one (pe_cmpR op_eq (pv 0) (pv 1) (nomark _)))))) pss_nil)
      (pss_cons (ps_if (pt_val (pe_callB (call_isiK K rfl) (by rfl) T.isinstance PyProof.Rows.boot_isinstance (pa_cons (pv 1) (pa_cons (pe_bltn (v := .ty "int") (by rfl) T.int PyProof.Rows.boot_int rfl) pa_nil)))) (pss_one (ps_ret (pe_and (pe_callB (call_isiK K rfl) (by rfl) T.isinstance PyProof.Rows.boot_isinstance (pa_cons (pv 0) (pa_cons (pe_bltn (v := .ty "int") (by rfl) T.int PyProof.Rows.boot_int rfl) pa_nil))) (pe_and (pe_not (pe_callB (call_isiK K rfl) (by rfl) T.isinstance PyProof.Rows.boot_isinstance (pa_cons (pv 0) (pa_cons (pe_bltn (v := .ty "bool") (by rfl) T.bool PyProof.Rows.boot_bool rfl) pa_nil)))) (pe_one (pe_cmpR op_eq (pv 0) (pv 1) (nomark _))))))) pss_nil)
      pss_never)), ?_⟩
    cases ha with
    | str x =>
      refine ⟨_, rfl, _, _, _, true, rfl, .str _, rfl, _, rfl, iteT ⟨_, rfl, _, _, _, true, rfl, .str _, rfl, _, rfl, iteT ⟨_, rfl, _, rfl, rfl, ?_⟩⟩⟩
      rw [decide_eq_true rfl]
      exact k _ (Same.refl _)
    | int i =>
      refine ⟨_, rfl, _, _, _, false, rfl, .int _, rfl, _, rfl, iteF ⟨_, rfl, _, _, _, true, rfl, .int _, rfl, _, rfl, iteT ⟨_, rfl, _, _, _, true, rfl, .int _, rfl, _, rfl, iteT ⟨_, rfl, _, _, _, false, rfl, .int _, rfl, _, rfl, _, rfl, iteT ⟨_, rfl, _, rfl, rfl, ?_⟩⟩⟩⟩⟩
      rw [decide_eq_true rfl]
      exact k _ (Same.refl _)
set_option maxHeartbeats 2000000 in
theorem alikeS (T : Tx K mg w C_Reading) {n j : Nat} (F : Has P w K mg base "_law_alike" ["_law_one", "_law_due"] j (sp_alike n)) :
    Has P w K mg base "_law_alike" ["_law_one", "_law_due"] (j + 1) (sp_alike (n + 1)) := by
  refine T.d__law_alike.has sc__law_alike (fun vs H Q E h => ?_) (fun f cdv A outer s H vs Q E hr h => ?_)
  · obtain ⟨x, y, rfl, _⟩ := h; rfl
  · obtain ⟨x, y, rfl, ha, k⟩ := h
    refine ⟨_, (pss_cons (ps_if (pt_val (pe_callB (call_isiK K rfl) (by rfl) T.isinstance PyProof.Rows.boot_isinstance (pa_cons (pv 1) (pa_cons (pe_bltn (v := .ty "str") (by rfl) T.str PyProof.Rows.boot_str rfl) pa_nil)))) (pss_one (ps_ret (pe_and (pe_callB (call_isiK K rfl) (by rfl) T.isinstance PyProof.Rows.boot_isinstance (pa_cons (pv 0) (pa_cons (pe_bltn (v := .ty "str") (by rfl) T.str PyProof.Rows.boot_str rfl) pa_nil))) (pe_one (pe_cmpR op_eq (pv 0) (pv 1) (nomark _)))))) pss_nil)
      (pss_cons (ps_if (pt_val (pe_callB (call_isiK K rfl) (by rfl) T.isinstance PyProof.Rows.boot_isinstance (pa_cons (pv 1) (pa_cons (pe_bltn (v := .ty "int") (by rfl) T.int PyProof.Rows.boot_int rfl) pa_nil)))) (pss_one (ps_ret (pe_and (pe_callB (call_isiK K rfl) (by rfl) T.isinstance PyProof.Rows.boot_isinstance (pa_cons (pv 0) (pa_cons (pe_bltn (v := .ty "int") (by rfl) T.int PyProof.Rows.boot_int rfl) pa_nil))) (pe_and (pe_not (pe_callB (call_isiK K rfl) (by rfl) T.isinstance PyProof.Rows.boot_isinstance (pa_cons (pv 0) (pa_cons (pe_bltn (v := .ty "bool") (by rfl) T.bool PyProof.Rows.boot_bool rfl) pa_nil)))) (pe_one (pe_cmpR op_eq (pv 0) (pv 1) (nomark _))))))) pss_nil)
      (pss_cons (ps_if (PW.pt (pw_or (pt_cmpR op_ne (pe_callB (call_isiK K rfl) (by rfl) T.isinstance PyProof.Rows.boot_isinstance (pa_cons (pv 0) (pa_cons (pe_bltn (v := .ty "list") (by rfl) T.list PyProof.Rows.boot_list rfl) pa_nil))) (pe_callB (call_isiK K rfl) (by rfl) T.isinstance PyProof.Rows.boot_isinstance (pa_cons (pv 1) (pa_cons (pe_bltn (v := .ty "list") (by rfl) T.list PyProof.Rows.boot_list rfl) pa_nil))) (nomark _)) (pw_or1 (pt_cmpR op_ne (pe_callB (call_isiK K rfl) (by rfl) T.isinstance PyProof.Rows.boot_isinstance (pa_cons (pv 0) (pa_cons (pe_bltn (v := .ty "tuple") (by rfl) T.tuple PyProof.Rows.boot_tuple rfl) pa_nil))) (pe_callB (call_isiK K rfl) (by rfl) T.isinstance PyProof.Rows.boot_isinstance (pa_cons (pv 1) (pa_cons (pe_bltn (v := .ty "tuple") (by rfl) T.tuple PyProof.Rows.boot_tuple rfl) pa_nil))) (nomark _))))) (pss_one (ps_ret pe_bl)) pss_nil)
      (pss_one (ps_ret (pe_and (pe_cmpR op_eq (pe_callB (call_len_seqK K rfl) (by rfl) T.len boot_len (pa_cons (pv 0) pa_nil)) (pe_callB (call_len_seqK K rfl) (by rfl) T.len boot_len (pa_cons (pv 1) pa_nil)) (nomark _)) (pe_one (pe_callB (call_allBK K rfl rfl) (by rfl) T.all PyProof.Rows.boot_all (pa_cons (pe_comp (own := ["_law_k"]) (cap := ["_law_one", "_law_due"]) (ix := [0, 1]) (osc := defScope (top 36)) rfl ⟨rfl, by decide +kernel, by decide +kernel, by decide +kernel, by decide +kernel⟩ rfl (pi_range1 (by rfl) T.range (pa_cons (pe_callB (call_len_seqK K rfl) (by rfl) T.len boot_len (pa_cons (pv 1) pa_nil)) pa_nil)) (fun _ _ _ _ => pg_name (i := 0) (show List.Nodup (["_law_k", "_law_one", "_law_due"] : List Str) by decide +kernel) rfl (Or.inl rfl)) (fun _ _ _ _ => pif_nil) (fun _ _ _ _ => (pe_fn F hr (by rfl) (pa_cons (pe_ix (ix_seqK K rfl) (pv 1) (pv 0) (fun _ _ => rfl)) (pa_cons (pe_ix (ix_seqK K rfl) (pv 2) (pv 0) (fun _ _ => rfl)) pa_nil))))) pa_nil))))))))), ?_⟩
    cases ha with
    | str x =>
      refine ⟨_, rfl, _, _, _, true, rfl, .str _, rfl, _, rfl, iteT ⟨_, rfl, _, _, _, true, rfl, .str _, rfl, _, rfl, iteT ⟨_, rfl, _, rfl, rfl, ?_⟩⟩⟩
      rw [decide_eq_true rfl]
      exact k _ (Same.refl _)
    | int i =>
      refine ⟨_, rfl, _, _, _, false, rfl, .int _, rfl, _, rfl, iteF ⟨_, rfl, _, _, _, true, rfl, .int _, rfl, _, rfl, iteT ⟨_, rfl, _, _, _, true, rfl, .int _, rfl, _, rfl, iteT ⟨_, rfl, _, _, _, false, rfl, .int _, rfl, _, rfl, _, rfl, iteT ⟨_, rfl, _, rfl, rfl, ?_⟩⟩⟩⟩⟩
      rw [decide_eq_true rfl]
      exact k _ (Same.refl _)
    | lst hx hy hl hz he =>
      rename_i a b xs ys
      refine ⟨_, rfl, _, _, _, false, rfl, .lst hy, rfl, _, rfl, iteF ⟨_, rfl, _, _, _, false, rfl, .lst hy, rfl, _, rfl, iteF ?_⟩⟩
      refine ⟨_, rfl, _, _, _, true, rfl, .lst hx, rfl, _, rfl, _, _, _, true, rfl, .lst hy, rfl, rfl, _, rfl, ?_⟩
      rw [bl_ne]
      refine iteF ⟨_, rfl, _, _, _, false, rfl, .lst hx, rfl, _, rfl, _, _, _, false, rfl, .lst hy, rfl, rfl, _, rfl, ?_⟩
      rw [bl_ne]
      refine iteF ⟨_, rfl, a, _, rfl, .inl (SqL.of hx), _, rfl, b, _, rfl, .inl (SqL.of hy), rfl, _, rfl, ?_⟩
      rw [decide_eq_true (by rw [hl])]
      refine iteT ⟨_, rfl, b, _, rfl, .inl (SqL.of hy), (ys.length : Int), rfl, by omega, by omega, fun D hD => ?_⟩
      refine comp_same (fix_rng (lo := 0) (n := ((ys.length : Int)).toNat)) (fun _ => .bl true) hD (fun _ _ => trivial) (le_line (by simp; omega)) (fun v hv H' Q' s' hQ => ?_) (fun H2 s2 hD2 => ?_)
      · obtain ⟨i, hi, rfl⟩ := List.mem_map.mp hv
        have hi : i < ys.length := by have := List.mem_range.mp hi; omega
        have hi' : i < xs.length := by omega
        have hA := he i xs[i] ys[i] (List.getElem?_eq_getElem hi') (List.getElem?_eq_getElem hi)
        have ei : (0 : Int) + (i : Nat) = ((i : Nat) : Int) := by omega
        rw [ei]
        exact ⟨_, rfl, _, rfl, .inl ⟨a, _, _, _, rfl, rfl, SqL.of (s' _ _ hx), atI_nat (List.getElem?_eq_getElem hi'), _, rfl, _, rfl, .inl ⟨b, _, _, _, rfl, rfl, SqL.of (s' _ _ hy), atI_nat (List.getElem?_eq_getElem hi), _, _, rfl, hA.same s', hQ⟩⟩⟩
      · refine ⟨D, List.replicate ys.length true, rfl, SqL.of ?_, ?_⟩
        · rw [hD2, List.map_const', List.map_replicate]
          simp
        · rw [all_true]
          exact k _ s2
    | tup hx hy hl hz he =>
      rename_i a b xs ys
      refine ⟨_, rfl, _, _, _, false, rfl, .tup hy, rfl, _, rfl, iteF ⟨_, rfl, _, _, _, false, rfl, .tup hy, rfl, _, rfl, iteF ?_⟩⟩
      refine ⟨_, rfl, _, _, _, false, rfl, .tup hx, rfl, _, rfl, _, _, _, false, rfl, .tup hy, rfl, rfl, _, rfl, ?_⟩
      rw [bl_ne]
      refine iteF ⟨_, rfl, _, _, _, true, rfl, .tup hx, rfl, _, rfl, _, _, _, true, rfl, .tup hy, rfl, rfl, _, rfl, ?_⟩
      rw [bl_ne]
      refine iteF ⟨_, rfl, a, _, rfl, .inr (SqT.of hx), _, rfl, b, _, rfl, .inr (SqT.of hy), rfl, _, rfl, ?_⟩
      rw [decide_eq_true (by rw [hl])]
      refine iteT ⟨_, rfl, b, _, rfl, .inr (SqT.of hy), (ys.length : Int), rfl, by omega, by omega, fun D hD => ?_⟩
      refine comp_same (fix_rng (lo := 0) (n := ((ys.length : Int)).toNat)) (fun _ => .bl true) hD (fun _ _ => trivial) (le_line (by simp; omega)) (fun v hv H' Q' s' hQ => ?_) (fun H2 s2 hD2 => ?_)
      · obtain ⟨i, hi, rfl⟩ := List.mem_map.mp hv
        have hi : i < ys.length := by have := List.mem_range.mp hi; omega
        have hi' : i < xs.length := by omega
        have hA := he i xs[i] ys[i] (List.getElem?_eq_getElem hi') (List.getElem?_eq_getElem hi)
        have ei : (0 : Int) + (i : Nat) = ((i : Nat) : Int) := by omega
        rw [ei]
        exact ⟨_, rfl, _, rfl, .inr (.inl ⟨a, _, _, _, rfl, rfl, SqT.of (s' _ _ hx), atI_nat (List.getElem?_eq_getElem hi'), _, rfl, _, rfl, .inr (.inl ⟨b, _, _, _, rfl, rfl, SqT.of (s' _ _ hy), atI_nat (List.getElem?_eq_getElem hi), _, _, rfl, hA.same s', hQ⟩)⟩)⟩
      · refine ⟨D, List.replicate ys.length true, rfl, SqL.of ?_, ?_⟩
        · rw [hD2, List.map_const', List.map_replicate]
          simp
        · rw [all_true]
          exact k _ s2
theorem alikeN (T : Tx K mg w C_Reading) : ∀ n, Has P w K mg base "_law_alike" ["_law_one", "_law_due"] (n + 1) (sp_alike n)
  | 0 => alike0 T
  | n + 1 => alikeS T (alikeN T n)
theorem h__law_alike (T : Tx K mg w C_Reading) : Has P w K mg base "_law_alike" ["_law_one", "_law_due"] 4 (sp_alike 3) := alikeN T 3
/-- a telling, whole -/
structure FullAt (H : Hp) (tl pm pu pt pf : Addr) (at' af : List Addr) (lo hi : Int) (us : List Str) (ts fs : List (List V)) : Prop where
  top : H tl = some (.tup [.ref pm, .ref pu, .ref pt, .ref pf])
  m : H pm = some (.tup [.int lo, .int hi])
  u : H pu = some (.lst (us.map V.str))
  t : H pt = some (.lst (at'.map V.ref))
  tt : Tups H at' ts
  f : H pf = some (.lst (af.map V.ref))
  ft : Tups H af fs
theorem FullAt.same {H H' : Hp} {tl pm pu pt pf : Addr} {at' af : List Addr} {lo hi : Int} {us : List Str} {ts fs : List (List V)} (h : FullAt H tl pm pu pt pf at' af lo hi us ts fs) (s : Same H H') : FullAt H' tl pm pu pt pf at' af lo hi us ts fs :=
  ⟨s _ _ h.top, s _ _ h.m, s _ _ h.u, s _ _ h.t, h.tt.same s, s _ _ h.f, h.ft.same s⟩
theorem alike_wd {H : Hp} {n : Nat} {v : V} (h : Wd v) : Alike H n v v := by
  rcases h with ⟨x, rfl, _⟩ | ⟨i, rfl, _⟩
  · exact .str _
  · exact .int _
theorem alike_flat {H : Hp} {n : Nat} {a b : Addr} {ws : List V} (hw : ∀ v ∈ ws, Wd v) (hl : ws.length ≤ 1000) (ha : H a = some (.tup ws)) (hb : H b = some (.tup ws)) : Alike H (n + 1) (.ref a) (.ref b) :=
  .tup ha hb rfl hl fun i x y ex ey => by rw [ex] at ey; cases ey; exact alike_wd (hw x (List.mem_of_getElem? ex))
theorem alike_tups {H : Hp} {n : Nat} {p q : Addr} {as bs : List Addr} {wss : List (List V)} (hw : ∀ ws ∈ wss, (∀ v ∈ ws, Wd v) ∧ ws.length ≤ 1000) (hl : wss.length ≤ 1000) (hp : H p = some (.lst (as.map V.ref))) (hq : H q = some (.lst (bs.map V.ref))) (ta : Tups H as wss) (tb : Tups H bs wss) :
    Alike H (n + 2) (.ref p) (.ref q) := by
  refine .lst hp hq (by rw [List.length_map, List.length_map, ta.len, tb.len]) (by rw [List.length_map, ta.len]; exact hl) fun i x y ex ey => ?_
  rw [List.getElem?_map] at ex ey
  cases ea : as[i]? with
  | none => rw [ea] at ex; cases ex
  | some a =>
    cases eb : bs[i]? with
    | none => rw [eb] at ey; cases ey
    | some b =>
      rw [ea] at ex
      rw [eb] at ey
      cases ex
      cases ey
      obtain ⟨ws, e1, h1⟩ := ta.at ea
      obtain ⟨ws', e2, h2⟩ := tb.at eb
      rw [e1] at e2
      cases e2
      have := hw ws (List.mem_of_getElem? e1)
      exact alike_flat this.1 this.2 h1 h2
theorem FullAt.alike {H : Hp} {tl pm pu pt pf tl2 pm2 pu2 pt2 pf2 : Addr} {at' af at2 af2 : List Addr} {lo hi : Int} {us : List Str} {ts fs : List (List V)} (A : FullAt H tl pm pu pt pf at' af lo hi us ts fs) (B : FullAt H tl2 pm2 pu2 pt2 pf2 at2 af2 lo hi us ts fs) (ok : TellOk lo hi us ts fs) :
    Alike H 3 (.ref tl) (.ref tl2) := by
  have ht : ∀ ws ∈ ts, (∀ v ∈ ws, Wd v) ∧ ws.length ≤ 1000 := fun ws hw => ⟨(ok.t.2 ws hw).1, by have := (ok.t.2 ws hw).2.1; omega⟩
  have hf : ∀ ws ∈ fs, (∀ v ∈ ws, Wd v) ∧ ws.length ≤ 1000 := fun ws hw => ⟨(ok.f.2 ws hw).1, by have := (ok.f.2 ws hw).2; omega⟩
  refine .tup A.top B.top rfl (by simp) fun i x y ex ey => ?_
  match i, ex, ey with
  | 0, ex, ey => cases ex; cases ey; exact alike_flat (wd_two ok.lo ok.hi) (by simp) A.m B.m
  | 1, ex, ey =>
    cases ex; cases ey
    refine .lst A.u B.u rfl (by rw [List.length_map]; have := ok.u.1; omega) fun i x y ex ey => ?_
    rw [ex] at ey
    cases ey
    obtain ⟨z, _, rfl⟩ := List.mem_map.mp (List.mem_of_getElem? ex)
    exact .str z
  | 2, ex, ey => cases ex; cases ey; exact alike_tups ht (by have := ok.t.1; omega) A.t B.t A.tt B.tt
  | 3, ex, ey => cases ex; cases ey; exact alike_tups hf (by have := ok.f.1; omega) A.f B.f A.ft B.ft
  | i + 4, ex, ey => cases ex
/-! ### lines, freely -/
def sp_pln : Sp := fun vs H Q _ => ∃ c : Int, vs = [.int c] ∧ ∀ (y : Str) H', PassLn y → Same H H' → Q (.str y) H'
set_option maxHeartbeats 4000000 in
theorem h__law_passed (T : Tx K mg w C_Reading) : Has P w K mg base "_law_passed" ["_law_cell"] 1 sp_pln := by
  refine T.d__law_passed.has sc__law_passed (fun vs H Q E h => ?_) (fun f cdv A outer s H vs Q E hr h => ?_)
  · obtain ⟨c, rfl, _⟩ := h; rfl
  · obtain ⟨c, rfl, k⟩ := h
    refine ⟨_, (pss_one (ps_ret (pe_ix (ix_listK K rfl) (pe_lst (pa_cons pe_str (pa_cons pe_str (pa_cons pe_str (pa_cons pe_str (pa_cons pe_str (pa_cons pe_str (pa_cons pe_str (pa_cons pe_str pa_nil))))))))) (pe_op op_mod (pv 0) pe_int) (fun _ _ => rfl)))), ?_⟩
    refine ⟨by decide, fun p hp => ?_⟩
    have h0 := Int.emod_nonneg c (show (8 : Int) ≠ 0 by decide)
    have h1 := Int.emod_lt_of_pos c (show (0 : Int) < 8 by decide)
    refine ⟨_, rfl, _, _, rfl, rfl, (by decide : (0 : Int) < 8), ?_⟩
    obtain ⟨n, hn, hlt⟩ : ∃ n : Nat, c % 8 = (n : Int) ∧ n < 8 := ⟨(c % 8).toNat, by omega, by omega⟩
    show rIxL K (V.ref p) (V.int (c % 8)) _ _
    rw [hn]
    have hlt' : n < (PASSED.map V.str).length := hlt
    refine ⟨p, _, _, V.str (PASSED[n]'hlt), rfl, rfl, SqL.of upd_same, atI_nat (xs := PASSED.map V.str) (by rw [List.getElem?_map, List.getElem?_eq_getElem hlt]; rfl), ?_⟩
    exact k _ _ (passed_ok _ (List.getElem_mem _)) (Same.new hp)
def sp_free : Sp := fun vs H Q _ => ∃ (a : Addr) (ws : List V) (c : Int), vs = [.ref a, .int c] ∧ SqT K H a ws ∧ RowOk ws ∧ (∀ v ∈ ws, Wd v) ∧ ws.length ≤ 6 ∧ 0 ≤ c ∧ c ≤ 1000000 ∧ ∀ (y : Str) H', FreeLn ws y → Same H H' → Q (.str y) H'
theorem row_cons {ws : List V} (h : RowOk ws) : ∃ x r, ws = V.str x :: r := by cases h <;> exact ⟨_, _, rfl⟩
set_option maxHeartbeats 1000000 in
theorem h__law_free (T : Tx K mg w C_Reading) : Has P w K mg base "_law_free" ["_law_row", "_law_cell"] 2 (sp_free (K := K)) := by
  refine T.d__law_free.has sc__law_free (fun vs H Q E h => ?_) (fun f cdv A outer s H vs Q E hr h => ?_)
  · obtain ⟨a, ws, c, rfl, _⟩ := h; rfl
  · obtain ⟨a, ws, c, rfl, ha, hr', hw, hl, c0, c1, k⟩ := h
    refine ⟨_, (pss_cons (ps_set (i := 2) sc__law_free.nd rfl (Or.inl rfl) (pe_op op_blanks pe_str (pe_op op_mod (pv 1) pe_int)))
      (pss_cons (ps_set (i := 3) sc__law_free.nd rfl (Or.inl rfl) (pe_bmK K rfl PySem.F.plainAttrs_str PySem.F.slot_str_split PySem.F.type_str_split mt_split (pe_fn (h__law_line T) (hr.mono (by decide)) (by rfl) (pa_cons (pv 0) pa_nil)) (pa_cons pe_str pa_nil)))
      (pss_cons (ps_for PassesOwn.never rfl (pi_range1 (by rfl) T.range (pa_cons (pe_callB (call_len_seqK K rfl) (by rfl) T.len boot_len (pa_cons (pv 3) pa_nil)) pa_nil)) (pg_name (i := 4) sc__law_free.nd rfl (Or.inl rfl)) (pss_cons (ps_if (pt_cmpR op_gt (pv 4) pe_int (nomark _)) (pss_one (ps_set (i := 2) sc__law_free.nd rfl (Or.inl rfl) (pe_op op_add_str (pv 2) (pe_op op_blanks pe_str (pe_op op_add pe_int (pe_op op_mod (pe_op op_mod (pe_op op_mul (pe_op op_add (pv 1) (pv 4)) pe_int) pe_int) pe_int)))))) pss_nil)
        (pss_one (ps_set (i := 2) sc__law_free.nd rfl (Or.inl rfl) (pe_op op_add_str (pv 2) (pe_ix (ix_listK K rfl) (pv 3) (pv 4) (fun _ _ => rfl)))))))
      (pss_one (ps_ret (pe_op op_add_str (pv 2) (pe_op op_blanks pe_str (pe_op op_mod (pe_op op_fdiv (pv 1) pe_int) pe_int)))))))), ?_⟩
    obtain ⟨x, r, rfl⟩ := row_cons hr'
    have hx : x.length ≤ 100 := by
      rcases hw _ (List.mem_cons_self ..) with ⟨y, e, hy⟩ | ⟨y, e, _⟩
      · cases e; exact hy
      · cases e
    have lnl : (lineS (V.str x :: r)).length ≤ 606 := by rw [len_lineS]; exact lineC_len hw hl
    have m1 := Int.emod_nonneg c (show (3 : Int) ≠ 0 by decide)
    have m2 := Int.emod_lt_of_pos c (show (0 : Int) < 3 by decide)
    refine ⟨_, rfl, _, _, rfl, rfl, (by decide : (0 : Int) < 3), c % 3, rfl, rfl, m1, by omega, ?_⟩
    refine ⟨_, rfl, a, x, r, rfl, ha, hx, fun v hv => hw v (List.mem_cons_of_mem _ hv), by simp at hl; omega, fun H1 s1 => ?_⟩
    refine ⟨rfl, _, _, rfl, rfl, by decide +kernel, le_line (by omega), split_len _ (by omega) _, fun p hp => ?_⟩
    have e1 : Txt.split (lineS (V.str x :: r)) (Str.ofString " ") = (V.str x :: r).map wordS := split_line hr'
    rw [e1]
    have s2 := s1.trans (Same.new (o := .lst (((V.str x :: r).map wordS).map V.str)) hp)
    have hp2 : upd H1 p (.lst (((V.str x :: r).map wordS).map V.str)) p = some (.lst (((V.str x :: r).map wordS).map V.str)) := upd_same
    generalize upd H1 p (.lst (((V.str x :: r).map wordS).map V.str)) = H2 at s2 hp2
    generalize hws : V.str x :: r = ws at *
    have ln : ((ws.map wordS).map V.str).length = ws.length := by simp
    refine ⟨_, rfl, p, _, rfl, .inl (SqL.of hp2), (ws.length : Int), by rw [ln], by omega, by omega, for_range (lo := 0) (n := ((ws.length : Int)).toNat) (fun i σ H' => ∃ y v4, σ = [some (.ref a), some (.int c), some (.str y), some (.ref p), v4] ∧ FreeAt ws i y ∧ H' = H2)
      ⟨_, none, rfl, free_start ws (n := (c % 3).toNat) (by omega), rfl⟩ ?_ ?_⟩
    · rintro i σ H' hi ⟨y, v4, rfl, fa, rfl⟩
      have hi : i < ws.length := by omega
      have ei : (0 : Int) + (i : Nat) = ((i : Nat) : Int) := by omega
      rw [ei]
      have lw : (wordS ws[i]).length ≤ 100 := by
        have := word_len (hw _ (List.getElem_mem hi))
        rwa [co_len] at this
      have eL : ((ws.map wordS).map V.str)[i]? = some (V.str (wordS ws[i])) := by
        rw [List.getElem?_map, List.getElem?_map, List.getElem?_eq_getElem hi]; rfl
      have fl := fa.ln
      have : i * 104 ≤ 6 * 104 := Nat.mul_le_mul_right _ (by omega)
      refine ⟨_, rfl, _, _, rfl, rfl, _, rfl, ?_⟩
      by_cases z : i = 0
      · subst z
        refine ite2 (fun z => absurd z (by decide)) (fun _ => ?_)
        have := free_word fa (List.getElem?_eq_getElem hi) (hr'.signs _ (List.getElem_mem hi)) lw (n := 0) (by omega) (by simp)
        rw [List.replicate_zero, app_none] at this
        refine ⟨_, rfl, _, rfl, _, rfl, p, _, _, _, rfl, rfl, SqL.of hp2, atI_nat eL, _, _, rfl, rfl, le_line (by omega), _, _, rfl, this, rfl⟩
      · have hz : 0 < i := by omega
        have b1 := Int.emod_nonneg ((c + (i : Int)) * 40692 % 65519) (show (3 : Int) ≠ 0 by decide)
        have b2 := Int.emod_lt_of_pos ((c + (i : Int)) * 40692 % 65519) (show (0 : Int) < 3 by decide)
        refine ite2 (fun _ => ?_) (fun z => absurd (decide_eq_true (show (0 : Int) < (i : Int) by omega)) z)
        refine ⟨_, rfl, _, rfl, _, rfl, _, _, rfl, rfl, _, _, rfl, rfl, .inr ⟨by decide, by decide⟩, _, _, rfl, rfl, (by decide : (0 : Int) < 65519), _, _, rfl, rfl, (by decide : (0 : Int) < 3), _, _, rfl, rfl, _, rfl, rfl, by omega, by omega, ?_⟩
        generalize hn : (1 + (c + (i : Int)) * 40692 % 65519 % 3).toNat = n
        have hn1 : 1 ≤ n := by omega
        have hn2 : n ≤ 3 := by omega
        have := free_word fa (List.getElem?_eq_getElem hi) (hr'.signs _ (List.getElem_mem hi)) lw (n := n) hn2 (by omega)
        have bl := blanks_len n
        have b3 := len_app y (strOf (List.replicate n 32))
        refine ⟨_, _, rfl, rfl, le_line (by show _ + (strOf (List.replicate n 32)).length ≤ 1000; omega), ?_⟩
        refine ⟨_, rfl, _, rfl, _, rfl, p, _, _, _, rfl, rfl, SqL.of hp2, atI_nat eL, _, _, rfl, rfl, le_line (by show (y ++ strOf (List.replicate n 32)).length + _ ≤ 1000; omega), _, _, rfl, this, rfl⟩
    · rintro σ H' ⟨y, v4, rfl, fa, rfl⟩
      rw [show ((ws.length : Int)).toNat = ws.length by omega] at fa
      have d1 := Int.emod_nonneg (c / 3) (show (3 : Int) ≠ 0 by decide)
      have d2 := Int.emod_lt_of_pos (c / 3) (show (0 : Int) < 3 by decide)
      have fl := fa.ln
      have : ws.length * 104 ≤ 6 * 104 := Nat.mul_le_mul_right _ hl
      refine ⟨_, rfl, _, rfl, _, _, rfl, rfl, ⟨by decide, by decide⟩, _, _, rfl, rfl, (by decide : (0 : Int) < 3), _, rfl, rfl, d1, by omega, ?_⟩
      generalize hn : (c / 3 % 3).toNat = n
      have hn2 : n ≤ 3 := by omega
      have bl := blanks_len n
      exact ⟨_, _, rfl, rfl, le_line (by show _ + (strOf (List.replicate n 32)).length ≤ 1000; omega), k _ _ (free_end fa hl hn2) s2⟩
/-! ### the law -/
def kLaw : Nat := 8
def sp_law : Sp := fun vs H Q _ => ∃ (a : Addr) (ns : List Int), vs = [.ref a] ∧ SqL K H a (ns.map V.int) ∧ ns.length ≤ 63 ∧ ∀ H', Q (.bl true) H'
/-- lines that are fit to be glued -/
def LinesOk (ls : List Str) : Prop := ∀ l ∈ ls, 10 ∉ co l ∧ l.length ≤ 900
theorem LinesOk.snoc {ls : List Str} {l : Str} (h : LinesOk ls) (hf : 10 ∉ co l) (hl : l.length ≤ 900) : LinesOk (ls ++ [l]) := fun x hx => by
  rcases List.mem_append.mp hx with z | z
  · exact h x z
  · rw [List.mem_singleton] at z; subst z; exact ⟨hf, hl⟩
theorem told_all {us : List Str} {ts fs rs : List (List V)} {lo hi : Int} (t : Told us ts fs rs) (hl : lo ≤ hi) (h1 : YearOk lo) (h2 : YearOk hi) : Steps ⟨none, [], [], []⟩ ([.str "dig", .int lo, .int hi] :: rs) ⟨some (lo, hi), us, ts, fs⟩ := .row (.dig hl h1 h2) t.steps
theorem rowOk_wd {ws : List V} (h : RowOk ws) : (∀ v ∈ ws, Wd v) ∧ ws.length ≤ 6 := by
  have F : ∀ x ∈ FIRSTS, Wd (.str x) := fun x hx => .inl ⟨x, rfl, (by decide +kernel : ∀ x ∈ FIRSTS, x.length ≤ 100) x hx⟩
  have N : ∀ {x : Str}, nameB x = true → Wd (.str x) := fun h => .inl ⟨_, rfl, Nat.le_trans (name_le h) (by decide)⟩
  cases h with
  | dig hl h1 h2 =>
    refine ⟨fun v hv => ?_, by simp⟩
    simp only [List.mem_cons, List.not_mem_nil, or_false] at hv
    rcases hv with rfl | rfl | rfl
    · exact F _ (by decide +kernel)
    · exact .inr ⟨_, rfl, h1⟩
    · exact .inr ⟨_, rfl, h2⟩
  | unit hx =>
    refine ⟨fun v hv => ?_, by simp⟩
    simp only [List.mem_cons, List.not_mem_nil, or_false] at hv
    rcases hv with rfl | rfl
    · exact F _ (by decide +kernel)
    · exact N hx
  | plain hk hx hy =>
    refine ⟨fun v hv => ?_, by simp⟩
    simp only [List.mem_cons, List.not_mem_nil, or_false] at hv
    rcases hv with rfl | rfl | rfl
    · exact F _ (kinds_firsts _ hk)
    · exact N hx
    · exact N hy
  | after hx hy h0 h1 =>
    refine ⟨fun v hv => ?_, by simp⟩
    simp only [List.mem_cons, List.not_mem_nil, or_false] at hv
    rcases hv with rfl | rfl | rfl | rfl
    · exact F _ (by decide +kernel)
    · exact N hx
    · exact N hy
    · exact .inr ⟨_, rfl, h1⟩
  | find hn hx hl h1 h2 =>
    refine ⟨fun v hv => ?_, by simp⟩
    simp only [List.mem_cons, List.not_mem_nil, or_false] at hv
    rcases hv with rfl | rfl | rfl | rfl | rfl
    · exact F _ (by decide +kernel)
    · exact N hn
    · exact N hx
    · exact .inr ⟨_, rfl, h1⟩
    · exact .inr ⟨_, rfl, h2⟩
/-- a list of one, or none of it -/
theorem cut_one (v : V) {i : Int} (h0 : 0 ≤ i) (h1 : i < 2) : cutV [v] none (some i) = [] ∨ cutV [v] none (some i) = [v] := by
  have : i = 0 ∨ i = 1 := by omega
  rcases this with rfl | rfl
  · exact .inl rfl
  · exact .inr rfl
set_option maxHeartbeats 4000000 in
theorem h_law (T : Tx K mg w C_Reading) : Has P w K mg base "law" ["_law_script"] kLaw (sp_law (K := K)) := by
  refine T.d_law.has sc_law (fun vs H Q E h => ?_) (fun f cdv A outer s H vs Q E hr h => ?_)
  · obtain ⟨a, ns, rfl, _⟩ := h; rfl
  · obtain ⟨a, ns, rfl, ha, hl, k⟩ := h
    refine ⟨_, (pss_cons (ps_set (i := 1) sc_law.nd rfl (Or.inl rfl) (pe_fn (h__law_names T) (hr.mono (by decide)) (by rfl) (pa_cons (pe_fn (h__law_cell_at T) (hr.mono (by decide)) (by rfl) (pa_cons (pv 0) (pa_cons pe_int pa_nil))) (pa_cons (pe_fn (h__law_cell_at T) (hr.mono (by decide)) (by rfl) (pa_cons (pv 0) (pa_cons pe_int pa_nil))) (pa_cons pe_int pa_nil)))))
      (pss_cons (ps_set (i := 2) sc_law.nd rfl (Or.inl rfl) (pe_fn (h__law_names T) (hr.mono (by decide)) (by rfl) (pa_cons (pe_fn (h__law_cell_at T) (hr.mono (by decide)) (by rfl) (pa_cons (pv 0) (pa_cons pe_int pa_nil))) (pa_cons (pe_fn (h__law_cell_at T) (hr.mono (by decide)) (by rfl) (pa_cons (pv 0) (pa_cons pe_int pa_nil))) (pa_cons pe_int pa_nil)))))
      (pss_cons (ps_set (i := 3) sc_law.nd rfl (Or.inl rfl) (pe_fn (h__law_frame T) (hr.mono (by decide)) (by rfl) (pa_cons (pe_fn (h__law_cell_at T) (hr.mono (by decide)) (by rfl) (pa_cons (pv 0) (pa_cons pe_int pa_nil))) pa_nil)))
      (pss_cons (ps_asg (pe_fn (h__law_told T) (hr.mono (by decide)) (by rfl) (pa_cons (pv 1) (pa_cons (pv 2) (pa_cons (pe_slice (sl_listK K rfl) (pv 0) (po_some pe_int) (po_some pe_int)) pa_nil)))) (pg_tupK K rfl rfl (pgs_cons (pg_name (i := 4) sc_law.nd rfl (Or.inl rfl)) (pgs_cons (pg_name (i := 5) sc_law.nd rfl (Or.inl rfl)) (pgs_cons (pg_name (i := 6) sc_law.nd rfl (Or.inl rfl)) (pgs_cons (pg_name (i := 7) sc_law.nd rfl (Or.inl rfl)) pgs_nil))))))
      (pss_cons (ps_set (i := 8) sc_law.nd rfl (Or.inl rfl) (pe_lst pa_nil))
      (pss_cons (ps_for PassesOwn.never rfl (pi_listK K rfl (pe_op op_cat (pe_lst (pa_cons (pe_op (op_catTK K rfl) (pe_tup (pa_cons pe_str pa_nil)) (pv 3)) pa_nil)) (pv 7))) (pg_name (i := 9) sc_law.nd rfl (Or.inl rfl)) (pss_cons (ps_set (i := 10) sc_law.nd rfl (Or.inl rfl) (pe_op op_mod (pe_op op_mul (pe_op op_add (pe_fn (h__law_cell_at T) (hr.mono (by decide)) (by rfl) (pa_cons (pv 0) (pa_cons pe_int pa_nil))) (pe_callB (call_len_seqK K rfl) (by rfl) T.len boot_len (pa_cons (pv 8) pa_nil))) pe_int) pe_int))
        (pss_cons (ps_if (pt_cmpR op_eq (pe_op op_mod (pv 10) pe_int) pe_int (nomark _)) (pss_one (ps_expr (pe_bmK K rfl PySem.F.plainAttrs_list PySem.F.slot_list_append PySem.F.type_list_append mt_append (pv 8) (pa_cons (pe_fn (h__law_passed T) (hr.mono (by decide)) (by rfl) (pa_cons (pe_op op_fdiv (pv 10) pe_int) pa_nil)) pa_nil)))) pss_nil)
        (pss_one (ps_expr (pe_bmK K rfl PySem.F.plainAttrs_list PySem.F.slot_list_append PySem.F.type_list_append mt_append (pv 8) (pa_cons (pe_fn (h__law_free T) (hr.mono (by decide)) (by rfl) (pa_cons (pv 9) (pa_cons (pe_op op_fdiv (pv 10) pe_int) pa_nil))) pa_nil)))))))
      (pss_cons (ps_set (i := 11) sc_law.nd rfl (Or.inl rfl) (pe_bmK K rfl PySem.F.plainAttrs_str PySem.F.slot_str_join PySem.F.type_str_join (mt_joinK K rfl) pe_str (pa_cons (pe_op op_cat (pv 8) (pe_slice (sl_listK K rfl) (pe_lst (pa_cons (pe_fn (h__law_passed T) (hr.mono (by decide)) (by rfl) (pa_cons (pe_fn (h__law_cell_at T) (hr.mono (by decide)) (by rfl) (pa_cons (pv 0) (pa_cons pe_int pa_nil))) pa_nil)) pa_nil)) po_none (po_some (pe_op op_mod (pe_fn (h__law_cell_at T) (hr.mono (by decide)) (by rfl) (pa_cons (pv 0) (pa_cons pe_int pa_nil))) pe_int)))) pa_nil)))
      (pss_one (ps_ret (pe_fn (h__law_alike T) (hr.mono (by decide)) (by rfl) (pa_cons (pe_fn (h_read_telling T) (hr.mono (by decide)) (by rfl) (pa_cons (pv 11) pa_nil)) (pa_cons (pe_tup (pa_cons (pv 3) (pa_cons (pv 4) (pa_cons (pv 5) (pa_cons (pv 6) pa_nil))))) pa_nil)))))))))))), ?_⟩
    refine ⟨_, rfl, a, ns, _, rfl, ha, by decide, _, rfl, a, ns, _, rfl, ha, by decide, _, _, rfl, fun pn xs H1 x1 x2 x3 fn hn s1 => ?_⟩
    refine ⟨_, rfl, a, ns, _, rfl, s1.seq ha, by decide, _, rfl, a, ns, _, rfl, s1.seq ha, by decide, _, _, rfl, fun pm ms H2 m1 m2 m3 fm hm s2 => ?_⟩
    have q2 := s1.trans s2
    refine ⟨_, rfl, a, ns, _, rfl, q2.seq ha, by decide, _, rfl, fun pd lo hi H3 hlo y1 y2 fd hd s3 => ?_⟩
    have q3 := q2.trans s3
    refine ⟨_, rfl, _, rfl, _, rfl, _, rfl, _, rfl, a, _, rfl, q3.seq ha, fun pc hpc => ?_⟩
    have s4 := Same.new (o := .lst (cutV (ns.map V.int) (some 5) (some 45))) hpc
    have q4 := q3.trans s4
    obtain ⟨cs, ec, lc⟩ := cutV_ints ns (some 5) (some 45)
    have hc : upd H3 pc (.lst (cutV (ns.map V.int) (some 5) (some 45))) pc = some (.lst (cs.map V.int)) := by rw [upd_same, ec]
    refine ⟨pn, pm, pc, xs, ms, cs, rfl, ((s2.trans s3).trans s4).seq (SqL.of hn), (s3.trans s4).seq (SqL.of hm), SqL.of hc, x1, x2, x3, m1, m2, m3, by omega, fun p pu pt' pf pr us ts fs rs at' af ar H5 td ex lr ta hp fu ft ff fr nut nuf ntf s5 => ?_⟩
    have ok := td.tellOk (lo := lo) (hi := hi) (by omega) y1 y2
    have q5 := q4.trans s5
    have hd5 := s5 _ _ (s4 _ _ hd)
    refine ⟨p, _, rfl, SqT.of hp, rfl, _, _, rfl, _, _, rfl, _, _, rfl, _, _, rfl, rfl, ?_⟩
    refine ⟨by decide, fun pl hpl => ?_⟩
    have s6 := Same.new (o := .lst []) hpl
    have e6 : upd H5 pl (.lst []) pl = some (.lst (([] : List Str).map V.str)) := upd_same
    generalize upd H5 pl (.lst []) = H6 at s6 e6
    refine ⟨(by show 1 ≤ sizeLine; decide), fun c5 hc5 => ?_⟩
    have s7 := s6.trans (Same.new (o := .tup [.str "dig"]) hc5)
    refine ⟨_, rfl, c5, pd, _, _, rfl, rfl, SqT.of upd_same, SqT.of (s7 _ _ hd5), by simp, (by show 1 + 2 ≤ sizeLine; decide), fun z => by simp at z, fun _ c6 hc6 => ?_⟩
    have s8 := Same.new (o := .tup ([.str "dig"] ++ [.int lo, .int hi])) hc6
    have e8 : upd (upd H6 c5 (.tup [.str "dig"])) c6 (.tup ([.str "dig"] ++ [.int lo, .int hi])) c6 = some (.tup [.str "dig", .int lo, .int hi]) := upd_same
    have f8 := s8 _ _ (Same.new (o := .tup [.str "dig"]) hc5 _ _ e6)
    have q8 := s7.trans s8
    generalize upd (upd H6 c5 (.tup [.str "dig"])) c6 (.tup ([.str "dig"] ++ [.int lo, .int hi])) = H8 at s8 e8 f8 q8
    refine ⟨(by show 1 ≤ sizeLine; decide), fun c7 hc7 => ?_⟩
    have s9 := Same.new (o := .lst [.ref c6]) hc7
    have r9 := s9 _ _ (q8 _ _ ta.r)
    have lar := ta.rt.len
    refine ⟨_, rfl, c7, pr, _, _, rfl, rfl, upd_same, r9, le_line (by simp; omega), fun c8 hc8 => ?_⟩
    have sA := s9.trans (Same.new (o := .lst ([.ref c6] ++ ar.map V.ref)) hc8)
    have eA : upd (upd H8 c7 (.lst [.ref c6])) c8 (.lst ([.ref c6] ++ ar.map V.ref)) c8 = some (.lst ((c6 :: ar).map V.ref)) := upd_same
    have qA := q8.trans sA
    have fA := sA _ _ f8
    have gA := sA _ _ e8
    generalize upd (upd H8 c7 (.lst [.ref c6])) c8 (.lst ([.ref c6] ++ ar.map V.ref)) = HA at sA eA qA fA gA
    have npl : H5 pl = none := hpl
    have tups : Tups HA (c6 :: ar) ([.str "dig", .int lo, .int hi] :: rs) := .cons gA (ta.rt.same qA)
    have n8 : c8 ≠ pl := fun e => by subst e; rw [fA] at eA; cases eA
    refine ⟨c8, rfl, ⟨_, SqL.of eA⟩, for_list (xs := (c6 :: ar).map V.ref) (fun i σ H' => ∃ (v9 v10 v11 : Option V) (ls : List Str) (si : RS), σ = [some (.ref a), some (.ref pn), some (.ref pm), some (.ref pd), some (.ref pu), some (.ref pt'), some (.ref pf), some (.ref pr), some (.ref pl), v9, v10, v11] ∧ Same H5 H' ∧ (∀ b o, HA b = some o → b ≠ pl → H' b = some o) ∧
      H' pl = some (.lst (ls.map V.str)) ∧ LinesOk ls ∧ ls.length ≤ 2 * i ∧ Reads ⟨none, [], [], []⟩ ls si ∧ Steps si (([V.str "dig", .int lo, .int hi] :: rs).drop i) ⟨some (lo, hi), us, ts, fs⟩ ∧ (∀ x ∈ si.us, nameB x = true))
      ⟨none, none, none, [], _, rfl, qA, fun b o e _ => e, fA, (fun _ h => nomatch h), by simp, .nil, told_all td hlo y1 y2, (fun _ h => nomatch h)⟩ (fun i σ H' _ h => by obtain ⟨_, _, _, _, _, _, _, kp, _⟩ := h; exact SqL.of (kp _ _ eA n8)) ?_ ?_⟩
    · rintro i v σ H' hv ⟨v9, v10, v11, ls, si, rfl, q, kp, hpl', lo', ll, rd, stp, nm⟩
      rw [List.getElem?_map] at hv
      cases ea : (c6 :: ar)[i]? with
      | none => rw [ea] at hv; cases hv
      | some b =>
        rw [ea] at hv
        cases hv
        obtain ⟨ws, ews, hb⟩ := tups.at ea
        have hI := (List.getElem?_eq_some_iff.mp ews).1
        have nbl : b ≠ pl := fun e => by subst e; rw [fA] at hb; cases hb
        have ed : ([V.str "dig", .int lo, .int hi] :: rs).drop i = ws :: ([V.str "dig", .int lo, .int hi] :: rs).drop (i + 1) := by
          rw [List.drop_eq_getElem_cons hI]
          congr 1
          exact (List.getElem?_eq_some_iff.mp ews).2
        rw [ed] at stp
        cases stp with
        | row st rest =>
          rename_i s1'
          have ro := st.row nm
          have rw' := rowOk_wd ro.1
          have hi2 : i ≤ 63 := by simp at hI; omega
          refine ⟨_, rfl, a, ns, _, rfl, (q5.trans q).seq ha, by decide, _, rfl, pl, _, rfl, .inl (SqL.of hpl'), _, _, rfl, rfl, _, _, rfl, rfl, .inr ⟨by decide, by decide⟩, _, _, rfl, rfl, (by decide : (0 : Int) < 65537), ?_⟩
          generalize hcl : (cellI ns 4 + ((ls.map V.str).length : Int)) * 48271 = z0
          have z1 := Int.emod_nonneg z0 (show (65537 : Int) ≠ 0 by decide)
          have z2 := Int.emod_lt_of_pos z0 (show (0 : Int) < 65537 by decide)
          dsimp only [gName]
          refine ⟨_, rfl, _, _, rfl, rfl, (by decide : (0 : Int) < 3), rfl, _, rfl, ?_⟩
          refine ite2 (fun _ => ?_) (fun _ => ?_)
          · refine ⟨_, rfl, .inl ⟨rfl, _, SqL.of hpl'⟩, _, rfl, _, _, rfl, rfl, ⟨by decide, by decide⟩, _, rfl, fun y H2' py s2' => ?_⟩
            have h2' := s2' _ _ hpl'
            refine ⟨pl, _, _, rfl, rfl, h2', le_line (by simp; omega), ?_⟩
            have e3 : upd H2' pl (.lst (ls.map V.str ++ [.str y])) pl = some (.lst ((ls ++ [y]).map V.str)) := by rw [upd_same, List.map_append]; rfl
            have q3' : Same H5 (upd H2' pl (.lst (ls.map V.str ++ [.str y]))) := (q.trans s2').upd npl
            have kp3 : ∀ b o, HA b = some o → b ≠ pl → upd H2' pl (.lst (ls.map V.str ++ [.str y])) b = some o := fun b o e n => by rw [upd_ne n]; exact s2' _ _ (kp _ _ e n)
            generalize upd H2' pl (.lst (ls.map V.str ++ [.str y])) = H3 at e3 q3' kp3
            have lo3 := lo'.snoc py.feed py.len
            have rd3 : Reads ⟨none, [], [], []⟩ (ls ++ [y]) si := rd.append (.skip py.pass .nil)
            have hb3 : SqT K H3 b ws := SqT.of (kp3 _ _ hb nbl)
            refine ⟨_, rfl, .inl ⟨rfl, _, SqL.of e3⟩, _, rfl, _, rfl, _, _, rfl, rfl, ⟨by decide, by decide⟩, b, ws, z0 % 65537 / 7, rfl, hb3, ro.1, rw'.1, rw'.2, Int.ediv_nonneg z1 (by decide), by omega, fun y' H4 fr4 s4' => ?_⟩
            refine ⟨pl, _, _, rfl, rfl, s4' _ _ e3, le_line (by simp; omega), _, _, v11, ls ++ [y] ++ [y'], s1', rfl, (q3'.trans s4').upd npl, fun b' o e n => ?_, ?_, lo3.snoc fr4.feed fr4.len, by simp; omega, rd3.append (.row fr4.words st .nil), rest, ro.2⟩
            · rw [upd_ne n]; exact s4' _ _ (kp3 _ _ e n)
            · rw [upd_same]; simp
          · have e3 := hpl'
            have q3' := q
            have kp3 := kp
            have lo3 := lo'
            have rd3 := rd
            have hb3 : SqT K H' b ws := SqT.of (kp3 _ _ hb nbl)
            refine ⟨_, rfl, .inl ⟨rfl, _, SqL.of e3⟩, _, rfl, _, rfl, _, _, rfl, rfl, ⟨by decide, by decide⟩, b, ws, z0 % 65537 / 7, rfl, hb3, ro.1, rw'.1, rw'.2, Int.ediv_nonneg z1 (by decide), by omega, fun y' H4 fr4 s4' => ?_⟩
            refine ⟨pl, _, _, rfl, rfl, s4' _ _ e3, le_line (by simp; omega), _, _, v11, ls ++ [y'], s1', rfl, (q3'.trans s4').upd npl, fun b' o e n => ?_, ?_, lo3.snoc fr4.feed fr4.len, by simp; omega, rd3.append (.row fr4.words st .nil), rest, ro.2⟩
            · rw [upd_ne n]; exact s4' _ _ (kp3 _ _ e n)
            · rw [upd_same]; simp
    · rintro σ H' ⟨v9, v10, v11, ls, si, rfl, q, kp, hpl', lo', ll, rd, stp, nm⟩
      rw [List.length_map] at stp ll
      rw [List.drop_of_length_le (by simp; omega)] at stp
      cases stp
      have ll : ls.length ≤ 200 := by simp at ll; omega
      have q' := q5.trans q
      refine ⟨rfl, _, rfl, _, rfl, a, ns, _, rfl, q'.seq ha, by decide, _, rfl, fun y H2' py s2' => ?_⟩
      refine ⟨(by show 1 ≤ sizeLine; decide), fun c9 hc9 => ?_⟩
      have sB := s2'.trans (Same.new (o := .lst [.str y]) hc9)
      refine ⟨_, rfl, a, ns, _, rfl, (q'.trans sB).seq ha, by decide, _, _, rfl, rfl, (by decide : (0 : Int) < 2), ?_⟩
      generalize cellI ns 2 = z0
      have z1 := Int.emod_nonneg z0 (show (2 : Int) ≠ 0 by decide)
      have z2 := Int.emod_lt_of_pos z0 (show (0 : Int) < 2 by decide)
      refine ⟨z0 % 2, rfl, c9, _, rfl, SqL.of upd_same, fun cA hcA => ?_⟩
      have sC := sB.trans (Same.new (o := .lst (cutV [.str y] none (some (z0 % 2)))) hcA)
      obtain ⟨ms', em, lo3, lm, rd3⟩ : ∃ ms' : List Str, cutV [.str y] none (some (z0 % 2)) = ms'.map V.str ∧ LinesOk (ls ++ ms') ∧ ms'.length ≤ 1 ∧ Reads ⟨none, [], [], []⟩ (ls ++ ms') ⟨some (lo, hi), us, ts, fs⟩ := by
        rcases cut_one (.str y) z1 z2 with e | e
        · exact ⟨[], e, by rw [List.append_nil]; exact lo', by simp, by rw [List.append_nil]; exact rd⟩
        · exact ⟨[y], e, lo'.snoc py.feed py.len, by simp, rd.append (.skip py.pass .nil)⟩
      rw [em]
      rw [em] at sC
      refine ⟨pl, cA, _, _, rfl, rfl, sC _ _ hpl', upd_same, le_line (by simp; omega), fun cB hcB => ?_⟩
      have sD := sC.trans (Same.new (o := .lst (ls.map V.str ++ ms'.map V.str)) hcB)
      have len2 := lines_len (ls := ls ++ ms') (by simp; omega) fun l hl => (lo3 l hl).2
      have ne : ls ++ ms' ≠ [] := by
        intro z
        rw [z] at rd3
        cases rd3
      have spl := lines_text ne fun l hl => (lo3 l hl).1
      refine ⟨_, cB, ls ++ ms', rfl, rfl, SqL.of (by rw [upd_same, List.map_append]), len2.2, ?_⟩
      refine ⟨_, rfl, _, ⟨some (lo, hi), us, ts, fs⟩, lo, hi, rfl, len2.1, ?_, ?_, ?_, rfl, fun tl gm gu gt gf bt bf HC _ _ _ _ e1' e2' e3' e4' e5' e6' e7' _ _ _ sE => ?_⟩
      · intro l hl
        have hl : l ∈ Txt.split (Txt.join "\n" (ls ++ ms')) "\n" := hl
        rw [spl] at hl
        have := (lo3 l hl).2
        omega
      · show (Txt.split (Txt.join "\n" (ls ++ ms')) "\n").length ≤ 900
        rw [spl]
        simp
        omega
      · show Reads _ (Txt.split (Txt.join "\n" (ls ++ ms')) "\n") _
        rw [spl]
        exact rd3
      have qF := (q.trans sD).trans sE
      refine ⟨_, rfl, _, rfl, _, rfl, _, rfl, (by show 4 ≤ sizeLine; decide), fun pz hpz => ?_⟩
      have t9 := Same.new (o := .tup [.ref pd, .ref pu, .ref pt', .ref pf]) hpz
      have qG := qF.trans t9
      refine ⟨_, _, rfl, FullAt.alike (FullAt.same ⟨e1', e2', e3', e4', e5', e6', e7'⟩ t9) (tl2 := pz) ⟨upd_same, qG _ _ hd5, qG _ _ ta.u, qG _ _ ta.t, ta.tt.same qG, qG _ _ ta.f, ta.ft.same qG⟩ ok, fun HD sD => k _⟩

end
end LK04
open PySem PySem.W PyProof.Rows
set_option maxRecDepth 100000 in
set_option maxHeartbeats 0 in
theorem PySem.Challenge.cw_digmatrix_k04_a_telling_read_freely_holds : PySem.Challenge.rw_digmatrix_k04_a_telling_read_freely.Holds := by
  w_on; o_law; k_head; (case hw => w_witness2)
  k_fill
  refine L2.law_walk (l := PySem.Challenge.rw_digmatrix_k04_a_telling_read_freely) (k := LK04.kLaw) (x := "_law_script") (sp := fun K => LK04.sp_law (K := K)) rfl rfl ⟨rfl, by decide, by decide⟩ (fun w h Y => PySem.W.kIn_of Y) (fun K H a ns hl hS => ⟨a, ns, rfl, hS, hl, fun _ => rfl⟩) ?F
  case F =>
    intro w mg h KX G
    have T : ∃ C_Reading, LK04.Tx (L2.KOf KX) mg w C_Reading := by
      dsimp only [L2.KOf]
      refine' LK04.Tx.ex ⟨?z0, ?z1, ?z2, ?z3, ?z4, ?z5, ?z6, ?z7, ?z8, ?z9, ?z10, ?z11, ?z12, ?z13, ?z14, ?z15, ?z16, ?z17, ?z18, ?z19, ?z20, ?z21, ?z22, ?z23, ?z24, ?z25, ?z26, ?z27, ?z28, ?z29, ?z30, ?z31, ?z32, ?z33, ?z34, ?z35, ?z36, ?z37, ?z38, ?z39, ?z40, ?z41, ?z42, ?z43, ?z44, ?z45, ?z46, ?z47, ?z48, ?z49, ?z50, ?z51, ?z52, ?z53, ?z54⟩
      case z0 => refine' L2.const_mk KX G ?x0; (case x0 => k_is)
      case z1 => refine' ⟨?x1, ?y1, ?u1, ?v1⟩; (case x1 => k_is); (case y1 => k_is); (case u1 => k_is); (case v1 => k_is)
      case z2 => k_is
      case z3 => k_is
      case z4 => (unfold L2.NoAttr; k_is)
      case z5 => (unfold L2.NoAttr; k_is)
      case z6 => (unfold L2.NoAttr; k_is)
      case z7 => (unfold L2.NoAttr; k_is)
      case z8 => refine' L2.dfm_mk (fun _ _ _ _ _ _ => L2.len1 fun _ => rfl) ?p8 ?q8 ?r8 ?s8 ?t8; (case p8 => k_is); (case q8 => k_is); (case r8 => k_is); (case s8 => k_is); (case t8 => k_is)
      case z9 => refine' L2.dfm_mk (fun _ _ _ _ _ _ => L2.len3 fun _ _ _ => rfl) ?p9 ?q9 ?r9 ?s9 ?t9; (case p9 => k_is); (case q9 => k_is); (case r9 => k_is); (case s9 => k_is); (case t9 => k_is)
      case z10 => refine' L2.dfm_mk (fun _ _ _ _ _ _ => L2.len3 fun _ _ _ => rfl) ?p10 ?q10 ?r10 ?s10 ?t10; (case p10 => k_is); (case q10 => k_is); (case r10 => k_is); (case s10 => k_is); (case t10 => k_is)
      case z11 => refine' L2.dfm_mk (fun _ _ _ _ _ _ => L2.len3 fun _ _ _ => rfl) ?p11 ?q11 ?r11 ?s11 ?t11; (case p11 => k_is); (case q11 => k_is); (case r11 => k_is); (case s11 => k_is); (case t11 => k_is)
      case z12 => refine' L2.dfm_mk (fun _ _ _ _ _ _ => L2.len3 fun _ _ _ => rfl) ?p12 ?q12 ?r12 ?s12 ?t12; (case p12 => k_is); (case q12 => k_is); (case r12 => k_is); (case s12 => k_is); (case t12 => k_is)
      case z13 => refine' L2.dfm_mk (fun _ _ _ _ _ _ => L2.len3 fun _ _ _ => rfl) ?p13 ?q13 ?r13 ?s13 ?t13; (case p13 => k_is); (case q13 => k_is); (case r13 => k_is); (case s13 => k_is); (case t13 => k_is)
      case z14 => refine' L2.dfm_mk (fun _ _ _ _ _ _ => L2.len3 fun _ _ _ => rfl) ?p14 ?q14 ?r14 ?s14 ?t14; (case p14 => k_is); (case q14 => k_is); (case r14 => k_is); (case s14 => k_is); (case t14 => k_is)
      case z15 => refine' L2.dfm_mk (fun _ _ _ _ _ _ => L2.len1 fun _ => rfl) ?p15 ?q15 ?r15 ?s15 ?t15; (case p15 => k_is); (case q15 => k_is); (case r15 => k_is); (case s15 => k_is); (case t15 => k_is)
      case z16 => refine' L2.df_mk KX G (fun _ _ _ _ _ _ => L2.len1 fun _ => rfl) ?p16 ?q16 ?r16 ?s16; (case p16 => k_is); (case q16 => k_is); (case r16 => k_is); (case s16 => k_is)
      case z17 => refine' L2.df_mk KX G (fun _ _ _ _ _ _ => L2.len1 fun _ => rfl) ?p17 ?q17 ?r17 ?s17; (case p17 => k_is); (case q17 => k_is); (case r17 => k_is); (case s17 => k_is)
      case z18 => refine' L2.df_mk KX G (fun _ _ _ _ _ _ => L2.len2 fun _ _ => rfl) ?p18 ?q18 ?r18 ?s18; (case p18 => k_is); (case q18 => k_is); (case r18 => k_is); (case s18 => k_is)
      case z19 => refine' L2.df_mk KX G (fun _ _ _ _ _ _ => L2.len1 fun _ => rfl) ?p19 ?q19 ?r19 ?s19; (case p19 => k_is); (case q19 => k_is); (case r19 => k_is); (case s19 => k_is)
      case z20 => refine' L2.df_mk KX G (fun _ _ _ _ _ _ => L2.len1 fun _ => rfl) ?p20 ?q20 ?r20 ?s20; (case p20 => k_is); (case q20 => k_is); (case r20 => k_is); (case s20 => k_is)
      case z21 => refine' L2.df_mk KX G (fun _ _ _ _ _ _ => L2.len2 fun _ _ => rfl) ?p21 ?q21 ?r21 ?s21; (case p21 => k_is); (case q21 => k_is); (case r21 => k_is); (case s21 => k_is)
      case z22 => refine' L2.df_mk KX G (fun _ _ _ _ _ _ => L2.len3 fun _ _ _ => rfl) ?p22 ?q22 ?r22 ?s22; (case p22 => k_is); (case q22 => k_is); (case r22 => k_is); (case s22 => k_is)
      case z23 => refine' L2.df_mk KX G (fun _ _ _ _ _ _ => L2.len3 fun _ _ _ => rfl) ?p23 ?q23 ?r23 ?s23; (case p23 => k_is); (case q23 => k_is); (case r23 => k_is); (case s23 => k_is)
      case z24 => refine' L2.df_mk KX G (fun _ _ _ _ _ _ => L2.len1 fun _ => rfl) ?p24 ?q24 ?r24 ?s24; (case p24 => k_is); (case q24 => k_is); (case r24 => k_is); (case s24 => k_is)
      case z25 => refine' L2.df_mk KX G (fun _ _ _ _ _ _ => L2.len2 fun _ _ => rfl) ?p25 ?q25 ?r25 ?s25; (case p25 => k_is); (case q25 => k_is); (case r25 => k_is); (case s25 => k_is)
      case z26 => refine' L2.df_mk KX G (fun _ _ _ _ _ _ => L2.len3 fun _ _ _ => rfl) ?p26 ?q26 ?r26 ?s26; (case p26 => k_is); (case q26 => k_is); (case r26 => k_is); (case s26 => k_is)
      case z27 => refine' L2.df_mk KX G (fun _ _ _ _ _ _ => L2.len3 fun _ _ _ => rfl) ?p27 ?q27 ?r27 ?s27; (case p27 => k_is); (case q27 => k_is); (case r27 => k_is); (case s27 => k_is)
      case z28 => refine' L2.df_mk KX G (fun _ _ _ _ _ _ => L2.len2 fun _ _ => rfl) ?p28 ?q28 ?r28 ?s28; (case p28 => k_is); (case q28 => k_is); (case r28 => k_is); (case s28 => k_is)
      case z29 => refine' L2.df_mk KX G (fun _ _ _ _ _ _ => L2.len2 fun _ _ => rfl) ?p29 ?q29 ?r29 ?s29; (case p29 => k_is); (case q29 => k_is); (case r29 => k_is); (case s29 => k_is)
      case z30 => refine' L2.df_mk KX G (fun _ _ _ _ _ _ => L2.len4 fun _ _ _ _ => rfl) ?p30 ?q30 ?r30 ?s30; (case p30 => k_is); (case q30 => k_is); (case r30 => k_is); (case s30 => k_is)
      case z31 => refine' L2.df_mk KX G (fun _ _ _ _ _ _ => L2.len3 fun _ _ _ => rfl) ?p31 ?q31 ?r31 ?s31; (case p31 => k_is); (case q31 => k_is); (case r31 => k_is); (case s31 => k_is)
      case z32 => refine' L2.df_mk KX G (fun _ _ _ _ _ _ => L2.len1 fun _ => rfl) ?p32 ?q32 ?r32 ?s32; (case p32 => k_is); (case q32 => k_is); (case r32 => k_is); (case s32 => k_is)
      case z33 => refine' L2.df_mk KX G (fun _ _ _ _ _ _ => L2.len1 fun _ => rfl) ?p33 ?q33 ?r33 ?s33; (case p33 => k_is); (case q33 => k_is); (case r33 => k_is); (case s33 => k_is)
      case z34 => refine' L2.df_mk KX G (fun _ _ _ _ _ _ => L2.len2 fun _ _ => rfl) ?p34 ?q34 ?r34 ?s34; (case p34 => k_is); (case q34 => k_is); (case r34 => k_is); (case s34 => k_is)
      case z35 => refine' L2.df_mk KX G (fun _ _ _ _ _ _ => L2.len2 fun _ _ => rfl) ?p35 ?q35 ?r35 ?s35; (case p35 => k_is); (case q35 => k_is); (case r35 => k_is); (case s35 => k_is)
      case z36 => refine' L2.df_mk KX G (fun _ _ _ _ _ _ => L2.len1 fun _ => rfl) ?p36 ?q36 ?r36 ?s36; (case p36 => k_is); (case q36 => k_is); (case r36 => k_is); (case s36 => k_is)
      case z37 => refine' L2.df_mk KX G (fun _ _ _ _ _ _ => L2.len1 fun _ => rfl) ?p37 ?q37 ?r37 ?s37; (case p37 => k_is); (case q37 => k_is); (case r37 => k_is); (case s37 => k_is)
      case z38 => refine' L2.rel_mk KX G ?x38 ?y38; (case x38 => k_is); (case y38 => exact ⟨_, rfl⟩)
      case z39 => refine' L2.rel_mk KX G ?x39 ?y39; (case x39 => k_is); (case y39 => exact ⟨_, rfl⟩)
      case z40 => refine' L2.rel_mk KX G ?x40 ?y40; (case x40 => k_is); (case y40 => exact ⟨_, rfl⟩)
      case z41 => refine' L2.rel_mk KX G ?x41 ?y41; (case x41 => k_is); (case y41 => exact ⟨_, rfl⟩)
      case z42 =>
        refine' L2.kdt_mk KX G ?x42 ?y42 ?u42 ?v42 ?w42
        (case x42 => k_is)
        (case y42 => k_is)
        (case u42 => (refine' (.cons ?e42_0 ?f42_0 ?g42_0 (.cons ?e42_1 ?f42_1 ?g42_1 (.cons ?e42_2 ?f42_2 ?g42_2 (.cons ?e42_3 ?f42_3 ?g42_3 (.cons ?e42_4 ?f42_4 ?g42_4 (.cons ?e42_5 ?f42_5 ?g42_5 (.cons ?e42_6 ?f42_6 ?g42_6 (.cons ?e42_7 ?f42_7 ?g42_7 .nil)))))))); (case e42_0 => k_is); (case f42_0 => decide); (case g42_0 => exact (.cons ⟨_, rfl⟩ (.cons ⟨_, rfl⟩ .nil))); (case e42_1 => k_is); (case f42_1 => decide); (case g42_1 => exact (.cons ⟨_, rfl⟩ .nil)); (case e42_2 => k_is); (case f42_2 => decide); (case g42_2 => exact (.cons ⟨_, rfl⟩ (.cons ⟨_, rfl⟩ .nil))); (case e42_3 => k_is); (case f42_3 => decide); (case g42_3 => exact (.cons ⟨_, rfl⟩ (.cons ⟨_, rfl⟩ .nil))); (case e42_4 => k_is); (case f42_4 => decide); (case g42_4 => exact (.cons ⟨_, rfl⟩ (.cons ⟨_, rfl⟩ .nil))); (case e42_5 => k_is); (case f42_5 => decide); (case g42_5 => exact (.cons ⟨_, rfl⟩ (.cons ⟨_, rfl⟩ (.cons ⟨_, rfl⟩ .nil)))); (case e42_6 => k_is); (case f42_6 => decide); (case g42_6 => exact (.cons ⟨_, rfl⟩ (.cons ⟨_, rfl⟩ .nil))); (case e42_7 => k_is); (case f42_7 => decide); (case g42_7 => exact (.cons ⟨_, rfl⟩ (.cons ⟨_, rfl⟩ (.cons ⟨_, rfl⟩ (.cons ⟨_, rfl⟩ .nil)))))))
        (case v42 => decide)
        (case w42 => decide +kernel)
      case z43 => refine' L2.blt_mk KX G ?_; k_is
      case z44 => refine' L2.blt_mk KX G ?_; k_is
      case z45 => refine' L2.blt_mk KX G ?_; k_is
      case z46 => refine' L2.blt_mk KX G ?_; k_is
      case z47 => refine' L2.blt_mk KX G ?_; k_is
      case z48 => refine' L2.blt_mk KX G ?_; k_is
      case z49 => refine' L2.blt_mk KX G ?_; k_is
      case z50 => refine' L2.blt_mk KX G ?_; k_is
      case z51 => refine' L2.blt_mk KX G ?_; k_is
      case z52 => refine' L2.blt_mk KX G ?_; k_is
      case z53 => refine' L2.blt_mk KX G ?_; k_is
      case z54 => refine' L2.blt_mk KX G ?_; k_is
    obtain ⟨_, T⟩ := T
    exact fun base _ _ => LK04.h_law T
#print axioms PySem.Challenge.cw_digmatrix_k04_a_telling_read_freely_holds

