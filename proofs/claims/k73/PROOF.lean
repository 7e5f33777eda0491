import PyProof.Rows.All
import Wide.All
import OpenK.AllK
import Wide.FinOn
import Lean
import PyProof.EqAt
import PyProof.EqKinds
import PyProof.TupleCall
import PyProof.ZipIter
import PyProof.DictWalks
import PyProof.StrOps2
import KE.IntTextLaws
import PyProof.StrBlockI
import PyProof.StrLawsIn
import PyProof.AutoSeq1
import PyProof.WalkInts
import PyProof.Rows.SetFrom
import PyProof.SetKind
import PyProof.CollectWalk
import PyProof.MinMaxWalk
import PyProof.TupleKey
import PyProof.FString5
import KE.KDictOf
import PyProof.AttrMissHeap
import KE.KSortTup
import PyProof.MeetsSeq3
import PyProof.DictUpdate
import PyProof.StrLawsChain
import PyProof.StrLawsTight
import PyProof.Rows.StrItems
import PyProof.ExcInit
import PyProof.ExcClass3
import PyProof.ExcBaseAll.ValueError
import PyProof.FString
import PyProof.Rows.FStr
import PyProof.RaisesMany
import PyProof.RulesAs
import PyProof.NsDelKeeps
import PyProof.ExcAttrAll.ValueError
import PyProof.Rows.SumAny
import KE.KMulAny
import PySem.Challenge.RW_digmatrix_k73_no_matrix
set_option Elab.async false
set_option linter.all false
set_option maxRecDepth 100000
def PySem.W.Fast.tw11131315430974824842:Unit:=()
def PySem.W.Fast.tw4342459078848266200:Unit:=()
def PySem.W.Fast.tw12879816829030676014:Unit:=()
def PySem.W.Fast.tw14224770182998978999:Unit:=()
def PySem.W.Fast.tw2532664170089645644:Unit:=()
def PySem.W.Fast.tw8706710716975909604:Unit:=()
def PySem.W.Fast.tw15913145312434970226:Unit:=()
def PySem.W.Fast.tw13747418810841666149:Unit:=()
def PySem.W.Fast.tw2004438276243319571:Unit:=()
def PySem.W.Fast.tw10887953038312518160:Unit:=()
def PySem.W.Fast.tw18084462835009680330:Unit:=()
def PySem.W.Fast.tw9182331546314746341:Unit:=()
def PySem.W.Fast.tw17639381130598604843:Unit:=()
def PySem.W.Fast.tw4015844418990313017:Unit:=()
def PySem.W.Fast.tw11128081455398777217:Unit:=()
def PySem.W.Fast.tw8314008070715309181:Unit:=()
def PySem.W.Fast.tw16100677321024332035:Unit:=()
namespace L2
open PySem PySem.Spec PyProof.Rows
abbrev Key:=Sum Int Str
def zlz:Key->Value->Bool
  | .inl k,v=>Value.isInt k v
  | .inr x,v=>Value.isStrOf x v
def keyH (w:World):Key->Int
  | .inl k=>hashInt k
  | .inr x=>hashStr w x
theorem za7:∀{k:Key}{v:Value},zlz k v=true->(∃i t,k=Sum.inl i/\v=Value.int i t)\/(∃x t,k=Sum.inr x/\v=Value.str x t)
  | .inl i,v,h=>by
    obtain⟨t,e⟩:=Value.isInt_shape (k:=i) (v:=v) h
    exact .inl ⟨i,t,rfl,e⟩
  | .inr x,v,h=>by
    obtain⟨t,e⟩:=Value.isStrOf_shape (x:=x) (v:=v) h
    exact .inr ⟨x,t,rfl,e⟩
theorem zmw (i:Int) (t:Tok):zlz (.inl i) (.int i t)=true:=by simp[zlz,Value.isInt]
theorem zmx (x:Str) (t:Tok):zlz (.inr x) (.str x t)=true:=by simp[zlz,Value.isStrOf]
theorem ztt (a b:Int):decide ((Sum.inl a:Key)=Sum.inl b)=(a == b):=by
  by_cases e:a=b
  · subst e;simp
  · have h:¬(Sum.inl a:Key)=Sum.inl b:=fun q=>e (Sum.inl.inj q)
    rw[decide_eq_false h]
    exact (beq_eq_false_iff_ne.mpr e).symm
theorem ztu (a b:Str):decide ((Sum.inr a:Key)=Sum.inr b)=decide (a=b):=by
  by_cases e:a=b
  · subst e;simp
  · have h:¬(Sum.inr a:Key)=Sum.inr b:=fun q=>e (Sum.inr.inj q)
    rw[decide_eq_false h,decide_eq_false e]
theorem ztv (a:Int) (b:Str):decide ((Sum.inl a:Key)=Sum.inr b)=false:=decide_eq_false (fun q=>nomatch q)
theorem ztw (a:Str) (b:Int):decide ((Sum.inr a:Key)=Sum.inl b)=false:=decide_eq_false (fun q=>nomatch q)
def zbq (prog:Program) (w:World):PySem.KeyKind prog w Key where
  is:=zlz
  hash:=keyH w
  inj:=fun v a b ha hb=>by
    rcases za7 ha with ⟨i,t,rfl,rfl⟩ | ⟨x,t,rfl,rfl⟩
    · rcases za7 hb with ⟨j,u,rfl,e⟩ | ⟨y,u,rfl,e⟩
      · injection e with e1 _;rw[e1]
      · exact nomatch e
    · rcases za7 hb with ⟨j,u,rfl,e⟩ | ⟨y,u,rfl,e⟩
      · exact nomatch e
      · injection e with e1 _;rw[e1]
  byValue:=fun k v h=>by
    rcases za7 h with ⟨i,t,rfl,rfl⟩ | ⟨x,t,rfl,rfl⟩<;>rfl
  pyHash:=fun hv h=>by
    rcases za7 hv with ⟨i,t,rfl,rfl⟩ | ⟨x,t,rfl,rfl⟩
    · exact wpAny_pyHash_int h
    · exact wpAny_pyHash_str h
  eqBool:=fun hu hv h=>by
    rcases za7 hu with ⟨i,t,rfl,rfl⟩ | ⟨x,t,rfl,rfl⟩
    · rcases za7 hv with ⟨j,u,rfl,rfl⟩ | ⟨y,u,rfl,rfl⟩
      · rw[ztt] at h;exact wpAny_eqBool_int h
      · rw[ztv] at h;exact SeqAt.EqAt.int_str i t y u _ _ _ _ h
    · rcases za7 hv with ⟨j,u,rfl,rfl⟩ | ⟨y,u,rfl,rfl⟩
      · rw[ztw] at h;exact SeqAt.EqAt.str_int x t j u _ _ _ _ h
      · rw[ztu] at h;exact wpAny_eqBool_str h
  «strs»:=fun k x t v h=>by
    rcases za7 h with ⟨i,u,rfl,e⟩ | ⟨y,u,rfl,e⟩
    · exact nomatch e
    · injection e with e1 _
      subst e1
      cases v<;>rfl
theorem zjy (prog:Program) (w:World) (i:Int) (t:Tok):(zbq prog w).is (.inl i) (.int i t)=true:=zmw i t
theorem zjz (prog:Program) (w:World) (x:Str) (t:Tok):(zbq prog w).is (.inr x) (.str x t)=true:=zmx x t
inductive V where
  | non | bl (b:Bool) | int (i:Int) | str (x:Str) | byt (b:Array UInt8) | flt (b:UInt64) | ref (a:Addr) | ty (n:String)
  deriving DecidableEq
def RelV:V->Value->Prop
  | .non,u=>u=Value.none
  | .bl b,u=>u=Value.bool b
  | .int i,u=>∃t,u=Value.int i t
  | .str x,u=>∃t,u=Value.str x t
  | .byt b,u=>∃t,u=Value.bytes b t
  | .flt b,u=>∃t,u=Value.float b t
  | .ref a,u=>u=Value.ref a
  | .ty n,u=>u=Value.type n
abbrev Vals:List V->List Value->Prop:=Paired RelV
theorem Vals.length {xs:List V}{us:List Value}(r:Vals xs us):xs.length=us.length:=Paired.length r
theorem Vals.get:∀{xs:List V}{us:List Value}{i:Nat}{x:V},Vals xs us->xs[i]? = some x->∃u,us[i]? = some u/\RelV x u
  | _,_,_,_,.nil,e=>by simp at e
  | _,_,0,_,.cons r _,e=>by simp at e;subst e;exact⟨_,rfl,r⟩
  | _,_,i+1,x,.cons _ t,e=>by
    obtain⟨u,h1,h2⟩:=Vals.get (i:=i) (x:=x) t (by simpa using e)
    exact⟨u,by simpa using h1,h2⟩
theorem Vals.append:∀{xs ys:List V}{us ws:List Value},Vals xs us->Vals ys ws->Vals (xs++ys) (us++ws)
  | _,_,_,_,.nil,s=>s
  | _,_,_,_,.cons r t,s=>.cons r (Vals.append t s)
theorem Vals.take:∀{xs:List V}{us:List Value}(n:Nat),Vals xs us->Vals (xs.take n) (us.take n)
  | _,_,0,_=>.nil
  | _,_,_+1,.nil=>.nil
  | _,_,n+1,.cons r t=>.cons r (Vals.take n t)
theorem Vals.drop:∀{xs:List V}{us:List Value}(n:Nat),Vals xs us->Vals (xs.drop n) (us.drop n)
  | _,_,0,r=>r
  | _,_,_+1,.nil=>.nil
  | _,_,n+1,.cons _ t=>Vals.drop n t
def RelO:Option V->Option Value->Prop
  | some v,some u=>RelV v u
  | none,none=>True
  | _,_=>False
def KV {κ:Type}:List (κ×V)->List (κ×Value)->Prop:=Paired fun (p:κ×V) (q:κ×Value)=>p.1=q.1/\RelV p.2 q.2
def kV:Key->V
  | .inl i=>.int i
  | .inr x=>.str x
inductive HO where
    | lst (xs:List V)
    | tup (xs:List V)
    | dK (kvs:List (Key×V)) | dT (kvs:List (List Key×V))
    | set (S:Int->Bool) (n:Nat)
    | ins (C dx:Addr) (fs:List (Str×V))
    | own (x:Addr)
    | xd (fs:List (Str×V))
    | met (f x:Addr)
    | rng (lo hi:Int)
    | frz (o:Obj) (u:HO)
    | tbl (ps:Array Value)
    | ext (φ:Heap->Prop)
abbrev Hp:=Addr->Option HO
def upd (H:Hp) (a:Addr) (o:HO):Hp:=fun b=>if b=a then some o else H b
theorem zb {H:Hp}{a:Addr}{o:HO}:upd H a o a=some o:=by unfold upd;rw[if_pos rfl]
theorem zj {H:Hp}{a b:Addr}{o:HO}(h:b≠a):upd H a o b=H b:=by unfold upd;rw[if_neg h]
theorem zrl {H:Hp}{a:Addr}{o u:HO}:upd (upd H a o) a u=upd H a u:=by
  funext b;unfold upd;split<;>rfl
theorem zhq {H:Hp}{a b:Addr}{o u:HO}(h:H a=some o) (h':H b=some u) (d:o≠u):a≠b:=by
  intro e;subst e;rw[h] at h';exact d (Option.some.inj h')
theorem zk {H:Hp}{a b:Addr}{o:HO}(h:H a=some o) (h':H b=none):a≠b:=by
  intro e;subst e;rw[h] at h';cases h'
section
variable (P:Program) (w:World)
def ObjOk (H:Hp) (h:Heap) (a:Addr):HO->Prop
  | .lst xs=>xs.length<=sizeLine/\∃(its:List Value) (n:Nat),Vals xs its/\h.get? a=some { cls:=.type "list",data:=.seq its.toArray n }
  | .tup xs=>xs.length<=sizeLine/\∃its:List Value,Vals xs its/\IsTup h a its.toArray
  | .dK kvs=>kvs.length<=sizeLine/\(a == sysModules)=false/\∃vs,KV kvs vs/\h.DictOf (zbq P w) a vs
  | .dT kvs=>kvs.length<=sizeLine/\(a == sysModules)=false/\∃xs:List (List Key×Addr×Value),
      Paired (fun (p:List Key×V) (q:List Key×Addr×Value)=>p.1=q.1/\H q.2.1=some (.tup (p.1.map kV))/\RelV p.2 q.2.2) kvs xs/\
      ∃o es ep,h.get? a=some o/\o.ExactDict/\o.data = .dict es ep/\es.toList=xs.map (entryOfKey (tupleKind (zbq P w)))/\(xs.map (·.1)).Nodup
  | .set S n=>h.SetOf (intKind P w) a S n
  | .ins C dx fs=>H dx=some (.own a)/\fs.length<=1000/\dx≠a/\h.get? a=some (PySem.W.instObj C dx)/\
      ∃mA,h.Ns1 dx mA/\(∀f,RelO (fs.lookup f) (mA f))/\PySem.Within mA (fs.map (·.1))
  | .own _=>∃o,h.get? a=some o
  | .xd fs=>∃mA,h.Ns1 a mA/\∀f,RelO (fs.lookup f) (mA f)
  | .rng lo hi=>∃t u v,h.get? a=some { cls:=.type "range",data:=.fields #[.int lo t,.int hi u,.int 1 v] }
  | .frz o u=>h.get? a=some o/\ObjOk H h a u
  | .tbl ps=>h.get? a=some { cls:=.none,data:=.fields ps }
  | .met f x=>h.get? a=some (PySem.W.methodObj (.ref f) (.ref x))
  | .ext φ=>φ h/\(∃o,h.get? a=some o)/\∀h1 h2:Heap,φ h1->(∀o,h1.get? a=some o->h2.get? a=some o)->φ h2
def HOk (H:Hp) (h:Heap):Prop:=∀a o,H a=some o->ObjOk P w H h a o
end
section
variable {P:Program}{w:World}{H H':Hp}{h h':Heap}{a:Addr}{o:HO}
theorem ObjOk.lt (x:ObjOk P w H h a o):a<h.objs.size:=by
  cases o with
  | lst xs=>obtain⟨_,_,_,_,e⟩:=x;exact Heap.lt_size e
  | tup xs=>obtain⟨_,_,_,p⟩:=x;exact p.lt
  | dK kvs=>obtain⟨_,_,_,_,o,_,_,e,_⟩:=x;exact Heap.lt_size e
  | dT kvs=>obtain⟨_,_,_,_,o,_,_,e,_⟩:=x;exact Heap.lt_size e
  | set S n=>obtain⟨o,_,_,_,e,_⟩:=x;exact Heap.lt_size e
  | ins C dx fs=>obtain⟨_,_,_,e,_⟩:=x;exact Heap.lt_size e
  | own y=>obtain⟨_,e⟩:=x;exact Heap.lt_size e
  | xd fs=>obtain⟨_,⟨_,_,_,e,_⟩,_⟩:=x;exact Heap.lt_size e
  | rng lo hi=>obtain⟨_,_,_,e⟩:=x;exact Heap.lt_size e
  | frz ob u=>obtain⟨e,_⟩:=x;exact Heap.lt_size e
  | tbl ps=>exact Heap.lt_size (show h.get? a=some _ from x)
  | met f y=>exact Heap.lt_size (show h.get? a=some _ from x)
  | ext φ=>obtain⟨_,⟨_,e⟩,_⟩:=x;exact Heap.lt_size e
theorem Paired.mapP {α β:Type}{F G:α->β->Prop}:∀{l₁:List α}{l₂:List β},Paired F l₁ l₂->(∀a b,F a b->G a b)->Paired G l₁ l₂
  | _,_,.nil,_=>.nil
  | _,_,.cons r t,f=>.cons (f _ _ r) (Paired.mapP t f)
theorem ObjOk.stay (x:ObjOk P w H h a o) (k:∀b u,(b=a\/H b=some (.own a))->h.get? b=some u->h'.get? b=some u)
    (ho:∀b,H b=some (.own a)->H' b=some (.own a)) (ht:∀b xs,H b=some (.tup xs)->H' b=some (.tup xs)):ObjOk P w H' h' a o:=by
  induction o with
  | lst xs=>obtain⟨z,its,n,r,e⟩:=x;exact⟨z,its,n,r,k _ _ (.inl rfl) e⟩
  | tup xs=>obtain⟨z,its,r,ob,e,c⟩:=x;exact⟨z,its,r,ob,k _ _ (.inl rfl) e,c⟩
  | dK kvs=>obtain⟨z,y,vs,r,ob,es,ep,e,c⟩:=x;exact⟨z,y,vs,r,ob,es,ep,k _ _ (.inl rfl) e,c⟩
  | dT kvs=>
    obtain⟨z,y,xs,r,ob,es,ep,e,c⟩:=x
    exact⟨z,y,xs,Paired.mapP r fun p q z=>⟨z.1,ht _ _ z.2.1,z.2.2⟩,ob,es,ep,k _ _ (.inl rfl) e,c⟩
  | set S n=>obtain⟨ob,es,ep,t,e,c⟩:=x;exact⟨ob,es,ep,t,k _ _ (.inl rfl) e,c⟩
  | ins C dx fs=>
    obtain⟨d,z,ne,e,mA,⟨od,es,ep,e2,c⟩,r⟩:=x
    exact⟨ho _ d,z,ne,k _ _ (.inl rfl) e,mA,⟨od,es,ep,k _ _ (.inr d) e2,c⟩,r⟩
  | own y=>obtain⟨ob,e⟩:=x;exact⟨ob,k _ _ (.inl rfl) e⟩
  | xd fs=>obtain⟨mA,⟨od,es,ep,e,c⟩,r⟩:=x;exact⟨mA,⟨od,es,ep,k _ _ (.inl rfl) e,c⟩,r⟩
  | rng lo hi=>obtain⟨t,u,v,e⟩:=x;exact⟨t,u,v,k _ _ (.inl rfl) e⟩
  | frz ob u ih=>obtain⟨e,q⟩:=x;exact⟨k _ _ (.inl rfl) e,ih q⟩
  | tbl ps=>
    have e:h.get? a=some { cls:=.none,data:=.fields ps }:=x
    show h'.get? a=some { cls:=.none,data:=.fields ps }
    exact k a _ (.inl rfl) e
  | met f y=>
    have e:h.get? a=some (PySem.W.methodObj (.ref f) (.ref y)):=x
    show h'.get? a=some (PySem.W.methodObj (.ref f) (.ref y))
    exact k a _ (.inl rfl) e
  | ext φ=>obtain⟨p,⟨o,e⟩,st⟩:=x;exact⟨st _ _ p fun o q=>k _ _ (.inl rfl) q,⟨o,k _ _ (.inl rfl) e⟩,st⟩
theorem HOk.lt (x:HOk P w H h) (e:H a=some o):a<h.objs.size:=(x a o e).lt
theorem HOk.fresh (x:HOk P w H h) (e:h.objs.size<=a):H a=none:=by
  cases q:H a with
  | none=>rfl
  | some u=>exact absurd (Nat.lt_of_lt_of_le (x.lt q) e) (Nat.lt_irrefl _)
theorem HOk.kept (x:HOk P w H h) (k:∀b u,h.get? b=some u->h'.get? b=some u):HOk P w H h':=fun a o e=>
  (x a o e).stay (fun b u _ q=>k b u q) (fun _ q=>q) fun _ _ q=>q
theorem HOk.laid (x:HOk P w H h) (k:∀b u,h.get? b=some u->h'.get? b=some u) (hp:h.objs.size<=a) (new:ObjOk P w (upd H a o) h' a o):HOk P w (upd H a o) h':=fun b u e=>by
  have hn:=x.fresh hp
  by_cases hb:b=a
  · subst hb;rw[zb] at e;cases e;exact new
  · rw[zj hb] at e
    exact (x b u e).stay (fun c v _ q=>k c v q) (fun c q=>by rw[zj (zk q hn)];exact q) fun c xs q=>by rw[zj (zk q hn)];exact q
end
def Rd (H:Hp) (a:Addr) (u:HO):Prop:=H a=some u\/∃o,H a=some (.frz o u)
theorem Rd.ok {P:Program}{w:World}{H:Hp}{h:Heap}{a:Addr}{u:HO}(r:Rd H a u) (x:HOk P w H h):ObjOk P w H h a u:=by
  rcases r with r | ⟨o,r⟩
  · exact x a u r
  · obtain⟨_,q⟩:=x a _ r
    exact q
def Mut:Option HO->Prop
  | some (.lst _)=>True
  | some (.dK _)=>True
  | some (.dT _)=>True
  | some (.set _ _)=>True
  | some (.ins _ _ _)=>True
  | some (.ext _)=>True
  | _=>False
section
variable {P:Program}{w:World}{H:Hp}{h h':Heap}{x e:Addr}{o':HO}
theorem HOk.write (ok:HOk P w H h) (mu:Mut (H x)) (he:e=x\/H e=some (.own x)) (k:∀b u,b≠e->h.get? b=some u->h'.get? b=some u) (heo:∃u,h'.get? e=some u)
    (new:ObjOk P w (upd H x o') h' x o'):HOk P w (upd H x o') h':=fun b u q=>by
  have nown:∀c y,H c=some (.own y)->c≠x:=fun c y r z=>by subst z;rw[r] at mu;exact mu
  have ntup:∀c xs,H c=some (.tup xs)->c≠x:=fun c xs r z=>by subst z;rw[r] at mu;exact mu
  by_cases hb:b=x
  · subst hb;rw[zb] at q;cases q;exact new
  · rw[zj hb] at q
    by_cases hbe:b=e
    · have q':H b=some (.own x):=by
        rcases he with z | z
        · exact absurd (hbe.trans z) hb
        · rw[hbe];exact z
      rw[q] at q';cases q'
      obtain⟨v,hv⟩:=heo
      exact⟨v,by rw[hbe];exact hv⟩
    · refine (ok b u q).stay (fun c v hc r=>k c v ?_ r) (fun c r=>by rw[zj (nown c b r)];exact r) fun c xs r=>by rw[zj (ntup c xs r)];exact r
      rcases hc with rfl | hc
      · exact hbe
      · rintro rfl
        rcases he with z | z
        · exact nown c b hc z
        · rw[hc] at z;cases z;exact hb rfl
end
structure Un (fs ex:List Addr) (H H':Hp) (h h':Heap):Prop where
  keep:∀b o,h.get? b=some o->H b=none->b ∉ fs->b ∉ ex->h'.get? b=some o
  slot:∀b o,h.get? b=some o->H b=none->b∈fs->b ∉ ex->∃sl,h'.get? b=some { o with slots:=sl }
  free:∀b o,h.get? b=some o->H b=none->b ∉ ex->H' b=none
  there:∀b o,h.get? b=some o->b ∉ ex->∃o',h'.get? b=some o'
  tups:∀b xs,H b=some (.tup xs)->H' b=some (.tup xs)
  frzs:∀b o u,H b=some (.frz o u)->H' b=some (.frz o u)
  tbls:∀b ps,H b=some (.tbl ps)->∃more,H' b=some (.tbl (ps++more))
section
variable {fs fs' ex ex':List Addr}{H H1 H2:Hp}{h h1 h2 h':Heap}{a x e:Addr}{o:HO}
theorem Un.any (u:Un fs ex H H1 h h1) {b:Addr}{ob:Obj}(q:h.get? b=some ob) (n:H b=none) (hx:b ∉ ex):∃sl,h1.get? b=some { ob with slots:=sl }:=by
  by_cases hb:b∈fs
  · exact u.slot b ob q n hb hx
  · exact⟨ob.slots,u.keep b ob q n hb hx⟩
theorem Un.kept (k:∀b u,h.get? b=some u->h'.get? b=some u):Un fs ex H H h h':=
  ⟨fun b ob q _ _ _=>k b ob q,fun b ob q _ _ _=>⟨ob.slots,k b ob q⟩,fun _ _ _ n _=>n,fun b ob q _=>⟨ob,k b ob q⟩,fun _ _ q=>q,fun _ _ _ q=>q,fun _ ps q=>⟨#[],by rw[q];simp⟩⟩
theorem Un.refl:Un fs ex H H h h:=Un.kept fun _ _ q=>q
theorem Un.laid (k:∀b u,h.get? b=some u->h'.get? b=some u) (hp:h.objs.size<=a) (hn:H a=none):Un fs ex H (upd H a o) h h' where
  keep:=fun b u q _ _ _=>k b u q
  slot:=fun b u q _ _ _=>⟨u.slots,k b u q⟩
  free:=fun b u q n _=>by rw[zj (Nat.ne_of_lt (Nat.lt_of_lt_of_le (Heap.lt_size q) hp))];exact n
  there:=fun b u q _=>⟨u,k b u q⟩
  tups:=fun b xs q=>by rw[zj (zk q hn)];exact q
  frzs:=fun b u xs q=>by rw[zj (zk q hn)];exact q
  tbls:=fun b ps q=>⟨#[],by rw[zj (zk q hn),q];simp⟩
theorem Un.write (mu:Mut (H x)) (he:e=x\/H e=some (.own x)) (k:∀b u,b≠e->h.get? b=some u->h'.get? b=some u) (heo:∃u,h'.get? e=some u):Un fs ex H (upd H x o) h h':=by
  have hx:∀b,H b=none->b≠x:=fun b n z=>by subst z;rw[n] at mu;exact mu
  have hb:∀b,H b=none->b≠e:=fun b n z=>by
    subst z
    rcases he with r | r
    · exact hx b n r
    · rw[n] at r;cases r
  have hm:∀b u,H b=some u->¬Mut (some u)->b≠x:=fun b u q nm z=>by subst z;rw[q] at mu;exact nm mu
  refine⟨fun b u q n _ _=>k b u (hb b n) q,fun b u q n _ _=>⟨u.slots,k b u (hb b n) q⟩,fun b u q n _=>by rw[zj (hx b n)];exact n,fun b u q _=>?_,
    fun b xs q=>by rw[zj (hm b _ q fun z=>z)];exact q,fun b u xs q=>by rw[zj (hm b _ q fun z=>z)];exact q,fun b ps q=>⟨#[],by rw[zj (hm b _ q fun z=>z),q];simp⟩⟩
  by_cases hbe:b=e
  · subst hbe;exact heo
  · exact⟨u,k b u hbe q⟩
end
def trk (h:Heap) (H:Hp):List Addr:=(List.range h.objs.size).filter fun a=>(H a).isSome
def hidT (h:Heap) (H:Hp):Heap:=PySem.W.hideAll h (trk h H)
theorem zmy (h:Heap) (H:Hp):(hidT h H).objs.size=h.objs.size:=PySem.W.hideAll_size _ _
theorem zo0 {h:Heap}{H:Hp}{b:Addr}{o:Obj}(e:h.get? b=some o) (n:H b=none):(hidT h H).get? b=some o:=
  PySem.W.hideAll_get _ e fun hm=>by
    have q:(H b).isSome=true:=(List.mem_filter.mp hm).2
    rw[n] at q;simp at q
theorem zrm {h:Heap}{H:Hp}{b:Addr}{o:Obj}(e:(hidT h H).get? b=some o):h.get? b=some o/\H b=none:=by
  have e':h.get? b=some o:=PySem.W.of_hideAll (trk h H) e
  refine⟨e',?_⟩
  cases q:H b with
  | none=>rfl
  | some x=>
    have hm:b∈trk h H:=List.mem_filter.mpr ⟨List.mem_range.mpr (Heap.lt_size e'),by simp[q]⟩
    have z:(hidT h H).get? b=none:=PySem.W.hideAll_none (trk h H) hm
    rw[z] at e;cases e
def zrn (g h:Heap) (L:Addr):List (Addr×Obj):=(List.range h.objs.size).filterMap fun a=>if a=L\/(g.get? a).isSome=true then none else (h.get? a).map fun o=>(a,o)
def rest (g h:Heap) (L d:Addr):List (Addr×Obj):=(zrn g h L).filter fun p=>decide (p.1≠d)
structure Mod (K:PySem.W.Frag) (mg:Str->Option Value) (base:Heap):Prop where
  kin:K.In base
  glob:base.Ns mainGlobals mg
  blt:∃mb,base.Ns builtinsNs mb/\∀x:Str,x≠"__name__"->mb x=bootBuiltins x
  nolimit:base.NoLimit
structure Cx where
  prog:Program
  w:World
  K:PySem.W.Frag
  mg:Str->Option Value
  base:Heap
  A:Around
  N:List Str
  s₀:Shared
  H₀:Hp
  env:Env
  outer:List Env
  stack:List Env
  ex:List Addr
  fn:Str->Bool
  calm:Bool
  pn:List (Addr×Obj)
  xe:Value->Shared->Prop
def frs (l:List Env):List Addr:=l.filterMap (·.frame)
abbrev Cx.fs (X:Cx):List Addr:=frs X.outer
def Vis (sc:Scope) (x:Str):Prop:=sc.names.lookup x=some .local\/sc.names.lookup x=some .cell\/sc.names.lookup x=some .free
def Loc (sc:Scope) (x:Str):Prop:=sc.names.lookup x=some .local\/sc.names.lookup x=some .cell
def Look (env:Env) (h:Heap) (m:Str->Option Value) (x:Str) (u:Value):Prop:=
  (env.kindOf x=some .local/\m x=some u)\/((env.kindOf x=some .cell\/env.kindOf x=some .free)/\∃c,env.cells.lookup x=some c/\h.IsCell c (some u))
structure Cx.Ok (X:Cx):Prop where
  mod:Mod X.K X.mg X.base
  kind:X.env.scope.kind = .function
  glob:X.env.globals=mainGlobals
  blt:X.env.builtins=builtinsNs
  above:X.s₀.heap.objs.size<=X.env.locals
  inj:∀x y c,X.env.cells.lookup x=some c->X.env.cells.lookup y=some c->x=y
  has:∀x,(X.env.kindOf x=some .cell\/X.env.kindOf x=some .free)->∃c,X.env.cells.lookup x=some c
  cab:∀x c,X.fn x=true->X.env.cells.lookup x=some c->X.s₀.heap.objs.size<=c
  hd:X.calm=true->X.A.handled=none
  frames:X.A.frames=some X.stack
  stk:X.stack=X.outer\/(X.stack=X.env::X.outer/\X.env.frame=some X.env.locals)
  exf:∀b∈X.ex,b≠X.env.locals/\∀x c,X.env.cells.lookup x=some c->c≠b
  bs:∀b o,X.base.get? b=some o->X.s₀.heap.get? b=some o/\X.H₀ b=none
  bsz:X.base.objs.size<=X.s₀.heap.objs.size
  noex:∀b o,X.base.get? b=some o->b ∉ X.ex
  exfs:∀b∈X.ex,b ∉ X.fs
  funs:X.s₀.heap.FunFrames X.base X.outer
  frf:∀b∈X.fs,X.H₀ b=none
structure Inv (X:Cx) (pins:List (Addr×Obj)) (σ:List (Option V)) (H:Hp) (s:Shared):Prop where
  ok:X.Ok
  os:s.os=X.s₀.os
  bare:AllBare s.gens
  base:Un X.fs X.ex X.H₀ H X.s₀.heap s.heap
  loc:∃m,s.heap.Ns X.env.locals m/\∀(i:Nat) (x:Str) (v:V),X.N[i]? = some x->σ[i]? = some (some v)->Vis X.env.scope x->∃u,RelV v u/\Look X.env s.heap m x u
  cell:∀x c,X.env.cells.lookup x=some c->∃v,s.heap.IsCell c v
  free:H X.env.locals=none
  freeC:∀x c,X.env.cells.lookup x=some c->H c=none
  pin:∀p∈X.pn++pins,s.heap.get? p.1=some p.2/\H p.1=none/\p.1≠X.env.locals/\p.1 ∉ X.fs/\∀v,p.2.data≠.cell v
  hok:HOk X.prog X.w H s.heap
  len:σ.length=X.N.length
section
variable {X:Cx}{pins:List (Addr×Obj)}{σ:List (Option V)}{H H':Hp}{s:Shared}{h':Heap}
theorem Cx.Ok.nofr (ok:X.Ok) {b:Addr}{o:Obj}(e:X.base.get? b=some o):b ∉ X.fs:=fun hb=>by
  have:=(ok.funs.mem hb).1
  rw[e] at this;cases this
theorem Inv.bs (I:Inv X pins σ H s):∀b o,X.base.get? b=some o->s.heap.get? b=some o/\H b=none:=fun b o e=>
  ⟨I.base.keep b o (I.ok.bs b o e).1 (I.ok.bs b o e).2 (I.ok.nofr e) (I.ok.noex b o e),I.base.free b o (I.ok.bs b o e).1 (I.ok.bs b o e).2 (I.ok.noex b o e)⟩
theorem Inv.bk (I:Inv X pins σ H s):∀b o,X.base.get? b=some o->s.heap.get? b=some o:=fun b o e=>(I.bs b o e).1
theorem Inv.mod (I:Inv X pins σ H s):Mod X.K X.mg X.base:=I.ok.mod
theorem Inv.kIn (I:Inv X pins σ H s):X.K.In s.heap:=I.ok.mod.kin.keeps I.bk
theorem Inv.lt (I:Inv X pins σ H s):X.env.locals<s.heap.objs.size:=let ⟨_,hn,_⟩:=I.loc;hn.lt
theorem Inv.sz (I:Inv X pins σ H s):X.s₀.heap.objs.size<=s.heap.objs.size:=Nat.le_trans I.ok.above (Nat.le_of_lt I.lt)
theorem Inv.nofs (I:Inv X pins σ H s) {a:Addr}(h:s.heap.objs.size<=a):a ∉ X.fs:=fun hb=>by
  obtain⟨_,o,ho,_⟩:=I.ok.funs.mem hb
  exact absurd (Nat.lt_of_lt_of_le (Heap.lt_size ho) (Nat.le_trans I.sz h)) (Nat.lt_irrefl _)
theorem Inv.cne (I:Inv X pins σ H s):∀x c,X.env.cells.lookup x=some c->c≠X.env.locals:=fun x c e z=>by
  obtain⟨v,o,ho,hd⟩:=I.cell x c e
  obtain⟨m,⟨o',es,ep,ho',hd',_⟩,_⟩:=I.loc
  rw[z,ho'] at ho;cases ho;rw[hd'] at hd;cases hd
theorem Inv.funs (I:Inv X pins σ H s):s.heap.FunFrames X.base X.outer:=by
  have all:∀(l:List Env),(∀b∈frs l,b∈X.fs)->X.s₀.heap.FunFrames X.base l->s.heap.FunFrames X.base l:=by
    intro l
    induction l with
    | nil=>intro _ _;trivial
    | cons env r ih=>
      intro hs hl
      obtain⟨hk,⟨L,o,hf,hn,ho,hd⟩,hr⟩:=hl
      have hL:L∈X.fs:=hs L (by unfold frs;rw[List.filterMap_cons,hf];exact List.mem_cons_self)
      obtain⟨sl,e⟩:=I.base.slot L o ho (I.ok.frf L hL) hL fun z=>I.ok.exfs L z hL
      exact⟨hk,⟨L,_,hf,hn,e,hd⟩,ih (fun b hb=>hs b (by unfold frs;rw[List.filterMap_cons,hf];exact List.mem_cons_of_mem _ hb)) hr⟩
  exact all X.outer (fun _ hb=>hb) I.ok.funs
theorem Inv.stack (I:Inv X pins σ H s):s.heap.FunFrames X.base X.stack:=by
  rcases I.ok.stk with e | ⟨e,hf⟩
  · rw[e];exact I.funs
  · rw[e]
    obtain⟨m,hn,_⟩:=I.loc
    refine .cons (by rw[I.ok.kind];decide) hf hn ?_ I.funs
    exact Heap.get?_none_of_le (Nat.le_trans I.ok.bsz I.ok.above)
theorem Inv.stkSub (I:Inv X pins σ H s):∀b∈frs X.stack,b∈X.env.locals::X.fs:=fun b hb=>by
  rcases I.ok.stk with e | ⟨e,hf⟩
  · rw[e] at hb;exact List.mem_cons_of_mem _ hb
  · rw[e] at hb
    unfold frs at hb
    rw[List.filterMap_cons,hf] at hb
    exact hb
theorem Inv.stkFree (I:Inv X pins σ H s):∀b∈frs X.stack,H b=none:=fun b hb=>by
  rcases List.mem_cons.mp (I.stkSub b hb) with e | hb
  · rw[e];exact I.free
  · obtain⟨_,o,ho,_⟩:=I.ok.funs.mem hb
    exact I.base.free b o ho (I.ok.frf b hb) fun z=>I.ok.exfs b z hb
theorem Inv.step {g':Array GenState}{t':Nat}{d':Drawn}{ch:List Addr}(I:Inv X pins σ H s)
    (hch:∀b∈ch,(b∈X.ex\/X.s₀.heap.objs.size<=b)/\b≠X.env.locals/\(∀x c,X.env.cells.lookup x=some c->c≠b)/\∀p∈X.pn++pins,p.1≠b)
    (keep:∀b o,b≠X.env.locals->b ∉ X.fs->b ∉ ch->s.heap.get? b=some o->H b=none->h'.get? b=some o)
    (slot:∀b o,b≠X.env.locals->b∈X.fs->b ∉ ch->s.heap.get? b=some o->H b=none->∃sl,h'.get? b=some { o with slots:=sl }) (free:∀b o,b ∉ ch->s.heap.get? b=some o->H b=none->H' b=none)
    (there:∀b o,b ∉ ch->s.heap.get? b=some o->∃o',h'.get? b=some o')
    (tups:∀b xs,H b=some (.tup xs)->H' b=some (.tup xs)) (frzs:∀b o u,H b=some (.frz o u)->H' b=some (.frz o u)) (tbls:∀b ps,H b=some (.tbl ps)->∃more,H' b=some (.tbl (ps++more)))
    (ns:∀m,s.heap.Ns X.env.locals m->h'.Ns X.env.locals m) (hok:HOk X.prog X.w H' h') (hg:AllBare g') :
    Inv X pins σ H' { s with heap:=h',gens:=g',drawn:=d',toks:=t' }:=by
  have neL:∀b o,X.s₀.heap.get? b=some o->b≠X.env.locals:=fun b o e=>Nat.ne_of_lt (Nat.lt_of_lt_of_le (Heap.lt_size e) I.ok.above)
  have neC:∀b o,X.s₀.heap.get? b=some o->b ∉ X.ex->b ∉ ch:=fun b o e hx hb=>by
    rcases (hch b hb).1 with z | z
    · exact hx z
    · exact absurd (Nat.lt_of_lt_of_le (Heap.lt_size e) z) (Nat.lt_irrefl _)
  have cellK:∀x c,X.env.cells.lookup x=some c->∀v,s.heap.IsCell c v->h'.IsCell c v:=fun x c e v ⟨o,ho,hd⟩=>by
    have nch:c ∉ ch:=fun z=>(hch c z).2.2.1 x c e rfl
    by_cases hc:c∈X.fs
    · obtain⟨sl,q⟩:=slot c o (I.cne x c e) hc nch ho (I.freeC x c e)
      exact⟨_,q,hd⟩
    · exact⟨o,keep c o (I.cne x c e) hc nch ho (I.freeC x c e),hd⟩
  refine⟨I.ok,I.os,hg,⟨fun b o e n hb hx=>?_,fun b o e n hb hx=>?_,fun b o e n hx=>?_,fun b o e hx=>?_,fun b xs e=>tups b xs (I.base.tups b xs e),fun b o xs e=>frzs b o xs (I.base.frzs b o xs e),fun b ps e=>?_⟩,?_,fun x c e=>?_,?_,fun x c e=>?_,fun p hp=>?_,hok,I.len⟩
  · exact keep b o (neL b o e) hb (neC b o e hx) (I.base.keep b o e n hb hx) (I.base.free b o e n hx)
  · obtain⟨sl,e1⟩:=I.base.slot b o e n hb hx
    obtain⟨sl',e2⟩:=slot b _ (neL b o e) hb (neC b o e hx) e1 (I.base.free b o e n hx)
    exact⟨sl',e2⟩
  · obtain⟨o',e1⟩:=I.base.there b o e hx
    exact free b o' (neC b o e hx) e1 (I.base.free b o e n hx)
  · obtain⟨o',e1⟩:=I.base.there b o e hx
    exact there b o' (neC b o e hx) e1
  · obtain⟨m1,e1⟩:=I.base.tbls b ps e
    obtain⟨m2,e2⟩:=tbls b _ e1
    exact⟨m1++m2,by rw[e2,Array.append_assoc]⟩
  · obtain⟨m,hn,hl⟩:=I.loc
    refine⟨m,ns m hn,fun i x v e1 e2 e3=>?_⟩
    obtain⟨u,r,l⟩:=hl i x v e1 e2 e3
    refine⟨u,r,?_⟩
    rcases l with l | ⟨k,c,e,z⟩
    · exact .inl l
    · exact .inr ⟨k,c,e,cellK x c e _ z⟩
  · obtain⟨v,z⟩:=I.cell x c e
    exact⟨v,cellK x c e v z⟩
  · obtain⟨m,⟨o,_,_,ho,_⟩,_⟩:=I.loc
    exact free _ o (fun z=>(hch _ z).2.1 rfl) ho I.free
  · obtain⟨v,o,ho,hd⟩:=I.cell x c e
    exact free c o (fun z=>(hch c z).2.2.1 x c e rfl) ho (I.freeC x c e)
  · obtain⟨e,n,ne,nf,d⟩:=I.pin p hp
    have nch:p.1 ∉ ch:=fun z=>(hch p.1 z).2.2.2 p hp rfl
    exact⟨keep p.1 p.2 ne nf nch e n,free p.1 p.2 nch e n,ne,nf,d⟩
theorem Inv.un {t':Nat}(I:Inv X pins σ H s) (u:Un X.fs [] H H' s.heap h') (hok:HOk X.prog X.w H' h'):Inv X pins σ H' { s with heap:=h',toks:=t' }:=by
  obtain⟨m,⟨o,es,ep,ho,r⟩,_⟩:=id I.loc
  obtain⟨sl,hL⟩:=u.any ho I.free (by simp)
  exact I.step (g':=s.gens) (d':=s.drawn) (ch:=[]) (fun _ z=>nomatch z) (fun b o _ hb _ e n=>u.keep b o e n hb (by simp)) (fun b o _ hb _ e n=>u.slot b o e n hb (by simp)) (fun b o _ e n=>u.free b o e n (by simp)) (fun b o _ e=>u.there b o e (by simp)) u.tups u.frzs u.tbls (fun m' hm=>by
    obtain⟨o',es',ep',ho',r'⟩:=hm
    rw[ho] at ho';cases ho'
    exact⟨_,es',ep',hL,r'⟩) hok I.bare
theorem Inv.call {g':Array GenState}{t':Nat}{d':Drawn}{ch:List Addr}(I:Inv X pins σ H s) (u:Un (frs X.stack) ch H H' s.heap h') (hok:HOk X.prog X.w H' h') (hg:AllBare g')
    (hch:∀b∈ch,(b∈X.ex\/X.s₀.heap.objs.size<=b)/\b≠X.env.locals/\(∀x c,X.env.cells.lookup x=some c->c≠b)/\∀p∈X.pn++pins,p.1≠b) :
    Inv X pins σ H' { s with heap:=h',gens:=g',drawn:=d',toks:=t' }:=by
  obtain⟨m,⟨o,es,ep,ho,r⟩,_⟩:=id I.loc
  obtain⟨sl,hL⟩:=u.any ho I.free fun z=>(hch _ z).2.1 rfl
  exact I.step (ch:=ch) hch (fun b o hL hb hc e n=>u.keep b o e n (fun z=>(List.mem_cons.mp (I.stkSub b z)).elim hL hb) hc) (fun b o _ _ hc e n=>u.any e n hc) (fun b o hc e n=>u.free b o e n hc) (fun b o hc e=>u.there b o e hc) u.tups u.frzs u.tbls (fun m' hm=>by
    obtain⟨o',es',ep',ho',r'⟩:=hm
    rw[ho] at ho';cases ho'
    exact⟨_,es',ep',hL,r'⟩) hok hg
theorem Inv.turned {t':Nat}{it:Addr}(I:Inv X pins σ H s) (k:∀b o,b≠it->s.heap.get? b=some o->h'.get? b=some o) (hn:H it=none) (hL:it≠X.env.locals)
    (h1:it∈X.ex\/X.s₀.heap.objs.size<=it) (h2:∀x c,X.env.cells.lookup x=some c->c≠it) (h3:∀p∈X.pn++pins,p.1≠it):Inv X pins σ H { s with heap:=h',toks:=t' }:=by
  have nit:∀b u,H b=some u->b≠it:=fun b u e z=>by rw[z,hn] at e;cases e
  refine I.step (g':=s.gens) (d':=s.drawn) (ch:=[it]) (fun b hb=>?_) (fun b o _ _ hc e _=>k b o (fun z=>hc (by simp[z])) e) (fun b o _ _ hc e _=>⟨o.slots,k b o (fun z=>hc (by simp[z])) e⟩) (fun _ _ _ _ n=>n)
    (fun b o hc e=>⟨o,k b o (fun z=>hc (by simp[z])) e⟩) (fun _ _ e=>e) (fun _ _ _ e=>e) (fun b ps e=>⟨#[],by rw[e];simp⟩) (fun m hm=>?_) (fun b u e=>?_) I.bare
  · have e:b=it:=by simpa using hb
    subst e
    exact⟨h1,hL,h2,h3⟩
  · obtain⟨o,es,ep,ho,r⟩:=hm
    exact⟨o,es,ep,k _ o (Ne.symm hL) ho,r⟩
  · refine (I.hok b u e).stay (fun c v hc q=>k c v ?_ q) (fun _ q=>q) fun _ _ q=>q
    rcases hc with z | z
    · rw[z];exact nit b u e
    · exact nit c _ z
theorem Inv.tok (I:Inv X pins σ H s) (t:Nat):Inv X pins σ H { s with toks:=t }:=I.un (h':=s.heap) (t':=t) Un.refl I.hok
theorem Inv.kept {t':Nat}(I:Inv X pins σ H s) (k:∀b u,s.heap.get? b=some u->h'.get? b=some u):Inv X pins σ H { s with heap:=h',toks:=t' }:=I.un (Un.kept k) (I.hok.kept k)
theorem Inv.laid {a:Addr}{o:HO}{t':Nat}(I:Inv X pins σ H s) (k:∀b u,s.heap.get? b=some u->h'.get? b=some u) (hp:s.heap.objs.size<=a) (new:ObjOk X.prog X.w (upd H a o) h' a o) :
    Inv X pins σ (upd H a o) { s with heap:=h',toks:=t' }:=I.un (Un.laid k hp (I.hok.fresh hp)) (I.hok.laid k hp new)
theorem Inv.write {x e:Addr}{o:HO}{t':Nat}(I:Inv X pins σ H s) (mu:Mut (H x)) (he:e=x\/H e=some (.own x)) (k:∀b u,b≠e->s.heap.get? b=some u->h'.get? b=some u) (heo:∃u,h'.get? e=some u)
    (new:ObjOk X.prog X.w (upd H x o) h' x o):Inv X pins σ (upd H x o) { s with heap:=h',toks:=t' }:=I.un (Un.write mu he k heo) (I.hok.write mu he k heo new)
theorem Inv.pins_of {pins':List (Addr×Obj)}(I:Inv X pins σ H s) (h:∀p∈pins',s.heap.get? p.1=some p.2/\H p.1=none/\p.1≠X.env.locals/\p.1 ∉ X.fs/\∀v,p.2.data≠.cell v):Inv X pins' σ H s:=
  ⟨I.ok,I.os,I.bare,I.base,I.loc,I.cell,I.free,I.freeC,fun p hp=>(List.mem_append.mp hp).elim (fun z=>I.pin p (List.mem_append_left _ z)) (h p),I.hok,I.len⟩
theorem zhr {N:List Str}(hN:N.Nodup) {i j:Nat}{x:Str}(a:N[i]? = some x) (b:N[j]? = some x):i=j:=by
  obtain⟨h1,e1⟩:=List.getElem?_eq_some_iff.mp a
  obtain⟨h2,e2⟩:=List.getElem?_eq_some_iff.mp b
  exact (List.getElem_inj hN).mp (e1.trans e2.symm)
theorem zit {M:Model}{A:Around}{E:Value->Shared->Prop}{i:Nat}{x:Str}{v:V}{u:Value}{Q:Unit->Shared->Prop}(I:Inv X pins σ H s) (hN:X.N.Nodup) (hi:X.N[i]? = some x) (hx:Loc X.env.scope x) (r:RelV v u)
    (h:∀s',Inv X pins (σ.set i (some v)) H s'->(∃a,Heap.SameBut a s.heap s'.heap/\(a=X.env.locals\/X.env.cells.lookup x=some a))->Q () s') (hf:X.fn x=true\/X.env.scope.names.lookup x=some .local:=by first | exact .inl rfl | exact .inr rfl | assumption):wpAny M A (storeName X.env x u) Q E s:=by
  obtain⟨m,hn,hl⟩:=id I.loc
  have hcls:(X.env.scope.kind == .class||(X.env.scope.kind == .module&&X.env.locals != X.env.globals))=false:=by rw[I.ok.kind];rfl
  have hiσ:i<σ.length:=by rw[I.len];exact (List.getElem?_eq_some_iff.mp hi).1
  have cne:=I.cne
  have tracked:∀{a:Addr}{h':Heap},(∃o,s.heap.get? a=some o/\H a=none)->Heap.SameBut a s.heap h'->HOk X.prog X.w H h':=fun {a h'} ha hs b ob e=>by
    obtain⟨_,_,hfree⟩:=ha
    refine (I.hok b ob e).stay (fun c w' hc q=>(hs.2 c ?_).trans q) (fun _ q=>q) fun _ _ q=>q
    rintro rfl
    rcases hc with rfl | hc
    · rw[hfree] at e;cases e
    · rw[hfree] at hc;cases hc
  rcases hx with hk | hk
  · refine wpAny_storeName_local hk hn (fun h' hn' hs=>?_) hcls
    obtain⟨oL,_,_,hoL,_⟩:=id hn
    refine h _ ⟨I.ok,I.os,I.bare,⟨fun b o e n hb hx=>?_,fun b o e n hb hx=>?_,I.base.free,fun b o e hx=>?_,I.base.tups,I.base.frzs,I.base.tbls⟩,⟨_,hn',fun j y v' e1 e2 e3=>?_⟩,fun y c e=>?_,I.free,I.freeC,fun p hp=>?_,tracked ⟨oL,hoL,I.free⟩ hs,by simpa using I.len⟩ ⟨_,hs,.inl rfl⟩
    · exact (hs.2 b (Nat.ne_of_lt (Nat.lt_of_lt_of_le (Heap.lt_size e) I.ok.above))).trans (I.base.keep b o e n hb hx)
    · obtain⟨sl,e1⟩:=I.base.slot b o e n hb hx
      exact⟨sl,(hs.2 b (Nat.ne_of_lt (Nat.lt_of_lt_of_le (Heap.lt_size e) I.ok.above))).trans e1⟩
    · obtain⟨o',e1⟩:=I.base.there b o e hx
      exact⟨o',(hs.2 b (Nat.ne_of_lt (Nat.lt_of_lt_of_le (Heap.lt_size e) I.ok.above))).trans e1⟩
    · by_cases hj:j=i
      · subst hj
        rw[hi] at e1;cases e1
        rw[List.getElem?_set_self hiσ] at e2
        cases e2
        exact⟨u,r,.inl ⟨hk,by simp⟩⟩
      · rw[List.getElem?_set_ne (Ne.symm hj)] at e2
        obtain⟨u',r',q⟩:=hl j y v' e1 e2 e3
        refine⟨u',r',?_⟩
        rcases q with ⟨k,e⟩ | ⟨k,c,e,z⟩
        · refine .inl ⟨k,?_⟩
          have:y≠x:=fun e=>hj (zhr hN e1 (e▸hi))
          simp[this,e]
        · exact .inr ⟨k,c,e,z.sameBut hs (cne y c e)⟩
    · obtain⟨w',z⟩:=I.cell y c e
      exact⟨w',z.sameBut hs (cne y c e)⟩
    · obtain⟨e,n,ne,nf,d⟩:=I.pin p hp
      exact⟨(hs.2 p.1 ne).trans e,n,ne,nf,d⟩
  · have hfn:X.fn x=true:=by
      rcases hf with z | z
      · exact z
      · rw[z] at hk;cases hk
    obtain⟨c,hc⟩:=I.ok.has x (.inl hk)
    obtain⟨w',z⟩:=I.cell x c hc
    refine wpAny_storeName_cell I.ok.kind hk hc z (fun h' hc' hs=>?_)
    obtain⟨oc,hoc,hocd⟩:=id z
    refine h { s with heap:=h' } ⟨I.ok,I.os,I.bare,⟨fun b o e n hb hx=>?_,fun b o e n hb hx=>?_,I.base.free,fun b o e hx=>?_,I.base.tups,I.base.frzs,I.base.tbls⟩,⟨m,hn.sameBut hs (Ne.symm (cne x c hc)),fun j y v' e1 e2 e3=>?_⟩,fun y c' e=>?_,I.free,I.freeC,fun p hp=>?_,tracked ⟨oc,hoc,I.freeC x c hc⟩ hs,by simpa using I.len⟩ ⟨c,hs,.inr hc⟩
    · exact (hs.2 b (Nat.ne_of_lt (Nat.lt_of_lt_of_le (Heap.lt_size e) (I.ok.cab x c hfn hc)))).trans (I.base.keep b o e n hb hx)
    · obtain⟨sl,e1⟩:=I.base.slot b o e n hb hx
      exact⟨sl,(hs.2 b (Nat.ne_of_lt (Nat.lt_of_lt_of_le (Heap.lt_size e) (I.ok.cab x c hfn hc)))).trans e1⟩
    · obtain⟨o',e1⟩:=I.base.there b o e hx
      exact⟨o',(hs.2 b (Nat.ne_of_lt (Nat.lt_of_lt_of_le (Heap.lt_size e) (I.ok.cab x c hfn hc)))).trans e1⟩
    · by_cases hj:j=i
      · subst hj
        rw[hi] at e1;cases e1
        rw[List.getElem?_set_self hiσ] at e2
        cases e2
        exact⟨u,r,.inr ⟨.inl hk,c,hc,hc'⟩⟩
      · rw[List.getElem?_set_ne (Ne.symm hj)] at e2
        obtain⟨u',r',q⟩:=hl j y v' e1 e2 e3
        refine⟨u',r',?_⟩
        rcases q with q | ⟨k,c',e,z'⟩
        · exact .inl q
        · refine .inr ⟨k,c',e,z'.sameBut hs ?_⟩
          rintro rfl
          exact hj (zhr hN e1 (I.ok.inj _ _ _ e hc▸hi))
    · by_cases hcc:c'=c
      · subst hcc;exact⟨_,hc'⟩
      · obtain⟨w2,z2⟩:=I.cell y c' e
        exact⟨w2,z2.sameBut hs hcc⟩
    · obtain⟨e,n,ne,nf,d⟩:=I.pin p hp
      refine⟨(hs.2 p.1 ?_).trans e,n,ne,nf,d⟩
      intro q
      rw[q,hoc] at e
      have q':oc=p.2:=Option.some.inj e
      exact d w' (by rw[←q'];exact hocd)
theorem zfj {M:Model}{A:Around}{E:Value->Shared->Prop}{i:Nat}{x:Str}{v:V}{u:Value}{Q:Unit->Shared->Prop}(I:Inv X pins σ H s) (hN:X.N.Nodup) (hi:X.N[i]? = some x) (hx:Loc X.env.scope x) (r:RelV v u)
    (h:∀s',Inv X pins (σ.set i (some v)) H s'->Q () s') (hf:X.fn x=true\/X.env.scope.names.lookup x=some .local:=by first | exact .inl rfl | exact .inr rfl | assumption):wpAny M A (storeName X.env x u) Q E s:=
  zit I hN hi hx r (fun s' I' _=>h s' I') hf
theorem Inv.call' {s':Shared}{ch:List Addr}(I:Inv X pins σ H s) (ho:s'.os=s.os) (u:Un (frs X.stack) ch H H' s.heap s'.heap) (hok:HOk X.prog X.w H' s'.heap) (hg:AllBare s'.gens)
    (hch:∀b∈ch,(b∈X.ex\/X.s₀.heap.objs.size<=b)/\b≠X.env.locals/\(∀x c,X.env.cells.lookup x=some c->c≠b)/\∀p∈X.pn++pins,p.1≠b):Inv X pins σ H' s':=by
  obtain⟨h',g',d',t',o'⟩:=s'
  have e:o'=s.os:=ho
  subst e
  exact I.call (g':=g') (t':=t') (d':=d') u hok hg hch
end
abbrev XK:=Value->Option Addr->Hp->Prop
abbrev St:=List (Option V)
abbrev VK:=V->Hp->Prop
abbrev TE:=St->Hp->VK->Prop
abbrev TT:=St->Hp->(Bool->Hp->Prop)->Prop
abbrev TA:=St->Hp->(List V->Hp->Prop)->Prop
structure Ends where
  nx:St->Hp->Prop
  rt:VK
  bk:St->Hp->Prop:=fun _ _=>False
  ct:St->Hp->Prop:=fun _ _=>False
abbrev TS:=Ends->St->Hp->Prop
def EP (X:Cx) (pins:List (Addr×Obj)) (σ:St) (Q:VK) (u:Value) (s':Shared):Prop:=∃v H',Inv X pins σ H' s'/\RelV v u/\Q v H'
def TP (X:Cx) (pins:List (Addr×Obj)) (σ:St) (Q:Bool->Hp->Prop) (b:Bool) (s':Shared):Prop:=∃H',Inv X pins σ H' s'/\Q b H'
def AP (X:Cx) (pins:List (Addr×Obj)) (σ:St) (Q:List V->Hp->Prop) (us:List Value) (s':Shared):Prop:=∃vs H',Inv X pins σ H' s'/\Vals vs us/\Q vs H'
def SP (X:Cx) (pins:List (Addr×Obj)) (D:Ends) (f:Flow) (s':Shared):Prop:=
  match f with
  | .next=>∃σ' H',Inv X pins σ' H' s'/\D.nx σ' H'
  | .brk=>∃σ' H',Inv X pins σ' H' s'/\D.bk σ' H'
  | .cont=>∃σ' H',Inv X pins σ' H' s'/\D.ct σ' H'
  | .ret u=>∃v σ' H',Inv X pins σ' H' s'/\RelV v u/\D.rt v H'
def PE (X:Cx) (e:Expr) (t:TE):Prop:=
  ∀(pins:List (Addr×Obj)) (s:Shared) (σ:St) (H:Hp) (Q:VK),Inv X pins σ H s->t σ H Q->wpAny (model X.prog X.w) X.A (eval e X.env) (EP X pins σ Q) X.xe s
def PT (X:Cx) (e:Expr) (t:TT):Prop:=
  ∀(pins:List (Addr×Obj)) (s:Shared) (σ:St) (H:Hp) (Q:Bool->Hp->Prop),Inv X pins σ H s->t σ H Q->wpAny (model X.prog X.w) X.A (isTrue e X.env (eval e X.env)) (TP X pins σ Q) X.xe s
def PW (X:Cx) (e:Expr) (t:TT):Prop:=
  ∀(whole:Sem Value) (pins:List (Addr×Obj)) (s:Shared) (σ:St) (H:Hp) (Q:Bool->Hp->Prop),Inv X pins σ H s->t σ H Q->wpAny (model X.prog X.w) X.A (isTrue e X.env whole) (TP X pins σ Q) X.xe s
theorem PW.pt {X:Cx}{e:Expr}{t:TT}(h:PW X e t):PT X e t:=h _
def PA (X:Cx) (es:List Expr) (t:TA):Prop:=
  ∀(pos:Pos) (pins:List (Addr×Obj)) (s:Shared) (σ:St) (H:Hp) (Q:List V->Hp->Prop),Inv X pins σ H s->t σ H Q->wpAny (model X.prog X.w) X.A (spliced (backTo pos (starEach es X.env))) (AP X pins σ Q) X.xe s
def PS (X:Cx) (st:Stmt) (t:TS):Prop:=
  ∀(pins:List (Addr×Obj)) (s:Shared) (σ:St) (H:Hp) (D:Ends),Inv X pins σ H s->t D σ H->wpAny (model X.prog X.w) X.A (exec st X.env) (SP X pins D) X.xe s
def PSs (X:Cx) (st:List Stmt) (t:TS):Prop:=
  ∀(pins:List (Addr×Obj)) (s:Shared) (σ:St) (H:Hp) (D:Ends),Inv X pins σ H s->t D σ H->wpAny (model X.prog X.w) X.A (execs st X.env) (SP X pins D) X.xe s
theorem thn {α:Type}{t:Sem α}{Q Q':α->Shared->Prop}{M:Model}{A:Around}{E:Value->Shared->Prop}{s:Shared}(h:wpAny M A t Q E s) (hQ:∀a s,Q a s->Q' a s):wpAny M A t Q' E s:=wpAny_mono h hQ fun _ _ x=>x
section
variable {X:Cx}
theorem bin {a b:Expr}{ta tb:TE}(ha:PE X a ta) (hb:PE X b tb) {pins:List (Addr×Obj)}{s:Shared}{σ:St}{H:Hp}{R:V->V->Hp->Prop}(I:Inv X pins σ H s) (h:ta σ H fun x H1=>tb σ H1 fun y H2=>R x y H2)
    {α:Type}{Q:α->Shared->Prop}{f:Value->Value->Sem α}
    (hf:∀v u s2 x y H2,Inv X pins σ H2 s2->RelV x v->RelV y u->R x y H2->wpAny (model X.prog X.w) X.A (f v u) Q X.xe s2) :
    wpAny (model X.prog X.w) X.A (eval a X.env) (fun v s₁=>wpAny (model X.prog X.w) X.A (eval b X.env) (fun u s₂=>wpAny (model X.prog X.w) X.A (f v u) Q X.xe s₂) X.xe s₁) X.xe s:=by
  refine thn (ha pins s σ H _ I h) fun v s1 hq0=>?_
  obtain⟨x,H1,I1,r1,q1⟩:=hq0
  refine thn (hb pins s1 σ H1 _ I1 q1) fun u s2 hq0=>?_
  obtain⟨y,H2,I2,r2,q2⟩:=hq0
  exact hf v u s2 x y H2 I2 r1 r2 q2
def tVar (i:Nat):TE:=fun σ H Q=>∃v,σ[i]? = some (some v)/\Q v H
def tC (v:V):TE:=fun _ H Q=>Q v H
theorem ztx {i:Nat}{x:Str}{pos:Pos}(hN:X.N[i]? = some x) (hv:Vis X.env.scope x) (hd:(x == ("__debug__" : Str))=false:=by decide) (hcd:(x == ("__classdict__" : Str))=false:=by decide):PE X (.Name x pos) (tVar i):=by
  intro pins s σ H Q I h
  obtain⟨v,e,h⟩:=h
  obtain⟨m,hn,hl⟩:=I.loc
  obtain⟨u,r,l⟩:=hl i x v hN e hv
  have fin:EP X pins σ Q u s:=⟨v,H,I,r,h⟩
  rcases l with ⟨hk,hm⟩ | ⟨hk,c,hc,hcell⟩
  · exact wpAny_Name (wpAny_loadName_local I.ok.kind hk hn hm fin) hd
  · rcases hk with hk | hk
    · exact wpAny_Name (wpAny_loadName_cell I.ok.kind hk hc hcell fin) hd
    · exact wpAny_Name (wpAny_loadName_free I.ok.kind hk hc hcell fin hcd) hd
theorem zf {i j pos}:PE X (.Constant (.int i) j pos) (tC (.int i)):=fun _ _ _ H _ I h=>wpAny_Constant_int ⟨.int i,H,I.tok _,⟨_,rfl⟩,h⟩
theorem zb4 {b j pos}:PE X (.Constant (.bool b) j pos) (tC (.bl b)):=fun _ _ _ H _ I h=>Constant_bool ⟨.bl b,H,I,rfl,h⟩
theorem ziu {j pos}:PE X (.Constant .none j pos) (tC .non):=fun _ _ _ H _ I h=>Constant_none ⟨.non,H,I,rfl,h⟩
theorem zx {x j pos}:PE X (.Constant (.str x) j pos) (tC (.str x)):=fun _ _ _ H _ I h=>Calls.Constant_str ⟨.str x,H,I.tok _,⟨_,rfl⟩,h⟩
def Gl (X:Cx) (x:Str):Prop:=X.env.kindOf x=some .globalImplicit
theorem zdb {E:Value->Shared->Prop}{pins:List (Addr×Obj)}{s:Shared}{σ:St}{H:Hp}{x:Str}{u:Value}{pos:Pos}{Q:Value->Shared->Prop}(I:Inv X pins σ H s) (hg:Gl X x) (hm:X.mg x=some u) (h:Q u s)
    (hd:(x == ("__debug__" : Str))=false:=by decide):wpAny (model X.prog X.w) X.A (eval (.Name x pos) X.env) Q E s:=
  Calls.Name_function_global I.ok.kind hg (Calls.loadGlobal_global (by rw[I.ok.glob];exact I.mod.glob.keeps I.bk) hm h) hd
theorem zfp {E:Value->Shared->Prop}{pins:List (Addr×Obj)}{s:Shared}{σ:St}{H:Hp}{x:Str}{u:Value}{pos:Pos}{Q:Value->Shared->Prop}(I:Inv X pins σ H s) (hg:Gl X x) (hm:X.mg x=none) (hv:bootBuiltins x=some u) (h:Q u s)
    (hn:x≠"__name__":=by decide) (hd:(x == ("__debug__" : Str))=false:=by decide):wpAny (model X.prog X.w) X.A (eval (.Name x pos) X.env) Q E s:=by
  obtain⟨mb,h1,h2⟩:=I.mod.blt
  exact Calls.Name_function_global I.ok.kind hg (Calls.loadGlobal_builtin (by rw[I.ok.glob];exact I.mod.glob.keeps I.bk) hm (by rw[I.ok.blt];exact h1.keeps I.bk) ((h2 x hn).trans hv) h) hd
theorem zcp {x:Str}{v:V}{u:Value}{pos:Pos}(hg:Gl X x) (hm:X.mg x=some u) (r:RelV v u) (hd:(x == ("__debug__" : Str))=false:=by decide):PE X (.Name x pos) (tC v):=
  fun _ _ _ H _ I h=>zdb I hg hm ⟨v,H,I,r,h⟩ hd
theorem zmz {x:Str}{v:V}{u:Value}{pos:Pos}(hg:Gl X x) (hm:X.mg x=none) (hv:bootBuiltins x=some u) (r:RelV v u) (hn:x≠"__name__":=by decide) (hd:(x == ("__debug__" : Str))=false:=by decide):PE X (.Name x pos) (tC v):=
  fun _ _ _ H _ I h=>zfp I hg hm hv ⟨v,H,I,r,h⟩ hn hd
variable {a b:Expr}{ta tb:TE}{pos:Pos}
def PC (X:Cx) (op:CmpOp) (a b:Expr) (t:TE):Prop:=
  ∀(pins:List (Addr×Obj)) (s:Shared) (σ:St) (H:Hp) (Q:VK),Inv X pins σ H s->t σ H Q->
    wpAny (model X.prog X.w) X.A (eval a X.env) (fun v s₁=>wpAny (model X.prog X.w) X.A (eval b X.env) (fun u s₂=>wpAny (model X.prog X.w) X.A (compareOp op v u) (EP X pins σ Q) X.xe s₂) X.xe s₁) X.xe s
theorem zo1 (b:Expr) {op:CmpOp}(h:op≠.In) (h2:op≠.NotIn):behindInMarks op b=false:=by
  have e1:(op == CmpOp.In)=false:=by cases op<;>first | rfl | exact absurd rfl h
  have e2:(op == CmpOp.NotIn)=false:=by cases op<;>first | rfl | exact absurd rfl h2
  cases b<;>simp[behindInMarks,e1,e2]
def tIsN (ta:TE):TE:=fun σ H Q=>ta σ H fun x H1=>Q (.bl (decide (x = .non))) H1
def zvk (ta:TE):TE:=fun σ H Q=>ta σ H fun x H1=>Q (.bl (!decide (x = .non))) H1
theorem RelV.none_iff {x:V}{v:Value}(r:RelV x v):(v == Value.none)=decide (x = .non):=by
  cases x with
  | non=>cases r;rfl
  | bl _=>cases r;rfl
  | int _=>obtain⟨t,rfl⟩:=r;rfl
  | str _=>obtain⟨t,rfl⟩:=r;rfl
  | byt _=>obtain⟨t,rfl⟩:=r;rfl
  | flt _=>obtain⟨t,rfl⟩:=r;rfl
  | ref _=>cases r;rfl
  | ty _=>cases r;rfl
theorem zty {j pos'}(ha:PE X a ta):PC X .Is a (.Constant .none j pos') (tIsN ta):=by
  intro pins s σ H Q I h
  refine thn (ha pins s σ H _ I h) fun v s1 hq0=>?_
  obtain⟨x,H1,I1,r1,q1⟩:=hq0
  exact Constant_none (is_none_gen ⟨.bl _,H1,I1,by rw[r1.none_iff];rfl,q1⟩)
theorem zro {j pos'}(ha:PE X a ta):PC X .IsNot a (.Constant .none j pos') (zvk ta):=by
  intro pins s σ H Q I h
  refine thn (ha pins s σ H _ I h) fun v s1 hq0=>?_
  obtain⟨x,H1,I1,r1,q1⟩:=hq0
  exact Constant_none (isnot_none_gen ⟨.bl _,H1,I1,by rw[r1.none_iff];rfl,q1⟩)
def tB (t:TE):TT:=fun σ H Q=>t σ H fun x H1=>∃c,x = .bl c/\Q c H1
theorem ziv {op:CmpOp}{t:TE}(h:PC X op a b t) (h1:behindInMarks op b=false:=by first | exact zo1 _ (by decide) (by decide) | rfl):PT X (.Compare a [op] [b] pos) (tB t):=by
  intro pins s σ H Q I hw
  refine wpAny_isTrue_Compare1 (thn (h pins s σ H _ I hw) fun v s1 h1=>thn h1 fun u s2 h2=>thn h2 fun c s3 hq0=>?_) h1
  obtain⟨x,H1,I1,r1,q1⟩:=hq0
  obtain⟨d,rfl,q⟩:=q1
  cases r1
  exact wpAny_truthy_bool ⟨H1,I1,q⟩
theorem zc7 {e:Expr}{t:TE}(h:PE X e t) (he:∀whole,isTrue e X.env whole=(do let v ←whole;standAt e.pos;holding [v] (truthy v)):=by intro _;rfl):PT X e (tB t):=by
  intro pins s σ H Q I hw
  refine isTrue_plain (thn (h pins s σ H _ I hw) fun v s1 hq0=>?_) (he _)
  obtain⟨x,H1,I1,r1,q1⟩:=hq0
  obtain⟨d,rfl,q⟩:=q1
  cases r1
  exact wpAny_truthy_bool ⟨H1,I1,q⟩
variable {tA tB':TT}{rest:List Expr}
def tAnd (t u:TT):TT:=fun σ H Q=>t σ H fun c H1=>if c=true then u σ H1 Q else Q false H1
def tOr (t u:TT):TT:=fun σ H Q=>t σ H fun c H1=>if c=true then Q true H1 else u σ H1 Q
def tNot (t:TT):TT:=fun σ H Q=>t σ H fun c H1=>Q (!c) H1
theorem zb5 (ha:PT X a tA):PW X (.BoolOp .And [a] pos) tA:=by
  intro wh pins s σ H Q I h
  refine isTrue_and (thn (ha pins s σ H Q I h) fun c s1 e=>?_)
  cases c with
  | true=>exact isTrue_and_nil e
  | false=>exact e
theorem ze2 (ha:PT X a tA):PW X (.BoolOp .Or [a] pos) tA:=by
  intro wh pins s σ H Q I h
  refine isTrue_or (thn (ha pins s σ H Q I h) fun c s1 e=>?_)
  cases c with
  | false=>exact isTrue_or_nil e
  | true=>exact e
theorem zdc (ha:PT X a tA) (hb:PW X (.BoolOp .And (b::rest) pos) tB'):PW X (.BoolOp .And (a::b::rest) pos) (tAnd tA tB'):=by
  intro wh pins s σ H Q I h
  refine isTrue_and (thn (ha pins s σ H _ I h) fun c s1 hq0=>?_)
  obtain⟨H1,I1,q1⟩:=hq0
  cases c with
  | true=>exact hb wh pins s1 σ H1 Q I1 q1
  | false=>exact⟨H1,I1,q1⟩
theorem zhs (ha:PT X a tA) (hb:PW X (.BoolOp .Or (b::rest) pos) tB'):PW X (.BoolOp .Or (a::b::rest) pos) (tOr tA tB'):=by
  intro wh pins s σ H Q I h
  refine isTrue_or (thn (ha pins s σ H _ I h) fun c s1 hq0=>?_)
  obtain⟨H1,I1,q1⟩:=hq0
  cases c with
  | true=>exact⟨H1,I1,q1⟩
  | false=>exact hb wh pins s1 σ H1 Q I1 q1
theorem zdy (ha:PT X a tA):PT X (.UnaryOp .Not a pos) (tNot tA):=by
  intro pins s σ H Q I h
  exact isTrue_not (ha pins s σ H (fun c H1=>Q (!c) H1) I h)
def zvl (ta tb:TE):TE:=fun σ H Q=>ta σ H fun x H1=>∃c,x = .bl c/\if c=true then tb σ H1 Q else Q (.bl false) H1
theorem zm0 {op}{t:TE}(h:PE X a t):PE X (.BoolOp op [a] pos) t:=fun pins s σ H Q I hw=>BoolOp_one (h pins s σ H Q I hw)
theorem zkw (ha:PE X a ta) (hb:PE X (.BoolOp .And (b::rest) pos) tb):PE X (.BoolOp .And (a::b::rest) pos) (zvl ta tb):=by
  intro pins s σ H Q I h
  refine BoolOp_and (thn (ha pins s σ H _ I h) fun v s1 hq0=>?_)
  obtain⟨x,H1,I1,r1,q1⟩:=hq0
  obtain⟨c,rfl,q1⟩:=q1
  cases r1
  refine wpAny_truthy_bool ?_
  cases c with
  | true=>exact hb pins s1 σ H1 Q I1 q1
  | false=>exact⟨.bl false,H1,I1,rfl,q1⟩
def tIf (t:TT) (ta tb:TE):TE:=fun σ H Q=>t σ H fun c H1=>if c=true then ta σ H1 Q else tb σ H1 Q
theorem zo2 {c:Expr}(hc:PT X c tA) (ha:PE X a ta) (hb:PE X b tb):PE X (.IfExp c a b pos) (tIf tA ta tb):=by
  intro pins s σ H Q I h
  refine wpAny_IfExp (thn (hc pins s σ H _ I h) fun d s1 hq0=>?_)
  obtain⟨H1,I1,q1⟩:=hq0
  cases d with
  | true=>exact ha pins s1 σ H1 Q I1 q1
  | false=>exact hb pins s1 σ H1 Q I1 q1
end
def SqL (K:PySem.W.Frag) (H:Hp) (a:Addr) (xs:List V):Prop:=
  Rd H a (.lst xs)\/
    ∃(o:Obj) (its:Array Value) (n:Nat),K.lookup a=some o/\o.cls = .type "list"/\o.dict=none/\o.data = .seq its n/\its.size<=sizeLine/\Vals xs its.toList
def SqT (K:PySem.W.Frag) (H:Hp) (a:Addr) (xs:List V):Prop:=
  Rd H a (.tup xs)\/
    ∃(o:Obj) (its:Array Value) (n:Nat),K.lookup a=some o/\o.cls = .type "tuple"/\o.data = .seq its n/\its.size<=sizeLine/\Vals xs its.toList
def absV:Value->Option V
  | .none=>some .non
  | .bool b=>some (.bl b)
  | .int i _=>some (.int i)
  | .str x _=>some (.str x)
  | .bytes b _=>some (.byt b)
  | .float b _=>some (.flt b)
  | .ref a=>some (.ref a)
  | .type n=>some (.ty n)
  | _=>none
theorem RelV.abs {x:V}{u:Value}(r:RelV x u):absV u=some x:=by
  cases x with
  | non=>cases r;rfl
  | bl _=>cases r;rfl
  | int _=>obtain⟨t,rfl⟩:=r;rfl
  | str _=>obtain⟨t,rfl⟩:=r;rfl
  | byt _=>obtain⟨t,rfl⟩:=r;rfl
  | flt _=>obtain⟨t,rfl⟩:=r;rfl
  | ref _=>cases r;rfl
  | ty _=>cases r;rfl
theorem RelV.inj {x y:V}{u:Value}(r:RelV x u) (q:RelV y u):x=y:=Option.some.inj (r.abs.symm.trans q.abs)
theorem Vals.inj:∀{xs ys:List V}{us:List Value},Vals xs us->Vals ys us->xs=ys
  | _,_,_,.nil,.nil=>rfl
  | _,_,_,.cons r t,.cons r' t'=>by rw[r.inj r',Vals.inj t t']
section
variable {X:Cx}{pins:List (Addr×Obj)}{σ:St}{H:Hp}{s:Shared}{a:Addr}{xs ys:List V}
theorem SqL.of {K:PySem.W.Frag}(h:H a=some (.lst xs)):SqL K H a xs:=.inl (.inl h)
theorem SqT.of {K:PySem.W.Frag}(h:H a=some (.tup xs)):SqT K H a xs:=.inl (.inl h)
theorem Inv.list (I:Inv X pins σ H s) (h:SqL X.K H a xs):∃its:List Value,Vals xs its/\PlainL s.heap a its.toArray/\xs.length<=sizeLine:=by
  rcases h with h | ⟨o,its,n,hk,hc,hd,hs,hz,r⟩
  · obtain⟨z,its,n,r,e⟩:=h.ok I.hok
    exact⟨its,r,⟨_,n,e,rfl,rfl,rfl⟩,z⟩
  · refine⟨its.toList,r,⟨o,n,I.kIn a o hk,hc,hd,by simpa using hs⟩,?_⟩
    have e:=r.length
    simp only [Array.length_toList] at e
    omega
theorem Inv.tuple (I:Inv X pins σ H s) (h:SqT X.K H a xs):∃its:List Value,Vals xs its/\IsTup s.heap a its.toArray/\xs.length<=sizeLine:=by
  rcases h with h | ⟨o,its,n,hk,hc,hs,hz,r⟩
  · obtain⟨z,its,r,p⟩:=h.ok I.hok
    exact⟨its,r,p,z⟩
  · refine⟨its.toList,r,⟨o,I.kIn a o hk,hc,n,by simpa using hs⟩,?_⟩
    have e:=r.length
    simp only [Array.length_toList] at e
    omega
theorem Inv.list_inj (I:Inv X pins σ H s) (h:SqL X.K H a xs) (h':SqL X.K H a ys):xs=ys:=by
  obtain⟨its,r,⟨o,n,e,_,_,d⟩,_⟩:=I.list h
  obtain⟨its',r',⟨o',n',e',_,_,d'⟩,_⟩:=I.list h'
  rw[e] at e';cases e'
  rw[d] at d'
  injection d' with d1 _
  have:its=its':=by simpa using congrArg Array.toList d1
  subst this
  exact r.inj r'
theorem Inv.tuple_inj (I:Inv X pins σ H s) (h:SqT X.K H a xs) (h':SqT X.K H a ys):xs=ys:=by
  obtain⟨its,r,⟨o,e,_,n,d⟩,_⟩:=I.tuple h
  obtain⟨its',r',⟨o',e',_,n',d'⟩,_⟩:=I.tuple h'
  rw[e] at e';cases e'
  rw[d] at d'
  injection d' with d1 _
  have:its=its':=by simpa using congrArg Array.toList d1
  subst this
  exact r.inj r'
end
abbrev Cx.wish (X:Cx) (E:Value->Shared->Prop):Cx:={ X with xe:=E }
abbrev Cx.nox (X:Cx):Cx:=X.wish fun _ _=>False
theorem Cx.Ok.wish {X:Cx}(ok:X.Ok) (E:Value->Shared->Prop):(X.wish E).Ok:=
  ⟨ok.mod,ok.kind,ok.glob,ok.blt,ok.above,ok.inj,ok.has,ok.cab,ok.hd,ok.frames,ok.stk,ok.exf,ok.bs,ok.bsz,ok.noex,ok.exfs,ok.funs,ok.frf⟩
theorem Cx.Ok.unwish {X:Cx}{E:Value->Shared->Prop}(ok:(X.wish E).Ok):X.Ok:=
  ⟨ok.mod,ok.kind,ok.glob,ok.blt,ok.above,ok.inj,ok.has,ok.cab,ok.hd,ok.frames,ok.stk,ok.exf,ok.bs,ok.bsz,ok.noex,ok.exfs,ok.funs,ok.frf⟩
section
variable {X:Cx}{pins:List (Addr×Obj)}{σ:St}{H:Hp}{s:Shared}{E:Value->Shared->Prop}
theorem Inv.wish (I:Inv X pins σ H s) (E:Value->Shared->Prop):Inv (X.wish E) pins σ H s:=⟨I.ok.wish E,I.os,I.bare,I.base,I.loc,I.cell,I.free,I.freeC,I.pin,I.hok,I.len⟩
theorem Inv.unwish (I:Inv (X.wish E) pins σ H s):Inv X pins σ H s:=⟨I.ok.unwish,I.os,I.bare,I.base,I.loc,I.cell,I.free,I.freeC,I.pin,I.hok,I.len⟩
theorem SP.unwish {D:Ends}{f:Flow}{s':Shared}(h:SP (X.wish E) pins D f s'):SP X pins D f s':=by
  cases f with
  | next=>obtain⟨σ',H',I,q⟩:=h;exact⟨σ',H',I.unwish,q⟩
  | brk=>obtain⟨σ',H',I,q⟩:=h;exact⟨σ',H',I.unwish,q⟩
  | cont=>obtain⟨σ',H',I,q⟩:=h;exact⟨σ',H',I.unwish,q⟩
  | ret u=>obtain⟨v,σ',H',I,r,q⟩:=h;exact⟨v,σ',H',I.unwish,r,q⟩
theorem PSs.nox {st:List Stmt}{t:TS}(h:PSs X.nox st t):PSs X st t:=fun pins s σ H D I hw=>
  wpAny_mono (h pins s σ H D (I.wish _) hw) (fun _ _ q=>q.unwish) fun _ _ z=>False.elim z
end
section
variable {X:Cx}{st:Stmt}{rest:List Stmt}{t u:TS}{e:Expr}{te:TE}{pos:Pos}
def zbf:TS:=fun D σ H=>D.nx σ H
def tSeq (t u:TS):TS:=fun D σ H=>t { D with nx:=u D } σ H
theorem zan:PSs X [] zbf:=fun _ _ σ H _ I h=>wpAny_execs_nil ⟨σ,H,I,h⟩
theorem zd (h1:PS X st t) (h2:PSs X rest u):PSs X (st::rest) (tSeq t u):=by
  intro pins s σ H D I h
  refine wpAny_execs_cons (thn (h1 pins s σ H { D with nx:=u D } I h) fun f s1 q=>?_)
  cases f with
  | next=>
    obtain⟨σ',H',I',q⟩:=q
    exact h2 pins s1 σ' H' D I' q
  | ret v=>exact q
  | brk=>exact q
  | cont=>exact q
theorem zm (h1:PS X st t):PSs X [st] t:=by
  intro pins s σ H D I h
  refine wpAny_execs_cons (thn (h1 pins s σ H D I h) fun f s1 q=>?_)
  cases f with
  | next=>exact wpAny_execs_nil q
  | ret v=>exact q
  | brk=>exact q
  | cont=>exact q
theorem Inv.quiet {pins:List (Addr×Obj)}{σ:St}{H:Hp}{s:Shared}(I:Inv X pins σ H s):interactive X.env=false:=by simp[interactive,I.ok.kind]
def zvm (te:TE):TS:=fun D σ H=>te σ H fun _ H1=>D.nx σ H1
theorem zc0 (he:PE X e te) (hs:swapsWith e none pos.line X.env=pure false:=by rfl):PS X (.Expr e pos) (zvm te):=by
  intro pins s σ H D I h
  exact wpAny_Expr_any (thn (he pins s σ H _ I h) fun v s1 ⟨x,H1,I1,r1,q1⟩=>⟨σ,H1,I1,q1⟩) I.quiet hs
def tRet (te:TE):TS:=fun D σ H=>te σ H D.rt
theorem zak (he:PE X e te):PS X (.Return (some e) pos) (tRet te):=by
  intro pins s σ H D I h
  exact wpAny_Return_some (thn (he pins s σ H _ I h) fun v s1 ⟨x,H1,I1,r1,q1⟩=>⟨x,σ,H1,I1,r1,q1⟩)
def tIfS (c:TT) (t u:TS):TS:=fun D σ H=>c σ H fun b H1=>if b=true then t D σ H1 else u D σ H1
theorem zbg {c:Expr}{a b:List Stmt}{tc:TT}(hc:PT X c tc) (ha:PSs X a t) (hb:PSs X b u):PS X (.If c a b pos) (tIfS tc t u):=by
  intro pins s σ H D I h
  refine wpAny_If (thn (hc pins s σ H _ I h) fun d s1 hq0=>?_)
  obtain⟨H1,I1,q1⟩:=hq0
  cases d with
  | true=>exact ha pins s1 σ H1 D I1 q1
  | false=>exact hb pins s1 σ H1 D I1 q1
end
abbrev TG:=V->St->Hp->(St->Hp->Prop)->Prop
abbrev TGs:=List V->St->Hp->(St->Hp->Prop)->Prop
def PG (X:Cx) (target:Expr) (t:TG):Prop:=
  ∀(pins:List (Addr×Obj)) (s:Shared) (σ:St) (H:Hp) (v:V) (u:Value) (Q:St->Hp->Prop),Inv X pins σ H s->RelV v u->t v σ H Q->
    wpAny (model X.prog X.w) X.A (assign target X.env u) (fun _ s'=>∃σ' H',Inv X pins σ' H' s'/\Q σ' H') X.xe s
def PGs (X:Cx) (ts:List Expr) (t:TGs):Prop:=
  ∀(pins:List (Addr×Obj)) (s:Shared) (σ:St) (H:Hp) (vs:List V) (us:List Value) (Q:St->Hp->Prop),Inv X pins σ H s->Vals vs us->t vs σ H Q->
    wpAny (model X.prog X.w) X.A (assignInOrder ((assignEach ts X.env).map (·.2)) us) (fun _ s'=>∃σ' H',Inv X pins σ' H' s'/\Q σ' H') X.xe s
section
variable {X:Cx}{pos:Pos}
def zap (i:Nat):TG:=fun v σ H Q=>Q (σ.set i (some v)) H
theorem za3 {i:Nat}{x:Str}(hN:X.N.Nodup) (hi:X.N[i]? = some x) (hx:Loc X.env.scope x) (hf:X.fn x=true\/X.env.scope.names.lookup x=some .local:=by first | exact .inl rfl | exact .inr rfl | assumption):PG X (.Name x pos) (zap i):=by
  intro pins s σ H v u Q I r h
  exact wpAny_assign_Name (zfj I hN hi hx r (fun s' I'=>⟨_,H,I',h⟩) hf)
def gNil:TGs:=fun vs σ H Q=>vs = []/\Q σ H
def zvn (t:TG) (u:TGs):TGs:=fun vs σ H Q=>∃v r,vs=v::r/\t v σ H fun σ' H'=>u r σ' H' Q
theorem zj0:PGs X [] gNil:=by
  intro pins s σ H vs us Q I r h
  obtain⟨e,h⟩:=h
  subst e
  cases r
  exact assignInOrder_nil ⟨σ,H,I,h⟩
theorem zdo {e:Expr}{es:List Expr}{t:TG}{u:TGs}(h1:PG X e t) (h2:PGs X es u)
    (hs:(assignEach (e::es) X.env).map (·.2)=assign e X.env::(assignEach es X.env).map (·.2):=by rfl):PGs X (e::es) (zvn t u):=by
  intro pins s σ H vs us Q I r h
  obtain⟨v,vr,e1,h⟩:=h
  subst e1
  cases r with
  | cons r rr=>
    rw[hs]
    refine assignInOrder_cons (thn (h1 pins s σ H _ _ _ I r h) fun _ s1 hq0=>?_)
    obtain⟨σ1,H1,I1,q1⟩:=hq0
    exact h2 pins s1 σ1 H1 _ _ Q I1 rr q1
def gTup (K:PySem.W.Frag) (n:Nat) (t:TGs):TG:=fun v σ H Q=>∃a xs,v = .ref a/\SqT K H a xs/\xs.length=n/\t xs σ H Q
theorem ztz {es:List Expr}{k:Nat}{t:TGs}{n:Nat}(hc:X.calm=true) (h:PGs X es t)
    (hn:(assignEach es X.env).length=n:=by rfl) (hst:(assignEach es X.env).findIdx? (·.1)=none:=by rfl):PG X (.Tuple es k pos) (gTup X.K n t):=by
  intro pins s σ H v u Q I r hw
  obtain⟨a,xs,e1,hq,hl,hw⟩:=hw
  subst e1
  cases r
  obtain⟨its,rv,ht,hz⟩:=I.tuple hq
  refine assign_Tuple_tuple (I.ok.hd hc) ht (by simp[hn,←hl,rv.length]) hst fun h' hx=>?_
  have I1:Inv X pins σ H { s with heap:=h' }:=I.kept (t':=s.toks) fun b o e=>hx b o (Nat.ne_of_lt (Heap.lt_size e)) e
  exact h pins _ σ H xs _ Q I1 (by simpa using rv) hw
def tAsg (te:TE) (g:TG):TS:=fun D σ H=>te σ H fun x H1=>g x σ H1 D.nx
theorem zt0 {tg e:Expr}{te:TE}{g:TG}(he:PE X e te) (hg:PG X tg g) (hs:swapsWithSole [tg] e pos.line X.env=pure false:=by rfl) (hw:swappedStores [tg] e X.env=pure none:=by rfl)
    (h1:(assignEach [tg] X.env).map (·.2) = [assign tg X.env]:=by rfl):PS X (.Assign [tg] e pos) (tAsg te g):=by
  intro pins s σ H D I h
  refine wpAny_Assign_stores (thn (he pins s σ H _ I h) fun v s1 hq0=>?_) hs hw
  obtain⟨x,H1,I1,r1,q1⟩:=hq0
  rw[h1]
  exact thn (hg pins s1 σ H1 x v _ I1 r1 q1) fun _ s2 q=>q
theorem zac {i:Nat}{x:Str}{e:Expr}{te:TE}{pos':Pos}(hN:X.N.Nodup) (hi:X.N[i]? = some x) (hx:Loc X.env.scope x) (he:PE X e te) (hs:swapsWith e (some (.Name x pos')) pos.line X.env=pure false:=by rfl) (hf:X.fn x=true\/X.env.scope.names.lookup x=some .local:=by first | exact .inl rfl | exact .inr rfl | assumption) :
    PS X (.Assign [.Name x pos'] e pos) (tAsg te (zap i)):=by
  intro pins s σ H D I h
  refine wpAny_Assign_Name (thn (he pins s σ H _ I h) fun v s1 hq0=>?_) hs
  obtain⟨y,H1,I1,r1,q1⟩:=hq0
  exact zfj I1 hN hi hx r1 (fun s2 I2=>⟨_,H1,I2,q1⟩) hf
end
structure It where
  go:Nat->Hp->Prop
  yld:Nat->Hp->V->Hp->Prop
  stop:Nat->Hp->Prop
def FpOk (X:Cx) (pins:List (Addr×Obj)) (H:Hp) (b:Addr):Prop:=
  H b=none/\b≠X.env.locals/\b ∉ X.fs/\(b∈X.ex\/X.s₀.heap.objs.size<=b)/\(∀x c,X.env.cells.lookup x=some c->c≠b)/\∀p∈X.pn++pins,p.1≠b
theorem Inv.fpOk {X:Cx}{pins:List (Addr×Obj)}{σ:St}{H H':Hp}{s:Shared}{b:Addr}(I:Inv X pins σ H s) (hb:s.heap.objs.size<=b) (hn:H' b=none):FpOk X pins H' b:=by
  refine⟨hn,Nat.ne_of_gt (Nat.lt_of_lt_of_le I.lt hb),I.nofs hb,.inr (Nat.le_trans I.sz hb),fun x c e z=>?_,fun p hp z=>?_⟩
  · obtain⟨v,q⟩:=I.cell x c e
    exact absurd (Nat.lt_of_lt_of_le q.lt (by rw[z];exact hb)) (Nat.lt_irrefl _)
  · exact absurd (Nat.lt_of_lt_of_le (Heap.lt_size (I.pin p hp).1) (by rw[z];exact hb)) (Nat.lt_irrefl _)
structure Turn (P:Program) (w:World) (K:PySem.W.Frag) (tg:Expr) (J:It) (fp:List Addr) (it:Addr) (tn:Nat->Heap->Prop):Prop where
  mem:it∈fp
  obj:∀i h,tn i h->∀b∈fp,∃o,h.get? b=some o/\∀v,o.data≠.cell v
  keep:∀i h h',tn i h->(∀b∈fp,∀o,h.get? b=some o->h'.get? b=some o)->tn i h'
  item:∀(X:Cx),X.prog=P->X.w=w->X.K=K->X.calm=true->∀(i:Nat) (pins:List (Addr×Obj)) (s:Shared) (σ:St) (H:Hp) (E:Value->Shared->Prop),Inv X pins σ H s->(∀b∈fp,FpOk X pins H b)->tn i s.heap->J.go i H->
    wpAny (model P w) X.A (pyNext (.ref it)) (fun r s1=>∃u,r=some u/\
      wpAny (model P w) X.A (letOwnedTupleGo tg (.ref it) u) (fun _ s2=>∃x H',Inv X pins σ H' s2/\RelV x u/\J.yld i H x H'/\tn (i+1) s2.heap/\∀b∈fp,H' b=none) E s1) E s
  done:∀(X:Cx),X.prog=P->X.w=w->X.K=K->X.calm=true->∀(i:Nat) (pins:List (Addr×Obj)) (s:Shared) (σ:St) (H:Hp) (E:Value->Shared->Prop),Inv X pins σ H s->(∀b∈fp,FpOk X pins H b)->tn i s.heap->J.stop i H->
    wpAny (model P w) X.A (pyNext (.ref it)) (fun r s1=>r=none/\Inv X pins σ H s1) E s
  self:∀(A:Around) (i:Nat) (s:Shared) (Q:Value->Shared->Prop) (E:Value->Shared->Prop),tn i s.heap->Q (.ref it) s->wpAny (model P w) A (pyIter (.ref it)) Q E s
abbrev TI:=St->Hp->(It->Hp->Prop)->Prop
def PIE (X:Cx) (pins:List (Addr×Obj)) (σ:St) (tg:Expr) (R:It->Hp->Prop) (itv:Value) (s2:Shared):Prop:=
  ∃(it:Addr) (fp:List Addr) (tn:Nat->Heap->Prop) (J:It) (H':Hp),itv = .ref it/\Inv X pins σ H' s2/\Turn X.prog X.w X.K tg J fp it tn/\tn 0 s2.heap/\(∀b∈fp,FpOk X pins H' b)/\R J H'
def PI (X:Cx) (tg iter:Expr) (wi:TI):Prop:=
  ∀(pins:List (Addr×Obj)) (s:Shared) (σ:St) (H:Hp) (R:It->Hp->Prop),Inv X pins σ H s->wi σ H R->
    wpAny (model X.prog X.w) X.A (eval iter X.env) (fun v s1=>wpAny (model X.prog X.w) X.A (pyIter v) (PIE X pins σ tg R) X.xe s1) X.xe s
theorem zrp {M:Model}{A:Around}{E:Value->Shared->Prop}{s:Shared}{tg:Expr}{it:Addr}{u:Value}{o:Obj}{n:String}{vs:Array Value}{Q:Unit->Shared->Prop}(ho:s.heap.get? it=some o) (hc:o.cls = .type n) (hd:o.data = .fields vs)
    (hn : ["enumerate","zip","dict_itemiterator","dict_reverseitemiterator","odict_iterator","itertools.zip_longest","itertools.pairwise"].contains n=false) (hQ:Q () s):wpAny M A (letOwnedTupleGo tg (.ref it) u) Q E s:=by
  unfold letOwnedTupleGo
  cases tg<;>first
    | exact wpAny_pure hQ
    | (cases u<;>first
        | exact wpAny_pure hQ
        | (refine wpAny_bind (wpAny_load ho ?_)
           rw[hc,hd]
           show wpAny M A (if (["enumerate","zip","dict_itemiterator","dict_reverseitemiterator","odict_iterator","itertools.zip_longest","itertools.pairwise"].contains n&&vs[0]? == some (rawInt _))=true then _ else _) Q E s
           rw[if_neg (by intro h;rw[hn,Bool.false_and] at h;cases h)]
           exact wpAny_pure hQ))
def Itl (K:PySem.W.Frag) (a:Addr):It:=
  ⟨fun i H=>∃xs x,SqL K H a xs/\xs[i]? = some x,fun i H x H'=>H'=H/\∀xs,SqL K H a xs->xs[i]? = some x,fun i H=>∃xs,SqL K H a xs/\xs.length<=i⟩
def Itr (lo:Int) (n:Nat):It:=⟨fun i _=>i<n,fun i H x H'=>H'=H/\x = .int (lo+i),fun i _=>n<=i⟩
theorem zm1 {P:Program}{w:World}{K:PySem.W.Frag}{tg:Expr}(a it:Addr):Turn P w K tg (Itl K a) [it] it (fun i h=>h.IsListIter it a i) where
  mem:=by simp
  obj:=fun i h st b hb=>by
    have e:b=it:=by simpa using hb
    subst e
    obtain⟨o,e,c,d⟩:=st
    exact⟨o,e,fun v z=>by rw[d] at z;cases z⟩
  keep:=fun i h h' st k=>st.at fun o e=>k it (by simp) o e
  item:=by
    intro X hP hw hK hc i pins s σ H E I hf st hg
    subst hP hw hK
    obtain⟨xs,x,hq,hx⟩:=hg
    obtain⟨its,rv,p,hz⟩:=I.list hq
    obtain⟨u,hu,ru⟩:=rv.get hx
    obtain⟨f0,f1,f2,f3,f4,f5⟩:=hf it (by simp)
    refine wpAny_pyNext_list_item st p.isList (x:=u) (by simpa using hu) fun h' st' sb=>?_
    have I1:Inv X pins σ H { s with heap:=h' }:=I.turned (t':=s.toks) (fun b o hb e=>(sb.2 b hb).trans e) f0 f1 f3 f4 f5
    obtain⟨o,e,c,d⟩:=id st'
    exact⟨u,rfl,zrp (s:={ s with heap:=h' }) e c d (by decide) ⟨x,H,I1,ru,⟨rfl,fun ys hy=>by rw[I.list_inj hy hq];exact hx⟩,st',fun b hb=>(hf b hb).1⟩⟩
  done:=by
    intro X hP hw hK hc i pins s σ H E I hf st hg
    subst hP hw hK
    obtain⟨xs,hq,hx⟩:=hg
    obtain⟨its,rv,p,hz⟩:=I.list hq
    obtain⟨f0,f1,f2,f3,f4,f5⟩:=hf it (by simp)
    have hl:=rv.length
    exact wpAny_pyNext_list_end (I.ok.hd hc) st p.isList (by simp;omega) fun h' eb=>⟨rfl,I.turned (t':=s.toks) (fun b o hb e=>eb b o hb e) f0 f1 f3 f4 f5⟩
  self:=fun _ _ _ _ _ st h=>wpAny_pyIter_listiter st h
theorem zl0 {P:Program}{w:World}{K:PySem.W.Frag}{tg:Expr}(it:Addr) (lo:Int) (n:Nat):Turn P w K tg (Itr lo n) [it] it (fun i h=>IsRangeIter h it (lo+(i:Nat) * 1) ((n:Int)-(i:Nat)) 1) where
  mem:=by simp
  obj:=fun i h st b hb=>by
    have e:b=it:=by simpa using hb
    subst e
    exact⟨_,st,fun v z=>by
      have z':Data.fields _=Data.cell v:=z
      cases z'⟩
  keep:=fun i h h' st k=>k it (by simp) _ st
  item:=by
    intro X hP hw hK hc i pins s σ H E I hf st hg
    subst hP hw hK
    obtain⟨f0,f1,f2,f3,f4,f5⟩:=hf it (by simp)
    have W:=Walks.range (prog:=X.prog) (w:=X.w) (I.ok.hd hc) it lo 1 n
    refine W.item i s _ _ hg st fun v h' tk hv st' kk=>?_
    obtain⟨t,rfl⟩:=hv
    have I1:Inv X pins σ H { s with heap:=h',toks:=tk }:=I.turned (fun b o hb e=>kk b o (by simpa using hb) e) f0 f1 f3 f4 f5
    refine⟨_,rfl,zrp (s:={ s with heap:=h',toks:=tk }) (n:="range_iterator") st' rfl rfl (by decide) ⟨.int (lo+i),H,I1,⟨t,?_⟩,⟨rfl,rfl⟩,st',fun b hb=>(hf b hb).1⟩⟩
    rw[Int.mul_one]
  done:=by
    intro X hP hw hK hc i pins s σ H E I hf st hg
    subst hP hw hK
    obtain⟨f0,f1,f2,f3,f4,f5⟩:=hf it (by simp)
    exact wpAny_pyNext_range_end (I.ok.hd hc) st (by have:n<=i:=hg;omega) fun h' eb=>⟨rfl,I.turned (t':=s.toks) (fun b o hb e=>eb b o hb e) f0 f1 f3 f4 f5⟩
  self:=fun _ _ _ _ _ st h=>wpAny_pyIter_rangeiter st h
section
variable {X:Cx}{tg:Expr}
def zt1 (K:PySem.W.Frag) (tl:TE):TI:=fun σ H R=>tl σ H fun x H1=>∃a,x = .ref a/\(∃xs,SqL K H1 a xs)/\R (Itl K a) H1
theorem zrq {l:Expr}{tl:TE}(hl:PE X l tl):PI X tg l (zt1 X.K tl):=by
  intro pins s σ H R I h
  refine thn (hl pins s σ H _ I h) fun v s1 hq0=>?_
  obtain⟨x,H1,I1,r1,q1⟩:=hq0
  obtain⟨a,e,⟨xs,hq⟩,q⟩:=q1
  subst e
  cases r1
  obtain⟨its,rv,p,hz⟩:=I1.list hq
  refine wpAny_pyIter_list p.isList ?_
  refine⟨s1.heap.objs.size,[s1.heap.objs.size],_,_,H1,rfl,I1.kept (t':=s1.toks) fun b o e=>Heap.get?_push_of_some _ e,zm1 a _,⟨_,Heap.get?_push_size _ rfl,rfl,rfl⟩,fun b hb=>?_,q⟩
  have e:b=s1.heap.objs.size:=by simpa using hb
  subst e
  exact I1.fpOk (Nat.le_refl _) (I1.hok.fresh (Nat.le_refl _))
theorem zo3 {pins:List (Addr×Obj)}{σ:St}{H:Hp}{s:Shared}{R:It->Hp->Prop}{E:Value->Shared->Prop}{lo hi:Int}{t u v:Tok}{tk:Nat}(I:Inv X pins σ H s) (h1 : -(2 ^ 62)<=lo) (h2:lo<2 ^ 62) (h3 : -(2 ^ 62)<=hi) (h4:hi<2 ^ 62)
    (q:R (Itr lo (hi-lo).toNat) H):wpAny (model X.prog X.w) X.A (pyIter (.ref s.heap.objs.size)) (PIE X pins σ tg R) E { s with heap:=s.heap.push { cls:=.type "range",data:=.fields #[.int lo t,.int hi u,.int 1 v] },toks:=tk }:=by
  refine wpAny_pyIter_range (IsRange.new ..) (small_one h1 h2 h3 h4) ?_
  have I1:Inv X pins σ H { s with heap:=s.heap.push { cls:=.type "range",data:=.fields #[.int lo t,.int hi u,.int 1 v] },toks:=tk }:=I.kept fun b o e=>Heap.get?_push_of_some _ e
  refine⟨(s.heap.push { cls:=.type "range",data:=.fields #[.int lo t,.int hi u,.int 1 v] }).objs.size,[(s.heap.push { cls:=.type "range",data:=.fields #[.int lo t,.int hi u,.int 1 v] }).objs.size],_,_,H,rfl,
    I1.kept (t':=tk) fun b o e=>Heap.get?_push_of_some _ e,zl0 _ lo (hi-lo).toNat,?_,fun b hb=>?_,q⟩
  · have e1:lo+((0:Nat):Int) * 1=lo:=by simp
    have e2:(((hi-lo).toNat:Nat):Int)-((0:Nat):Int)=Builtin.Range.rangeSize lo hi 1:=by rw[rangeSize_one];split<;>omega
    show IsRangeIter _ _ (lo+((0:Nat):Int) * 1) ((((hi-lo).toNat:Nat):Int)-((0:Nat):Int)) 1
    rw[e1,e2]
    exact Heap.get?_push_size _ rfl
  · have e:b=(s.heap.push { cls:=.type "range",data:=.fields #[.int lo t,.int hi u,.int 1 v] }).objs.size:=by simpa using hb
    subst e
    exact I1.fpOk (Nat.le_refl _) (I1.hok.fresh (Nat.le_refl _))
def zvo (ta:TA):TI:=fun σ H R=>ta σ H fun vs H1=>∃j:Int,vs = [.int j]/\-(2 ^ 62)<=j/\j<2 ^ 62/\R (Itr 0 j.toNat) H1
theorem zbs {a:Expr}{ta:TA}{p pos:Pos}(hg:Gl X "range") (hm:X.mg "range" = none) (ha:PA X [a] ta) (hs:starEach [a] X.env = [(false,eval a X.env)]:=by rfl):PI X tg (.Call (.Name "range" p) [a] [] pos) (zvo ta):=by
  intro pins s σ H R I h
  refine Call_ (zfp I hg hm boot_range (PyProof.Rows.callWith_type1 (thn (ha pos pins s σ H _ I h) fun us s1 hq0=>?_) hs rfl))
  obtain⟨vs,H1,I1,r1,q1⟩:=hq0
  obtain⟨j,e,q1,q2,q⟩:=q1
  subst e
  cases r1 with
  | cons r rr=>
    cases rr
    obtain⟨t,rfl⟩:=r
    exact call_range_1 (zo3 I1 (by omega) (by omega) q1 q2 (by simpa using q))
def tFor (wi:TI) (g:TG) (tb:TS):TS:=fun D σ H=>wi σ H fun J H1=>∃W:Nat->Nat->St->Hp->Prop,(∃m,W 0 m σ H1)/\∀i m σ H,W i m σ H->
  (J.stop i H/\D.nx σ H)\/(J.go i H/\∃N:St->Hp->Prop,(∀σ' H',N σ' H'->∃m',m'<m/\W (i+1) m' σ' H')/\∀x H',J.yld i H x H'->g x σ H' fun σ2 H2=>tb { D with nx:=N,ct:=N,bk:=D.nx } σ2 H2)
def ziw (fp:List Addr) (h:Heap):List (Addr×Obj):=fp.filterMap fun b=>(h.get? b).map fun o=>(b,o)
theorem zdp {fp:List Addr}{h:Heap}{b:Addr}{o:Obj}(hb:b∈fp) (e:h.get? b=some o):(b,o)∈ziw fp h:=List.mem_filterMap.mpr ⟨b,hb,by rw[e];rfl⟩
theorem zm2 {fp:List Addr}{h:Heap}{p:Addr×Obj}(hp:p∈ziw fp h):p.1∈fp/\h.get? p.1=some p.2:=by
  obtain⟨b,hb,e⟩:=List.mem_filterMap.mp hp
  cases q:h.get? b with
  | none=>rw[q] at e;cases e
  | some o=>
    rw[q] at e
    have e':(b,o)=p:=Option.some.inj e
    subst e'
    exact⟨hb,q⟩
theorem Inv.pinned {pins:List (Addr×Obj)}{σ:St}{H:Hp}{s:Shared}{fp:List Addr}(I:Inv X pins σ H s) (hf:∀b∈fp,FpOk X pins H b) (ho:∀b∈fp,∃o,s.heap.get? b=some o/\∀v,o.data≠.cell v):Inv X (pins++ziw fp s.heap) σ H s:=
  I.pins_of fun p hp=>(List.mem_append.mp hp).elim (fun z=>I.pin p (List.mem_append_right _ z)) fun z=>by
    obtain⟨hb,e⟩:=zm2 z
    obtain⟨f0,f1,f2,_⟩:=hf p.1 hb
    obtain⟨o,e',d⟩:=ho p.1 hb
    rw[e] at e';cases e'
    exact⟨e,f0,f1,f2,d⟩
theorem Inv.unpinned {pins pl:List (Addr×Obj)}{σ:St}{H:Hp}{s:Shared}(I:Inv X (pins++pl) σ H s):Inv X pins σ H s:=I.pins_of fun p hp=>I.pin p (List.mem_append_right _ (List.mem_append_left _ hp))
theorem zdd {iter:Expr}{body:List Stmt}{wi:TI}{g:TG}{tb:TS}{pos:Pos}(hp:PassesOwn (model X.prog X.w) X.A X.env X.xe) (hc:X.calm=true) (hi:PI X tg iter wi) (hg:PG X tg g) (hb:PSs X body tb)
    (hs:∀x,foldedSetIterable iter X.env x=pure x:=by intro _;rfl):PS X (.For tg iter body [] pos) (tFor wi g tb):=by
  intro pins s σ H D I h
  refine wpAny_For (thn (hi pins s σ H _ I h) fun v s1 h1=>thn h1 fun itv s2 h2=>?_) hs
  obtain⟨it,fp,tn,J,H2,e,I2,T,st2,f2,W,⟨m0,w0⟩,turn⟩:=h2
  subst e
  have stat:∀{H':Hp},(∀b∈fp,H' b=none)->∀b∈fp,FpOk X pins H' b:=fun hn b hb=>⟨hn b hb,(f2 b hb).2⟩
  refine codeAny_forLoop_any (fun n s'=>∃i σ' H',Inv X pins σ' H' s'/\tn i s'.heap/\(∀b∈fp,H' b=none)/\W i n σ' H') ?_ m0 ⟨0,σ,H2,I2,st2,fun b hb=>(f2 b hb).1,w0⟩
  rintro n s3 ⟨i,σ3,H3,I3,st3,fr3,w3⟩
  rcases turn i n σ3 H3 w3 with ⟨stop,qn⟩ | ⟨go,N,hN,step⟩
  · refine wpAny_passesOwn hp (thn (T.done X rfl rfl rfl hc i pins s3 σ3 H3 X.xe I3 (stat fr3) st3 stop) fun r s4 hq0=>?_)
    obtain⟨hr,I4⟩:=hq0
    subst hr
    exact wpAny_execs_nil ⟨σ3,H3,I4,qn⟩
  · refine wpAny_passesOwn hp (thn (T.item X rfl rfl rfl hc i pins s3 σ3 H3 X.xe I3 (stat fr3) st3 go) fun r s4 hq0=>?_)
    obtain⟨u,hr,h4⟩:=hq0
    subst hr
    refine wpAny_passesOwn hp (thn h4 fun _ s5 hq0=>?_)
    obtain⟨x,H5,I5,r5,y5,st5,fr5⟩:=hq0
    have I5':=I5.pinned (stat fr5) (T.obj _ _ st5)
    refine wpAny_passesOwn hp (thn (hg _ s5 σ3 H5 x u _ I5' r5 (step x H5 y5)) fun _ s6 hq0=>?_)
    obtain⟨σ6,H6,I6,q6⟩:=hq0
    refine wpAny_passesOwn hp (thn (hb _ s6 σ6 H6 _ I6 q6) fun f s7 q7=>?_)
    have again:∀{σ7:St}{H7:Hp},Inv X (pins++ziw fp s5.heap) σ7 H7 s7->N σ7 H7->∃m,m<n/\∃i σ' H',Inv X pins σ' H' s7/\tn i s7.heap/\(∀b∈fp,H' b=none)/\W i m σ' H':=fun {σ7 H7} I7 n7=>by
      obtain⟨m',hm,w7⟩:=hN σ7 H7 n7
      refine⟨m',hm,i+1,σ7,H7,I7.unpinned,T.keep _ _ _ st5 fun b hb o e=>(I7.pin (b,o) (List.mem_append_right _ (List.mem_append_right _ (zdp hb e)))).1,fun b hb=>?_,w7⟩
      obtain⟨o,e,d⟩:=T.obj _ _ st5 b hb
      exact (I7.pin (b,o) (List.mem_append_right _ (List.mem_append_right _ (zdp hb e)))).2.1
    cases f with
    | next=>obtain⟨σ7,H7,I7,n7⟩:=q7;exact again I7 n7
    | cont=>obtain⟨σ7,H7,I7,n7⟩:=q7;exact again I7 n7
    | brk=>obtain⟨σ7,H7,I7,q7⟩:=q7;exact⟨σ7,H7,I7.unpinned,q7⟩
    | ret v=>obtain⟨x7,σ7,H7,I7,r7,q7⟩:=q7;exact⟨x7,σ7,H7,I7.unpinned,r7,q7⟩
end
theorem zd6 {K:PySem.W.Frag}{a:Addr}{xs:List V}{g:TG}{tb:TS}{D:Ends}{σ:St}{H:Hp}(Pv:Nat->St->Hp->Prop) (h0:Pv 0 σ H) (hl:∀i σ H,i<=xs.length->Pv i σ H->SqL K H a xs)
    (hs:∀i x σ H,xs[i]? = some x->Pv i σ H->g x σ H fun σ2 H2=>tb { D with nx:=Pv (i+1),ct:=Pv (i+1),bk:=D.nx } σ2 H2) (hd:∀σ H,Pv xs.length σ H->D.nx σ H) :
    ∃W:Nat->Nat->St->Hp->Prop,(∃m,W 0 m σ H)/\∀i m σ H,W i m σ H->
      ((Itl K a).stop i H/\D.nx σ H)\/((Itl K a).go i H/\∃N:St->Hp->Prop,(∀σ' H',N σ' H'->∃m',m'<m/\W (i+1) m' σ' H')/\∀x H',(Itl K a).yld i H x H'->g x σ H' fun σ2 H2=>tb { D with nx:=N,ct:=N,bk:=D.nx } σ2 H2):=by
  refine⟨fun i m σ H=>m=xs.length-i/\i<=xs.length/\Pv i σ H,⟨xs.length,by simp,Nat.zero_le _,h0⟩,?_⟩
  rintro i m σ H ⟨rfl,hi,p⟩
  have q:=hl i σ H hi p
  by_cases hlt:i<xs.length
  · refine .inr ⟨⟨xs,xs[i],q,by simp[hlt]⟩,Pv (i+1),fun σ' H' p'=>⟨xs.length-(i+1),by omega,rfl,hlt,p'⟩,fun x H' y=>?_⟩
    obtain⟨e,y⟩:=y
    subst e
    exact hs i x σ _ (y xs q) p
  · have e:i=xs.length:=by omega
    subst e
    exact .inl ⟨⟨xs,q,Nat.le_refl _⟩,hd σ H p⟩
theorem zde {lo:Int}{n:Nat}{g:TG}{tb:TS}{D:Ends}{σ:St}{H:Hp}(Pv:Nat->St->Hp->Prop) (h0:Pv 0 σ H)
    (hs:∀i σ H,i<n->Pv i σ H->g (.int (lo+i)) σ H fun σ2 H2=>tb { D with nx:=Pv (i+1),ct:=Pv (i+1),bk:=D.nx } σ2 H2) (hd:∀σ H,Pv n σ H->D.nx σ H) :
    ∃W:Nat->Nat->St->Hp->Prop,(∃m,W 0 m σ H)/\∀i m σ H,W i m σ H->
      ((Itr lo n).stop i H/\D.nx σ H)\/((Itr lo n).go i H/\∃N:St->Hp->Prop,(∀σ' H',N σ' H'->∃m',m'<m/\W (i+1) m' σ' H')/\∀x H',(Itr lo n).yld i H x H'->g x σ H' fun σ2 H2=>tb { D with nx:=N,ct:=N,bk:=D.nx } σ2 H2):=by
  refine⟨fun i m σ H=>m=n-i/\i<=n/\Pv i σ H,⟨n,by simp,Nat.zero_le _,h0⟩,?_⟩
  rintro i m σ H ⟨rfl,hi,p⟩
  by_cases hlt:i<n
  · refine .inr ⟨hlt,Pv (i+1),fun σ' H' p'=>⟨n-(i+1),by omega,rfl,hlt,p'⟩,fun x H' y=>?_⟩
    obtain⟨e,y⟩:=y
    subst e y
    exact hs i σ _ hlt p
  · have e:i=n:=by omega
    subst e
    exact .inl ⟨Nat.le_refl _,hd σ H p⟩
abbrev R2:=V->V->Hp->VK->Prop
def OpR (X:Cx) (f:Value->Value->Sem Value) (r:R2):Prop:=
  ∀(pins:List (Addr×Obj)) (s:Shared) (σ:St) (H:Hp) (x y:V) (v u:Value) (Q:VK),Inv X pins σ H s->RelV x v->RelV y u->r x y H Q->
    wpAny (model X.prog X.w) X.A (f v u) (EP X pins σ Q) X.xe s
def UnR (X:Cx) (f:Value->Sem Value) (r:V->Hp->VK->Prop):Prop:=
  ∀(pins:List (Addr×Obj)) (s:Shared) (σ:St) (H:Hp) (x:V) (v:Value) (Q:VK),Inv X pins σ H s->RelV x v->r x H Q->
    wpAny (model X.prog X.w) X.A (f v) (EP X pins σ Q) X.xe s
def zd0 (X:Cx) (f:Value) (r:List V->Hp->VK->Prop):Prop:=
  ∀(pins:List (Addr×Obj)) (s:Shared) (σ:St) (H:Hp) (xs:List V) (us:List Value) (Q:VK),Inv X pins σ H s->Vals xs us->r xs H Q->
    wpAny (model X.prog X.w) X.A (call f us) (EP X pins σ Q) X.xe s
def tOp (r:R2) (ta tb:TE):TE:=fun σ H Q=>ta σ H fun x H1=>tb σ H1 fun y H2=>r x y H2 Q
def tUn (r:V->Hp->VK->Prop) (ta:TE):TE:=fun σ H Q=>ta σ H fun x H1=>r x H1 Q
def rI (C:Int->Int->Prop) (g:Int->Int->V):R2:=fun x y H Q=>∃i j,x = .int i/\y = .int j/\C i j/\Q (g i j) H
def rI0 (g:Int->Int->V):R2:=fun x y H Q=>∃i j,x = .int i/\y = .int j/\Q (g i j) H
def rU (g:Int->V):V->Hp->VK->Prop:=fun x H Q=>∃i,x = .int i/\Q (g i) H
section
variable {X:Cx}{a b c:Expr}{ta tb tc:TE}{pos:Pos}
theorem binT (ha:PE X a ta) (hb:PE X b tb) {pins:List (Addr×Obj)}{s:Shared}{σ:St}{H:Hp}{R:V->V->Hp->Prop}(I:Inv X pins σ H s)
    (h:ta σ H fun x H1=>tb σ H1 fun y H2=>R x y H2) {Q:Value->Shared->Prop}{f:Value->Value->Sem Value}
    (hf:∀v u s2 x y H2,Inv X pins σ H2 s2->RelV x v->RelV y u->R x y H2->wpAny (model X.prog X.w) X.A (f v u) Q X.xe s2) :
    wpAny (model X.prog X.w) X.A (eval a X.env) (fun v s₁=>wpAny (model X.prog X.w) X.A (eval b X.env) (fun u s₂=>wpAny (model X.prog X.w) X.A (f v u) Q X.xe s₂) X.xe s₁) X.xe s:=by
  refine thn (ha pins s σ H _ I h) fun v s1 hq0=>?_
  obtain⟨x,H1,I1,r1,q1⟩:=hq0
  refine thn (hb pins s1 σ H1 _ I1 q1) fun u s2 hq0=>?_
  obtain⟨y,H2,I2,r2,q2⟩:=hq0
  exact hf v u s2 x y H2 I2 r1 r2 q2
theorem zg {op:Operator}{r:R2}(ho:OpR X (binaryOp op) r) (ha:PE X a ta) (hb:PE X b tb):PE X (.BinOp a op b pos) (tOp r ta tb):=by
  intro pins s σ H Q I h
  exact wpAny_BinOp (binT ha hb I h fun v u s2 x y H2 I2 rx ry q=>ho pins s2 σ H2 x y v u Q I2 rx ry q)
theorem zl1 {op:UnaryOp}{r:V->Hp->VK->Prop}(ho:UnR X (unaryOp op) r) (ha:PE X a ta):PE X (.UnaryOp op a pos) (tUn r ta):=by
  intro pins s σ H Q I h
  exact UnaryOp_ (thn (ha pins s σ H _ I h) fun v s1 ⟨x,H1,I1,r1,q1⟩=>ho pins s1 σ H1 x v Q I1 r1 q1)
theorem opI {f:Value->Value->Sem Value}{C:Int->Int->Prop}{g:Int->Int->Int}
    (rule:∀(i j:Int) (t u:Tok) (s:Shared) (Q:Value->Shared->Prop) (E:Value->Shared->Prop),C i j->Q (.int (g i j) s.toks) { s with toks:=s.toks+1 }->wpAny (model X.prog X.w) X.A (f (.int i t) (.int j u)) Q E s) :
    OpR X f (rI C fun i j=>.int (g i j)):=by
  intro pins s σ H x y v u Q I rx ry h
  obtain⟨i,j,rfl,rfl,hc,q⟩:=h
  obtain⟨t,rfl⟩:=rx
  obtain⟨t',rfl⟩:=ry
  exact rule i j t t' s _ _ hc ⟨.int (g i j),H,I.tok _,⟨_,rfl⟩,q⟩
theorem opI0 {f:Value->Value->Sem Value}{g:Int->Int->Int}
    (rule:∀(i j:Int) (t u:Tok) (s:Shared) (Q:Value->Shared->Prop) (E:Value->Shared->Prop),Q (.int (g i j) s.toks) { s with toks:=s.toks+1 }->wpAny (model X.prog X.w) X.A (f (.int i t) (.int j u)) Q E s) :
    OpR X f (rI0 fun i j=>.int (g i j)):=by
  intro pins s σ H x y v u Q I rx ry h
  obtain⟨i,j,rfl,rfl,q⟩:=h
  obtain⟨t,rfl⟩:=rx
  obtain⟨t',rfl⟩:=ry
  exact rule i j t t' s _ _ ⟨.int (g i j),H,I.tok _,⟨_,rfl⟩,q⟩
theorem opB0 {f:Value->Value->Sem Value}{g:Int->Int->Bool}
    (rule:∀(i j:Int) (t u:Tok) (s:Shared) (Q:Value->Shared->Prop) (E:Value->Shared->Prop),Q (.bool (g i j)) s->wpAny (model X.prog X.w) X.A (f (.int i t) (.int j u)) Q E s) :
    OpR X f (rI0 fun i j=>.bl (g i j)):=by
  intro pins s σ H x y v u Q I rx ry h
  obtain⟨i,j,rfl,rfl,q⟩:=h
  obtain⟨t,rfl⟩:=rx
  obtain⟨t',rfl⟩:=ry
  exact rule i j t t' s _ _ ⟨.bl (g i j),H,I,rfl,q⟩
def CDiv (i j:Int):Prop:=0<j/\j<1073741824
def CPow (i j:Int):Prop:=0<=j/\j<=1000000/\i.natAbs<2 ^ 64
def CMul (i j:Int):Prop:=(-(2 ^ 64)<i/\i<2 ^ 64)\/(-(2 ^ 64)<j/\j<2 ^ 64)
theorem CMul.ok {i j:Int}(h:CMul i j):IntMulOk i j:=by
  rcases h with ⟨h1,h2⟩ | ⟨h1,h2⟩
  · exact .of_left (intBits_le_64 h1 h2)
  · exact .of_right (intBits_le_64 h1 h2)
theorem zay:OpR X (binaryOp .Add) (rI0 fun i j=>.int (i+j)):=opI0 fun _ _ _ _ _ _ _ q=>add_int q
theorem zby:OpR X (binaryOp .Sub) (rI0 fun i j=>.int (i-j)):=opI0 fun _ _ _ _ _ _ _ q=>sub_int q
theorem zm3:OpR X (binaryOp .Mult) (rI CMul fun i j=>.int (i * j)):=opI fun _ _ _ _ _ _ _ hc q=>mul_int q hc.ok
theorem zep:OpR X (binaryOp .FloorDiv) (rI CDiv fun i j=>.int (i / j)):=opI fun i j _ _ _ _ _ hc q=>by
  have h1:(0:Int)<j:=hc.1
  have h2:j<1073741824:=hc.2
  exact floordiv_int (by omega) (by rw[Int.fdiv_eq_ediv_of_nonneg i (by omega)];exact q) (.inl (PyProof.noPylong_small (by omega)))
theorem zbl:OpR X (binaryOp .Mod) (rI (fun _ j=>0<j) fun i j=>.int (i%j)):=opI fun i j _ _ _ _ _ hc q=>by
  have h1:(0:Int)<j:=hc
  exact mod_int' (by omega) (by rw[Int.fmod_eq_emod_of_nonneg i (by omega)];exact q)
theorem zt2:OpR X (binaryOp .Pow) (rI CPow fun i j=>.int (i ^ j.toNat)):=opI fun _ _ _ _ _ _ _ hc q=>pow_int_small hc.1 hc.2.1 hc.2.2 q
theorem unI {f:Value->Sem Value}{g:Int->Int}
    (rule:∀(i:Int) (t:Tok) (s:Shared) (Q:Value->Shared->Prop) (E:Value->Shared->Prop),Q (.int (g i) s.toks) { s with toks:=s.toks+1 }->wpAny (model X.prog X.w) X.A (f (.int i t)) Q E s) :
    UnR X f (rU fun i=>.int (g i)):=by
  intro pins s σ H x v Q I rx h
  obtain⟨i,rfl,q⟩:=h
  obtain⟨t,rfl⟩:=rx
  exact rule i t s _ _ ⟨.int (g i),H,I.tok _,⟨_,rfl⟩,q⟩
theorem zg6:UnR X (unaryOp .USub) (rU fun i=>.int (-i)):=unI fun _ _ _ _ _ q=>neg_int q
end
def scal:V->V->Bool
  | .non,.non=>true | .non,.int _=>true | .int _,.non=>true | .non,.bl _=>true | .bl _,.non=>true | .non,.str _=>true | .str _,.non=>true
  | .int _,.int _=>true | .bl _,.bl _=>true | .str _,.str _=>true | .byt _,.byt _=>true
  | .int _,.str _=>true | .str _,.int _=>true | .bl _,.str _=>true | .str _,.bl _=>true
  | _,_=>false
def rEq:R2:=fun x y H Q=>scal x y=true/\Q (.bl (decide (x=y))) H
def rNe:R2:=fun x y H Q=>scal x y=true/\Q (.bl (!decide (x=y))) H
theorem zm4 {i j:Int}:decide (V.int i=V.int j)=(i == j):=by
  rw[Bool.eq_iff_iff]
  simp
theorem zq4 {i j:Bool}:decide (V.bl i=V.bl j)=(i == j):=by
  rw[Bool.eq_iff_iff]
  simp
theorem zm5 {i j:Str}:decide (V.str i=V.str j)=(i == j):=by
  rw[Bool.eq_iff_iff]
  simp
theorem zm6 {i j:Array UInt8}:decide (V.byt i=V.byt j)=(i.toList == j.toList):=by
  rw[Bool.eq_iff_iff]
  cases i
  cases j
  simp
section
variable {X:Cx}{a b c:Expr}{ta tb tc:TE}{pos:Pos}
theorem za2 {pins:List (Addr×Obj)}{σ:St}{H:Hp}{s:Shared}{Q:VK}{k k':Bool}(I:Inv X pins σ H s) (q:Q (.bl k) H) (e:k=k'):EP X pins σ Q (.bool k') s:=by
  subst e
  exact⟨.bl k,H,I,rfl,q⟩
theorem zc9:OpR X (compareOp .Eq) rEq:=by
  intro pins s σ H x y v u Q I rx ry h
  obtain⟨hs,q⟩:=h
  cases x with
  | non=>
    cases rx
    cases y with
    | non=>cases ry;exact PySem.EqNone.eq_none_none (za2 I q (by simp))
    | bl j=>cases ry;exact PySem.EqNone.eq_none_bool (za2 I q (by simp))
    | int j=>obtain⟨t',rfl⟩:=ry;exact PySem.EqNone.eq_none_int (za2 I q (by simp))
    | str j=>obtain⟨t',rfl⟩:=ry;exact PySem.EqNone.eq_none_str (za2 I q (by simp))
    | _=>exact absurd (show false=true from hs) Bool.false_ne_true
  | bl i=>
    cases rx
    cases y with
    | non=>cases ry;exact PySem.EqNone.eq_bool_none (za2 I q (by simp))
    | bl j=>cases ry;exact eq_bool (za2 I q zq4)
    | str j=>obtain⟨t',rfl⟩:=ry;exact PySem.EqMixed.eq_bool_str (za2 I q (by simp))
    | _=>exact absurd (show false=true from hs) Bool.false_ne_true
  | int i=>
    obtain⟨t,rfl⟩:=rx
    cases y with
    | non=>cases ry;exact PySem.EqNone.eq_int_none (za2 I q (by simp))
    | int j=>obtain⟨t',rfl⟩:=ry;exact eq_int (za2 I q zm4)
    | str j=>obtain⟨t',rfl⟩:=ry;exact PySem.EqMixed.eq_int_str (za2 I q (by simp))
    | _=>exact absurd (show false=true from hs) Bool.false_ne_true
  | str i=>
    obtain⟨t,rfl⟩:=rx
    cases y with
    | non=>cases ry;exact PySem.EqNone.eq_str_none (za2 I q (by simp))
    | bl j=>cases ry;exact PySem.EqMixed.eq_str_bool (za2 I q (by simp))
    | int j=>obtain⟨t',rfl⟩:=ry;exact PySem.EqMixed.eq_str_int (za2 I q (by simp))
    | str j=>obtain⟨t',rfl⟩:=ry;exact eq_str (za2 I q zm5)
    | _=>exact absurd (show false=true from hs) Bool.false_ne_true
  | byt i=>
    obtain⟨t,rfl⟩:=rx
    cases y with
    | byt j=>obtain⟨t',rfl⟩:=ry;exact PySem.W.eq_bytes (za2 I q zm6)
    | _=>exact absurd (show false=true from hs) Bool.false_ne_true
  | _=>cases y<;>exact absurd (show false=true from hs) Bool.false_ne_true
theorem zo4:OpR X (compareOp .NotEq) rNe:=by
  intro pins s σ H x y v u Q I rx ry h
  obtain⟨hs,q⟩:=h
  cases x with
  | non=>
    cases rx
    cases y with
    | non=>cases ry;exact PySem.EqNone.ne_none_none (za2 I q (by simp))
    | bl j=>cases ry;exact PySem.EqNone.ne_none_bool (za2 I q (by simp))
    | int j=>obtain⟨t',rfl⟩:=ry;exact PySem.EqNone.ne_none_int (za2 I q (by simp))
    | str j=>obtain⟨t',rfl⟩:=ry;exact PySem.EqNone.ne_none_str (za2 I q (by simp))
    | _=>exact absurd (show false=true from hs) Bool.false_ne_true
  | bl i=>
    cases rx
    cases y with
    | non=>cases ry;exact PySem.EqNone.ne_bool_none (za2 I q (by simp))
    | bl j=>cases ry;exact ne_bool (za2 I q (congrArg not zq4))
    | str j=>obtain⟨t',rfl⟩:=ry;exact PySem.EqMixed.ne_bool_str (za2 I q (by simp))
    | _=>exact absurd (show false=true from hs) Bool.false_ne_true
  | int i=>
    obtain⟨t,rfl⟩:=rx
    cases y with
    | non=>cases ry;exact PySem.EqNone.ne_int_none (za2 I q (by simp))
    | int j=>obtain⟨t',rfl⟩:=ry;exact ne_int (za2 I q (congrArg not zm4))
    | str j=>obtain⟨t',rfl⟩:=ry;exact PySem.EqMixed.ne_int_str (za2 I q (by simp))
    | _=>exact absurd (show false=true from hs) Bool.false_ne_true
  | str i=>
    obtain⟨t,rfl⟩:=rx
    cases y with
    | non=>cases ry;exact PySem.EqNone.ne_str_none (za2 I q (by simp))
    | bl j=>cases ry;exact PySem.EqMixed.ne_str_bool (za2 I q (by simp))
    | int j=>obtain⟨t',rfl⟩:=ry;exact PySem.EqMixed.ne_str_int (za2 I q (by simp))
    | str j=>obtain⟨t',rfl⟩:=ry;exact ne_str (za2 I q (congrArg not zm5))
    | _=>exact absurd (show false=true from hs) Bool.false_ne_true
  | byt i=>
    obtain⟨t,rfl⟩:=rx
    cases y with
    | byt j=>obtain⟨t',rfl⟩:=ry;exact PySem.W.ne_bytes (za2 I q (congrArg not zm6))
    | _=>exact absurd (show false=true from hs) Bool.false_ne_true
  | _=>cases y<;>exact absurd (show false=true from hs) Bool.false_ne_true
theorem zrr:OpR X (compareOp .Lt) (rI0 fun i j=>.bl (decide (i<j))):=opB0 fun _ _ _ _ _ _ _ q=>lt_int q
theorem zm7:OpR X (compareOp .LtE) (rI0 fun i j=>.bl (decide (i<=j))):=opB0 fun _ _ _ _ _ _ _ q=>le_int q
theorem zvp:OpR X (compareOp .Gt) (rI0 fun i j=>.bl (decide (j<i))):=opB0 fun _ _ _ _ _ _ _ q=>gt_int q
theorem zvq:OpR X (compareOp .GtE) (rI0 fun i j=>.bl (decide (j<=i))):=opB0 fun _ _ _ _ _ _ _ q=>ge_int q
theorem zix:OpR X (compareOp .In) (fun x y H Q=>∃i j,x = .str i/\y = .str j/\Q (.bl (!(Builtin.Str.occurrences j i 0 j.length 1).isEmpty)) H):=by
  intro pins s σ H x y v u Q I rx ry h
  obtain⟨i,j,rfl,rfl,q⟩:=h
  obtain⟨t,rfl⟩:=rx
  obtain⟨t',rfl⟩:=ry
  exact in_str (za2 I q rfl)
theorem zau (b:Expr) {op:CmpOp}(h:op≠.In:=by decide) (h2:op≠.NotIn:=by decide):behindInMarks op b=false:=by
  have e1:(op == CmpOp.In)=false:=by cases op<;>first | rfl | exact absurd rfl h
  have e2:(op == CmpOp.NotIn)=false:=by cases op<;>first | rfl | exact absurd rfl h2
  cases b<;>simp[behindInMarks,e1,e2]
theorem zfq {op:CmpOp}{r:R2}(ho:OpR X (compareOp op) r) (ha:PE X a ta) (hb:PE X b tb) (hm:behindInMarks op b=false):PE X (.Compare a [op] [b] pos) (tOp r ta tb):=by
  intro pins s σ H Q I h
  exact wpAny_Compare1 (binT ha hb I h fun v u s2 x y H2 I2 rx ry q=>ho pins s2 σ H2 x y v u Q I2 rx ry q) hm
def zt3 (t:TE):TT:=fun σ H Q=>t σ H fun x H'=>∃k,x = .bl k/\Q k H'
theorem zah {op:CmpOp}{r:R2}(ho:OpR X (compareOp op) r) (ha:PE X a ta) (hb:PE X b tb) (hm:behindInMarks op b=false):PT X (.Compare a [op] [b] pos) (zt3 (tOp r ta tb)):=by
  intro pins s σ H Q I h
  refine wpAny_isTrue_Compare1 (thn (ha pins s σ H _ I h) fun v s1 ⟨x,H1,I1,r1,q1⟩=>thn (hb pins s1 σ H1 _ I1 q1) fun u s2 ⟨y,H2,I2,r2,q2⟩=>
    thn (ho pins s2 σ H2 x y v u _ I2 r1 r2 q2) fun c s3 ⟨z,H3,I3,r3,k,e,q3⟩=>?_) hm
  subst e
  cases r3
  exact wpAny_truthy_bool ⟨H3,I3,q3⟩
def zq5 (r r':R2) (ta tb tc:TE):TE:=fun σ H Q=>ta σ H fun x H1=>tb σ H1 fun y H2=>r x y H2 fun z H3=>∃k,z = .bl k/\
  (if k=true then tc σ H3 fun w' H4=>r' y w' H4 Q else Q (.bl false) H3)
theorem zo5 {op op':CmpOp}{r r':R2}(ho:OpR X (compareOp op) r) (ho':OpR X (compareOp op') r') (ha:PE X a ta) (hb:PE X b tb) (hc:PE X c tc)
    (hm:lastMarks [op,op'] [b,c]=false:=by with_unfolding_all rfl):PE X (.Compare a [op,op'] [b,c] pos) (zq5 r r' ta tb tc):=by
  intro pins s σ H Q I h
  refine Compare_chain (thn (ha pins s σ H _ I h) fun v s1 ⟨x,H1,I1,r1,q1⟩=>chain_link (thn (hb pins s1 σ H1 _ I1 q1) fun u s2 ⟨y,H2,I2,r2,q2⟩=>
    thn (ho pins s2 σ H2 x y v u _ I2 r1 r2 q2) fun d s3 ⟨z,H3,I3,r3,k,e,q3⟩=>?_)) hm
  subst e
  cases r3
  refine wpAny_truthy_bool ?_
  cases k with
  | false=>exact ite_ff ⟨.bl false,H3,I3,rfl,q3⟩
  | true=>exact ite_tt (chain_last (thn (hc pins s3 σ H3 _ I3 q3) fun w' s4 ⟨z',H4,I4,r4,q4⟩=>ho' pins s4 σ H4 y z' u w' Q I4 r2 r4 q4))
theorem zo6 {op op':CmpOp}{r r':R2}(ho:OpR X (compareOp op) r) (ho':OpR X (compareOp op') r') (ha:PE X a ta) (hb:PE X b tb) (hc:PE X c tc)
    (hm:lastMarks [op,op'] [b,c]=false:=by with_unfolding_all rfl):PT X (.Compare a [op,op'] [b,c] pos) (zt3 (zq5 r r' ta tb tc)):=by
  intro pins s σ H Q I h
  refine isTrue_chain (thn (ha pins s σ H _ I h) fun v s1 ⟨x,H1,I1,r1,q1⟩=>test_link (thn (hb pins s1 σ H1 _ I1 q1) fun u s2 ⟨y,H2,I2,r2,q2⟩=>
    thn (ho pins s2 σ H2 x y v u _ I2 r1 r2 q2) fun d s3 ⟨z,H3,I3,r3,k,e,q3⟩=>?_)) hm
  subst e
  cases r3
  refine wpAny_truthy_bool ?_
  cases k with
  | false=>
    obtain⟨k',e',q'⟩:=q3
    cases e'
    exact ite_ff ⟨H3,I3,q'⟩
  | true=>
    refine ite_tt (test_last (thn (hc pins s3 σ H3 _ I3 q3) fun w' s4 ⟨z',H4,I4,r4,q4⟩=>thn (ho' pins s4 σ H4 y z' u w' _ I4 r2 r4 q4) fun d' s5 hq0=>?_))
    obtain⟨z2,H5,I5,r5,k2,e2,q5⟩:=hq0
    subst e2
    cases r5
    exact wpAny_truthy_bool ⟨H5,I5,q5⟩
theorem ziy:(sizeLine:Nat)<2 ^ 63:=by rw[sizeLine_eq];decide
theorem ze:OpR X (binaryOp .Add) (fun x y H Q=>∃i j,x = .str i/\y = .str j/\i.length+j.length<=sizeLine/\Q (.str (i++j)) H):=by
  intro pins s σ H x y v u Q I rx ry h
  obtain⟨i,j,rfl,rfl,hz,q⟩:=h
  obtain⟨t,rfl⟩:=rx
  obtain⟨t',rfl⟩:=ry
  exact add_str (fun t' tk=>⟨.str (i++j),H,I.tok _,⟨_,rfl⟩,q⟩) hz
theorem zd7 {x:V}{us:List Value}(r:Vals [x] us):∃u,us = [u]/\RelV x u:=by
  cases r with
  | cons r1 r2=>cases r2;exact⟨_,rfl,r1⟩
theorem zo7 {x y:V}{us:List Value}(r:Vals [x,y] us):∃u w',us = [u,w']/\RelV x u/\RelV y w':=by
  cases r with
  | cons r1 r2=>
    cases r2 with
    | cons r3 r4=>cases r4;exact⟨_,_,rfl,r1,r3⟩
theorem zaa:zd0 X (.type "str") (fun xs H Q=>∃i,xs = [.int i]/\i.natAbs.log2<1920/\Q (.str (toString i)) H):=by
  intro pins s σ H xs us Q I r h
  obtain⟨i,rfl,hz,q⟩:=h
  obtain⟨u,rfl,t,rfl⟩:=zd7 r
  exact PySem.P.str_of_int hz ⟨.str _,H,I.tok _,⟨_,rfl⟩,q⟩
end
structure ObjM (h:Heap) (x dx C:Addr) (mA:Str->Option Value):Prop where
  obj:h.get? x=some (PySem.W.instObj C dx)
  ns:h.Ns1 dx mA
  ne:dx≠x
theorem zd8 {h:Heap}{dx:Addr}{mA:Str->Option Value}(n:h.Ns1 dx mA):∃od,h.get? dx=some od/\∀name,PySem.W.lookIn name od=some (mA name):=by
  obtain⟨o,es,ep,ho,hd,hk,_,hm⟩:=n
  refine⟨o,ho,fun name=>?_⟩
  have e:=hm name
  unfold nsFind findBy at e
  rw[←Array.find?_toList] at e
  unfold PySem.W.lookIn
  rw[hd]
  dsimp only
  split
  · rename_i y q
    rw[q] at e
    exact congrArg some e
  · rename_i q
    rw[q] at e
    have a:es.toList.any (·.refKey)=false:=by
      rw[List.any_eq_false]
      intro y hy
      obtain⟨z,t,hkey⟩:=hk y (Array.mem_toList_iff.mp hy)
      simp[DictEntry.refKey,hkey]
    have a':¬es.toList.any (·.refKey)=true:=by rw[a];exact Bool.false_ne_true
    rw[if_neg a']
    exact congrArg some e
theorem ObjM.look {h:Heap}{x dx C:Addr}{mA:Str->Option Value}(I:ObjM h x dx C mA):∃od,PySem.W.InstAt h x (PySem.W.instObj C dx) C (some od)/\∀name,PySem.W.lookIn name od=some (mA name):=
  let ⟨od,ho,hl⟩:=zd8 I.ns
  ⟨od,⟨I.obj,rfl,rfl,ho⟩,hl⟩
section
variable {prog:Program}{w:World}{A:Around}{E:Value->Shared->Prop}{s:Shared}{K:PySem.W.Frag}{x dx C f:Addr}{mA:Str->Option Value}{name:Str}{v:Value}
theorem zrs {expr:Bool}{Q:Value->Shared->Prop}(X:K.In s.heap) (I:ObjM s.heap x dx C mA) (hg:PySem.W.plainGet K C name=true) (hh:PySem.W.hasDictIn K C=true)
    (ha:PySem.W.findIn K (.ref C) name=some none) (hv:mA name=some v) (hv':PySem.W.handedIn v=true) (h:Q v { s with toks:=s.toks+1 }) :
    wpAny (model prog w) A (getAttr (.ref x) name expr) Q E s:=by
  obtain⟨od,J,hl⟩:=I.look
  exact PySem.W.get_value X J (PySem.W.plainGet_of hg).1 (PySem.W.findObj_own hh ha rfl (by rw[hl,hv])) hv' h
theorem zo8 {pl:Sem Bool}{Q:Value×List Value->Shared->Prop}(X:K.In s.heap) (I:ObjM s.heap x dx C mA) (hg:PySem.W.plainGet K C name=true)
    (hf:PySem.W.findIn K (.ref C) name=some (some (.ref f))) (ht:PySem.W.isFn K (.ref f)=true) (hv:mA name=none) (h:Q (.ref f,[.ref x]) s) :
    wpAny (model prog w) A (getMethod (.ref x) name pl) Q E s:=by
  obtain⟨od,J,hl⟩:=I.look
  exact PySem.W.method_fn X J (PySem.W.plainGet_of hg).1 (PySem.W.plainGet_of hg).2 hf (beq_iff_eq.mp ht) (by show (PySem.W.lookIn name od).map (·.isSome)=some false;rw[hl,hv];rfl) h
theorem zrt {ns:List Str}{Q:Unit->Shared->Prop}(X:K.In s.heap) (I:ObjM s.heap x dx C mA)
    (hs:PySem.W.findIn K (.ref C) "__setattr__" = some (some (.builtin "object.__setattr__"))) (hp:PySem.W.plainOver K C=true) (ht:PySem.W.takerIn K C name=some none) (hh:PySem.W.hasDictIn K C=true)
    (hw:PySem.Within mA ns) (hsz:ns.length<=sizeLine)
    (h:∀h',ObjM h' x dx C (fun y=>if y=name then some v else mA y)->Heap.SameBut dx s.heap h'->Q () { s with heap:=h',toks:=s.toks+2 }) :
    wpAny (model prog w) A (setAttr (.ref x) name v) Q E s:=by
  obtain⟨od,J,hl⟩:=I.look
  refine PySem.W.set_plain X J hs (PySem.W.osa_open (s:={ s with toks:=s.toks+1 }) (r:=none) X J hp ht fun b=>?_)
  obtain⟨cd,hc,hd'⟩:=PySem.W.any_some hh
  have hx:s.heap.get? x=some ⟨.ref C,some dx,.plain,#[]⟩:=I.obj
  refine wpAny_bind (wpAny_pure (wpAny_bind (wpAny_bind (wpAny_loadPart hx (wpAny_bind (PySem.W.Looks.here (s:={ s with toks:=s.toks+1 }) (PySem.W.looks_clsIn X hc) ?_))))))
  rw[hd']
  refine wpAny_pure (a:=some dx) (wpAny_bind (wpAny_pure (wpAny_bind ?_)))
  refine wpAny_nsSet1 (s:={ s with toks:=s.toks+1 }) I.ns fun h' hn2 hs2=>?_
  obtain⟨oD,esD,epD,hoD,hdD,hcD⟩:=hn2.count (PySem.Within.cons name v hw)
  refine wpAny_bind (wpAny_lookBehind hoD (by rw[hdD];exact pastItsLine_dict (Nat.le_trans hcD (by rw[List.length_cons];omega))) ?_)
  exact wpAny_pure (h _ ⟨(hs2.2 _ (Ne.symm I.ne)).trans I.obj,hn2,I.ne⟩ hs2)
theorem zo9 {R:Result->Shared->Prop}{vs:List Value}{kw:List (Str×Value)}(X:K.In s.heap) (hm:PySem.W.makesIn K C=true)
    (hi:PySem.W.findIn K (.ref C) "__init__" = some (some (.ref f))) (hf:PySem.W.typeIn K (.ref f)=some (.type "function"))
    (h:codeAny (model prog w) (A.under (.builtin "type.__call__" ⟨.ref C::vs,kw⟩)) (.call (.ref f) ⟨.ref (s.heap.objs.size+1)::vs,kw⟩) (PySem.W.InitBack (s.heap.objs.size+1) R)
      { s with heap:=(s.heap.push PySem.W.emptyDict).push (PySem.W.instObj C s.heap.objs.size) }) :
    codeAny (model prog w) A (.call (.ref C) ⟨vs,kw⟩) R s:=by
  obtain⟨hh,g,d,t,os⟩:=s
  exact PySem.W.make_core (PySem.W.makes_of X hm) (PySem.W.looks_findIn X hi) (fun self=>PySem.W.bind_fn X self hf) (.inl rfl) h
end
def putF (f:Str) (v:V):List (Str×V)->List (Str×V)
  | []=>[(f,v)]
  | (g,x)::r=>if g=f then (g,v)::r else (g,x)::putF f v r
theorem zfr (f g:Str) (v:V):∀fs:List (Str×V),(putF f v fs).lookup g=if g=f then some v else fs.lookup g
  | []=>by
    show List.lookup g [(f,v)]=_
    by_cases h:g=f
    · have hb:(g == f)=true:=beq_iff_eq.mpr h
      simp only [List.lookup,hb,if_pos h]
    · have hb:(g == f)=false:=beq_eq_false_iff_ne.mpr h
      simp only [List.lookup,hb,if_neg h]
  | (k,x)::r=>by
    have ih:=zfr f g v r
    rw[show putF f v ((k,x)::r)=(if k=f then (k,v)::r else (k,x)::putF f v r) from rfl]
    by_cases hk:k=f
    · rw[if_pos hk]
      by_cases h:g=k
      · have hb:(g == k)=true:=beq_iff_eq.mpr h
        simp only [List.lookup,hb,if_pos (h.trans hk)]
      · have hb:(g == k)=false:=beq_eq_false_iff_ne.mpr h
        simp only [List.lookup,hb,if_neg (fun e:g=f=>h (e.trans hk.symm))]
    · rw[if_neg hk]
      by_cases h:g=k
      · have hb:(g == k)=true:=beq_iff_eq.mpr h
        simp only [List.lookup,hb,if_neg (fun e:g=f=>hk (h.symm.trans e))]
      · have hb:(g == k)=false:=beq_eq_false_iff_ne.mpr h
        simp only [List.lookup,hb]
        exact ih
theorem zfs (f:Str) (v:V):∀fs:List (Str×V),f∈(putF f v fs).map (·.1)/\∀g,g∈fs.map (·.1)->g∈(putF f v fs).map (·.1)
  | []=>⟨by simp[putF],fun g h=>by simp at h⟩
  | (k,x)::r=>by
    obtain⟨i1,i2⟩:=zfs f v r
    rw[show putF f v ((k,x)::r)=(if k=f then (k,v)::r else (k,x)::putF f v r) from rfl]
    by_cases hk:k=f
    · rw[if_pos hk]
      subst hk
      exact⟨by simp,fun g h=>by simpa using h⟩
    · rw[if_neg hk]
      refine⟨?_,fun g h=>?_⟩
      · rw[List.map_cons]
        exact List.mem_cons_of_mem _ i1
      · rw[List.map_cons] at h ⊢
        rcases List.mem_cons.mp h with e | e
        · exact List.mem_cons.mpr (.inl e)
        · exact List.mem_cons_of_mem _ (i2 g e)
theorem zb6 (f:Str) (v:V):∀fs:List (Str×V),(putF f v fs).length<=fs.length+1
  | []=>by simp[putF]
  | (k,x)::r=>by
    have ih:=zb6 f v r
    rw[show putF f v ((k,x)::r)=(if k=f then (k,v)::r else (k,x)::putF f v r) from rfl]
    by_cases hk:k=f
    · rw[if_pos hk,List.length_cons,List.length_cons];omega
    · rw[if_neg hk,List.length_cons,List.length_cons];omega
theorem RelO.some_of {v:V}{o:Option Value}(r:RelO (some v) o):∃u,o=some u/\RelV v u:=by
  cases o with
  | none=>exact (show False from r).elim
  | some u=>exact⟨u,rfl,r⟩
theorem RelO.none_of {o:Option Value}(r:RelO none o):o=none:=by
  cases o with
  | none=>rfl
  | some u=>exact (show False from r).elim
theorem zft {v:V}{u:Value}(r:RelV v u):PySem.W.handedIn u=true:=by
  cases v with
  | non=>cases (show u=Value.none from r);rfl
  | bl b=>cases (show u=Value.bool b from r);rfl
  | int i=>obtain⟨t,e⟩:=(show ∃t,u=Value.int i t from r);cases e;rfl
  | str x=>obtain⟨t,e⟩:=(show ∃t,u=Value.str x t from r);cases e;rfl
  | byt b=>obtain⟨t,e⟩:=(show ∃t,u=Value.bytes b t from r);cases e;rfl
  | flt b=>obtain⟨t,e⟩:=(show ∃t,u=Value.float b t from r);cases e;rfl
  | ref a=>cases (show u=Value.ref a from r);rfl
  | ty n=>cases (show u=Value.type n from r);rfl
section
variable {P:Program}{w:World}{H H':Hp}{h h':Heap}{a C dx:Addr}{fs fs':List (Str×V)}
theorem zht (hok:HOk P w H h) (e:H a=some (.ins C dx fs)):∃mA,ObjM h a dx C mA/\(∀f,RelO (fs.lookup f) (mA f))/\PySem.Within mA (fs.map (·.1))/\fs.length<=1000/\H dx=some (.own a):=by
  obtain⟨d,z,ne,ob,mA,n,r,q⟩:=(show ObjOk P w H h a (.ins C dx fs) from hok a _ e)
  exact⟨mA,⟨ob,n,ne⟩,r,q,z,d⟩
end
structure Cls (K:PySem.W.Frag) (C:Addr):Prop where
  pg:PySem.W.plainGet K C Str.empty=true
  hd:PySem.W.hasDictIn K C=true
  po:PySem.W.plainOver K C=true
  sa:PySem.W.findIn K (.ref C) "__setattr__" = some (some (.builtin "object.__setattr__"))
theorem Cls.get {K:PySem.W.Frag}{C:Addr}(c:Cls K C) (f:Str):PySem.W.plainGet K C f=true:=c.pg
def NoAttr (K:PySem.W.Frag) (C:Addr) (f:Str):Prop:=PySem.W.findIn K (.ref C) f=some none
theorem NoAttr.taker {K:PySem.W.Frag}{C:Addr}{f:Str}(n:NoAttr K C f):PySem.W.takerIn K C f=some none:=by
  unfold PySem.W.takerIn
  rw[show PySem.W.findIn K (.ref C) f=some none from n]
  rfl
structure Meth (K:PySem.W.Frag) (C:Addr) (m:Str) (f:Addr):Prop where
  at_:PySem.W.findIn K (.ref C) m=some (some (.ref f))
  fn:PySem.W.isFn K (.ref f)=true
  kp:PySem.W.keepIn K (.ref f)=true
section
variable {X:Cx}{pins:List (Addr×Obj)}{σ:St}{H:Hp}{s:Shared}{a C dx:Addr}{fs:List (Str×V)}{f:Str}{v:V}{A:Around}{E:Value->Shared->Prop}
theorem zl2 {b:Bool}{Q:Value->Shared->Prop}(I:Inv X pins σ H s) (e:H a=some (.ins C dx fs)) (c:Cls X.K C) (n:NoAttr X.K C f) (l:fs.lookup f=some v)
    (h:∀u s',Inv X pins σ H s'->RelV v u->Q u s'):wpAny (model X.prog X.w) A (getAttr (.ref a) f b) Q E s:=by
  obtain⟨mA,O,r,_,_,_⟩:=zht I.hok e
  obtain⟨u,hu,ru⟩:=RelO.some_of (v:=v) (o:=mA f) (by rw[←l];exact r f)
  exact zrs I.kIn O (c.get f) c.hd n hu (zft ru) (h u _ (I.tok _) ru)
theorem zg7 {m:Str}{g:Addr}{pl:Sem Bool}{Q:Value×List Value->Shared->Prop}(I:Inv X pins σ H s) (e:H a=some (.ins C dx fs)) (c:Cls X.K C) (k:Meth X.K C m g) (l:fs.lookup m=none)
    (h:Q (.ref g,[.ref a]) s):wpAny (model X.prog X.w) A (getMethod (.ref a) m pl) Q E s:=by
  obtain⟨mA,O,r,_,_,_⟩:=zht I.hok e
  have hn:mA m=none:=RelO.none_of (by rw[←l];exact r m)
  exact zo8 I.kIn O (c.get m) k.at_ k.fn hn h
theorem zl3 {y:V}{u:Value}{Q:Unit->Shared->Prop}(I:Inv X pins σ H s) (e:H a=some (.ins C dx fs)) (c:Cls X.K C) (n:NoAttr X.K C f) (hl:fs.length<1000) (ry:RelV y u)
    (h:∀s',Inv X pins σ (upd H a (.ins C dx (putF f y fs))) s'->Q () s'):wpAny (model X.prog X.w) A (setAttr (.ref a) f u) Q E s:=by
  obtain⟨mA,O,r,wi,_,ho⟩:=zht I.hok e
  have hz:(fs.map (·.1)).length<=sizeLine:=by rw[List.length_map,sizeLine_eq];omega
  refine zrt I.kIn O c.sa c.po n.taker c.hd wi hz fun h' O' sb=>h _ ?_
  have hd:∃o,h'.get? dx=some o:=let ⟨o,_,_,e',_⟩:=O'.ns;⟨o,e'⟩
  refine I.write (x:=a) (e:=dx) (by rw[e];exact True.intro) (.inr ho) (fun b q hb z=>(sb.2 b hb).trans z) hd ?_
  refine⟨by rw[zj O.ne];exact ho,?_,O.ne,O'.obj,_,O'.ns,fun g=>?_,fun g hg=>?_⟩
  · have:=zb6 f y fs;omega
  · show RelO ((putF f y fs).lookup g) (if g=f then some u else mA g)
    rw[zfr]
    by_cases q:g=f
    · rw[if_pos q,if_pos q];exact ry
    · rw[if_neg q,if_neg q];exact r g
  · by_cases q:g=f
    · rw[q];exact (zfs f y fs).1
    · refine (zfs f y fs).2 g (wi g fun z=>hg ?_)
      show (if g=f then some u else mA g)=none
      rw[if_neg q];exact z
theorem Inv.made (I:Inv X pins σ H s):Inv X pins σ (upd (upd H s.heap.objs.size (.own (s.heap.objs.size+1))) (s.heap.objs.size+1) (.ins C s.heap.objs.size []))
    { s with heap:=(s.heap.push PySem.W.emptyDict).push (PySem.W.instObj C s.heap.objs.size) }:=by
  have e1:(s.heap.push PySem.W.emptyDict).get? s.heap.objs.size=some PySem.W.emptyDict:=Heap.get?_push_size s.heap rfl
  have e2:((s.heap.push PySem.W.emptyDict).push (PySem.W.instObj C s.heap.objs.size)).get? (s.heap.objs.size+1)=some (PySem.W.instObj C s.heap.objs.size):=by
    have:=Heap.get?_push_size (s.heap.push PySem.W.emptyDict) (o:=PySem.W.instObj C s.heap.objs.size) rfl
    rwa [Heap.size_push] at this
  have e3:(s.heap.push PySem.W.emptyDict).Ns s.heap.objs.size (fun _=>none):=⟨PySem.W.emptyDict,#[],_,e1,rfl,(fun e he=>absurd he (by simp)),fun _=>rfl⟩
  have I1:=I.laid (a:=s.heap.objs.size) (o:=.own (s.heap.objs.size+1)) (h':=s.heap.push PySem.W.emptyDict) (t':=s.toks) (fun b u q=>Heap.get?_push_of_some _ q) (Nat.le_refl _) ⟨_,e1⟩
  refine I1.laid (a:=s.heap.objs.size+1) (o:=.ins C s.heap.objs.size []) (t':=s.toks) (fun b u q=>Heap.get?_push_of_some _ q) (Nat.le_of_eq (Heap.size_push _ _)) ?_
  have ne:s.heap.objs.size≠s.heap.objs.size+1:=Nat.ne_of_lt (Nat.lt_succ_self _)
  refine⟨by rw[zj ne,zb],Nat.zero_le _,ne,e2,fun _=>none,(Heap.Ns1.of_empty e3).at fun o q=>Heap.get?_push_of_some _ q,fun _=>True.intro,fun y hy=>absurd rfl hy⟩
theorem zj1 {prog:Program}{w:World}{env:Env}{e:Expr}{f:Str}{pos:Pos}{s:Shared}{Q:Value->Shared->Prop}(hb:attributeBase e f env (eval e env)=eval e env)
    (h:wpAny (model prog w) A (eval e env) (fun o s₁=>wpAny (model prog w) A (getAttr o f true) Q E s₁) E s):wpAny (model prog w) A (eval (.Attribute e f pos) env) Q E s:=
  Attribute_any_ h (by rw[arm_eval_Attribute,hb])
end
def tFld (K:PySem.W.Frag) (ta:TE) (f:Str):TE:=fun σ H Q=>ta σ H fun x H1=>∃a C dx fs v,x = .ref a/\H1 a=some (.ins C dx fs)/\Cls K C/\NoAttr K C f/\fs.lookup f=some v/\Q v H1
def sFld (K:PySem.W.Frag) (ta tv:TE) (f:Str):TS:=fun D σ H=>tv σ H fun y H1=>ta σ H1 fun x H2=>∃a C dx fs,x = .ref a/\H2 a=some (.ins C dx fs)/\Cls K C/\NoAttr K C f/\fs.length<1000/\
  D.nx σ (upd H2 a (.ins C dx (putF f y fs)))
section
variable {X:Cx}{o e value:Expr}{f:Str}{pos pos' tpos:Pos}{ta tv:TE}
theorem zcl (he:PE X e ta) (hb:attributeBase e f X.env (eval e X.env)=eval e X.env):PE X (.Attribute e f pos) (tFld X.K ta f):=by
  intro pins s σ H Q I h
  refine zj1 hb (thn (he pins s σ H _ I h) fun u s1 hq0=>?_)
  obtain⟨x,H1,I1,rx,a,C,dx,fs,v,ex,ea,c,n,l,q⟩:=hq0
  subst ex
  obtain rfl:u=Value.ref a:=rx
  exact zl2 I1 ea c n l fun u' s2 I2 ru=>⟨v,H1,I2,ru,q⟩
theorem ziz (ha:PE X o ta) (hv:PE X value tv) (hs:swapsWith value (some (.Attribute o f pos')) pos.line X.env=pure false):PS X (.Assign [.Attribute o f pos'] value pos) (sFld X.K ta tv f):=by
  intro pins s σ H D I h
  refine plainObj_wpAny_Assign_Attribute (thn (hv pins s σ H _ I h) fun u s1 ⟨y,H1,I1,ry,q⟩=>thn (ha pins s1 σ H1 _ I1 q) fun ov s2 hq0=>?_) hs
  obtain⟨x,H2,I2,rx,a,C,dx,fs,ex,ea,c,n,l,q2⟩:=hq0
  subst ex
  obtain rfl:ov=Value.ref a:=rx
  exact zl3 I2 ea c n l ry fun s3 I3=>⟨σ,_,I3,q2⟩
theorem zru {pl:Sem Bool}{m:Str}{apos:Pos}{args:List Expr}{pins:List (Addr×Obj)}{s:Shared}{σ:St}{H:Hp}{Q:Value->Shared->Prop}{te:TE}(he:PE X e te) (I:Inv X pins σ H s)
    (h:te σ H fun x H1=>∃a C dx fs g,x = .ref a/\H1 a=some (.ins C dx fs)/\Cls X.K C/\Meth X.K C m g/\fs.lookup m=none/\
      ∀s1,Inv X pins σ H1 s1->wpAny (model X.prog X.w) X.A (callWith pos (.ref g) [.ref a] (backTo pos (starEach args X.env)) (backToKw pos (keywordEach [] X.env))) Q X.xe s1)
    (ht:eval (.Call (.Attribute e m apos) args [] pos) X.env=(do
      let ov ←eval e X.env
      standAt apos.atName
      let (f,first) ←holding [ov] (getMethod ov m pl)
      callWith pos f first (backTo pos (starEach args X.env)) (backToKw pos (keywordEach [] X.env)))) :
    wpAny (model X.prog X.w) X.A (eval (.Call (.Attribute e m apos) args [] pos) X.env) Q X.xe s:=by
  refine PySem.W.methodCall_KW (pl:=pl) (thn (he pins s σ H _ I h) fun u s1 hq0=>?_) ht
  obtain⟨x,H1,I1,rx,a,C,dx,fs,g,ex,ea,c,k,l,q⟩:=hq0
  subst ex
  obtain rfl:u=Value.ref a:=rx
  exact zg7 I1 ea c k l (q s1 I1)
end
section
variable {X:Cx}{pins:List (Addr×Obj)}{σ:St}{H:Hp}{s:Shared}{A:Around}{E:Value->Shared->Prop}{Q:Value->Shared->Prop}{c:Value}{b:Bool}
inductive TyOf (K:PySem.W.Frag) (H:Hp):V->Value->Prop where
  | non:TyOf K H .non (.type "NoneType")
  | bl (x:Bool):TyOf K H (.bl x) (.type "bool")
  | int (i:Int):TyOf K H (.int i) (.type "int")
  | str (x:Str):TyOf K H (.str x) (.type "str")
  | flt (x:UInt64):TyOf K H (.flt x) (.type "float")
  | lst {a:Addr}{xs:List V}(e:H a=some (.lst xs)):TyOf K H (.ref a) (.type "list")
  | frz {a:Addr}{o:Obj}{xs:List V}(e:H a=some (.frz o (.lst xs))):TyOf K H (.ref a) (.type "list")
  | tup {a:Addr}{xs:List V}(e:H a=some (.tup xs)):TyOf K H (.ref a) (.type "tuple")
  | dK {a:Addr}{kvs:List (Key×V)}(e:H a=some (.dK kvs)):TyOf K H (.ref a) (.type "dict")
  | dT {a:Addr}{kvs:List (List Key×V)}(e:H a=some (.dT kvs)):TyOf K H (.ref a) (.type "dict")
  | ins {a C dx:Addr}{fs:List (Str×V)}(e:H a=some (.ins C dx fs)) (cl:Cls K C) (ha:PySem.W.findIn K (.ref C) "__class__" = some (some (.builtin "object.__class__")))
      (hn:PySem.W.specialIn K (.builtin "object.__class__") "__get__" = some (some (.builtin "getset_descriptor.__get__"))) (htk:PySem.W.takesIn K (.builtin "object.__class__")=some true)
      (hm:PySem.W.mroIn K C (.type "object")=some true):TyOf K H (.ref a) (.ref C)
theorem zm8 {x:V}{u t:Value}(I:Inv X pins σ H s) (rx:RelV x u) (ty:TyOf X.K H x t) (e:PySem.W.kitOne X.K t c=some b) (h:∀tk,Q (.bool b) { s with toks:=tk }) :
    wpAny (model X.prog X.w) A (call (.builtin "isinstance") [u,c]) Q E s:=by
  cases ty with
  | non=>cases (show u=Value.none from rx);exact PySem.W.kia_one PySem.W.kitx_none I.kIn True.intro e (fun z=>nomatch z) h
  | bl y=>cases (show u=Value.bool y from rx);exact PySem.W.kia_one PySem.W.kitx_bool I.kIn True.intro e (fun z=>nomatch z) h
  | int i=>obtain⟨t,q⟩:=(show ∃t,u=Value.int i t from rx);cases q;exact PySem.W.kia_one PySem.W.kitx_int I.kIn True.intro e (fun z=>nomatch z) h
  | str y=>obtain⟨t,q⟩:=(show ∃t,u=Value.str y t from rx);cases q;exact PySem.W.kia_one PySem.W.kitx_str I.kIn True.intro e (fun z=>nomatch z) h
  | flt y=>obtain⟨t,q⟩:=(show ∃t,u=Value.float y t from rx);cases q;exact PySem.W.kia_one PySem.W.kitx_float I.kIn True.intro e (fun z=>nomatch z) h
  | @lst a xs ea=>
    cases (show u=Value.ref a from rx)
    obtain⟨_,_,n,_,h1⟩:=(show ObjOk X.prog X.w H s.heap a (.lst xs) from I.hok a _ ea)
    exact PySem.W.kia_one PySem.W.kitx_list I.kIn ⟨_,h1,rfl⟩ e (fun z=>nomatch z) h
  | @frz a ob xs ea=>
    cases (show u=Value.ref a from rx)
    obtain⟨_,_,_,n,_,h1⟩:=(show ObjOk X.prog X.w H s.heap a (.frz ob (.lst xs)) from I.hok a _ ea)
    exact PySem.W.kia_one PySem.W.kitx_list I.kIn ⟨_,h1,rfl⟩ e (fun z=>nomatch z) h
  | @tup a xs ea=>
    cases (show u=Value.ref a from rx)
    obtain⟨_,_,_,p⟩:=(show ObjOk X.prog X.w H s.heap a (.tup xs) from I.hok a _ ea)
    obtain⟨o,h1,h2,_⟩:=p
    exact PySem.W.kia_one PySem.W.kitx_tuple I.kIn ⟨o,h1,h2⟩ e (fun z=>nomatch z) h
  | @dK a kvs ea=>
    cases (show u=Value.ref a from rx)
    obtain⟨_,_,vs,_,p⟩:=(show ObjOk X.prog X.w H s.heap a (.dK kvs) from I.hok a _ ea)
    obtain⟨o,es,ep,h1,h2,_⟩:=p
    exact PySem.W.kia_one PySem.W.kitx_dict I.kIn ⟨o,h1,h2.1⟩ e (fun z=>nomatch z) h
  | @dT a kvs ea=>
    cases (show u=Value.ref a from rx)
    obtain⟨_,_,xs,_,o,es,ep,h1,h2,_⟩:=(show ObjOk X.prog X.w H s.heap a (.dT kvs) from I.hok a _ ea)
    exact PySem.W.kia_one PySem.W.kitx_dict I.kIn ⟨o,h1,h2.1⟩ e (fun z=>nomatch z) h
  | @ins a C dx fs ea cl ha hn htk hm=>
    cases (show u=Value.ref a from rx)
    obtain⟨mA,O,_⟩:=zht I.hok ea
    obtain⟨od,J,_⟩:=O.look
    exact PySem.W.kia_one (PySem.W.kitx_own (cl.get _) cl.hd ha hn htk hm) I.kIn J e (fun z=>nomatch z) h
end
structure Room (k:Nat) (A:Around):Prop where
  hd:A.handled=none
  dp:A.depth+3 * k+5<recursionLimit
  un:A.units+16 * k+200<cLine
theorem Room.mono {j k:Nat}{A:Around}(r:Room k A) (h:j<=k):Room j A:=⟨r.hd,by have:=r.dp;omega,by have:=r.un;omega⟩
theorem Room.deeper {k:Nat}{A:Around}(r:Room (k+1) A) (env:Env):Room k (A.deeper env):=
  ⟨r.hd,by have:=r.dp;show A.depth+1+3 * k+5<_;omega,by have:=r.un;show A.units+3+16 * k+200<_;omega⟩
theorem zl4 {A:Around}{C:Addr}{us:List Value}{kw:List (Str×Value)}:(A.under (.builtin "type.__call__" ⟨.ref C::us,kw⟩)).depth=A.depth+1:=by
  first | rfl | simp[Around.under,Code.weight,Code.isCreation,Code.isGuard,Code.isCaller,Code.frames,Code.isFrame,guardIds]
theorem zl5 {A:Around}{C:Addr}{us:List Value}{kw:List (Str×Value)}:(A.under (.builtin "type.__call__" ⟨.ref C::us,kw⟩)).units=A.units+1:=by
  first | rfl | simp[Around.under,Code.cUnits,Code.frames,Code.isFrame]
theorem Room.make {k:Nat}{A:Around}(r:Room (k+1) A) (C:Addr) (us:List Value) (kw:List (Str×Value)):Room k (A.under (.builtin "type.__call__" ⟨.ref C::us,kw⟩)):=
  ⟨r.hd,by have:=r.dp;rw[zl4];omega,by have:=r.un;rw[zl5];omega⟩
theorem Room.depth {k:Nat}{A:Around}(r:Room k A):A.depth<recursionLimit:=by have:=r.dp;omega
theorem Room.units {k:Nat}{A:Around}(r:Room k A):A.units+64<cLine:=by have:=r.un;omega
def tNil:TA:=fun _ H Q=>Q [] H
def zl6 (ta:TE) (tr:TA):TA:=fun σ H Q=>ta σ H fun x H1=>tr σ H1 fun xs H2=>Q (x::xs) H2
section
variable {X:Cx}{e:Expr}{es:List Expr}{te:TE}{t:TA}{pos:Pos}
theorem zc:PA X [] tNil:=fun _ _ _ _ H Q I h=>Calls.spliced_nil ⟨[],H,I,.nil,h⟩
theorem za (ha:PE X e te) (hr:PA X es t) (hs:starEach (e::es) X.env=(false,eval e X.env)::starEach es X.env:=by rfl):PA X (e::es) (zl6 te t):=by
  intro pos pins s σ H Q I h
  rw[hs]
  show wpAny _ _ (spliced ((false,eval e X.env)::backTo pos (starEach es X.env))) _ _ s
  refine Calls.spliced_cons (thn (ha pins s σ H _ I h) fun u s1 hq0=>?_)
  obtain⟨x,H1,I1,r1,q1⟩:=hq0
  exact thn (hr pos pins s1 σ H1 _ I1 q1) fun us s2 ⟨xs,H2,I2,r2,q2⟩=>⟨x::xs,H2,I2,.cons r1 r2,q2⟩
def tTup (t:TA):TE:=fun σ H Q=>t σ H fun xs H1=>xs.length<=sizeLine/\∀p,H1 p=none->Q (.ref p) (upd H1 p (.tup xs))
def tLst (t:TA):TE:=fun σ H Q=>t σ H fun xs H1=>xs.length<=sizeLine/\∀p,H1 p=none->Q (.ref p) (upd H1 p (.lst xs))
theorem zbz {x1}(h:PA X es t):PE X (.Tuple es x1 pos) (tTup t):=by
  intro pins s σ H Q I hq
  refine wpAny_Tuple_spliced (thn (h pos pins s σ H _ I hq) fun us s1 ⟨xs,H1,I1,r,z,q⟩=>⟨by rw[←r.length];exact z,?_⟩)
  have hf:H1 s1.heap.objs.size=none:=I1.hok.fresh (Nat.le_refl _)
  refine⟨.ref s1.heap.objs.size,upd H1 s1.heap.objs.size (.tup xs),I1.laid (t':=s1.toks) (fun b u e=>Heap.get?_push_of_some _ e) (Nat.le_refl _) ?_,rfl,q _ hf⟩
  exact⟨z,us,r,⟨_,Heap.get?_push_size _ rfl,rfl,_,rfl⟩⟩
theorem zaq (h:PA X es t):PE X (.List es pos) (tLst t):=by
  intro pins s σ H Q I hq
  refine wpAny_List_spliced (thn (h pos pins s σ H _ I hq) fun us s1 ⟨xs,H1,I1,r,z,q⟩=>⟨by rw[←r.length];exact z,?_⟩)
  have hf:H1 s1.heap.objs.size=none:=I1.hok.fresh (Nat.le_refl _)
  refine⟨.ref s1.heap.objs.size,upd H1 s1.heap.objs.size (.lst xs),I1.laid (t':=s1.toks) (fun b u e=>Heap.get?_push_of_some _ e) (Nat.le_refl _) ?_,rfl,q _ hf⟩
  exact⟨z,us,0,r,Heap.get?_push_size _ rfl⟩
end
abbrev Sp:=List V->Hp->VK->XK->Prop
abbrev CXT:=List Env->Hp->Shared->XK->Value->Shared->Prop
structure Env0 (P:Program) (w:World) (K:PySem.W.Frag) (mg:Str->Option Value) (base:Heap) (A:Around) (outer:List Env) (s:Shared) (H:Hp):Prop where
  frames:A.frames=some outer
  mod:Mod K mg base
  bs:∀b o,base.get? b=some o->s.heap.get? b=some o/\H b=none
  bsz:base.objs.size<=s.heap.objs.size
  funs:s.heap.FunFrames base outer
  frf:∀b∈frs outer,H b=none
  hok:HOk P w H s.heap
  bare:AllBare s.gens
def CE (outer:List Env) (P:Program) (w:World) (H:Hp) (s:Shared) (Q:VK) (u:Value) (s':Shared):Prop:=
  ∃v H',s'.os=s.os/\AllBare s'.gens/\Un (frs outer) [] H H' s.heap s'.heap/\HOk P w H' s'.heap/\RelV v u/\Q v H'
def CR (CX:CXT) (outer:List Env) (P:Program) (w:World) (H:Hp) (s:Shared) (Q:VK) (E:XK) (r:Result) (s':Shared):Prop:=
  match r with
  | .ok (.ret u)=>CE outer P w H s Q u s'
  | .ok _=>False
  | .error e=>CX outer H s E e s'
structure FnOk (P:Program) (w:World) (K:PySem.W.Frag) (mg:Str->Option Value) (base:Heap) (CX:CXT) (k:Nat) (f:Addr) (fd:FuncData) (ps:List Str) (sp:Sp):Prop where
  len:∀vs H Q E,sp vs H Q E->vs.length=ps.length
  run:∀(A:Around) (outer:List Env) (s:Shared) (H:Hp) (args:Args) (us:List Value) (vs:List V) (Q:VK) (E:XK),Room k A->Env0 P w K mg base A outer s H->BindsTo s fd args (ps.zip us)->Vals vs us->sp vs H Q E->
    codeAny (model P w) A (.call (.ref f) args) (CR CX outer P w H s Q E) s
theorem Env0.make {P:Program}{w:World}{K:PySem.W.Frag}{mg:Str->Option Value}{base:Heap}{A:Around}{outer:List Env}{s:Shared}{H:Hp}(e:Env0 P w K mg base A outer s H) (C:Addr) (us:List Value) (kw:List (Str×Value)) :
    Env0 P w K mg base (A.under (.builtin "type.__call__" ⟨.ref C::us,kw⟩)) outer s H:=⟨by first | exact e.frames | (simpa[Around.under,Code.envs,Code.isFrame,pushEnvs] using e.frames),e.mod,e.bs,e.bsz,e.funs,e.frf,e.hok,e.bare⟩
section
variable {X:Cx}{pins:List (Addr×Obj)}{σ:St}{H:Hp}{s s':Shared}
theorem Inv.env0 (I:Inv X pins σ H s):Env0 X.prog X.w X.K X.mg X.base X.A X.stack s H:=
  ⟨I.ok.frames,I.ok.mod,I.bs,Nat.le_trans I.ok.bsz I.sz,I.stack,I.stkFree,I.hok,I.bare⟩
theorem Inv.after {Q:VK}{u:Value}(I:Inv X pins σ H s) (h:CE X.stack X.prog X.w H s Q u s'):EP X pins σ Q u s':=by
  obtain⟨v,H',os,bare,un,hok,r,q⟩:=h
  obtain⟨hh,g,d,t,os'⟩:=s'
  obtain rfl:os'=s.os:=os
  exact⟨v,H',I.call (h':=hh) (g':=g) (d':=d) (t':=t) (ch:=[]) un hok bare (fun b z=>absurd z (by simp)),r,q⟩
end
def zt4 (sp:Sp) (dvs:List V) (E:XK) (t:TA):TE:=fun σ H Q=>t σ H fun vs H1=>sp (vs++dvs) H1 Q E
def zt5 (C:Addr) (m:Str) (sp:Sp) (dvs:List V) (E:XK) (ta:TE) (t:TA):TE:=fun σ H Q=>ta σ H fun x H1=>∃a dx fs,x = .ref a/\H1 a=some (.ins C dx fs)/\fs.lookup m=none/\
  t σ H1 fun vs H2=>sp (x::(vs++dvs)) H2 Q E
def zt6 (C:Addr) (sp:Sp) (dvs:List V) (E:XK) (t:TA):TE:=fun σ H Q=>t σ H fun vs H1=>∀x dx,H1 x=none->H1 dx=none->dx≠x->
  sp (.ref x::(vs++dvs)) (upd (upd H1 dx (.own x)) x (.ins C dx [])) (fun v H2=>v = .non/\Q (.ref x) H2) E
def Binds (K:PySem.W.Frag) (fd:FuncData) (ps:List Str) (ds:List Value):Prop:=
  ∀(s:Shared) (us:List Value),K.In s.heap->(us++ds).length=ps.length->BindsTo s fd ⟨us,[]⟩ (ps.zip (us++ds))
theorem Binds.all {K:PySem.W.Frag}{fd:FuncData}{ps:List Str}(h:∀us:List Value,us.length=ps.length->bindArgs fd ⟨us,[]⟩=pure (ps.zip us)):Binds K fd ps []:=fun s us _ hl=>by
  rw[List.append_nil] at hl ⊢
  exact .of_eq (h us hl)
def zfu (CX:CXT) (X:Cx) (E:XK):Prop:=∀(pins:List (Addr×Obj)) (σ:St) (H:Hp) (s:Shared) (e:Value) (s':Shared),Inv X pins σ H s->CX X.stack H s E e s'->X.xe e s'
section
variable {X:Cx}{CX:CXT}{k:Nat}{f C:Addr}{fd:FuncData}{ps:List Str}{sp:Sp}{dvs:List V}{ds:List Value}{E:XK}{x m:Str}{p pos apos:Pos}{e o:Expr}{es:List Expr}{ta:TE}{t:TA}
theorem zq6 {pins:List (Addr×Obj)}{σ:St}{H:Hp}{s:Shared}{Q:VK}{us:List Value}{vs:List V}(F:FnOk X.prog X.w X.K X.mg X.base CX k f fd ps sp) (hr:Room k X.A) (hb:Binds X.K fd ps ds) (hd:Vals dvs ds) (hx:zfu CX X E)
    (I:Inv X pins σ H s) (r:Vals vs us) (h:sp (vs++dvs) H Q E):wpAny (model X.prog X.w) X.A (call (.ref f) us) (EP X pins σ Q) X.xe s:=by
  have r2:Vals (vs++dvs) (us++ds):=r.append hd
  have hl:(us++ds).length=ps.length:=by rw[←r2.length];exact F.len _ _ _ _ h
  refine wpAny_call (codeAny_mono (F.run X.A X.stack s H ⟨us,[]⟩ (us++ds) (vs++dvs) Q E hr I.env0 (hb s us I.kIn hl) r2 h) fun r s' hq=>?_)
  cases r with
  | error e=>exact hx pins σ H s e s' I hq
  | ok fl=>
    cases fl with
    | ret u=>exact I.after hq
    | next=>exact False.elim hq
    | brk=>exact False.elim hq
    | cont=>exact False.elim hq
theorem zrv (F:FnOk X.prog X.w X.K X.mg X.base CX k f fd ps sp) (hr:Room k X.A) (hg:Gl X x) (hm:X.mg x=some (.ref f)) (hk:PySem.W.keepIn X.K (.ref f)=true) (hb:Binds X.K fd ps ds) (hd:Vals dvs ds) (hx:zfu CX X E)
    (ha:PA X (e::es) t) (hdb:(x == ("__debug__" : Str))=false:=by decide) (he:starEach (e::es) X.env=(false,eval e X.env)::starEach es X.env:=by rfl) (hpl:(backTo pos (starEach es X.env)).any (·.1)=false:=by rfl) :
    PE X (.Call (.Name x p) (e::es) [] pos) (zt4 sp dvs E t):=by
  intro pins s σ H Q I h
  refine wpAny_Call_Name_kw (zdb I hg hm ?_ hdb)
  refine PySem.W.callWith_K (h₀:=X.base) I.ok.mod.kin hk (thn (ha pos pins s σ H _ I h) fun us s1 ⟨vs,H1,I1,r,q⟩=>⟨I1.kIn,?_⟩) he hpl
  exact zq6 F hr hb hd hx I1 r q
theorem zrw {pl:Sem Bool}(he:PE X o ta) (c:Cls X.K C) (hm:Meth X.K C m f) (F:FnOk X.prog X.w X.K X.mg X.base CX k f fd ps sp) (hr:Room k X.A) (hb:Binds X.K fd ps ds) (hd:Vals dvs ds) (hx:zfu CX X E) (ha:PA X (e::es) t)
    (hst:starEach (e::es) X.env=(false,eval e X.env)::starEach es X.env:=by rfl) (hpl:(backTo pos (starEach es X.env)).any (·.1)=false:=by rfl)
    (ht:eval (.Call (.Attribute o m apos) (e::es) [] pos) X.env=(do
      let ov ←eval o X.env
      standAt apos.atName
      let (f,first) ←holding [ov] (getMethod ov m pl)
      callWith pos f first (backTo pos (starEach (e::es) X.env)) (backToKw pos (keywordEach [] X.env))):=by rfl) :
    PE X (.Call (.Attribute o m apos) (e::es) [] pos) (zt5 C m sp dvs E ta t):=by
  intro pins s σ H Q I h
  refine PySem.W.methodCall_KW (pl:=pl) (thn (he pins s σ H _ I h) fun u s1 hq0=>?_) ht
  obtain⟨x,H1,I1,rx,a,dx,fs,ex,ea,l,q⟩:=hq0
  subst ex
  obtain rfl:u=Value.ref a:=rx
  refine zg7 I1 ea c hm l ?_
  refine PySem.W.callWith_K (first:=[.ref a]) (h₀:=X.base) I.ok.mod.kin hm.kp (thn (ha pos pins s1 σ H1 _ I1 q) fun us s2 ⟨vs,H2,I2,r,q2⟩=>⟨I2.kIn,?_⟩) hst hpl
  exact zq6 (us:=.ref a::us) (vs:=.ref a::vs) F hr hb hd hx I2 (.cons rfl r) q2
structure Mk (K:PySem.W.Frag) (C f:Addr):Prop where
  makes:PySem.W.makesIn K C=true
  init:PySem.W.findIn K (.ref C) "__init__" = some (some (.ref f))
  fn:PySem.W.isFn K (.ref f)=true
  kp:PySem.W.keepIn K (.ref C)=true
theorem zpa {pins:List (Addr×Obj)}{σ:St}{H:Hp}{s:Shared}{Q:VK}{us:List Value}{vs:List V}(M:Mk X.K C f) (F:FnOk X.prog X.w X.K X.mg X.base CX k f fd ps sp) (hr:Room (k+1) X.A) (hb:Binds X.K fd ps ds) (hd:Vals dvs ds)
    (hx:zfu CX X E) (I:Inv X pins σ H s) (r:Vals vs us)
    (h:∀x dx,H x=none->H dx=none->dx≠x->sp (.ref x::(vs++dvs)) (upd (upd H dx (.own x)) x (.ins C dx [])) (fun v H2=>v = .non/\Q (.ref x) H2) E) :
    wpAny (model X.prog X.w) X.A (call (.ref C) us) (EP X pins σ Q) X.xe s:=by
  have hq:=h (s.heap.objs.size+1) s.heap.objs.size (I.hok.fresh (Nat.le_succ _)) (I.hok.fresh (Nat.le_refl _)) (Nat.ne_of_lt (Nat.lt_succ_self _))
  have I2:=Inv.made (C:=C) I
  have r2:Vals (V.ref (s.heap.objs.size+1)::(vs++dvs)) (Value.ref (s.heap.objs.size+1)::(us++ds)):=.cons rfl (r.append hd)
  have hl:(Value.ref (s.heap.objs.size+1)::us++ds).length=ps.length:=by
    have e:=r2.length
    rw[F.len _ _ _ _ hq] at e
    exact e.symm
  refine wpAny_call (zo9 (f:=f) I.kIn M.makes M.init (beq_iff_eq.mp M.fn) (codeAny_mono (F.run _ X.stack _ _ ⟨Value.ref (s.heap.objs.size+1)::us,[]⟩ (Value.ref (s.heap.objs.size+1)::(us++ds)) _ _ E (hr.make C us [])
    (I2.env0.make C us []) (hb _ (Value.ref (s.heap.objs.size+1)::us) I2.kIn hl) r2 hq) fun r s' hq'=>?_))
  cases r with
  | error e=>exact hx pins σ _ _ e s' I2 hq'
  | ok fl=>
    cases fl with
    | ret u=>
      obtain⟨v,H',I3,rv,ev,q3⟩:=I2.after hq'
      subst ev
      exact⟨rv,⟨V.ref (s.heap.objs.size+1),H',I3,rfl,q3⟩⟩
    | next=>exact False.elim hq'
    | brk=>exact False.elim hq'
    | cont=>exact False.elim hq'
theorem zpb (M:Mk X.K C f) (F:FnOk X.prog X.w X.K X.mg X.base CX k f fd ps sp) (hr:Room (k+1) X.A) (hg:Gl X x) (hm:X.mg x=some (.ref C)) (hb:Binds X.K fd ps ds) (hd:Vals dvs ds) (hx:zfu CX X E)
    (hdb:(x == ("__debug__" : Str))=false:=by decide):PE X (.Call (.Name x p) [] [] pos) (zt6 C sp dvs E tNil):=by
  intro pins s σ H Q I h
  refine wpAny_Call_Name_kw (zdb I hg hm ?_ hdb)
  exact PySem.W.callWith_K0 I.kIn M.kp (zpa (us:=[]) M F hr hb hd hx I .nil h)
end
def PK (X:Cx) (kws:List Keyword) (t:TA):Prop:=
  ∀(pos:Pos) (pins:List (Addr×Obj)) (s:Shared) (σ:St) (H:Hp) (Q:List V->Hp->Prop),Inv X pins σ H s->t σ H Q->wpAny (model X.prog X.w) X.A (evalAll ((backToKw pos (keywordEach kws X.env)).map (·.2))) (AP X pins σ Q) X.xe s
section
variable {X:Cx}{CX:CXT}{k:Nat}{f C:Addr}{fd:FuncData}{ps ks:List Str}{sp:Sp}{E:XK}{x m:Str}{p pos apos kpos:Pos}{e o:Expr}{es:List Expr}{kws:List Keyword}{te ta:TE}{t tk:TA}{nm:Option Str}
theorem zt7:PK X [] tNil:=fun _ _ _ _ H Q I h=>wpAny_evalAll_nil ⟨[],H,I,.nil,h⟩
theorem zrx (ha:PE X e te) (hr:PK X kws t):PK X (⟨nm,e,kpos⟩::kws) (zl6 te t):=by
  intro pos pins s σ H Q I h
  show wpAny _ _ (evalAll ((do let v ←eval e X.env;standAt pos;pure v)::(backToKw pos (keywordEach kws X.env)).map (·.2))) _ _ s
  refine wpAny_evalAll_cons (wpAny_bind (thn (ha pins s σ H _ I h) fun u s1 ⟨x,H1,I1,r1,q1⟩=>wpAny_bind (wpAny_standAt (wpAny_pure ?_))))
  exact thn (hr pos pins s1 σ H1 _ I1 q1) fun us s2 ⟨xs,H2,I2,r2,q2⟩=>⟨x::xs,H2,I2,.cons r1 r2,q2⟩
variable {g:List Value->List Value->List Value}{gV:List V->List V->List V}
end
structure FnScope (N P:List Str) (sc:Scope):Prop where
  kind:sc.kind = .function
  co:sc.isCoroutine=false
  gen:sc.isGenerator=false
  nd:N.Nodup
  pre:N.take P.length=P
  par:∀x∈P,sc.names.lookup x=some .local\/sc.names.lookup x=some .cell
  nofree:∀y∈sc.names,y.2≠.free
theorem zi0 {kindOf:Str->Option NameKind}{x:Str}:∀{binds:List (Str×Value)}{m:Str->Option Value},(∀v,(x,v) ∉ binds)->bindL kindOf binds m x=m x
  | [],_,_=>rfl
  | (n,v)::r,m,h=>by
    unfold bindL
    rw[zi0 fun w hw=>h w (List.mem_cons_of_mem _ hw)]
    split
    · have:x≠n:=by rintro rfl;exact h v List.mem_cons_self
      simp[this]
    · rfl
theorem zi1 {kindOf:Str->Option NameKind}{x:Str}:∀{binds:List (Str×Value)}{m:Str->Option Value},(∀v,(x,v) ∉ binds)->bindC kindOf binds m x=m x
  | [],_,_=>rfl
  | (n,v)::r,m,h=>by
    unfold bindC
    rw[zi1 fun w hw=>h w (List.mem_cons_of_mem _ hw)]
    split
    · rfl
    · have:x≠n:=by rintro rfl;exact h v List.mem_cons_self
      simp[this]
theorem zi2 {kindOf:Str->Option NameKind}{x:Str}{v:Value}:∀{P:List Str}{vs:List Value}{i:Nat}{m:Str->Option Value},P.Nodup->P[i]? = some x->vs[i]? = some v->kindOf x=some .local->
    bindL kindOf (P.zip vs) m x=some v
  | [],_,_,_,_,h,_,_=>by simp at h
  | _::_,[],_,_,_,_,h,_=>by simp at h
  | p::P,w::vs,0,m,nd,h1,h2,hk=>by
    simp at h1 h2;subst h1;subst h2
    show bindL kindOf ((p,w)::P.zip vs) m p=_
    unfold bindL
    rw[zi0 fun v hv=>(List.nodup_cons.mp nd).1 (List.of_mem_zip hv).1,if_pos hk]
    simp
  | p::P,w::vs,i+1,m,nd,h1,h2,hk=>by
    show bindL kindOf ((p,w)::P.zip vs) m x=_
    unfold bindL
    exact zi2 (i:=i) (List.nodup_cons.mp nd).2 (by simpa using h1) (by simpa using h2) hk
theorem zi3 {kindOf:Str->Option NameKind}{x:Str}{v:Value}:∀{P:List Str}{vs:List Value}{i:Nat}{m:Str->Option Value},P.Nodup->P[i]? = some x->vs[i]? = some v->kindOf x≠some .local->
    bindC kindOf (P.zip vs) m x=some v
  | [],_,_,_,_,h,_,_=>by simp at h
  | _::_,[],_,_,_,_,h,_=>by simp at h
  | p::P,w::vs,0,m,nd,h1,h2,hk=>by
    simp at h1 h2;subst h1;subst h2
    show bindC kindOf ((p,w)::P.zip vs) m p=_
    unfold bindC
    rw[zi1 fun v hv=>(List.nodup_cons.mp nd).1 (List.of_mem_zip hv).1,if_neg hk]
    simp
  | p::P,w::vs,i+1,m,nd,h1,h2,hk=>by
    show bindC kindOf ((p,w)::P.zip vs) m x=_
    unfold bindC
    exact zi3 (i:=i) (List.nodup_cons.mp nd).2 (by simpa using h1) (by simpa using h2) hk
def start (N:List Str) (vs:List V):St:=vs.map some++List.replicate (N.length-vs.length) none
def cxOf (CX:CXT) (P:Program) (w:World) (K:PySem.W.Frag) (mg:Str->Option Value) (base:Heap) (N:List Str) (qual:Str) (scope:Scope) (f:Addr) (cd:Value) (A:Around) (outer:List Env) (s:Shared) (H:Hp) (E:XK):Cx where
  prog:=P
  w:=w
  K:=K
  mg:=mg
  base:=base
  A:=A.deeper (envOfC qual scope s.heap.objs.size f cd)
  N:=N
  s₀:=s
  H₀:=H
  env:=envOfC qual scope s.heap.objs.size f cd
  outer:=outer
  stack:=envOfC qual scope s.heap.objs.size f cd::outer
  ex:=[]
  calm:=true
  fn:=fun _=>true
  pn:=[]
  xe:=fun e s'=>wpAny (model P w) (A.deeper (envOfC qual scope s.heap.objs.size f cd)) (leaving (envOfC qual scope s.heap.objs.size f cd) e) (fun _ s''=>CX outer H s E e s'') (fun e' s''=>CX outer H s E e' s'') s'
theorem zkx {sc:Scope}{n:Nat}{x:Str}(h:sc.names.lookup x=some .cell):∃c,(cellsFrom n sc.names []).lookup x=some c:=by
  have q:=PySem.W.cellsFrom_some sc.names n [] (.inl h)
  exact Option.isSome_iff_exists.mp q
theorem zm9 {CX:CXT}{P:Program}{w:World}{K:PySem.W.Frag}{mg:Str->Option Value}{base:Heap}{N ps:List Str}{qual:Str}{scope:Scope}{f:Addr}{cd:Value}{A:Around}{outer:List Env}{s s1:Shared}{H:Hp}{E:XK}{us:List Value}{vs:List V}
    (S:FnScope N ps scope) (hd:A.handled=none) (e0:Env0 P w K mg base A outer s H) (hl:vs.length=ps.length) (r:Vals vs us)
    (x:InCallC s s.heap.objs.size (bindL (envOfC qual scope s.heap.objs.size f cd).kindOf (ps.zip us) fun _=>none) (cellsFrom (s.heap.objs.size+1) scope.names []) (bindC (envOfC qual scope s.heap.objs.size f cd).kindOf (ps.zip us) fun _=>none) s1) :
    Inv (cxOf CX P w K mg base N qual scope f cd A outer s H E) [] (start N vs) H s1:=by
  have hpl:ps.length<=N.length:=by have:=congrArg List.length S.pre;rw[List.length_take] at this;omega
  obtain⟨h1,tk,rfl,hk⟩:=x.done
  have noA:∀b:Addr,b ∉ (cxOf CX P w K mg base N qual scope f cd A outer s H E).ex:=fun b z=>absurd (show b∈([]:List Addr) from z) (by simp)
  refine⟨⟨e0.mod,S.kind,rfl,rfl,Nat.le_refl _,fun y z c h1 h2=>?_,fun y hy=>?_,fun y c _ h=>?_,fun _=>hd,Around.frames_deeper e0.frames,.inr ⟨rfl,rfl⟩,fun b z=>absurd z (noA b),e0.bs,e0.bsz,fun b _ _=>noA b,fun b z=>absurd z (noA b),e0.funs,e0.frf⟩,
    rfl,e0.bare,Un.kept hk,⟨_,x.toInCall.ns,fun i y v h1 h2 h3=>?_⟩,fun y c h=>⟨_,x.cell y c h⟩,e0.hok.fresh (Nat.le_refl _),fun y c h=>?_,fun p hp=>absurd (show p∈([]:List (Addr×Obj)) from hp) (by simp),e0.hok.kept hk,?_⟩
  · exact name_of_addr x.apart (PySem.mem_of_lookup h1) (PySem.mem_of_lookup h2)
  · have hy:scope.names.lookup y=some .cell\/scope.names.lookup y=some .free:=hy
    rcases hy with hy | hy
    · exact zkx hy
    · exact absurd rfl (S.nofree _ (PySem.mem_of_lookup hy))
  · exact Nat.le_of_lt (x.above y c (PySem.mem_of_lookup h))
  · have hi:i<vs.length:=by
      unfold start at h2
      by_cases hi:i<vs.length
      · exact hi
      · rw[List.getElem?_append_right (by simpa using hi)] at h2
        rw[List.getElem?_replicate] at h2
        split at h2<;>cases h2
    have ha:vs[i]? = some v:=by
      unfold start at h2
      rw[List.getElem?_append_left (by simpa using hi),List.getElem?_map] at h2
      cases e:vs[i]? with
      | none=>rw[e] at h2;cases h2
      | some a=>rw[e] at h2;cases h2;rfl
    obtain⟨u,hu,rv⟩:=r.get ha
    have hp:ps[i]? = some y:=by
      rw[←S.pre,List.getElem?_take_of_lt (by omega)];exact h1
    have ndP:ps.Nodup:=by rw[←S.pre];exact S.nd.sublist (List.take_sublist _ _)
    refine⟨u,rv,?_⟩
    rcases S.par y (List.mem_of_getElem? hp) with k | k
    · exact .inl ⟨k,zi2 ndP hp hu k⟩
    · obtain⟨c,e⟩:=zkx (n:=s.heap.objs.size+1) k
      refine .inr ⟨.inl k,c,e,?_⟩
      have q:=x.cell y c e
      rw[zi3 ndP hp hu (by show scope.names.lookup y≠_;rw[k];decide)] at q
      exact q
  · exact e0.hok.fresh (Nat.le_of_lt (x.above y c (PySem.mem_of_lookup h)))
  · unfold start
    show _=N.length
    rw[List.length_append,List.length_map,List.length_replicate]
    omega
theorem zt8 {CX:CXT}{P:Program}{w:World}{K:PySem.W.Frag}{mg:Str->Option Value}{base:Heap}{k:Nat}{f:Addr}{name qual:Str}{params:Arguments}{body:List Stmt}{scope:Scope}{dV kV doc pm cdv ct oc:Value}{an od:Option Addr}
    {osl:Array (Option Value)}{N ps:List Str}{sp:Sp}(lk:K.lookup f=some ⟨oc,od,.func (PySem.W.fnOf name qual params body scope dV kV doc pm an cdv ct),osl⟩) (hcd:PySem.W.codeIn K cdv qual=true) (S:FnScope N ps scope)
    (len:∀vs H Q E,sp vs H Q E->vs.length=ps.length)
    (hbody:∀(A:Around) (outer:List Env) (s:Shared) (H:Hp) (vs:List V) (Q:VK) (E:XK),Room k (A.deeper (envOfC qual scope s.heap.objs.size f cdv))->sp vs H Q E->
      ∃t,PSs (cxOf CX P w K mg base N qual scope f cdv A outer s H E) body t/\t { nx:=fun _ H'=>Q .non H',rt:=Q } (start N vs) H) :
    FnOk P w K mg base CX (k+1) f (PySem.W.fnOf name qual params body scope dV kV doc pm an cdv ct) ps sp:=by
  refine⟨len,fun A outer s H args us vs Q E hr e0 hb r hsp=>?_⟩
  have hl:=len _ _ _ _ hsp
  have KX:K.In s.heap:=e0.mod.kin.keeps fun b o e=>(e0.bs b o e).1
  have lim:s.heap.NoLimit:=e0.mod.nolimit.keeps fun b o e=>(e0.bs b o e).1
  have hkind:∀y∈ps.zip us,scope.names.lookup y.1=some .local\/(scope.names.lookup y.1=some .cell/\((cellsFrom (s.heap.objs.size+1) scope.names []).lookup y.1).isSome=true):=fun ⟨n,v⟩ hy=>by
    rcases S.par n (List.of_mem_zip hy).1 with q | q
    · exact .inl q
    · exact .inr ⟨q,PySem.W.cellsFrom_some _ _ _ (.inl q)⟩
  refine codeAny_call_function hr.depth (KX _ _ lk) rfl S.co S.gen rfl (PySem.W.codeRec_of KX hcd) (hb _ _ _ _ ?_)
  refine wpAny_newFunctionEnv_cells S.kind hkind fun env he s1 x=>?_
  subst he
  refine⟨lim.keeps x.toInCall.keep,codeAny_func ?_⟩
  obtain⟨t,ht,hq⟩:=hbody A outer s H vs Q E (hr.deeper _) hsp
  have I:Inv (cxOf CX P w K mg base N qual scope f cdv A outer s H E) [] (start N vs) H s1:=zm9 S hr.hd e0 hl r x
  refine wpAny_mono (ht [] s1 (start N vs) H _ I hq) (fun fl s' hs=>?_) fun e s' hs=>hs
  have fin:∀{σ':St}{H':Hp}{v:V}{u:Value},Inv (cxOf CX P w K mg base N qual scope f cdv A outer s H E) [] σ' H' s'->RelV v u->Q v H'->CE outer P w H s Q u s':=
    fun {σ' H' v u} J rv q=>⟨v,H',J.os,J.bare,J.base,J.hok,rv,q⟩
  cases fl with
  | ret u=>
    obtain⟨v,σ',H',J,rv,q⟩:=hs
    exact fin J rv q
  | next=>
    obtain⟨σ',H',J,q⟩:=hs
    exact fin (v:=V.non) (u:=Value.none) J rfl q
  | brk=>
    obtain⟨_,_,_,q⟩:=hs
    exact False.elim q
  | cont=>
    obtain⟨_,_,_,q⟩:=hs
    exact False.elim q
section
variable {X:Cx}{x:Str}{p pos:Pos}{e:Expr}{es:List Expr}{t:TA}{id T:String}{r:List V->Hp->VK->Prop}
def tCB (r:List V->Hp->VK->Prop) (t:TA):TE:=fun σ H Q=>t σ H fun vs H1=>r vs H1 Q
theorem zw (hc:zd0 X (.builtin id) r) (hg:Gl X x) (hm:X.mg x=none) (hv:bootBuiltins x=some (.builtin id)) (ha:PA X (e::es) t) (hn:x≠"__name__":=by decide) (hdb:(x == ("__debug__" : Str))=false:=by decide)
    (he:starEach (e::es) X.env=(false,eval e X.env)::starEach es X.env:=by rfl) (hpl:(backTo pos (starEach es X.env)).any (·.1)=false:=by rfl):PE X (.Call (.Name x p) (e::es) [] pos) (tCB r t):=by
  intro pins s σ H Q I h
  refine wpAny_Call_Name_kw (zfp I hg hm hv ?_ hn hdb)
  exact PyProof.Rows.callWith_builtin1 (thn (ha pos pins s σ H _ I h) fun us s1 ⟨vs,H1,I1,r1,q1⟩=>hc pins s1 σ H1 vs us Q I1 r1 q1) he hpl
theorem zam (hc:zd0 X (.type T) r) (hg:Gl X x) (hm:X.mg x=none) (hv:bootBuiltins x=some (.type T)) (ha:PA X (e::es) t) (hn:x≠"__name__":=by decide) (hdb:(x == ("__debug__" : Str))=false:=by decide)
    (he:starEach (e::es) X.env=(false,eval e X.env)::starEach es X.env:=by rfl) (hpl:(backTo pos (starEach es X.env)).any (·.1)=false:=by rfl):PE X (.Call (.Name x p) (e::es) [] pos) (tCB r t):=by
  intro pins s σ H Q I h
  refine wpAny_Call_Name_kw (zfp I hg hm hv ?_ hn hdb)
  exact PyProof.Rows.callWith_type1 (thn (ha pos pins s σ H _ I h) fun us s1 ⟨vs,H1,I1,r1,q1⟩=>hc pins s1 σ H1 vs us Q I1 r1 q1) he hpl
end
end L2
namespace HT
open PySem PyProof.Rows
section
open PySem.SeqAt
open PySem.AutoSeq1 (wpAny_loadPart')
open PySem.MeetsSeq PySem.MeetsSeq2 PySem.MeetsSeq3
end
section
variable {prog:Program}{w:World}{A:Around}{E:Value->Shared->Prop}{s:Shared}
theorem cat_tup {t b:Addr}{vs ws:List Value}{Q:Value->Shared->Prop}(ht:IsTup s.heap t vs.toArray) (hb:IsTup s.heap b ws.toArray) (hv:vs≠[])
    (h1:ws = []->Q (.ref t) s) (h2:ws≠[]->Q (.ref s.heap.objs.size) { s with heap:=s.heap.push { cls:=.type "tuple",data:=.seq (vs++ws).toArray } })
    (hsz:vs.length+ws.length<=sizeLine):wpAny (model prog w) A (binaryOp .Add (.ref t) (.ref b)) Q E s:=by
  obtain⟨⟨cls,dd,data,sl⟩,ho,hc,n,hd⟩:=id ht
  obtain⟨⟨cls2,dd2,data2,sl2⟩,ho2,hc2,n2,hd2⟩:=id hb
  simp only at hc hd hc2 hd2
  subst hc hd hc2 hd2
  have e:vs.toArray++ws.toArray=(vs++ws).toArray:=by simp
  by_cases hw:ws = []
  · exact concat_meets ⟨_,ho,rfl⟩ ⟨_,ho2,rfl⟩ noFill_tuple_add seq_tuple_add PySem.F.slot_tuple_add PySem.F.entry_tuple_add (PySem.F.args_tuple_add_2 _ _)
      (tuple_addW1 t b vs.toArray ws.toArray n n2 dd dd2 sl sl2 (by simpa using hv) (by simp[hw])) ⟨ho,ho2,h1 hw⟩
  · refine concat_meets ⟨_,ho,rfl⟩ ⟨_,ho2,rfl⟩ noFill_tuple_add seq_tuple_add PySem.F.slot_tuple_add PySem.F.entry_tuple_add (PySem.F.args_tuple_add_2 _ _)
      (tuple_addW2 t b vs.toArray ws.toArray n n2 dd dd2 sl sl2 (by simpa using hv) (by simpa using hw) (by rw[List.size_toArray,List.size_toArray];exact hsz)) ⟨ho,ho2,?_⟩
    rw[e]
    exact h2 hw
def sIx (n d:Nat):Option Int->Nat
  | none=>d
  | some v=>if v<0 then (v+(n:Int)).toNat else min v.toNat n
end
end HT
namespace L2
open PySem PySem.Spec PyProof.Rows
abbrev TO:=St->Hp->(Option Int->Hp->Prop)->Prop
def PO (X:Cx) (e:Option Expr) (t:TO):Prop:=
  ∀(pins:List (Addr×Obj)) (s:Shared) (σ:St) (H:Hp) (Q:Option Int->Hp->Prop),Inv X pins σ H s->t σ H Q->
    wpAny (model X.prog X.w) X.A (evalPart e X.env) (fun u s'=>∃o H',Inv X pins σ H' s'/\IsPart u o/\Q o H') X.xe s
def zhu:TO:=fun _ H Q=>Q none H
def zpc (t:TE):TO:=fun σ H Q=>t σ H fun x H1=>∃i,x = .int i/\Q (some i) H1
section
variable {X:Cx}{e:Expr}{te:TE}{lo hi:Option Expr}{tl th:TO}{pos p2:Pos}
theorem za4:PO X none zhu:=by
  intro pins s σ H Q I h
  rw[evalPart_none]
  exact wpAny_pure ⟨none,H,I,.none,h⟩
theorem zax (h:PE X e te):PO X (some e) (zpc te):=by
  intro pins s σ H Q I hw
  rw[evalPart_some]
  refine thn (h pins s σ H _ I hw) fun u s1 hq0=>?_
  obtain⟨x,H1,I1,r1,q1⟩:=hq0
  obtain⟨i,rfl,q⟩:=q1
  obtain⟨t,rfl⟩:=r1
  exact⟨some i,H1,I1,.int i t,q⟩
def SlR (X:Cx) (r:V->Option Int->Option Int->Hp->VK->Prop):Prop:=
  ∀(pins:List (Addr×Obj)) (s:Shared) (σ:St) (H:Hp) (x:V) (v vl vu:Value) (lo hi:Option Int) (sl:Addr) (Q:VK),Inv X pins σ H s->RelV x v->s.heap.IsSliceOf sl vl vu .none->IsPart vl lo->IsPart vu hi->r x lo hi H Q->
    ∃T id,typeLookup (.type T) "__getitem__" = pure (some (.builtin id))/\s.TypeIs v T/\wpAny (model X.prog X.w) X.A (getItem v (.ref sl)) (EP X pins σ Q) X.xe s
def tSl (r:V->Option Int->Option Int->Hp->VK->Prop) (te:TE) (tl th:TO):TE:=fun σ H Q=>te σ H fun x H1=>tl σ H1 fun l H2=>th σ H2 fun u H3=>r x l u H3 Q
theorem zar {r:V->Option Int->Option Int->Hp->VK->Prop}(hr:SlR X r) (he:PE X e te) (hl:PO X lo tl) (hu:PO X hi th):PE X (.Subscript e (.Slice lo hi none p2) pos) (tSl r te tl th):=by
  intro pins s σ H Q I h
  refine Subscript_ (thn (he pins s σ H _ I h) fun v s1 hq0=>?_)
  obtain⟨x,H1,I1,r1,q1⟩:=hq0
  refine wpAny_Slice (thn (hl pins s1 σ H1 _ I1 q1) fun vl s2 ⟨l,H2,I2,pl,q2⟩=>thn (hu pins s2 σ H2 _ I2 q2) fun vu s3 hq0=>?_)
  obtain⟨u,H3,I3,pu,q3⟩:=hq0
  rw[evalPart_none]
  refine wpAny_pure ?_
  have I4:Inv X pins σ H3 { s3 with heap:=s3.heap.push { cls:=.type "slice",data:=.fields #[vl,vu,.none] } }:=I3.kept (t':=s3.toks) fun b ob q=>Heap.get?_push_of_some _ q
  obtain⟨T,id,hT,ht,hg⟩:=hr pins { s3 with heap:=s3.heap.push { cls:=.type "slice",data:=.fields #[vl,vu,.none] } } σ H3 x v vl vu l u s3.heap.objs.size Q I4 r1 (Heap.IsSliceOf.new ..) pl pu q3
  show wpAny (model X.prog X.w) X.A (subscriptTail e (.Slice lo hi none p2) v (.ref s3.heap.objs.size)) (EP X pins σ Q) X.xe { s3 with heap:=s3.heap.push { cls:=.type "slice",data:=.fields #[vl,vu,.none] } }
  exact tail_any (ops:=[.ref s3.heap.objs.size,v]) ht hT hg (by with_unfolding_all rfl)
def cutV (xs:List V) (lo hi:Option Int):List V:=(xs.drop (HT.sIx xs.length 0 lo)).take (HT.sIx xs.length xs.length hi-HT.sIx xs.length 0 lo)
theorem zj2 (xs:List V) (lo hi:Option Int):(cutV xs lo hi).length<=xs.length:=by
  unfold cutV
  rw[List.length_take,List.length_drop]
  omega
def zt9 (K:PySem.W.Frag):R2:=fun x y H Q=>∃a b xs ys,x = .ref a/\y = .ref b/\SqT K H a xs/\SqT K H b ys/\xs≠[]/\xs.length+ys.length<=sizeLine/\
  (ys = []->Q (.ref a) H)/\(ys≠[]->∀p,H p=none->Q (.ref p) (upd H p (.tup (xs++ys))))
theorem Vals.nil_iff {xs:List V}{us:List Value}(r:Vals xs us):us = []↔xs = []:=by
  cases r with
  | nil=>simp
  | cons _ _=>simp
theorem zry:OpR X (binaryOp .Add) (zt9 X.K):=by
  intro pins s σ H x y v u Q I rx ry h
  obtain⟨a,b,xs,ys,rfl,rfl,ha,hb,hx,hz,q1,q2⟩:=h
  cases rx
  cases ry
  obtain⟨its,r1,p1,_⟩:=I.tuple ha
  obtain⟨its2,r2,p2,_⟩:=I.tuple hb
  refine HT.cat_tup p1 p2 (fun z=>hx (r1.nil_iff.mp z)) (fun z=>⟨.ref a,H,I,rfl,q1 (r2.nil_iff.mp z)⟩) (fun z=>?_) (by rw[←r1.length,←r2.length];exact hz)
  refine⟨.ref s.heap.objs.size,_,I.laid (t':=s.toks) (o:=.tup (xs++ys)) (fun b ob q=>Heap.get?_push_of_some _ q) (Nat.le_refl _) ?_,rfl,q2 (fun w=>z (r2.nil_iff.mpr w)) _ (I.hok.fresh (Nat.le_refl _))⟩
  exact⟨by rw[List.length_append];exact hz,_,r1.append r2,IsTup.new _ _⟩
end
def ixN (n:Nat) (i:Int):Option Nat:=if 0<=i then (if i<n then some i.toNat else none) else if -(n:Int)<=i then some (i+n).toNat else none
def atI {α:Type}(xs:List α) (i:Int):Option α:=(ixN xs.length i).bind fun j=>xs[j]?
theorem zrz {n:Nat}{i:Int}{j:Nat}(h:ixN n i=some j):seqIndex? i n=some j/\j<n/\-(n:Int)<=i/\i<n:=by
  unfold ixN at h
  by_cases h0:0<=i
  · rw[if_pos h0] at h
    by_cases h1:i<n
    · rw[if_pos h1] at h
      have e:i.toNat=j:=Option.some.inj h
      exact⟨by rw[seqIndex_of h0 h1,e],by omega,by omega,h1⟩
    · rw[if_neg h1] at h;cases h
  · rw[if_neg h0] at h
    by_cases h1 : -(n:Int)<=i
    · rw[if_pos h1] at h
      have e:(i+n).toNat=j:=Option.some.inj h
      exact⟨by rw[seqIndex_neg (by omega) h1,e],by omega,h1,by omega⟩
    · rw[if_neg h1] at h;cases h
theorem zj3 {α:Type}{xs:List α}{i:Int}{v:α}(h:atI xs i=some v):∃j,seqIndex? i xs.length=some j/\xs[j]? = some v/\j<xs.length/\-(xs.length:Int)<=i/\i<xs.length:=by
  unfold atI at h
  cases e:ixN xs.length i with
  | none=>rw[e] at h;cases h
  | some j=>
    rw[e] at h
    obtain⟨h1,h2,h3,h4⟩:=zrz e
    exact⟨j,h1,h,h2,h3,h4⟩
theorem zbr {α:Type}{xs:List α}{j:Nat}{v:α}(h:xs[j]? = some v):atI xs (j:Int)=some v:=by
  have hj:j<xs.length:=(List.getElem?_eq_some_iff.mp h).1
  have e:ixN xs.length (j:Int)=some j:=by
    unfold ixN
    rw[if_pos (by omega),if_pos (by omega)];simp
  unfold atI;rw[e];exact h
theorem zhv {α:Type}(xs:List α) (v:α):atI (xs++[v]) (-1)=some v:=by
  have hl:(xs++[v]).length=xs.length+1:=by simp
  have e:ixN (xs++[v]).length (-1)=some xs.length:=by
    unfold ixN
    rw[hl,if_neg (by decide),if_pos (by omega)]
    congr 1
    omega
  unfold atI
  rw[e]
  show (xs++[v])[xs.length]? = some v
  simp
def zr0 (b:Expr):Prop:=∀o i,subscripted b false o i=operate [o,i] (getItem o i)
def IxR (X:Cx) (r:R2):Prop:=
  ∀(value slice:Expr) (pins:List (Addr×Obj)) (s:Shared) (σ:St) (H:Hp) (x y:V) (v u:Value) (Q:VK),Inv X pins σ H s->RelV x v->RelV y u->r x y H Q->
    subscripted slice false v u=operate [v,u] (getItem v u)->wpAny (model X.prog X.w) X.A (subscriptTail value slice v u) (EP X pins σ Q) X.xe s
def MtR (X:Cx) (id:String) (r:V->List V->Hp->VK->Prop):Prop:=
  ∀(pins:List (Addr×Obj)) (s:Shared) (σ:St) (H:Hp) (x:V) (xs:List V) (v:Value) (us:List Value) (Q:VK),Inv X pins σ H s->RelV x v->Vals xs us->r x xs H Q->
    wpAny (model X.prog X.w) X.A (call (.builtin id) (v::us)) (EP X pins σ Q) X.xe s
section
variable {X:Cx}{a b:Expr}{ta tb:TE}{pos:Pos}
theorem zbc {r:R2}(hr:IxR X r) (ha:PE X a ta) (hb:PE X b tb) (hs:zr0 b):PE X (.Subscript a b pos) (tOp r ta tb):=by
  intro pins s σ H Q I h
  exact Subscript_ (binT ha hb I h fun v u s2 x y H2 I2 rx ry q=>hr a b pins s2 σ H2 x y v u Q I2 rx ry q (hs _ _))
def rIxL (K:PySem.W.Frag):R2:=fun x y H Q=>∃p xs i v,x = .ref p/\y = .int i/\SqL K H p xs/\atI xs i=some v/\Q v H
def rIxT (K:PySem.W.Frag):R2:=fun x y H Q=>∃p xs i v,x = .ref p/\y = .int i/\SqT K H p xs/\atI xs i=some v/\Q v H
def rIxS:R2:=fun x y H Q=>∃z i c,x = .str z/\y = .int i/\z.length<=sizeLine/\atI z.cps.toList i=some c/\Q (.str ⟨#[c]⟩) H
theorem zr1:IxR X (rIxL X.K):=by
  intro value slice pins s σ H x y v u Q I rx ry h hs
  obtain⟨p,xs,i,z,rfl,rfl,hq,he,q⟩:=h
  cases rx
  obtain⟨t,rfl⟩:=ry
  obtain⟨its,r,pl,hz⟩:=I.list hq
  obtain⟨j,h1,h2,h3,h4,h5⟩:=zj3 he
  obtain⟨w,ew,rw'⟩:=r.get h2
  have hl:=r.length
  have hn:=ziy
  have fin:EP X pins σ Q w s:=⟨z,H,I,rw',q⟩
  by_cases h0:0<=i
  · have hj:i.toNat=j:=by
      rw[seqIndex_of h0 h5] at h1
      exact Option.some.inj h1
    exact item_listR pl.isList h0 (by omega) (by rw[hj];simpa using ew) fin hs
  · have hj:(i+(its.toArray.size:Int)).toNat=j:=by
      rw[seqIndex_neg (by omega) h4] at h1
      rw[List.size_toArray,←hl]
      exact Option.some.inj h1
    exact subscriptTail_builtinR (x:=w) pl.isList.typeIs slot_list_getitem.lookup
      (wpAny_getItem_list_neg (Q:=fun r s'=>r=w/\EP X pins σ Q r s') pl.isList (by omega) (by rw[List.size_toArray]<;>omega) (by omega) (by rw[hj];simpa using ew) ⟨rfl,fin⟩) hs
theorem zua:IxR X (rIxT X.K):=by
  intro value slice pins s σ H x y v u Q I rx ry h hs
  obtain⟨p,xs,i,z,rfl,rfl,hq,he,q⟩:=h
  cases rx
  obtain⟨t,rfl⟩:=ry
  obtain⟨its,r,pl,hz⟩:=I.tuple hq
  obtain⟨j,h1,h2,h3,h4,h5⟩:=zj3 he
  obtain⟨w,ew,rw'⟩:=r.get h2
  have hl:=r.length
  have hn:=ziy
  have fin:EP X pins σ Q w s:=⟨z,H,I,rw',q⟩
  exact subscriptTail_builtinR (x:=w) pl.typeIs slot_tuple_getitem.lookup
    (getItem_tuple (j:=j) (Q:=fun r s'=>r=w/\EP X pins σ Q r s') pl (by omega) (by omega) (by rw[List.size_toArray,←hl];exact h1) (by simpa using ew) ⟨rfl,fin⟩) hs
theorem zub:IxR X rIxS:=by
  intro value slice pins s σ H x y v u Q I rx ry h hs
  obtain⟨z,i,c,rfl,rfl,hz,he,q⟩:=h
  obtain⟨t,rfl⟩:=rx
  obtain⟨t',rfl⟩:=ry
  obtain⟨j,h1,h2,h3,h4,h5⟩:=zj3 he
  have hl:z.cps.toList.length=z.length:=by simp[Str.length]
  rw[hl] at h1 h4 h5
  have hn:=ziy
  exact tail_any (typeIs_str s z t) slot_str_getitem.lookup (getItem_str (c:=c) (by
    have e1:decide (i < -(2 ^ 63:Int))=false:=decide_eq_false (by omega)
    have e2:decide (i≥2 ^ 63)=false:=decide_eq_false (by omega)
    rw[e1,e2,Bool.or_false]) (by rw[h1];simpa using h2) ⟨.str ⟨#[c]⟩,H,I.tok _,⟨_,rfl⟩,q⟩) hs
theorem zi4 (lo hi:Option Int) (n:Nat):(sliceBounds lo hi none n).1=((HT.sIx n 0 lo:Nat):Int)/\(sliceBounds lo hi none n).2.1=((HT.sIx n n hi:Nat):Int)/\(sliceBounds lo hi none n).2.2=1:=by
  refine⟨?_,?_,rfl⟩
  · cases lo with
    | none=>simp[sliceBounds,HT.sIx]
    | some i=>
      simp only [sliceBounds,HT.sIx,Option.getD_none,show (1:Int) > 0 by decide,if_true]
      by_cases h:i<0
      · simp only [h,if_true]<;>omega
      · simp only [h,if_false]<;>omega
  · cases hi with
    | none=>simp[sliceBounds,HT.sIx]
    | some i=>
      simp only [sliceBounds,HT.sIx,Option.getD_none,show (1:Int) > 0 by decide,if_true]
      by_cases h:i<0
      · simp only [h,if_true]<;>omega
      · simp only [h,if_false]<;>omega
theorem zhw (its:List Value) (lo hi:Option Int):slicePick its.toArray lo hi none=((its.drop (HT.sIx its.length 0 lo)).take (HT.sIx its.length its.length hi-HT.sIx its.length 0 lo)).toArray:=by
  obtain⟨h1,h2,h3⟩:=zi4 lo hi its.toArray.size
  unfold slicePick
  rw[h1,h2,h3]
  simp only [sliceRange_one,pick_run,List.size_toArray]<;>rfl
def rSlL (K:PySem.W.Frag):V->Option Int->Option Int->Hp->VK->Prop:=fun x lo hi H Q=>∃a xs,x = .ref a/\SqL K H a xs/\∀p,H p=none->Q (.ref p) (upd H p (.lst (cutV xs lo hi)))
theorem zr2:SlR X (rSlL X.K):=by
  intro pins s σ H x v vl vu lo hi sl Q I rx hs pl pu h
  obtain⟨a,xs,rfl,hx,q⟩:=h
  cases rx
  obtain⟨its,r,ht,hz⟩:=I.list hx
  have hlen:=r.length
  refine⟨"list",_,slot_list_getitem.lookup,ht.isList.typeIs,?_⟩
  refine wpAny_getItem_list_slice ht.isList hs pl pu .none (by simp) ?_ (by rw[List.size_toArray]<;>omega)
  rw[zhw,←hlen]
  refine⟨.ref s.heap.objs.size,_,I.laid (t':=s.toks) (o:=.lst (cutV xs lo hi)) (fun b ob q=>Heap.get?_push_of_some _ q) (Nat.le_refl _) ?_,rfl,q _ (I.hok.fresh (Nat.le_refl _))⟩
  exact⟨Nat.le_trans (zj2 xs lo hi) hz,_,0,(r.drop (HT.sIx xs.length 0 lo)).take (HT.sIx xs.length xs.length hi-HT.sIx xs.length 0 lo),Heap.get?_push_size _ rfl⟩
def zcs:V->Bool
  | .non=>true
  | .bl _=>true
  | .int _=>true
  | .str _=>true
  | _=>false
def eqV:V->V->Bool
  | .non,.non=>true
  | .bl a,.bl b=>a == b
  | .bl a,.int b=>(if a then 1 else 0) == b
  | .int a,.bl b=>a == (if b then 1 else 0)
  | .int a,.int b=>a == b
  | .str a,.str b=>a == b
  | _,_=>false
theorem zq7 {A:Around}{s:Shared}{y x:V}{u v:Value}(ry:RelV y u) (rx:RelV x v) (fy:zcs y=true) (fx:zcs x=true):SeqAt.EqAt A s u v (eqV y x):=by
  cases y with
  | non=>
    cases ry
    cases x with
    | non=>cases rx;exact SeqAt.EqAt.same _
    | bl b=>cases rx;exact SeqAt.EqAt.none_bool b
    | int b=>obtain⟨t,rfl⟩:=rx;exact SeqAt.EqAt.none_int b t
    | str b=>obtain⟨t,rfl⟩:=rx;exact SeqAt.EqAt.none_str b t
    | _=>exact absurd (show false=true from fx) Bool.false_ne_true
  | bl a=>
    cases ry
    cases x with
    | non=>cases rx;exact SeqAt.EqAt.bool_none a
    | bl b=>cases rx;exact SeqAt.EqAt.bool_bool a b
    | int b=>obtain⟨t,rfl⟩:=rx;exact SeqAt.EqAt.bool_int a b t
    | str b=>obtain⟨t,rfl⟩:=rx;exact SeqAt.EqAt.bool_str a b t
    | _=>exact absurd (show false=true from fx) Bool.false_ne_true
  | int a=>
    obtain⟨t',rfl⟩:=ry
    cases x with
    | non=>cases rx;exact SeqAt.EqAt.int_none a t'
    | bl b=>cases rx;exact SeqAt.EqAt.int_bool a t' b
    | int b=>obtain⟨t,rfl⟩:=rx;exact SeqAt.EqAt.int_int a t' b t
    | str b=>obtain⟨t,rfl⟩:=rx;exact SeqAt.EqAt.int_str a t' b t
    | _=>exact absurd (show false=true from fx) Bool.false_ne_true
  | str a=>
    obtain⟨t',rfl⟩:=ry
    cases x with
    | non=>cases rx;exact SeqAt.EqAt.str_none a t'
    | bl b=>cases rx;exact SeqAt.EqAt.str_bool a t' b
    | int b=>obtain⟨t,rfl⟩:=rx;exact SeqAt.EqAt.str_int a t' b t
    | str b=>obtain⟨t,rfl⟩:=rx;exact SeqAt.EqAt.str_str a t' b t
    | _=>exact absurd (show false=true from fx) Bool.false_ne_true
  | _=>exact absurd (show false=true from fy) Bool.false_ne_true
def eqU (x:V) (u:Value):Bool:=match u with
  | .none=>eqV .non x
  | .bool b=>eqV (.bl b) x
  | .int i _=>eqV (.int i) x
  | .str z _=>eqV (.str z) x
  | _=>false
theorem zq8 {x y:V}{u:Value}(r:RelV y u) (f:zcs y=true):eqU x u=eqV y x:=by
  cases y with
  | non=>cases r;rfl
  | bl b=>cases r;rfl
  | int i=>obtain⟨t,rfl⟩:=r;rfl
  | str z=>obtain⟨t,rfl⟩:=r;rfl
  | _=>exact absurd (show false=true from f) Bool.false_ne_true
theorem zj4 {x:V}:∀{xs:List V}{us:List Value},Vals xs us->xs.all zcs=true->us.any (eqU x)=xs.any fun y=>eqV y x
  | _,_,.nil,_=>rfl
  | y::xs,u::us,.cons r t,f=>by
    rw[List.all_cons,Bool.and_eq_true] at f
    rw[List.any_cons,List.any_cons,zq8 r f.1,zj4 t f.2]
theorem zhx {A:Around}{s:Shared}{x:V}{v:Value}(rx:RelV x v) (fx:zcs x=true):∀{xs:List V}{us:List Value},Vals xs us->xs.all zcs=true->∀u∈us,SeqAt.EqAt A s u v (eqU x u)
  | _,_,.nil,_=>fun u hu=>by cases hu
  | y::xs,u::us,.cons r t,f=>fun u' hu=>by
    rw[List.all_cons,Bool.and_eq_true] at f
    rcases List.mem_cons.mp hu with rfl | hu
    · rw[zq8 r f.1];exact zq7 r rx f.1 fx
    · exact zhx rx fx t f.2 u' hu
def inV (x:V) (xs:List V):Bool:=xs.any fun y=>eqV y x
def rIn (K:PySem.W.Frag) (neg:Bool):R2:=fun x y H Q=>∃p xs,y = .ref p/\(SqL K H p xs\/SqT K H p xs)/\zcs x=true/\xs.all zcs=true/\Q (.bl (if neg then !inV x xs else inV x xs)) H
theorem zna:OpR X (compareOp .In) (rIn X.K false):=by
  intro pins s σ H x y v u Q I rx ry h
  obtain⟨p,xs,rfl,hq,fx,fs,q⟩:=h
  cases ry
  rcases hq with hq | hq
  · obtain⟨its,r,pl,hz⟩:=I.list hq
    refine SeqAt.in_listAt (eqU x) pl.isList (fun w hw=>zhx rx fx r fs w (by simpa using hw)) ⟨.bl _,H,I,rfl,?_⟩
    rw[show its.toArray.any (eqU x)=its.any (eqU x) by simp,zj4 r fs]
    exact q
  · obtain⟨its,r,pl,hz⟩:=I.tuple hq
    refine SeqAt.in_tupleAt (eqU x) pl (fun w hw=>zhx rx fx r fs w (by simpa using hw)) ⟨.bl _,H,I,rfl,?_⟩
    rw[show its.toArray.any (eqU x)=its.any (eqU x) by simp,zj4 r fs]
    exact q
theorem zi5:zd0 X (.builtin "len") (fun xs H Q=>∃p ys,xs = [.ref p]/\(SqL X.K H p ys\/SqT X.K H p ys)/\Q (.int ys.length) H):=by
  intro pins s σ H xs us Q I r h
  obtain⟨p,ys,rfl,hq,q⟩:=h
  obtain⟨u,rfl,rx⟩:=zd7 r
  cases rx
  have hn:=ziy
  rcases hq with hq | hq
  · obtain⟨its,r',pl,hz⟩:=I.list hq
    have hlen:=r'.length
    exact Calls.call_len_list pl.isList (by simp only [List.size_toArray]<;>omega) ⟨.int ys.length,H,I.tok _,⟨s.toks+1,by rw[List.size_toArray,hlen]⟩,q⟩
  · obtain⟨its,r',pl,hz⟩:=I.tuple hq
    have hlen:=r'.length
    exact len_tuple pl (by simp only [List.size_toArray]<;>omega) ⟨.int ys.length,H,I.tok _,⟨s.toks+1,by rw[List.size_toArray,hlen]⟩,q⟩
theorem ze3:zd0 X (.builtin "len") (fun xs H Q=>∃z,xs = [.str z]/\z.length<=sizeLine/\Q (.int z.length) H):=by
  intro pins s σ H xs us Q I r h
  obtain⟨z,rfl,hz,q⟩:=h
  obtain⟨u,rfl,t,rfl⟩:=zd7 r
  have hn:=ziy
  exact len_str (by omega) ⟨.int z.length,H,I.tok _,⟨_,rfl⟩,q⟩
def tyV (K:PySem.W.Frag) (T:String) (x:V) (H:Hp):Prop:=match x with
  | .str _=>T = "str"
  | .int _=>T = "int"
  | .ref p=>(T = "list"/\∃xs,SqL K H p xs)\/(T = "tuple"/\∃o,K.lookup p=some o/\o.cls = .type "tuple"/\o.dict=none)\/
      (T = "dict"/\((∃kvs,H p=some (.dK kvs))\/∃kvs,H p=some (.dT kvs)))\/(T = "set"/\∃S n,H p=some (.set S n))
  | _=>False
theorem zuc {pins:List (Addr×Obj)}{σ:St}{H:Hp}{s:Shared}{T:String}{x:V}{v:Value}(I:Inv X pins σ H s) (r:RelV x v) (ty:tyV X.K T x H) :
    s.TypeIs v T/\∀a,v = .ref a->∃ob,s.heap.get? a=some ob/\ob.dict=none:=by
  cases x with
  | str z=>
    obtain⟨t,rfl⟩:=r
    cases (show T = "str" from ty)
    exact⟨typeIs_str s z t,fun _ e=>nomatch e⟩
  | int i=>
    obtain⟨t,rfl⟩:=r
    cases (show T = "int" from ty)
    exact⟨typeIs_int s i t,fun _ e=>nomatch e⟩
  | ref p=>
    cases r
    rcases ty with ⟨rfl,xs,hq⟩ | ⟨rfl,o,hk,hc,hd⟩ | ⟨rfl,hk⟩ | ⟨rfl,S,n,hk⟩
    · obtain⟨its,_,pl,_⟩:=I.list hq
      refine⟨pl.isList.typeIs,fun a e=>?_⟩
      cases e
      obtain⟨o,n,e,c,hd,_⟩:=pl
      exact⟨o,e,hd⟩
    · refine⟨⟨o,I.kIn p o hk,hc⟩,fun a e=>?_⟩
      cases e
      exact⟨o,I.kIn _ o hk,hd⟩
    · have z:∃o,s.heap.get? p=some o/\o.ExactDict:=by
        rcases hk with ⟨kvs,hk⟩ | ⟨kvs,hk⟩
        · obtain⟨_,_,_,_,o,_,_,e,ex,_⟩:=I.hok p _ hk
          exact⟨o,e,ex⟩
        · obtain⟨_,_,_,_,o,_,_,e,ex,_⟩:=I.hok p _ hk
          exact⟨o,e,ex⟩
      obtain⟨o,e,ex⟩:=z
      refine⟨⟨o,e,ex.1⟩,fun a e2=>?_⟩
      cases e2
      exact⟨o,e,ex.2.1⟩
    · obtain⟨o,_,_,_,e,ex,_⟩:=I.hok p _ hk
      refine⟨⟨o,e,ex.1⟩,fun a e2=>?_⟩
      cases e2
      exact⟨o,e,ex.2.1⟩
  | _=>exact False.elim ty
def tBM (K:PySem.W.Frag) (T:String) (r:V->List V->Hp->VK->Prop) (to:TE) (t:TA):TE:=fun σ H Q=>to σ H fun x H1=>tyV K T x H1/\t σ H1 fun xs H2=>r x xs H2 Q
variable {o e:Expr}{es:List Expr}{to:TE}{t:TA}{name:Str}{apos cpos:Pos}{T id:String}{r:V->List V->Hp->VK->Prop}
theorem zvr (pa:PlainAttrs T) (slot:Slot T name id) (hty:typeOf (.builtin id)=pure (.type "method_descriptor")) (hm:MtR X id r) (ho:PE X o to) (ha:PA X (e::es) t)
    (hbase:attributeBase o name X.env (eval o X.env)=eval o X.env:=by rfl)
    (hfew:((backTo cpos (starEach (e::es) X.env)).all (fun x=>!x.1)&&(backToKw cpos (keywordEach [] X.env)).all (fun x=>x.1.isSome)
      && decide ((e::es).length+([]:List Keyword).length+(if ([]:List Keyword).isEmpty then 0 else 1)<30))=true:=by rfl)
    (hline:(apos.endLine == cpos.line)=true:=by rfl) (hs:starEach (e::es) X.env=(false,eval e X.env)::starEach es X.env:=by rfl) (hplain:(backTo cpos (starEach es X.env)).any (·.1)=false:=by rfl) :
    PE X (.Call (.Attribute o name apos) (e::es) [] cpos) (tBM X.K T r to t):=by
  intro pins s σ H Q I h
  refine wpAny_Call_method_late hbase hfew hline rfl (thn (ho pins s σ H _ I h) fun v s1 hq0=>?_)
  obtain⟨x,H1,I1,r1,ty,q1⟩:=hq0
  obtain⟨h1,h2⟩:=zuc I1 r1 ty
  refine⟨T,id,pa,slot,hty,h1,h2,?_⟩
  have hA:=ha cpos pins s1 σ H1 _ I1 q1
  rw[hs] at hA ⊢
  refine Calls.callWith_builtin (by show (false||(backTo cpos (starEach es X.env)).any (·.1))=false;rw[hplain]<;>rfl) (Calls.evalArgs_plain ?_)
  exact thn hA fun us s2 ⟨vs,H2,I2,r2,q2⟩=>hm pins s2 σ H2 x vs v us Q I2 r1 r2 q2
end
def MtM (X:Cx) (id:String) (r:V->List V->Hp->VK->Prop):Prop:=
  ∀(pins:List (Addr×Obj)) (s:Shared) (σ:St) (H:Hp) (x:V) (xs:List V) (v:Value) (us:List Value) (Q:VK),Inv X pins σ H s->RelV x v->Vals xs us->r x xs H Q->
    wpAny (model X.prog X.w) X.A (call (.builtin id) (v::us)) (EP X pins σ Q) X.xe s
theorem Vals.one:∀{x:V}{us:List Value},Vals [x] us->∃u,us = [u]/\RelV x u
  | _,_,.cons r .nil=>⟨_,rfl,r⟩
section
variable {X:Cx}{pins:List (Addr×Obj)}{σ:St}{H:Hp}{s:Shared}{l b:Addr}{xs ys zs:List V}
theorem Inv.lset {its its':List Value}{n:Nat}{f:Array Value->Array Value}{t':Nat}(I:Inv X pins σ H s) (hH:H l=some (.lst xs))
    (e:s.heap.get? l=some { cls:=.type "list",data:=.seq its.toArray n }) (hf:f its.toArray=its'.toArray) (hv:Vals ys its') (hz:ys.length<=sizeLine) :
    Inv X pins σ (upd H l (.lst ys)) { s with heap:=s.heap.update l (Obj.mapSeq f),toks:=t' }:=by
  have q:=PySem.IsL.update e f
  rw[hf] at q
  refine I.write (x:=l) (e:=l) (by rw[hH];exact trivial) (.inl rfl) (fun b' u hb hu=>(Heap.get?_update_other s.heap (Obj.mapSeq f) (Ne.symm hb)).trans hu) ⟨_,q⟩ ?_
  exact⟨hz,its',_,hv,q⟩
theorem Inv.lnew {its:List Value}{t':Nat}(I:Inv X pins σ H s) (hv:Vals ys its) (hz:ys.length<=sizeLine) :
    Inv X pins σ (upd H s.heap.objs.size (.lst ys)) { s with heap:=s.heap.push { cls:=.type "list",data:=.seq its.toArray },toks:=t' }:=
  I.laid (fun _ _ q=>Heap.get?_push_of_some _ q) (Nat.le_refl _) ⟨hz,its,0,hv,Heap.get?_push_size _ rfl⟩
theorem Inv.fresh (I:Inv X pins σ H s):H s.heap.objs.size=none:=I.hok.fresh (Nat.le_refl _)
theorem Inv.lstM (I:Inv X pins σ H s) (hH:H l=some (.lst xs)):xs.length<=sizeLine/\∃(its:List Value) (n:Nat),Vals xs its/\xs.length=its.length/\s.heap.get? l=some { cls:=.type "list",data:=.seq its.toArray n }:=by
  obtain⟨z,its,n,r,e⟩:=I.hok l _ hH
  exact⟨z,its,n,r,r.length,e⟩
theorem zvj {n:Nat}(h:n<=sizeLine):Builtin.List.listTooLong n=false:=by
  unfold Builtin.List.listTooLong
  exact decide_eq_false (by omega)
end
section
variable {X:Cx}
def zr3:V->List V->Hp->VK->Prop:=fun x vs H Q=>∃l xs y,x = .ref l/\vs = [y]/\H l=some (.lst xs)/\xs.length<sizeLine/\Q .non (upd H l (.lst (xs++[y])))
theorem zbt:MtM X "list.append" zr3:=by
  intro pins s σ H x vs v us Q I rx rv h
  obtain⟨l,xs,y,rfl,rfl,hH,hz,q⟩:=h
  cases rx
  obtain⟨u,rfl,ru⟩:=rv.one
  obtain⟨z,its,n,r,hl,e⟩:=I.lstM hH
  refine call_meets F.slot_list_append ⟨_,e,rfl⟩ F.entry_list_append (F.args_list_append_2 _ _) (PySem.list_append l its.toArray n u (by rw[List.size_toArray];omega)) ⟨e,?_⟩
  refine⟨.non,_,I.lset (its':=its++[u]) hH e (by simp) (r.append (.cons ru .nil)) ?_,rfl,q⟩
  rw[List.length_append,List.length_singleton]
  omega
def rCat:R2:=fun x y H Q=>∃l b xs zs,x = .ref l/\y = .ref b/\H l=some (.lst xs)/\H b=some (.lst zs)/\xs.length+zs.length<=sizeLine/\∀p,H p=none->Q (.ref p) (upd H p (.lst (xs++zs)))
theorem znb:OpR X (binaryOp .Add) rCat:=by
  intro pins s σ H x y v u Q I rx ry h
  obtain⟨l,b,xs,zs,rfl,rfl,hH,hB,hz,q⟩:=h
  cases rx
  cases ry
  obtain⟨z,its,n,r,hl,e⟩:=I.lstM hH
  obtain⟨z2,its2,n2,r2,hl2,e2⟩:=I.lstM hB
  refine PySem.P.add_list e e2 ?_ (by rw[List.size_toArray,List.size_toArray];omega)
  have ea:its.toArray++its2.toArray=(its++its2).toArray:=by simp
  rw[ea]
  exact⟨.ref _,_,I.lnew (t':=s.toks) (r.append r2) (by rw[List.length_append];omega),rfl,q _ I.fresh⟩
end
section
variable {κ:Type} [DecidableEq κ]
def valV (kvs:List (κ×V)) (k:κ):Option V:=(kvs.find? fun kv=>decide (kv.1=k)).map (·.2)
def putK (kvs:List (κ×V)) (k:κ) (v:V):List (κ×V):=
  if (kvs.any fun kv=>decide (kv.1=k))=true then kvs.map (fun kv=>if kv.1=k then (kv.1,v) else kv) else kvs++[(k,v)]
theorem zhy {p:κ×V}{r:List (κ×V)}{k:κ}(e:p.1=k):valV (p::r) k=some p.2:=by simp[valV,List.find?_cons,e]
theorem zhz {p:κ×V}{r:List (κ×V)}{k:κ}(e:¬p.1=k):valV (p::r) k=valV r k:=by simp[valV,List.find?_cons,e]
theorem zfk (k:κ):∀kvs:List (κ×V),(kvs.any fun kv=>decide (kv.1=k))=(valV kvs k).isSome
  | []=>rfl
  | p::r=>by
    rw[List.any_cons]
    by_cases e:p.1=k
    · simp only [zhy e,decide_eq_true e,Bool.true_or,Option.isSome_some]
    · rw[zhz e,decide_eq_false e,Bool.false_or];exact zfk k r
theorem zfv (kvs:List (κ×V)) (k:κ) (v:V):(putK kvs k v).length<=kvs.length+1:=by
  unfold putK
  split
  · rw[List.length_map];omega
  · rw[List.length_append,List.length_cons,List.length_nil];omega
theorem zpd {kvs:List (κ×V)}{k:κ}(v:V) (h:valV kvs k=none):putK kvs k v=kvs++[(k,v)]:=by
  unfold putK
  rw[zfk,h]
  exact if_neg (by decide)
theorem RelO.isSome_eq {o:Option V}{u:Option Value}(r:RelO o u):o.isSome=u.isSome:=by
  cases o with
  | none=>cases u with
    | none=>rfl
    | some _=>exact (show False from r).elim
  | some _=>cases u with
    | none=>exact (show False from r).elim
    | some _=>rfl
theorem KV.val {kvs:List (κ×V)}{vs:List (κ×Value)}(r:KV kvs vs) (k:κ):RelO (valV kvs k) (valueAt vs k):=by
  unfold KV at r
  induction r with
  | nil=>exact True.intro
  | @cons p q ps qs h t ih=>
    obtain⟨h1,h2⟩:=h
    by_cases e:p.1=k
    · have e':q.1=k:=h1.symm.trans e
      have b:valueAt (q::qs) k=some q.2:=by simp[valueAt,List.find?_cons,e']
      rw[zhy e,b];exact h2
    · have e':¬q.1=k:=fun z=>e (h1.trans z)
      have b:valueAt (q::qs) k=valueAt qs k:=by simp[valueAt,List.find?_cons,e']
      rw[zhz e,b];exact ih
theorem KV.any {kvs:List (κ×V)}{vs:List (κ×Value)}(r:KV kvs vs) (k:κ):(kvs.any fun kv=>decide (kv.1=k))=vs.any fun kv=>decide (kv.1=k):=by
  unfold KV at r
  induction r with
  | nil=>rfl
  | cons h t ih=>rw[List.any_cons,List.any_cons,ih,h.1]
theorem KV.repl {kvs:List (κ×V)}{vs:List (κ×Value)}(r:KV kvs vs) (k:κ) {y:V}{u:Value}(ry:RelV y u) :
    KV (kvs.map fun kv=>if kv.1=k then (kv.1,y) else kv) (vs.map fun kv=>if kv.1=k then (kv.1,u) else kv):=by
  unfold KV at r ⊢
  induction r with
  | nil=>exact .nil
  | @cons p q ps qs h t ih=>
    rw[List.map_cons,List.map_cons]
    refine .cons ?_ ih
    obtain⟨h1,h2⟩:=h
    by_cases e:p.1=k
    · rw[if_pos e,if_pos (h1.symm.trans e)];exact⟨h1,ry⟩
    · rw[if_neg e,if_neg (fun z=>e (h1.trans z))];exact⟨h1,h2⟩
theorem KV.put {kvs:List (κ×V)}{vs:List (κ×Value)}(r:KV kvs vs) (k:κ) {y:V}{u:Value}(ry:RelV y u):KV (putK kvs k y) (stored vs k u):=by
  unfold putK stored
  rw[r.any k]
  by_cases e:(vs.any fun kv=>decide (kv.1=k))=true
  · rw[if_pos e,if_pos e];exact r.repl k ry
  · rw[if_neg e,if_neg e];exact Paired.snoc r ⟨rfl,ry⟩
theorem KV.length {kvs:List (κ×V)}{vs:List (κ×Value)}(r:KV kvs vs):kvs.length=vs.length:=Paired.length r
end
theorem zpe {P:Program}{w:World}{k:Key}{u:Value}(r:RelV (kV k) u):(zbq P w).is k u=true:=by
  cases k with
  | inl i=>obtain⟨t,e⟩:=(show ∃t,u=Value.int i t from r);subst e;exact zjy P w i t
  | inr x=>obtain⟨t,e⟩:=(show ∃t,u=Value.str x t from r);subst e;exact zjz P w x t
theorem zi6 {P:Program}{w:World}:∀{ks:List Key}{us:List Value},Vals (ks.map kV) us->ItemsAre (zbq P w) ks us
  | [],_,r=>by rw[List.map_nil] at r;cases r;exact .nil
  | k::ks,_,r=>by
    rw[List.map_cons] at r
    cases r with
    | cons h t=>exact .cons (zpe h) (zi6 t)
abbrev KT (H:Hp):List (List Key×V)->List (List Key×Addr×Value)->Prop:=Paired fun p q=>p.1=q.1/\H q.2.1=some (.tup (p.1.map kV))/\RelV p.2 q.2.2
theorem KT.val {H:Hp}{kvs:List (List Key×V)}{xs:List (List Key×Addr×Value)}(r:KT H kvs xs) (k:List Key):RelO (valV kvs k) ((atKey xs k).map (·.2)):=by
  induction r with
  | nil=>exact True.intro
  | @cons p q ps qs h t ih=>
    obtain⟨h1,_,h2⟩:=h
    by_cases e:p.1=k
    · have e':q.1=k:=h1.symm.trans e
      have b:atKey (q::qs) k=some q.2:=by simp[atKey,List.find?_cons,e']
      rw[zhy e,b];exact h2
    · have e':¬q.1=k:=fun z=>e (h1.trans z)
      have b:atKey (q::qs) k=atKey qs k:=by simp[atKey,List.find?_cons,e']
      rw[zhz e,b];exact ih
theorem KT.repl {H:Hp}{kvs:List (List Key×V)}{xs:List (List Key×Addr×Value)}(r:KT H kvs xs) (k:List Key) {y:V}{u:Value}(ry:RelV y u) :
    KT H (kvs.map fun kv=>if kv.1=k then (kv.1,y) else kv) (xs.map (putAt k u)):=by
  induction r with
  | nil=>exact .nil
  | @cons p q ps qs h t ih=>
    rw[List.map_cons,List.map_cons]
    refine .cons ?_ ih
    obtain⟨h1,h2,h3⟩:=h
    unfold putAt
    by_cases e:p.1=k
    · rw[if_pos e,if_pos (h1.symm.trans e)];exact⟨h1,h2,ry⟩
    · rw[if_neg e,if_neg (fun z=>e (h1.trans z))];exact⟨h1,h2,h3⟩
theorem KT.put {H:Hp}{kvs:List (List Key×V)}{xs:List (List Key×Addr×Value)}(r:KT H kvs xs) (k:List Key) {b:Addr}{y:V}{u:Value}(hb:H b=some (.tup (k.map kV))) (ry:RelV y u) :
    KT H (putK kvs k y) (storedH xs k b u):=by
  have e:(kvs.any fun kv=>decide (kv.1=k))=(atKey xs k).isSome:=by
    rw[zfk,(r.val k).isSome_eq,Option.isSome_map]
  unfold putK storedH
  rw[e]
  by_cases q:(atKey xs k).isSome=true
  · rw[if_pos q,if_pos q];exact r.repl k ry
  · rw[if_neg q,if_neg q];exact Paired.snoc r ⟨rfl,hb,ry⟩
theorem KT.keeps {H H':Hp}{kvs:List (List Key×V)}{xs:List (List Key×Addr×Value)}(r:KT H kvs xs) (ht:∀b ys,H b=some (.tup ys)->H' b=some (.tup ys)):KT H' kvs xs:=
  Paired.mapP r fun _ _ z=>⟨z.1,ht _ _ z.2.1,z.2.2⟩
section
variable {P:Program}{w:World}{H:Hp}{h:Heap}{a:Addr}
theorem zud {u:HO}(ok:HOk P w H h) (e:Rd H a u):ObjOk P w H h a u:=e.ok ok
theorem zr4 {kvs:List (Key×V)}(ok:HOk P w H h) (e:Rd H a (.dK kvs)):kvs.length<=sizeLine/\(a == sysModules)=false/\∃vs,KV kvs vs/\h.DictOf (zbq P w) a vs:=
  show ObjOk P w H h a (.dK kvs) from zud ok e
theorem zvs {kvs:List (Key×V)}(ok:HOk P w H h) (e:H a=some (.dK kvs)):kvs.length<=sizeLine/\(a == sysModules)=false/\∃vs,KV kvs vs/\h.DictOf (zbq P w) a vs:=zr4 ok (.inl e)
theorem zky {ks:List Key}(ok:HOk P w H h) (e:H a=some (.tup (ks.map kV))):(tupleKind (zbq P w)).is h ks a:=by
  obtain⟨_,its,r,o,h1,h2,n,h3⟩:=(show ObjOk P w H h a (.tup (ks.map kV)) from ok a _ e)
  exact⟨o,its.toArray,n,h1,h2,h3,by simpa using zi6 r⟩
theorem zr5 {kvs:List (List Key×V)}(ok:HOk P w H h) (e:Rd H a (.dT kvs)):kvs.length<=sizeLine/\(a == sysModules)=false/\
    ∃xs,KT H kvs xs/\h.DictOfH (tupleKind (zbq P w)) a xs:=by
  obtain⟨z,y,xs,r,o,es,ep,h1,h2,h3,h4,h5⟩:=(show ObjOk P w H h a (.dT kvs) from zud ok e)
  refine⟨z,y,xs,r,o,es,ep,h1,h2,h3,h4,fun x hx=>?_,h5⟩
  have all:∀{l:List (List Key×V)}{m:List (List Key×Addr×Value)},KT H l m->∀x∈m,(tupleKind (zbq P w)).is h x.1 x.2.1:=by
    intro l m q
    induction q with
    | nil=>intro x hx;exact nomatch hx
    | @cons p q ps qs hq t ih=>
      intro x hx
      rcases List.mem_cons.mp hx with e | hx
      · subst e
        exact zky ok (by rw[←hq.1];exact hq.2.1)
      · exact ih x hx
  exact all r x hx
theorem zvt {kvs:List (List Key×V)}(ok:HOk P w H h) (e:H a=some (.dT kvs)):kvs.length<=sizeLine/\(a == sysModules)=false/\
    ∃xs,KT H kvs xs/\h.DictOfH (tupleKind (zbq P w)) a xs:=zr5 ok (.inl e)
end
def DGet (H:Hp) (a:Addr) (y:V) (r:Option V):Prop:=
  (∃kvs k,Rd H a (.dK kvs)/\y=kV k/\r=valV kvs k)\/∃kvs k b,Rd H a (.dT kvs)/\y = .ref b/\H b=some (.tup (k.map kV))/\r=valV kvs k
def DPut (H:Hp) (a:Addr) (y v:V) (H':Hp):Prop:=
  (∃kvs k,H a=some (.dK kvs)/\y=kV k/\kvs.length<sizeLine/\H'=upd H a (.dK (putK kvs k v)))\/
  ∃kvs k b,H a=some (.dT kvs)/\y = .ref b/\H b=some (.tup (k.map kV))/\kvs.length<sizeLine/\H'=upd H a (.dT (putK kvs k v))
theorem DGet.k {H:Hp}{a:Addr}{kvs:List (Key×V)}{k:Key}(e:H a=some (.dK kvs)):DGet H a (kV k) (valV kvs k):=.inl ⟨kvs,k,.inl e,rfl,rfl⟩
theorem DPut.k {H:Hp}{a:Addr}{kvs:List (Key×V)}{k:Key}{v:V}(e:H a=some (.dK kvs)) (hl:kvs.length<sizeLine):DPut H a (kV k) v (upd H a (.dK (putK kvs k v))):=.inl ⟨kvs,k,e,rfl,hl,rfl⟩
section
variable {X:Cx}{pins:List (Addr×Obj)}{σ:St}{H:Hp}{s:Shared}{a:Addr}{y v:V}{u r:Value}{o:Option V}{A:Around}{E:Value->Shared->Prop}
theorem Inv.big (I:Inv X pins σ H s):sysModules<s.heap.objs.size:=by
  have h:mainGlobals<s.heap.objs.size:=(I.mod.glob.keeps I.bk).lt
  exact Nat.lt_trans (by decide) h
theorem d_in {Q:Value->Shared->Prop}(hu:A.units+1<cLine) (I:Inv X pins σ H s) (g:DGet H a y o) (ry:RelV y u) (h:∀s',Inv X pins σ H s'->Q (.bool o.isSome) s') :
    wpAny (model X.prog X.w) A (compareOp .In u (.ref a)) Q E s:=by
  rcases g with ⟨kvs,k,e,ey,l⟩ | ⟨kvs,k,b,e,ey,eb,l⟩
  · subst ey
    obtain⟨z,hd,vs,rel,dd⟩:=zr4 I.hok e
    refine wpAny_in_of (zpe ry) hd dd.mapOf ?_
    rw[←(rel.val k).isSome_eq,←l]
    exact h _ (I.tok _)
  · subst ey
    cases (show u=Value.ref b from ry)
    obtain⟨z,hd,xs,rel,dd⟩:=zr5 I.hok e
    refine wpAny_in_heap (tupleKind_room_in1 hu) (zky I.hok eb) hd dd ?_
    have q:=(rel.val k).isSome_eq
    rw[Option.isSome_map] at q
    rw[←q,←l]
    exact h _ (I.tok _)
theorem zr6 {Q:Value->Shared->Prop}(hu:A.units+1<cLine) (I:Inv X pins σ H s) (g:DGet H a y o) (ry:RelV y u) (h:∀s',Inv X pins σ H s'->Q (.bool (!o.isSome)) s') :
    wpAny (model X.prog X.w) A (compareOp .NotIn u (.ref a)) Q E s:=by
  rcases g with ⟨kvs,k,e,ey,l⟩ | ⟨kvs,k,b,e,ey,eb,l⟩
  · subst ey
    obtain⟨z,hd,vs,rel,dd⟩:=zr4 I.hok e
    refine wpAny_notIn_of (zpe ry) hd dd.mapOf ?_
    rw[←(rel.val k).isSome_eq,←l]
    exact h _ (I.tok _)
  · subst ey
    cases (show u=Value.ref b from ry)
    obtain⟨z,hd,xs,rel,dd⟩:=zr5 I.hok e
    refine wpAny_notIn_heap (tupleKind_room_in1 hu) (zky I.hok eb) hd dd ?_
    have q:=(rel.val k).isSome_eq
    rw[Option.isSome_map] at q
    rw[←q,←l]
    exact h _ (I.tok _)
theorem znc {h':Heap}{t':Nat}{ob:HO}(I:Inv X pins σ H s) (mu:Mut (H a)) (hs:Heap.SameBut a s.heap h') (he:∃q,h'.get? a=some q) (new:ObjOk X.prog X.w (upd H a ob) h' a ob) :
    Inv X pins σ (upd H a ob) { s with heap:=h',toks:=t' }:=
  I.write (x:=a) (e:=a) mu (.inl rfl) (fun b q hb z=>(hs.2 b hb).trans z) he new
theorem zue {P:Program}{w:World}{H':Hp}{h':Heap}{kvs:List (Key×V)}{vs:List (Key×Value)}(z:kvs.length<=sizeLine) (hd:(a == sysModules)=false) (rel:KV kvs vs) (dd:h'.DictOf (zbq P w) a vs) :
    ObjOk P w H' h' a (.dK kvs):=⟨z,hd,vs,rel,dd⟩
theorem znd {H':Hp}{Q:Unit->Shared->Prop}(hu:A.units+1<cLine) (I:Inv X pins σ H s) (g:DPut H a y v H') (ry:RelV y u) (rv:RelV v r) (h:∀s',Inv X pins σ H' s'->Q () s') :
    wpAny (model X.prog X.w) A (setItem (.ref a) u r) Q E s:=by
  rcases g with ⟨kvs,k,e,ey,l,eH⟩ | ⟨kvs,k,b,e,ey,eb,l,eH⟩
  · subst ey eH
    obtain⟨z,hd,vs,rel,dd⟩:=zvs I.hok e
    have hz:vs.length<=sizeLine:=by rw[←rel.length];exact z
    have hl:(putK kvs k v).length<=sizeLine:=by have:=zfv kvs k v;omega
    refine wpAny_setItem_pairs (hsz:=hz) (zpe ry) dd fun h' dd' hs=>h _ ?_
    have he:∃q,h'.get? a=some q:=let ⟨q,_,_,hq,_⟩:=dd';⟨q,hq⟩
    exact znc I (by rw[e];exact True.intro) hs he (zue hl hd (rel.put k rv) dd')
  · subst ey eH
    cases (show u=Value.ref b from ry)
    obtain⟨z,hd,xs,rel,dd⟩:=zvt I.hok e
    have hz:xs.length<=sizeLine:=by rw[←Paired.length rel];exact z
    have hl:(putK kvs k v).length<=sizeLine:=by have:=zfv kvs k v;omega
    refine wpAny_setItem_heap (hsz:=hz) (tupleKind_room_in1 hu) (zky I.hok eb) dd fun h' dd' hs=>h _ ?_
    obtain⟨q,es,ep,hq,h2,h3,h4,_,h5⟩:=dd'
    refine znc I (by rw[e];exact True.intro) hs ⟨q,hq⟩ ⟨hl,hd,_,(rel.put k eb rv).keeps fun c ys ec=>?_,q,es,ep,hq,h2,h3,h4,h5⟩
    rw[zj (zhq ec e (fun z=>nomatch z))]
    exact ec
end
def tDIn (ty td:TE):TE:=fun σ H Q=>ty σ H fun y H1=>td σ H1 fun x H2=>∃a o,x = .ref a/\DGet H2 a y o/\Q (.bl o.isSome) H2
def zr7 (ty td:TE):TE:=fun σ H Q=>ty σ H fun y H1=>td σ H1 fun x H2=>∃a o,x = .ref a/\DGet H2 a y o/\Q (.bl (!o.isSome)) H2
def zvu (td ty tv:TE):TS:=fun D σ H=>tv σ H fun v H1=>td σ H1 fun x H2=>ty σ H2 fun y H3=>∃a H4,x = .ref a/\DPut H3 a y v H4/\D.nx σ H4
section
variable {X:Cx}{o i e value:Expr}{pos pos' tpos:Pos}{td ty tv:TE}
theorem zuf (hu:X.A.units+1<cLine) (hi:PE X i ty) (ho:PE X o td):PC X .In i o (tDIn ty td):=by
  intro pins s σ H Q I h
  refine thn (hi pins s σ H _ I h) fun iv s1 ⟨y,H1,I1,ry,q1⟩=>thn (ho pins s1 σ H1 _ I1 q1) fun u s2 hq0=>?_
  obtain⟨x,H2,I2,rx,a,ov,ex,g,q2⟩:=hq0
  subst ex
  obtain rfl:u=Value.ref a:=rx
  exact d_in hu I2 g ry fun s3 I3=>⟨.bl ov.isSome,H2,I3,rfl,q2⟩
theorem zi7 (hu:X.A.units+1<cLine) (hi:PE X i ty) (ho:PE X o td):PC X .NotIn i o (zr7 ty td):=by
  intro pins s σ H Q I h
  refine thn (hi pins s σ H _ I h) fun iv s1 ⟨y,H1,I1,ry,q1⟩=>thn (ho pins s1 σ H1 _ I1 q1) fun u s2 hq0=>?_
  obtain⟨x,H2,I2,rx,a,ov,ex,g,q2⟩:=hq0
  subst ex
  obtain rfl:u=Value.ref a:=rx
  exact zr6 hu I2 g ry fun s3 I3=>⟨.bl (!ov.isSome),H2,I3,rfl,q2⟩
theorem zr8 (hu:X.A.units+1<cLine) (ho:PE X o td) (hi:PE X i ty) (hv:PE X value tv) (hs:swapsWith value (some (.Subscript o i pos')) pos.line X.env=pure false) :
    PS X (.Assign [.Subscript o i pos'] value pos) (zvu td ty tv):=by
  intro pins s σ H D I h
  refine wpAny_Assign_Subscript (thn (hv pins s σ H _ I h) fun r s1 ⟨v,H1,I1,rv,q1⟩=>thn (ho pins s1 σ H1 _ I1 q1) fun u s2 ⟨x,H2,I2,rx,q2⟩=>thn (hi pins s2 σ H2 _ I2 q2) fun iv s3 hq0=>?_) hs
  obtain⟨y,H3,I3,ry,a,H4,ex,g,q3⟩:=hq0
  subst ex
  obtain rfl:u=Value.ref a:=rx
  exact znd hu I3 g ry rv fun s4 I4=>⟨σ,H4,I4,q3⟩
end
theorem zpf {P:Program}{w:World}{H:Hp}(h:Heap) (hb:sysModules<h.objs.size):ObjOk P w H (h.push { cls:=.type "dict",data:=.dict #[] }) h.objs.size (.dK []):=
  ⟨Nat.zero_le _,beq_eq_false_iff_ne.mpr (Ne.symm (Nat.ne_of_lt hb)),[],.nil,Heap.DictOf.new h⟩
def zug:TE:=fun _ H Q=>∀p,H p=none->Q (.ref p) (upd H p (.dK []))
section
variable {X:Cx}{pos:Pos}
theorem zpg:PE X (.Dict [] [] pos) zug:=fun pins s σ H Q I h=>
  wpAny_Dict_empty ⟨.ref s.heap.objs.size,_,I.laid (a:=s.heap.objs.size) (o:=.dK []) (t':=s.toks) (fun _ _ q=>Heap.get?_push_of_some _ q) (Nat.le_refl _) (zpf s.heap I.big),rfl,h _ (I.hok.fresh (Nat.le_refl _))⟩
end
end L2
namespace Att
open PySem PySem.W PySem.Calls PyProof.Rows
theorem zfw {P:Params}{h:Heap}:∀(ns:List Int) (vs:List Value),WellAll P h vs (ns.map WData.int)->IntsAre vs ns:=by
  intro ns
  induction ns with
  | nil=>
    intro vs w
    rw[List.map_nil] at w
    cases w
    exact .nil
  | cons n ns ih=>
    intro vs w
    rw[List.map_cons] at w
    cases w with
    | cons a b=>
      cases a
      exact .cons _ _ (ih _ b)
theorem zne {l:OpenLaw}{n:Nat}(hn:l.most=some n) {P:Params}{h:Heap}{args:List WData}{vals:List Value}
    (hpre:l.row.toRowW.claim.pre args=true) (hwl:WellAll P h vals args) :
    ∃a vs ns,vals = [Value.ref a]/\args = [WData.list (ns.map WData.int)]/\h.get? a=some { cls:=.type "list",data:=.seq vs.toArray }/\IntsAre vs ns/\ns.length<=n:=by
  have hsh:WShape.hasAll [] args [.list .int]=true:=(pre_splitW hpre).1
  have hc:l.pre.holds [] { args:=args } = true:=(pre_splitW hpre).2
  obtain⟨d,r,rfl,h1,h2⟩:=hasAllW_cons hsh
  obtain rfl:=hasAllW_nil h2
  obtain⟨xs,rfl,h3⟩:=hasW_list h1
  obtain⟨ns,rfl⟩:=items_int h3
  have hlen:ns.length<=n:=by
    unfold OpenLaw.pre at hc
    have h4:(WTm.not (.lt (.lit (.int (n:Int))) (.len (.arg 0)))).holds [] { args:=[.list (ns.map .int)] } = true:=by
      have h4:=(holds_andW hc).1
      rw[hn] at h4
      exact h4
    have h5:=condW_of h4 (w_not (w_lt w_lit (w_len_list (w_arg rfl))))
    rw[List.length_map] at h5
    refine Nat.le_of_not_lt fun q=>?_
    have q':(n:Int)<((ns.length:Nat):Int):=by omega
    first
      | (rw[decide_eq_true q'] at h5;exact absurd h5 (by decide))
      | (simp at h5;omega)
  cases hwl with
  | cons w1 w2=>
    cases w2
    cases w1 with
    | list ho hall=>exact⟨_,_,ns,rfl,rfl,ho,zfw ns _ hall,hlen⟩
theorem znf (l:OpenLaw) (args:List WData):l.row.toRowW.claim.post args (.bool true) args=true:=
  postW_of (r:=l.row.toRowW) (X:=(true == true))
    (show WShape.has [] (.bool true) .bool=true by first | rfl | decide | simp[WShape.has,WShape.arms,WShape.armsAll])
    (show (WTm.eq .res (.lit (.bool true))).value [] { args:=args,res:=some (.bool true),after:=args } = some (.bool (true == true)) from w_eq_bool (w_res rfl) w_lit) rfl
theorem attach_call {l:OpenLaw}{n:Nat}{q:Program}{loose:List Str}{XP:(Str->Option Value)->Heap->Prop}{YP:World->Heap->Prop}{d:DefRec}
    (hn:l.most=some n) (hdf:d.params.defaults = [])
    (call:∀(w:World) (s₀ s₁:Shared) (mg mb:Str->Option Value) (fa:Addr) (o:Obj) (pm cd doc:Value) (a:Addr) (vs:List Value) (ns:List Int),
      Ground q loose [] XP w s₀ mg mb s₁.heap->YP w s₁.heap->
      s₁.heap.get? fa=some o->o.data = .func (docDef d.name d.params d.body d.scope pm cd doc)->s₁.heap.CodeRec cd d.name->mg d.name=some (.ref fa)->
      s₁.heap.get? a=some { cls:=.type "list",data:=.seq vs.toArray }->IntsAre vs ns->ns.length<=n->s₁.gens = #[]->
      codeAny (model l.prog w) callerA (.call (.ref fa) ⟨[.ref a],[]⟩) (fun r s'=>r = .ok (.ret (.bool true))/\OldK s₁.heap s'.heap/\s'.os=s₁.os/\AllBare s'.gens) s₁) :
    WalkO q loose XP YP l.row.toRowW d [] (fun f vs=>PySem.call f vs):=by
  intro w s₀ s₁ mg mb G Y fa o pm cd doc dV kV ho hd hcd hD hmg hg args vals as hpre hlay hrd hwl hlo
  obtain rfl:dV = .none:=Dflts.none hD hdf
  obtain rfl:kV = .none:=Dflts.noKw hD
  obtain⟨a,vs,ns,rfl,rfl,hobj,hints,hlen⟩:=zne hn hpre hwl
  refine enter_call (codeAny_mono (call w s₀ s₁ mg mb fa o pm cd doc a vs ns G Y ho (fd_plain hd) hcd hmg hobj hints hlen hg) fun r s' hq=>?_)
  obtain⟨rfl,h2,h3,h4⟩:=hq
  exact⟨.inl ⟨.bool true,.bool true,[],rfl,fun _=>rfl,.bool true,znf l _,fun _=>⟨List.Pairwise.nil,fun _ hm=>(nomatch hm)⟩⟩,h2,h3,h4⟩
end Att
namespace L2
open PySem PySem.Spec PyProof.Rows
theorem zi8:∀{vs:List Value}{ns:List Int},IntsAre vs ns->Vals (ns.map V.int) vs
  | _,_,.nil=>.nil
  | _,_,.cons n t h=>.cons ⟨t,rfl⟩ (zi8 h)
def Only (H:Hp):Prop:=∀b,H b=none\/∃o xs,H b=some (.frz o (.lst xs))
theorem zph {P:Program}{w:World}{K:PySem.W.Frag}{mg mb:Str->Option Value}{CX:CXT}{k:Nat}{fa a:Addr}{fd:FuncData}{x:Str}{sp:Sp}{s₁:Shared}{vs:List Value}{ns:List Int}
    (KX:K.In s₁.heap) (hns:s₁.heap.Ns mainGlobals mg) (hb:s₁.heap.Ns builtinsNs mb) (hbb:∀x:Str,x≠"__name__"->mb x=bootBuiltins x) (hlim:s₁.heap.NoLimit) (hg:s₁.gens = #[])
    (ha:s₁.heap.get? a=some { cls:=.type "list",data:=.seq vs.toArray }) (hi:IntsAre vs ns) (hl:ns.length<=sizeLine) (hr:Room k callerA)
    (F:∀base:Heap,K.In base->base.Ns mainGlobals mg->FnOk P w K mg base CX k fa fd [x] sp) (hbind:∀(s:Shared) (u:Value),BindsTo s fd ⟨[u],[]⟩ [(x,u)])
    (hsp:∀H:Hp,Only H->SqL K H a (ns.map V.int)->sp [.ref a] H (fun v _=>v = .bl true) fun _ _ _=>False)
    (hCX:∀H e s',CX [] H s₁ (fun _ _ _=>False) e s'->False) :
    codeAny (model P w) callerA (.call (.ref fa) ⟨[.ref a],[]⟩) (fun r s'=>r = .ok (.ret (.bool true))/\OldK s₁.heap s'.heap/\s'.os=s₁.os/\AllBare s'.gens) s₁:=by
  have rv:=zi8 hi
  have lenV:=hi.length
  have core:∀H:Hp,Only H->SqL K H a (ns.map V.int)->HOk P w H s₁.heap->(∀b,H b≠none->b=a)->(H a≠none->K.lookup a=none)->
      codeAny (model P w) callerA (.call (.ref fa) ⟨[.ref a],[]⟩) (fun r s'=>r = .ok (.ret (.bool true))/\OldK s₁.heap s'.heap/\s'.os=s₁.os/\AllBare s'.gens) s₁:=by
    intro H hO hS hok hA hK
    have base_of:∀{b:Addr}{o:Obj},s₁.heap.get? b=some o->H b=none->(hidT s₁.heap H).get? b=some o:=fun e n=>zo0 e n
    have noA:∀{b:Addr}{o:Obj}{es:Array DictEntry}{ep:Nat},s₁.heap.get? b=some o->o.data = .dict es ep->H b=none:=fun {b o es ep} e d=>by
      cases q:H b with
      | none=>rfl
      | some u=>
        have e':b=a:=hA b (by rw[q];simp)
        subst e'
        rw[ha] at e;cases e
        have d':Data.seq vs.toArray _=Data.dict es ep:=d
        cases d'
    have nsK:∀{b:Addr}{m:Str->Option Value},s₁.heap.Ns b m->(hidT s₁.heap H).Ns b m:=fun {b m} ⟨o,es,ep,e,d,r⟩=>⟨o,es,ep,base_of e (noA e d),d,r⟩
    have hKb:K.In (hidT s₁.heap H):=fun b o e=>base_of (KX b o e) (by
      cases q:H b with
      | none=>rfl
      | some u=>
        have e':b=a:=hA b (by rw[q];simp)
        subst e'
        rw[hK (by rw[q];simp)] at e;cases e)
    have hM:Mod K mg (hidT s₁.heap H):=⟨hKb,nsK hns,⟨mb,nsK hb,hbb⟩,let ⟨mc,h1,h2⟩:=hlim;⟨mc,nsK h1,h2⟩⟩
    have e0:Env0 P w K mg (hidT s₁.heap H) callerA [] s₁ H:=⟨rfl,hM,fun b o e=>zrm e,Nat.le_of_eq (zmy _ _),trivial,fun b hb=>absurd (show b∈([]:List Addr) from hb) (by simp),hok,.of_eq hg⟩
    refine codeAny_mono ((F _ hKb (nsK hns)).run callerA [] s₁ H ⟨[.ref a],[]⟩ [.ref a] [.ref a] _ _ hr e0 (hbind s₁ (.ref a)) (.cons rfl .nil) (hsp H hO hS)) fun r s' h=>?_
    cases r with
    | error e=>exact (hCX H e s' h).elim
    | ok fl=>
      cases fl with
      | next=>exact False.elim h
      | brk=>exact False.elim h
      | cont=>exact False.elim h
      | ret u=>
        obtain⟨v,H',os,bare,un,hok',r',q⟩:=h
        have q':v = .bl true:=q
        subst q'
        obtain rfl:u=Value.bool true:=r'
        refine⟨rfl,OldK.of_keep fun b o e=>?_,os,bare⟩
        cases q:H b with
        | none=>exact un.keep b o e q (by intro z;exact absurd (show b∈([]:List Addr) from z) (by simp)) (by simp)
        | some u=>
          rcases hO b with z | ⟨ob,xs,z⟩
          · rw[q] at z;cases z
          · have z2:=un.frzs b ob _ z
            obtain⟨e1,_⟩:=hok b _ z
            obtain⟨e2,_⟩:=hok' b _ z2
            rw[e] at e1;cases e1
            exact e2
  cases hk:K.lookup a with
  | some o=>
    have e:=KX a o hk
    rw[ha] at e
    cases e
    refine core (fun _=>none) (fun _=>.inl rfl) (.inr ⟨_,vs.toArray,_,hk,rfl,rfl,rfl,by rw[List.size_toArray,lenV];exact hl,by simpa using rv⟩) (fun b u z=>by have z':(none:Option HO)=some u:=z;cases z') (fun b z=>absurd rfl z) fun z=>absurd rfl z
  | none=>
    refine core (fun b=>if b=a then some (.frz { cls:=.type "list",data:=.seq vs.toArray } (.lst (ns.map V.int))) else none) (fun b=>?_) (.inl (.inr ⟨{ cls:=.type "list",data:=.seq vs.toArray },if_pos rfl⟩)) (fun b u z=>?_) (fun b z=>?_) fun _=>hk
    · by_cases hb:b=a
      · exact .inr ⟨_,_,if_pos hb⟩
      · exact .inl (if_neg hb)
    · by_cases hb:b=a
      · have z':=(if_pos hb).symm.trans z
        cases z'
        subst hb
        exact⟨ha,by rw[List.length_map];exact hl,vs,_,rv,ha⟩
      · have z':=(if_neg hb).symm.trans z
        cases z'
    · by_cases hb:b=a
      · exact hb
      · exact absurd (if_neg hb) z
abbrev KOf {K:PySem.W.Frag}{h:Heap}(_:K.In h):PySem.W.Frag:=K
theorem zr9 {l:PySem.W.OpenLaw}{n k:Nat}{q:Program}{loose:List Str}{XP:(Str->Option Value)->Heap->Prop}{YP:World->Heap->Prop}{d:DefRec}{K:Params->PySem.W.Frag}{CX:World->CXT}{sp:World->Sp}{x:Str}
    (hn:l.most=some n) (hn2:n<=sizeLine) (hdf:d.params.defaults = []) (hr:Room k callerA)
    (hY:∀(w:World) (h:Heap),YP w h->(K w.params).In h)
    (F:∀(w:World) (mg:Str->Option Value) (fa:Addr) (h:Heap),(K w.params).In h->h.Ns mainGlobals mg->mg d.name=some (.ref fa)->
      ∃fd:FuncData,(∀(s:Shared) (u:Value),BindsTo s fd ⟨[u],[]⟩ [(x,u)])/\
        ∀base:Heap,(K w.params).In base->base.Ns mainGlobals mg->FnOk l.prog w (K w.params) mg base (CX w) k fa fd [x] (sp w))
    (hsp:∀(w:World) (H:Hp) (a:Addr) (ns:List Int),ns.length<=n->Only H->SqL (K w.params) H a (ns.map V.int)->sp w [.ref a] H (fun v _=>v = .bl true) fun _ _ _=>False)
    (hCX:∀(w:World) (H:Hp) (s:Shared) (e:Value) (s':Shared),CX w [] H s (fun _ _ _=>False) e s'->False) :
    PySem.W.WalkO q loose XP YP l.row.toRowW d [] (fun f vs=>PySem.call f vs):=by
  refine Att.attach_call hn hdf fun w s₀ s₁ mg mb fa o pm cd doc a vs ns G Y ho hd hcd hmg hobj hints hlen hg=>?_
  have KX:=hY w _ Y
  obtain⟨fd,hb,hF⟩:=F w mg fa _ KX G.T.g hmg
  exact zph KX G.T.g G.T.b G.T.builtins G.T.nolimit hg hobj hints (Nat.le_trans hlen hn2) hr hF hb (fun H hO hS=>hsp w H a ns hlen hO hS) fun H e s'=>hCX w H s₁ e s'
theorem walk_ofK {l:PySem.W.OpenLaw}{n k:Nat}{q:Program}{loose:List Str}{XP:(Str->Option Value)->Heap->Prop}{YP:World->Heap->Prop}{d:DefRec}{K:Params->PySem.W.Frag}{CX:CXT}{sp:PySem.W.Frag->Sp}{x:Str}
    (hn:l.most=some n) (hn2:n<=sizeLine) (hdf:d.params.defaults = []) (hr:Room k callerA)
    (hY:∀(w:World) (h:Heap),YP w h->(K w.params).In h)
    (F:∀(w:World) (mg:Str->Option Value) (fa:Addr) (h:Heap),(K w.params).In h->h.Ns mainGlobals mg->mg d.name=some (.ref fa)->
      ∃fd:FuncData,(∀(s:Shared) (u:Value),BindsTo s fd ⟨[u],[]⟩ [(x,u)])/\
        ∀base:Heap,(K w.params).In base->base.Ns mainGlobals mg->FnOk l.prog w (K w.params) mg base CX k fa fd [x] (sp (K w.params)))
    (hsp:∀(K:PySem.W.Frag) (H:Hp) (a:Addr) (ns:List Int),ns.length<=n->Only H->SqL K H a (ns.map V.int)->sp K [.ref a] H (fun v _=>v = .bl true) fun _ _ _=>False)
    (hCX:∀(H:Hp) (s:Shared) (e:Value) (s':Shared),CX [] H s (fun _ _ _=>False) e s'->False) :
    PySem.W.WalkO q loose XP YP l.row.toRowW d [] (fun f vs=>PySem.call f vs):=
  zr9 (K:=K) (CX:=fun _=>CX) (sp:=fun w=>sp (K w.params)) hn hn2 hdf hr hY F (fun w H a ns h1 h2 h3=>hsp (K w.params) H a ns h1 h2 h3) fun _ H s e s'=>hCX H s e s'
def zbw (s:Stmt) (j:Nat):Stmt:=match s with
  | .ClassDef _ _ _ body _ _ _ _ _ _ _=>body.getD j (.Pass ⟨0,0,0,0⟩)
  | _=>.Pass ⟨0,0,0,0⟩
def zd1 (s:Stmt):Arguments:=match s with
  | .FunctionDef _ a _ _ _ _ _ _ _ _=>a
  | _=>{ posonlyargs:=[],args:=[],vararg:=none,kwonlyargs:=[],kw_defaults:=[],kwarg:=none,defaults:=[] }
def zb7 (s:Stmt):List Stmt:=match s with
  | .FunctionDef _ _ b _ _ _ _ _ _ _=>b
  | _=>[]
def zr (s:Stmt):Scope:=match s with
  | .FunctionDef _ _ _ _ _ _ sc _ _ _=>sc
  | _=>{ kind:=.function,names:=[],isGenerator:=false,isCoroutine:=false }
abbrev CX0:CXT:=fun _ _ _ _ _ _=>False
abbrev E0:XK:=fun _ _ _=>False
theorem zsa {X:Cx}:zfu CX0 X E0:=fun _ _ _ _ _ _ _ h=>h.elim
structure Fun (K:PySem.W.Frag) (x qual:Str) (st:Stmt) (f:Addr) (fd:FuncData):Prop where
  ex:∃(oc:Value) (od:Option Addr) (kV doc pm:Value) (an:Option Addr) (cdv ct:Value) (osl:Array (Option Value)),
    fd=PySem.W.fnOf x qual (zd1 st) (zb7 st) (zr st) .none kV doc pm an cdv ct/\K.lookup f=some ⟨oc,od,.func fd,osl⟩/\PySem.W.codeIn K cdv qual=true
  kp:PySem.W.keepIn K (.ref f)=true
section
variable {P:Program}{w:World}{K:PySem.W.Frag}{mg:Str->Option Value}{base:Heap}
theorem Fun.ok {x qual:Str}{st:Stmt}{f:Addr}{fd:FuncData}{N ps:List Str}{k:Nat}{sp:Sp}(F:Fun K x qual st f fd) (S:FnScope N ps (zr st)) (len:∀vs H Q E,sp vs H Q E->vs.length=ps.length)
    (hbody:∀(cdv:Value) (A:Around) (outer:List Env) (s:Shared) (H:Hp) (vs:List V) (Q:VK) (E:XK),Room k (A.deeper (envOfC qual (zr st) s.heap.objs.size f cdv))->sp vs H Q E->
      ∃t,PSs (cxOf CX0 P w K mg base N qual (zr st) f cdv A outer s H E).nox (zb7 st) t/\t { nx:=fun _ H'=>Q .non H',rt:=Q } (start N vs) H):FnOk P w K mg base CX0 (k+1) f fd ps sp:=by
  obtain⟨oc,od,kV,doc,pm,an,cdv,ct,osl,rfl,lk,hcd⟩:=F.ex
  refine zt8 lk hcd S len fun A outer s H vs Q E hr hsp=>?_
  obtain⟨t,h,q⟩:=hbody cdv A outer s H vs Q E hr hsp
  exact⟨t,h.nox,q⟩
theorem zq9 {x qual:Str}{st:Stmt}{f:Addr}{oc:Value}{od an:Option Addr}{osl:Array (Option Value)}{kV doc pm cdv ct:Value}(l:K.lookup f=some ⟨oc,od,.func (PySem.W.fnOf x qual (zd1 st) (zb7 st) (zr st) .none kV doc pm an cdv ct),osl⟩)
    (c:PySem.W.codeIn K cdv qual=true) (k:PySem.W.keepIn K (.ref f)=true):Fun K x qual st f (PySem.W.fnOf x qual (zd1 st) (zb7 st) (zr st) .none kV doc pm an cdv ct):=⟨⟨oc,od,kV,doc,pm,an,cdv,ct,osl,rfl,l,c⟩,k⟩
end
theorem zuh {A:Around}{k:Nat}(hr:Room k A):A.units+1<cLine:=Nat.lt_of_le_of_lt (Nat.add_le_add_left (by decide:1<=64) _) hr.units
theorem zbo {n:Nat}(h:n<=1000):n<sizeLine:=Nat.lt_of_le_of_lt h (by decide)
section
variable {X:Cx}
theorem pv (i:Nat) {x:Str}{pos:Pos}(hN:X.N[i]? = some x:=by rfl) (hv:Vis X.env.scope x:=by first | exact Or.inl rfl | exact Or.inr (Or.inl rfl) | exact Or.inr (Or.inr rfl)) (hd:(x == ("__debug__" : Str))=false:=by decide)
    (hcd:(x == ("__classdict__" : Str))=false:=by decide):PE X (.Name x pos) (tVar i):=ztx hN hv hd hcd
end
theorem iteF {A B:Prop}(h:B):if false=true then A else B:=by
  rw[if_neg Bool.false_ne_true]
  exact h
theorem iteT {A B:Prop}(h:A):if true=true then A else B:=by
  rw[if_pos rfl]
  exact h
theorem ite2 {c A B:Prop} [Decidable c] (h1:c->A) (h2:¬c->B):if c then A else B:=by
  by_cases h:c
  · rw[if_pos h]
    exact h1 h
  · rw[if_neg h]
    exact h2 h
def Same (H H':Hp):Prop:=∀b o,H b=some o->H' b=some o
theorem Same.refl (H:Hp):Same H H:=fun _ _ h=>h
theorem Same.trans {H H1 H2:Hp}(a:Same H H1) (b:Same H1 H2):Same H H2:=fun c o h=>b c o (a c o h)
theorem Same.free {H H':Hp}(e:Same H H') {l:Addr}(h:H' l=Option.none):H l=Option.none:=by
  cases q:H l with
  | none=>rfl
  | some o=>
    rw[e l o q] at h
    cases h
theorem Same.seq {K:PySem.W.Frag}{H H':Hp}{a:Addr}{xs:List V}(e:Same H H') (h:SqL K H a xs):SqL K H' a xs:=by
  rcases h with (h | ⟨o,h⟩) | h
  · exact .inl (.inl (e _ _ h))
  · exact .inl (.inr ⟨o,e _ _ h⟩)
  · exact .inr h
def zct (cells:List (Str×Addr)):List (Str×NameKind)->List (Str×Addr)->List (Str×Addr)
  | [],cs=>cs
  | (n,k)::r,cs=>zct cells r (if (k == NameKind.free)=true then (match cells.lookup n with | some c=>(n,c)::cs | none=>cs) else cs)
theorem ze9 {scope:Scope}{env:Env}(h:∀x∈scope.names,x.2 = .free->∃c,env.cells.lookup x.1=some c):closureFor scope env=pure (zct env.cells scope.names []):=by
  unfold closureFor
  have go:∀(names:List (Str×NameKind)) (cs:List (Str×Addr)),(∀x∈names,x.2 = .free->∃c,env.cells.lookup x.1=some c)->
      (forIn names cs (fun (x:Str×NameKind) (r:List (Str×Addr))=>if (x.2 == NameKind.free)=true then (do let a ←cellOf env x.1;pure (ForInStep.yield ((x.1,a)::r))) else pure (ForInStep.yield r)):Sem (List (Str×Addr)))=pure (zct env.cells names cs):=by
    intro names
    induction names with
    | nil=>intro cs _;rfl
    | cons x r ih=>
      intro cs hc
      obtain⟨n,k⟩:=x
      have hr:∀y∈r,y.2 = .free->∃c,env.cells.lookup y.1=some c:=fun y hy=>hc y (List.mem_cons_of_mem _ hy)
      rw[List.forIn_cons]
      cases e:(k == NameKind.free) with
      | true=>
        obtain⟨c,hl⟩:=hc (n,k) List.mem_cons_self (by simpa using e)
        have hl':env.cells.lookup n=some c:=hl
        have ec:cellOf env n=pure c:=by unfold cellOf;rw[hl']
        show (_ >>= _)=pure (zct env.cells r (if (k == NameKind.free)=true then _ else _))
        rw[e,hl']
        simp only [if_true,ec,pure_bind]
        exact ih _ hr
      | false=>
        show (_ >>= _)=pure (zct env.cells r (if (k == NameKind.free)=true then _ else _))
        rw[e]
        simp only [Bool.false_eq_true,if_false,pure_bind]
        exact ih _ hr
  exact (congrArg (· >>= fun r=>pure r) (go scope.names [] h)).trans (pure_bind _ _)
theorem zbb {α:Type}{y n:Str}{c:α}{r:List (Str×α)}(h:y=n):((n,c)::r).lookup y=some c:=by
  subst h;simp
theorem zbi {α:Type}{y n:Str}{c:α}{r:List (Str×α)}(h:¬y=n):((n,c)::r).lookup y=r.lookup y:=by
  rw[List.lookup_cons,beq_eq_false_iff_ne.mpr h]
theorem zfx {cells:List (Str×Addr)}{n:Str}{k:NameKind}{cs:List (Str×Addr)}(hs:∀y d,cs.lookup y=some d->cells.lookup y=some d) :
    ∀y d,(if (k == NameKind.free)=true then (match cells.lookup n with | some c=>(n,c)::cs | none=>cs) else cs).lookup y=some d->cells.lookup y=some d:=by
  intro y d h
  split at h
  · split at h
    · rename_i c hc
      by_cases hy:y=n
      · rw[zbb hy] at h
        rw[hy,hc];exact h
      · rw[zbi hy] at h
        exact hs y d h
    · exact hs y d h
  · exact hs y d h
theorem zeq (cells:List (Str×Addr)):∀(names:List (Str×NameKind)) (cs:List (Str×Addr)),(∀y d,cs.lookup y=some d->cells.lookup y=some d)->
    ∀y d,(zct cells names cs).lookup y=some d->cells.lookup y=some d
  | [],_,hs,y,d,h=>hs y d h
  | (n,k)::r,cs,hs,y,d,h=>zeq cells r _ (zfx hs) y d h
theorem zg8 (cells:List (Str×Addr)) {x:Str}{c:Addr}(hc:cells.lookup x=some c):∀(names:List (Str×NameKind)) (cs:List (Str×Addr)),(∀y d,cs.lookup y=some d->cells.lookup y=some d)->
    ((x,NameKind.free)∈names\/cs.lookup x=some c)->(zct cells names cs).lookup x=some c
  | [],_,_,h=>by
    rcases h with h | h
    · cases h
    · exact h
  | (n,k)::r,cs,hs,h=>by
    refine zg8 cells hc r _ (zfx hs) ?_
    by_cases hx:(x,NameKind.free)=(n,k)
    · cases hx
      right
      rw[if_pos (by rfl),hc]
      exact zbb rfl
    · rcases h with h | h
      · rcases List.mem_cons.mp h with h | h
        · exact absurd h hx
        · exact .inl h
      · right
        split
        · split
          · rename_i c' hc'
            by_cases hn:x=n
            · rw[zbb hn]
              rw[hn,hc'] at hc
              exact hc
            · rw[zbi hn];exact h
          · exact h
        · exact h
theorem zcq (env:Env) (x:Str):∀names:List (Str×NameKind),
    (names.map fun (n,k)=>if (k == NameKind.free&&env.scope.kind == .function&&env.kindOf n == some .cell) then (n,NameKind.cell) else (n,k)).lookup x =
      (names.lookup x).map fun k=>if (k == NameKind.free&&env.scope.kind == .function&&env.kindOf x == some .cell) then NameKind.cell else k
  | []=>rfl
  | (n,k)::r=>by
    have ih:=zcq env x r
    rw[List.map_cons]
    by_cases hx:x=n
    · subst hx
      rw[zbb rfl]
      show List.lookup x ((if (k == NameKind.free&&env.scope.kind == .function&&env.kindOf x == some .cell)=true then (x,NameKind.cell) else (x,k))::_)=some (if (k == NameKind.free&&env.scope.kind == .function&&env.kindOf x == some .cell)=true then NameKind.cell else k)
      by_cases hc:(k == NameKind.free&&env.scope.kind == .function&&env.kindOf x == some .cell)=true
      · rw[if_pos hc,if_pos hc];exact zbb rfl
      · rw[if_neg hc,if_neg hc];exact zbb rfl
    · rw[zbi hx,←ih]
      show List.lookup x ((if (k == NameKind.free&&env.scope.kind == .function&&env.kindOf n == some .cell)=true then (n,NameKind.cell) else (n,k))::_)=_
      by_cases hc:(k == NameKind.free&&env.scope.kind == .function&&env.kindOf n == some .cell)=true
      · rw[if_pos hc];exact zbi hx
      · rw[if_neg hc];exact zbi hx
theorem zi9 {scope:Scope}{env:Env}{x:Str}(h:scope.names.lookup x=some .free):(relabel scope env).names.lookup x=some .cell\/(relabel scope env).names.lookup x=some .free:=by
  have e:=zcq env x scope.names
  rw[h] at e
  have e':(relabel scope env).names.lookup x=some (if (NameKind.free == NameKind.free&&env.scope.kind == .function&&env.kindOf x == some .cell)=true then NameKind.cell else NameKind.free):=e
  rw[e']
  split
  · exact .inl rfl
  · exact .inr rfl
theorem zja {scope:Scope}{env:Env}{x:Str}(nc:∀y∈scope.names,y.2≠.cell) (h:(relabel scope env).names.lookup x=some .cell\/(relabel scope env).names.lookup x=some .free):(x,NameKind.free)∈scope.names:=by
  have e:=zcq env x scope.names
  have e':(relabel scope env).names.lookup x=_:=e
  cases q:scope.names.lookup x with
  | none=>
    rw[q] at e'
    rw[e'] at h
    rcases h with h | h<;>cases h
  | some k=>
    rw[q] at e'
    have m:=PySem.mem_of_lookup q
    cases k with
    | free=>exact m
    | cell=>exact absurd rfl (nc _ m)
    | _=>
      rw[e'] at h
      rcases h with h | h<;>cases h
structure CompScope (scope osc:Scope) (cap:List Str):Prop where
  kind:scope.kind = .function
  nocell:∀y∈scope.names,y.2≠.cell
  loc:∀y∈scope.names,y.2 = .local->scope.names.lookup y.1=some .local
  free:∀y∈scope.names,y.2 = .free->osc.names.lookup y.1=some .cell\/osc.names.lookup y.1=some .free
  cap:∀x∈cap,scope.names.lookup x=some .free
def cxC (X:Cx) (N:List Str) (scope:Scope) (C:Addr) (s:Shared) (H:Hp) (ex:List Addr):Cx where
  prog:=X.prog
  w:=X.w
  K:=X.K
  mg:=X.mg
  base:=X.base
  A:=X.A
  N:=N
  s₀:=s
  H₀:=H
  env:=compEnvC scope (zct X.env.cells scope.names []) C X.env
  outer:=X.stack
  stack:=X.stack
  ex:=ex
  fn:=fun _=>false
  calm:=X.calm
  pn:=[]
  xe:=fun _ _=>False
def st0 (own:List Str) (ix:List Nat) (σ:St):St:=own.map (fun _=>none)++ix.map fun i=>(σ[i]?).join
theorem zg9 {X:Cx}{pins:List (Addr×Obj)}{σ:St}{H:Hp}{s:Shared}{scope:Scope}{cap:List Str}(I:Inv X pins σ H s) (S:CompScope scope X.env.scope cap) :
    closureFor scope X.env=pure (zct X.env.cells scope.names []):=
  ze9 fun x hx hf=>I.ok.has x.1 (S.free x hx hf)
theorem zpi {X:Cx}{pins:List (Addr×Obj)}{σ:St}{H:Hp}{s:Shared}{scope:Scope}{own cap:List Str}{ix:List Nat}{fp:List Addr}{h₁:Heap}{m:Str->Option Value}{tk:Nat}
    (I:Inv X pins σ H s) (S:CompScope scope X.env.scope cap) (hix:ix.map (fun i=>X.N[i]?)=cap.map some) (hf:∀b∈fp,FpOk X pins H b) (hlt:∀b∈fp,b<s.heap.objs.size)
    (hn:h₁.Ns s.heap.objs.size m) (hk:∀b o,s.heap.get? b=some o->h₁.get? b=some o) :
    Inv (cxC X (own++cap) scope s.heap.objs.size s H fp) [] (st0 own ix σ) H { s with heap:=h₁,toks:=tk }:=by
  have sub:∀y d,(zct X.env.cells scope.names []).lookup y=some d->X.env.cells.lookup y=some d:=zeq _ _ _ (fun y d h=>by cases h)
  have has:∀y c,(y,NameKind.free)∈scope.names->X.env.cells.lookup y=some c->(zct X.env.cells scope.names []).lookup y=some c:=fun y c hy hc=>zg8 _ hc _ _ (fun y d h=>by cases h) (.inl hy)
  have hlen:ix.length=cap.length:=by
    have:=congrArg List.length hix
    simpa using this
  refine⟨⟨I.mod,S.kind,I.ok.glob,I.ok.blt,Nat.le_refl _,fun x y c e1 e2=>I.ok.inj x y c (sub _ _ e1) (sub _ _ e2),fun x hx=>?_,fun x c z=>(by cases z),I.ok.hd,I.ok.frames,.inl rfl,fun b hb=>⟨Nat.ne_of_lt (hlt b hb),fun x c e=>(hf b hb).2.2.2.2.1 x c (sub _ _ e)⟩,I.bs,
      Nat.le_trans I.ok.bsz I.sz,fun b o e hb=>?_,fun b hb z=>?_,I.stack,I.stkFree⟩,rfl,I.bare,Un.kept hk,⟨m,hn,fun i x v e1 e2 e3=>?_⟩,fun x c e=>?_,I.hok.fresh (Nat.le_refl _),fun x c e=>I.freeC x c (sub _ _ e),fun p hp=>absurd (show p∈([]:List (Addr×Obj)) from hp) (by simp),I.hok.kept hk,?_⟩
  · have m':=zja (env:=X.env) S.nocell hx
    obtain⟨c,hc⟩:=I.ok.has x (S.free _ m' rfl)
    exact⟨c,has x c m' hc⟩
  · obtain⟨f0,f1,f2,f3,f4,f5⟩:=hf b hb
    rcases f3 with z | z
    · exact I.ok.noex b o e z
    · exact absurd (Nat.lt_of_lt_of_le (Nat.lt_of_lt_of_le (Heap.lt_size e) I.ok.bsz) z) (Nat.lt_irrefl _)
  · obtain⟨f0,f1,f2,f3,f4,f5⟩:=hf b hb
    rcases List.mem_cons.mp (I.stkSub b z) with z | z
    · exact f1 z
    · exact f2 z
  · have e1:(own++cap)[i]? = some x:=e1
    unfold st0 at e2
    by_cases hi:i<own.length
    · rw[List.getElem?_append_left (by simpa using hi),List.getElem?_map] at e2
      cases q:own[i]? with
      | none=>rw[q] at e2;cases e2
      | some y=>rw[q] at e2;cases e2
    · rw[List.getElem?_append_right (by simpa using hi)] at e1
      rw[List.getElem?_append_right (by simpa using hi),List.length_map,List.getElem?_map] at e2
      generalize i-own.length=j at e1 e2
      cases q:ix[j]? with
      | none=>rw[q] at e2;cases e2
      | some k=>
        rw[q] at e2
        have e2:(σ[k]?).join=some v:=Option.some.inj e2
        have eσ:σ[k]? = some (some v):=by
          cases q2:σ[k]? with
          | none=>rw[q2] at e2;cases e2
          | some o=>rw[q2] at e2;exact congrArg some e2
        have eN:X.N[k]? = some x:=by
          have:=congrArg (fun l=>l[j]?) hix
          simp only [List.getElem?_map,q,e1,Option.map_some] at this
          exact Option.some.inj this
        have hfr:=S.cap x (List.mem_of_getElem? e1)
        have hmem:=PySem.mem_of_lookup hfr
        have hout:=S.free _ hmem rfl
        obtain⟨m0,hn0,hl⟩:=I.loc
        obtain⟨u,r,l⟩:=hl k x v eN eσ (.inr hout)
        rcases l with ⟨kd,_⟩ | ⟨kd,c,e,z⟩
        · have kd:X.env.scope.names.lookup x=some .local:=kd
          rcases hout with ho | ho<;>(have ho:X.env.scope.names.lookup x=_:=ho;rw[kd] at ho;cases ho)
        · exact⟨u,r,.inr ⟨zi9 hfr,c,has x c hmem e,z.keeps hk⟩⟩
  · obtain⟨v,q⟩:=I.cell x c (sub _ _ e)
    exact⟨v,q.keeps hk⟩
  · show (st0 own ix σ).length=(own++cap).length
    unfold st0
    simp[hlen]
theorem zpj {X:Cx}{pins:List (Addr×Obj)}{σ σ':St}{H H':Hp}{s s':Shared}{scope:Scope}{N:List Str}{fp:List Addr}{h':Heap}
    (I:Inv X pins σ H s) (hf:∀b∈fp,FpOk X pins H b) (J:Inv (cxC X N scope s.heap.objs.size s H fp) [] σ' H' s') (hs:Heap.SameBut s.heap.objs.size s'.heap h'):Inv X pins σ H' { s' with heap:=h' }:=by
  have ne:∀b o,s.heap.get? b=some o->b≠s.heap.objs.size:=fun b o e=>Nat.ne_of_lt (Heap.lt_size e)
  have B:Un (frs X.stack) fp H H' s.heap s'.heap:=J.base
  refine I.call' (s':={ s' with heap:=h' }) (ch:=fp) J.os ⟨fun b o e n hb hx=>?_,fun b o e n hb hx=>?_,B.free,fun b o e hx=>?_,B.tups,B.frzs,B.tbls⟩ (fun b ob e=>?_) J.bare fun b hb=>?_
  · exact (hs.2 b (ne b o e)).trans (B.keep b o e n hb hx)
  · obtain⟨sl,e1⟩:=B.slot b o e n hb hx
    exact⟨sl,(hs.2 b (ne b o e)).trans e1⟩
  · obtain⟨o',e1⟩:=B.there b o e hx
    exact⟨o',(hs.2 b (ne b o e)).trans e1⟩
  · have fr:H' s.heap.objs.size=none:=J.free
    refine (J.hok b ob e).stay (fun c w' hc q=>(hs.2 c ?_).trans q) (fun _ q=>q) fun _ _ q=>q
    rintro rfl
    rcases hc with hc | hc
    · rw[←hc,fr] at e;cases e
    · rw[fr] at hc;cases hc
  · obtain⟨f0,f1,f2,f3,f4,f5⟩:=hf b hb
    exact⟨f3,f1,f4,f5⟩
def PIf (X:Cx) (ifs:List Expr) (t:TT):Prop:=
  ∀(pins:List (Addr×Obj)) (s:Shared) (σ:St) (H:Hp) (Q:Bool->Hp->Prop),Inv X pins σ H s->t σ H Q->
    wpAny (model X.prog X.w) X.A (forIn ifs true fun c r=>if r=true then do let ok ←isTrue c X.env (eval c X.env);pure (ForInStep.yield ok) else pure (ForInStep.yield r)) (TP X pins σ Q) X.xe s
def tYes:TT:=fun _ H Q=>Q true H
theorem zer {X:Cx}:PIf X [] tYes:=fun _ s σ H Q I h=>wpAny_tests_nil ⟨H,I,h⟩
theorem zsb {X:Cx}{c:Expr}{t:TT}(h:PT X c t):PIf X [c] t:=fun pins s σ H Q I hw=>wpAny_tests_one (h pins s σ H Q I hw)
theorem zdu {prog:Program}{w:World}{A:Around}{R:Result->Shared->Prop}{s:Shared}{elt target iter:Expr}{ifs:List Expr}{scope:Scope}{pos:Pos}{it acc:Value}{env:Env}(I:Nat->Shared->Prop)
    (turn:∀n s,I n s->wpAny (model prog w) A (pyNext it) (fun r s₁=>match r with
      | none=>R (.ok .next) s₁
      | some v=>wpAny (model prog w) A (letOwnedTupleGo target it v) (fun _ s₁'=>wpAny (model prog w) A (assign target env v) (fun _ s₂=>
          wpAny (model prog w) A (forIn ifs true fun c r=>if r=true then do let ok ←isTrue c env (eval c env);pure (ForInStep.yield ok) else pure (ForInStep.yield r)) (fun ok s₃=>
            if ok=true then wpAny (model prog w) A (eval elt env) (fun x s₄=>
              wpAny (model prog w) A (call (.builtin "list.append") [acc,x]) (fun _ s₅=>∃m,m<n/\I m s₅) (notedBy (model prog w) A env fun e s'=>R (.error e) s') s₄) (notedBy (model prog w) A env fun e s'=>R (.error e) s') s₃
            else ∃m,m<n/\I m s₃) (notedBy (model prog w) A env fun e s'=>R (.error e) s') s₂) (notedBy (model prog w) A env fun e s'=>R (.error e) s') s₁') (notedBy (model prog w) A env fun e s'=>R (.error e) s') s₁) (notedBy (model prog w) A env fun e s'=>R (.error e) s') s)
    (n:Nat) (h:I n s):codeAny (model prog w) A (.compLoop (.ListComp elt [⟨target,iter,ifs,0⟩] scope pos) 0 it acc env) R s:=by
  refine codeAny_loop rfl I (fun n s hI=>?_) n h
  show wpAny _ A ((compTurn (.ListComp elt [⟨target,iter,ifs,0⟩] scope pos) 0 it acc env).onRaise (fun x=>do noteFrame x env;theTreesLotGoes x)) _ _ s
  refine wpAny_noted ?_
  rw[compTurn_list]
  refine wpAny_bind (wpAny_standAt (wpAny_bind (wpAny_mono (turn n s hI) (fun r s₁ h₁=>?_) fun _ _ h'=>h')))
  cases r with
  | none=>exact wpAny_pure h₁
  | some v=>
    refine wpAny_bind (wpAny_mono h₁ (fun _ s₁' h₁'=>?_) fun _ _ h'=>h')
    refine wpAny_bind (wpAny_mono h₁' (fun _ s₂ h₂=>wpAny_bind (wpAny_mono h₂ (fun ok s₃ h₃=>?_) fun _ _ h'=>h')) fun _ _ h'=>h')
    cases ok with
    | false=>exact wpAny_pure ⟨rfl,h₃⟩
    | true=>
      exact wpAny_bind (wpAny_bind (wpAny_mono h₃ (fun x s₄ h₄=>wpAny_bind (wpAny_mono h₄ (fun _ s₅ h₅=>wpAny_pure (wpAny_pure ⟨rfl,h₅⟩)) fun _ _ h'=>h')) fun _ _ h'=>h'))
def zpk (own:List Str) (ix:List Nat) (J:It) (g:TG) (tc:TT) (te:TE) (σ:St) (H1:Hp) (D:Addr) (Q:VK):Prop:=
  ∃W:Nat->Nat->St->List V->Hp->Prop,(∃m,W 0 m (st0 own ix σ) [] (upd H1 D (.lst [])))/\∀i m σ' ys H',W i m σ' ys H'->H' D=some (.lst ys)/\
    ((J.stop i H'/\Q (.ref D) H')\/(J.go i H'/\ys.length<sizeLine/\∀x H2,J.yld i H' x H2->g x σ' H2 fun σ3 H3=>tc σ3 H3 fun b H4=>
      if b=true then te σ3 H4 fun y H5=>H5 D=some (.lst ys)/\∃m',m'<m/\W (i+1) m' σ3 (ys++[y]) (upd H5 D (.lst (ys++[y]))) else H4 D=some (.lst ys)/\∃m',m'<m/\W (i+1) m' σ3 ys H4))
def zui (own:List Str) (ix:List Nat) (wi:TI) (g:TG) (tc:TT) (te:TE):TE:=fun σ H Q=>wi σ H fun J H1=>∀D,H1 D=none->zpk own ix J g tc te σ H1 D Q
section
variable {X:Cx}{tg iter elt:Expr}{ifs:List Expr}{scope:Scope}{pos:Pos}{own cap:List Str}{ix:List Nat}{wi:TI}{g:TG}{tc:TT}{te:TE}
theorem zkz {pins:List (Addr×Obj)}{σ:St}{s:Shared}{E:Value->Shared->Prop}{RR:Value->Addr->Result->Shared->Prop}{Q:VK}
    (hc:X.calm=true) (S:CompScope scope X.env.scope cap) (hix:ix.map (fun i=>X.N[i]?)=cap.map some)
    (hg:∀C s H ex,PG (cxC X (own++cap) scope C s H ex) tg g) (ht:∀C s H ex,PIf (cxC X (own++cap) scope C s H ex) ifs tc) (he:∀C s H ex,PE (cxC X (own++cap) scope C s H ex) elt te)
    {itv:Value}(h:PIE X pins σ tg (fun J H1=>∀D,H1 D=none->zpk own ix J g tc te σ H1 D Q) itv s)
    (hR:∀(D C:Addr) (s':Shared) (H':Hp) (m:Str->Option Value),s'.heap.Ns C m->FpOk X pins H' C->(∀h',Heap.SameBut C s'.heap h'->Inv X pins σ H' { s' with heap:=h' })->Q (.ref D) H'->RR (.ref D) C (.ok .next) s') :
    wpAny (model X.prog X.w) X.A (newList []) (fun acc s₃=>wpAny (model X.prog X.w) X.A (newFunctionEnv scope X.env.globals (zct X.env.cells scope.names []) [] X.env.qual none .none (some X.env)) (fun cenv s₄=>
      codeAny (model X.prog X.w) X.A (.compStart (.ListComp elt [⟨tg,iter,ifs,0⟩] scope pos) 0 itv acc { cenv with scope:=relabel scope X.env }) (RR acc cenv.locals) s₄) E s₃) E s:=by
  obtain⟨it,fp,tn,J,H2,rfl,I2,T,st2,f2,q2⟩:=h
  refine wpAny_newObj_type (wpAny_newFunctionEnv S.nocell (by intro y hy;simp at hy) (fun h₁ hns₁ hsb₁=>?_) S.kind)
  dsimp only at hns₁ hsb₁ ⊢
  have hD:H2 s.heap.objs.size=none:=I2.hok.fresh (Nat.le_refl _)
  obtain⟨W,⟨m0,w0⟩,turn⟩:=q2 s.heap.objs.size hD
  have I3:Inv X pins σ (upd H2 s.heap.objs.size (.lst [])) { s with heap:=s.heap.push { cls:=.type "list",data:=.seq ([]:List Value).toArray } }:=I2.lnew (t':=s.toks) (its:=[]) .nil (Nat.zero_le _)
  have ltD:∀b∈fp,b<s.heap.objs.size:=fun b hb=>by
    obtain⟨o,e,_⟩:=T.obj 0 _ st2 b hb
    exact Heap.lt_size e
  have f3:∀b∈fp,FpOk X pins (upd H2 s.heap.objs.size (.lst [])) b:=fun b hb=>⟨by rw[zj (Nat.ne_of_lt (ltD b hb))];exact (f2 b hb).1,(f2 b hb).2⟩
  generalize hH:s.heap.push { cls:=.type "list",data:=.seq ([]:List Value).toArray } = H3 at I3 hns₁ hsb₁ ⊢
  have sz:H3.objs.size=s.heap.objs.size+1:=by rw[←hH,Heap.size_push]
  have up:∀b o,H3.get? b=some o->h₁.get? b=some o:=fun b o e=>hsb₁.extBut b o (Nat.ne_of_lt (Heap.lt_size e)) (Heap.get?_push_of_some _ e)
  have old:∀b o,s.heap.get? b=some o->h₁.get? b=some o:=fun b o e=>up b o (by rw[←hH];exact Heap.get?_push_of_some _ e)
  have lt3:∀b∈fp,b<({ s with heap:=H3 }:Shared).heap.objs.size:=fun b hb=>by show b<H3.objs.size;rw[sz];exact Nat.lt_succ_of_lt (ltD b hb)
  have st4:tn 0 h₁:=T.keep _ _ _ st2 fun b _ o e=>old b o e
  have stat:∀{H':Hp},(∀b∈fp,H' b=none)->∀b∈fp,FpOk (cxC X (own++cap) scope H3.objs.size { s with heap:=H3 } (upd H2 s.heap.objs.size (.lst [])) fp) [] H' b:=fun hn b hb=>
    ⟨hn b hb,Nat.ne_of_lt (lt3 b hb),fun z=>(List.mem_cons.mp (I3.stkSub b z)).elim (f2 b hb).2.1 (f2 b hb).2.2.1,.inl hb,fun x c e=>(f2 b hb).2.2.2.2.1 x c (zeq _ _ _ (fun y d h=>by cases h) _ _ e),fun p hp=>absurd (show p∈([]:List (Addr×Obj)) from hp) (by simp)⟩
  have loop:∀s₄:Shared,s₄ = { s with heap:=h₁,toks:=s.toks+([]:List (Str×Value)).length }->
      codeAny (model X.prog X.w) X.A (.compLoop (.ListComp elt [⟨tg,iter,ifs,0⟩] scope pos) 0 (.ref it) (.ref s.heap.objs.size) (compEnvC scope (zct X.env.cells scope.names []) H3.objs.size X.env))
        (RR (.ref s.heap.objs.size) H3.objs.size) s₄:=by
    rintro s₄ rfl
    have I4:=zpi (own:=own) (fp:=fp) (tk:=s.toks+([]:List (Str×Value)).length) I3 S hix f3 lt3 hns₁ up
    refine zdu (fun n s'=>∃i σ' ys H',Inv (cxC X (own++cap) scope H3.objs.size { s with heap:=H3 } (upd H2 s.heap.objs.size (.lst [])) fp) [] σ' H' s'/\tn i s'.heap/\(∀b∈fp,H' b=none)/\W i n σ' ys H') ?_ m0
      ⟨0,_,[],_,I4,st4,fun b hb=>(f3 b hb).1,w0⟩
    rintro n s5 ⟨i,σ5,ys,H5,I5,st5,fr5,w5⟩
    obtain⟨hD5,turn5⟩:=turn i n σ5 ys H5 w5
    rcases turn5 with ⟨stop,q⟩ | ⟨go,hz,step⟩
    · refine thn (T.done (cxC X (own++cap) scope H3.objs.size { s with heap:=H3 } (upd H2 s.heap.objs.size (.lst [])) fp) rfl rfl rfl hc i [] s5 σ5 H5 _ I5 (stat fr5) st5 stop) fun r s6 hq0=>?_
      obtain⟨hr,I6⟩:=hq0
      subst hr
      obtain⟨m6,hn6,_⟩:=I6.loc
      exact hR _ _ s6 H5 m6 hn6 (I3.fpOk (Nat.le_refl _) I6.free) (fun h' hs=>zpj I3 f3 I6 hs) q
    · refine thn (T.item (cxC X (own++cap) scope H3.objs.size { s with heap:=H3 } (upd H2 s.heap.objs.size (.lst [])) fp) rfl rfl rfl hc i [] s5 σ5 H5 _ I5 (stat fr5) st5 go) fun r s6 hq0=>?_
      obtain⟨u,hr,h6⟩:=hq0
      subst hr
      refine thn h6 fun _ s7 hq0=>?_
      obtain⟨x,H7,I7,r7,y7,st7,fr7⟩:=hq0
      have I7':=I7.pinned (stat fr7) (T.obj _ _ st7)
      refine wpAny_mono (hg _ _ _ _ _ s7 σ5 H7 x u _ I7' r7 (step x H7 y7)) (fun _ s8 hq0=>?_) fun _ _ z=>False.elim z
      obtain⟨σ8,H8,I8,q8⟩:=hq0
      refine wpAny_mono (ht _ _ _ _ _ s8 σ8 H8 _ I8 q8) (fun ok s9 hq0=>?_) fun _ _ z=>False.elim z
      obtain⟨H9,I9,q9⟩:=hq0
      have again:∀{s':Shared}{σ':St}{H':Hp}{ys':List V}{m':Nat},Inv (cxC X (own++cap) scope H3.objs.size { s with heap:=H3 } (upd H2 s.heap.objs.size (.lst [])) fp) ([]++ziw fp s7.heap) σ' H' s'->m'<n->W (i+1) m' σ' ys' H'->
          ∃m,m<n/\∃i σ' ys H',Inv (cxC X (own++cap) scope H3.objs.size { s with heap:=H3 } (upd H2 s.heap.objs.size (.lst [])) fp) [] σ' H' s'/\tn i s'.heap/\(∀b∈fp,H' b=none)/\W i m σ' ys H':=fun {s' σ' H' ys' m'} I' hm w'=>by
        refine⟨m',hm,i+1,σ',ys',H',I'.unpinned,T.keep _ _ _ st7 fun b hb o e=>(I'.pin (b,o) (List.mem_append_right _ (List.mem_append_right _ (zdp hb e)))).1,fun b hb=>?_,w'⟩
        obtain⟨o,e,d⟩:=T.obj _ _ st7 b hb
        exact (I'.pin (b,o) (List.mem_append_right _ (List.mem_append_right _ (zdp hb e)))).2.1
      cases ok with
      | false=>
        rw[if_neg Bool.false_ne_true] at q9 ⊢
        obtain⟨_,m',hm,w'⟩:=q9
        exact again I9 hm w'
      | true=>
        rw[if_pos rfl] at q9 ⊢
        refine wpAny_mono (he _ _ _ _ _ s9 σ8 H9 _ I9 q9) (fun v s10 hq0=>?_) fun _ _ z=>False.elim z
        obtain⟨y,H10,I10,r10,hD10,m',hm,w'⟩:=hq0
        refine wpAny_mono (zbt (X:=cxC X (own++cap) scope H3.objs.size { s with heap:=H3 } (upd H2 s.heap.objs.size (.lst [])) fp) _ s10 σ8 H10 (.ref s.heap.objs.size) [y] (.ref s.heap.objs.size) [v] (fun _ H'=>H'=upd H10 s.heap.objs.size (.lst (ys++[y]))) I10 rfl (.cons r10 .nil) ⟨_,ys,y,rfl,rfl,hD10,hz,rfl⟩)
          (fun _ s11 ⟨_,H11,I11,_,e11⟩=>?_) fun _ _ z=>False.elim z
        subst e11
        exact again I11 hm w'
  exact codeAny_compStart_list (loop _ rfl) (T.self _ 0 _ _ _ st4 (loop _ rfl))
theorem zh0 {osc:Scope}(hc:X.calm=true) (S':CompScope scope osc cap) (hix:ix.map (fun i=>X.N[i]?)=cap.map some) (hi:PI X tg iter wi)
    (hg:∀C s H ex,PG (cxC X (own++cap) scope C s H ex) tg g) (ht:∀C s H ex,PIf (cxC X (own++cap) scope C s H ex) ifs tc) (he:∀C s H ex,PE (cxC X (own++cap) scope C s H ex) elt te)
    (hs:∀x,foldedSetIterable iter X.env x=pure x:=by intro _;rfl) (ho:X.env.scope=osc:=by rfl):PE X (.ListComp elt [⟨tg,iter,ifs,0⟩] scope pos) (zui own ix wi g tc te):=by
  have S:CompScope scope X.env.scope cap:=ho▸S'
  intro pins s σ H Q I h
  rw[eval_ListComp]
  refine wpAny_comprehension_free (use:=none) rfl hs (zg9 I S) S.kind S.loc (thn (hi pins s σ H _ I h) fun xv s₁ h₁=>thn h₁ fun itv s₂ h₂=>?_)
  refine zkz (RR:=fun acc C=>compPost (model X.prog X.w) X.A X.xe none (EP X pins σ Q) acc C) hc S hix hg ht he h₂ fun D C s' H' m hn _ hI q=>?_
  exact⟨m,hn,fun h' hs'=>⟨.ref D,H',hI h' hs',rfl,q⟩⟩
theorem zj5 {osc:Scope}{i:Nat}{y:Str}{py spos:Pos}(hc:X.calm=true) (hN:X.N.Nodup) (hi':X.N[i]? = some y) (hy:X.env.scope.names.lookup y=some .local)
    (hsw:swapsWith (.ListComp elt [⟨tg,iter,ifs,0⟩] scope pos) (some (.Name y py)) spos.line X.env=pure true) (S':CompScope scope osc cap) (hix:ix.map (fun i=>X.N[i]?)=cap.map some) (hi:PI X tg iter wi)
    (hg:∀C s H ex,PG (cxC X (own++cap) scope C s H ex) tg g) (ht:∀C s H ex,PIf (cxC X (own++cap) scope C s H ex) ifs tc) (he:∀C s H ex,PE (cxC X (own++cap) scope C s H ex) elt te)
    (hs:∀x,foldedSetIterable iter X.env x=pure x:=by intro _;rfl) (ho:X.env.scope=osc:=by rfl):PS X (.Assign [.Name y py] (.ListComp elt [⟨tg,iter,ifs,0⟩] scope pos) spos) (tAsg (zui own ix wi g tc te) (zap i)):=by
  have S:CompScope scope X.env.scope cap:=ho▸S'
  intro pins s σ H D I h
  rw[exec_Assign_Name_used _ _ _ _ hsw]
  refine wpAny_bind (wpAny_standAt (wpAny_bind ?_))
  show wpAny _ X.A (do let _ ←comprehension (.ListComp elt [⟨tg,iter,ifs,0⟩] scope pos) scope X.env _ (newList []) false (eval iter X.env) (some (assign (.Name y py) X.env))) _ _ s
  refine wpAny_bind (wpAny_mono (wpAny_comprehension_free (use:=some (assign (.Name y py) X.env)) (Q:=fun _ s'=>SP X pins D .next s') rfl hs (zg9 I S) S.kind S.loc
    (thn (hi pins s σ H _ I h) fun xv s₁ h₁=>thn h₁ fun itv s₂ h₂=>?_)) (fun _ s' hq=>wpAny_pure (wpAny_pure hq)) fun _ _ e=>e)
  refine zkz (RR:=fun acc C=>compPost (model X.prog X.w) X.A X.xe (some (assign (.Name y py) X.env)) (fun _ s'=>SP X pins D .next s') acc C) hc S hix hg ht he h₂ fun D' C s' H' m hn hF hI q=>?_
  show wpAny _ X.A (assign (.Name y py) X.env (.ref D')) _ _ _
  have I':Inv X pins σ H' s':=hI s'.heap (Heap.SameBut.refl ..)
  refine wpAny_assign_Name (zit I' hN hi' (.inl hy) (v:=.ref D') rfl (fun s'' I'' hq0=>?_) (.inr hy))
  obtain⟨a,hs'',ha⟩:=hq0
  obtain⟨f0,f1,f2,f3,f4,f5⟩:=hF
  have hCa:C≠a:=by
    rcases ha with ha | ha
    · rw[ha];exact f1
    · exact fun z=>f4 _ _ ha z.symm
  exact⟨m,hn.sameBut hs'' hCa,fun h' hs'=>⟨_,H',I''.turned (t':=s''.toks) (fun b o hb e=>(hs'.2 b hb).trans e) f0 f1 f3 f4 f5,q⟩⟩
end
structure Fix (J:It) (xs:List V) (P:Hp->Prop):Prop where
  go:∀i H,P H->i<xs.length->J.go i H
  yld:∀i H x H',P H->J.yld i H x H'->H'=H/\(i<xs.length->xs[i]? = some x)
  stop:∀i H,P H->xs.length<=i->J.stop i H
theorem zh1 {K:PySem.W.Frag}{a:Addr}{xs:List V}:Fix (Itl K a) xs (fun H=>SqL K H a xs):=
  ⟨fun i H h hi=>⟨xs,xs[i],h,by simp[hi]⟩,fun i H x H' h y=>⟨y.1,fun _=>y.2 xs h⟩,fun i H h hi=>⟨xs,h,hi⟩⟩
theorem zj6 {lo:Int}{n:Nat}:Fix (Itr lo n) ((List.range n).map fun i=>V.int (lo+(i:Nat))) (fun _=>True):=
  ⟨fun i H h hi=>by show i<n;simpa using hi,fun i H x H' h y=>⟨y.1,fun hi=>by
    have hi':i<n:=by simpa using hi
    rw[List.getElem?_map,List.getElem?_range hi',y.2];rfl⟩,fun i H h hi=>by show n<=i;simpa using hi⟩
theorem zdf {J:It}{xs:List V}{P:Hp->Prop}{own:List Str}{ix:List Nat}{tc:TT}{te:TE}{σ:St}{H1:Hp}{D:Addr}{Q:VK}(F:Fix J xs P) (p:V->Bool) (f:V->V)
    (hP:∀ys,P (upd H1 D (.lst ys))) (hz:xs.length<=sizeLine)
    (ht:∀x∈xs,∀ys (Q':Bool->Hp->Prop),Q' (p x) (upd H1 D (.lst ys))->tc ((st0 own ix σ).set 0 (some x)) (upd H1 D (.lst ys)) Q')
    (he:∀x∈xs,p x=true->∀ys (Q':VK),Q' (f x) (upd H1 D (.lst ys))->te ((st0 own ix σ).set 0 (some x)) (upd H1 D (.lst ys)) Q')
    (hQ:Q (.ref D) (upd H1 D (.lst ((xs.filter p).map f)))):zpk own ix J (zap 0) tc te σ H1 D Q:=by
  refine⟨fun i m σ' ys H'=>m=xs.length-i/\i<=xs.length/\(∀z,σ'.set 0 z=(st0 own ix σ).set 0 z)/\ys=((xs.take i).filter p).map f/\H'=upd H1 D (.lst ys),
    ⟨xs.length,by simp,Nat.zero_le _,fun _=>rfl,by simp,rfl⟩,?_⟩
  rintro i m σ' ys H' ⟨rfl,hi,hσ,rfl,rfl⟩
  refine⟨zb,?_⟩
  by_cases hlt:i<xs.length
  · refine .inr ⟨F.go i _ (hP _) hlt,?_,fun x H2 y=>?_⟩
    · rw[List.length_map]
      have h1:((xs.take i).filter p).length<=(xs.take i).length:=List.length_filter_le _ _
      rw[List.length_take] at h1
      omega
    · obtain⟨e,y'⟩:=F.yld i _ x H2 (hP _) y
      subst e
      have hx:=y' hlt
      have hm:x∈xs:=List.mem_of_getElem? hx
      have tk:=take_succ_filter p xs i x hx
      show tc (σ'.set 0 (some x)) _ _
      rw[hσ]
      refine ht x hm _ _ ?_
      have σσ:∀z,((st0 own ix σ).set 0 (some x)).set 0 z=(st0 own ix σ).set 0 z:=fun z=>List.set_set ..
      cases hp:p x with
      | true=>
        rw[if_pos rfl]
        refine he x hm hp _ _ ⟨zb,xs.length-(i+1),by omega,rfl,hlt,σσ,?_,?_⟩
        · rw[tk,hp];simp
        · rw[zrl]
      | false=>
        rw[if_neg Bool.false_ne_true]
        refine⟨zb,xs.length-(i+1),by omega,rfl,hlt,σσ,?_,?_⟩
        · rw[tk,hp];simp
        · rfl
  · have e:i=xs.length:=by omega
    subst e
    refine .inl ⟨F.stop _ _ (hP _) (Nat.le_refl _),?_⟩
    rw[List.take_length]
    exact hQ
def sg (c:Nat):V:=.str ⟨#[c]⟩
def Its (x:Str):It:=⟨fun i _=>i<x.length,fun i H v H'=>H'=H/\∃c,x.cps.toList[i]? = some c/\v=sg c,fun i _=>x.length<=i⟩
theorem zsc {x:Str}:Fix (Its x) (x.cps.toList.map sg) (fun _=>True):=by
  have hl:x.cps.toList.length=x.length:=by simp[Str.length]
  refine⟨fun i H _ hi=>?_,fun i H v H' _ y=>⟨y.1,fun _=>?_⟩,fun i H _ hi=>?_⟩
  · rw[List.length_map,hl] at hi;exact hi
  · obtain⟨_,c,hc,rfl⟩:=y
    rw[List.getElem?_map,hc];rfl
  · rw[List.length_map,hl] at hi;exact hi
theorem zk0 {P:Program}{w:World}{K:PySem.W.Frag}{tg:Expr}(it:Addr) (x:Str) (t:Tok) (ty:String)
    (hty : ["enumerate","zip","dict_itemiterator","dict_reverseitemiterator","odict_iterator","itertools.zip_longest","itertools.pairwise"].contains ty=false)
    (hi:∀{A:Around}{E:Value->Shared->Prop}{s:Shared}{i c:Nat}{Q:Option Value->Shared->Prop},s.heap.IsStrIter it ty x t i->x.cps[i]? = some c->
      (∀h',h'.IsStrIter it ty x t (i+1)->Heap.SameBut it s.heap h'->Q (some (.str ⟨#[c]⟩ s.toks)) { s with heap:=h',toks:=s.toks+1 })->wpAny (model P w) A (pyNext (.ref it)) Q E s)
    (hd:∀{A:Around}{E:Value->Shared->Prop}{s:Shared}{i:Nat}{Q:Option Value->Shared->Prop},A.handled=none->s.heap.IsStrIter it ty x t i->x.cps[i]? = none->
      (∀h',Heap.ExtBut it s.heap h'->Q none { s with heap:=h' })->wpAny (model P w) A (pyNext (.ref it)) Q E s)
    (hs:∀{A:Around}{E:Value->Shared->Prop}{s:Shared}{i:Nat}{Q:Value->Shared->Prop},s.heap.IsStrIter it ty x t i->Q (.ref it) s->wpAny (model P w) A (pyIter (.ref it)) Q E s) :
    Turn P w K tg (Its x) [it] it (fun i h=>h.IsStrIter it ty x t i) where
  mem:=by simp
  obj:=fun i h st b hb=>by
    have e:b=it:=by simpa using hb
    subst e
    obtain⟨o,e,c,d⟩:=st
    exact⟨o,e,fun v z=>by rw[d] at z;cases z⟩
  keep:=fun i h h' st k=>let ⟨o,ho,r⟩:=st;⟨o,k it (by simp) o ho,r⟩
  item:=by
    intro X hP hw hK hc i pins s σ H E I hf st hg
    subst hP hw hK
    obtain⟨f0,f1,f2,f3,f4,f5⟩:=hf it (by simp)
    have hg:i<x.cps.size:=hg
    refine hi st (c:=x.cps[i]) (by simp[hg]) fun h' st' sb=>?_
    have I1:Inv X pins σ H { s with heap:=h',toks:=s.toks+1 }:=I.turned (fun b o hb e=>(sb.2 b hb).trans e) f0 f1 f3 f4 f5
    obtain⟨o,e,c,d⟩:=id st'
    exact⟨_,rfl,zrp (s:={ s with heap:=h',toks:=s.toks+1 }) e c d hty ⟨sg x.cps[i],H,I1,⟨_,rfl⟩,⟨rfl,x.cps[i],by simp[hg],rfl⟩,st',fun b hb=>(hf b hb).1⟩⟩
  done:=by
    intro X hP hw hK hc i pins s σ H E I hf st hg
    subst hP hw hK
    obtain⟨f0,f1,f2,f3,f4,f5⟩:=hf it (by simp)
    have hg:x.cps.size<=i:=hg
    exact hd (I.ok.hd hc) st (by simpa using hg) fun h' eb=>⟨rfl,I.turned (t':=s.toks) (fun b o hb e=>eb b o hb e) f0 f1 f3 f4 f5⟩
  self:=fun _ _ _ _ _ st h=>hs st h
def iStr (tl:TE):TI:=fun σ H R=>tl σ H fun v H1=>∃x,v = .str x/\R (Its x) H1
theorem zuj {X:Cx}{tg l:Expr}{tl:TE}(hl:PE X l tl):PI X tg l (iStr tl):=by
  intro pins s σ H R I h
  refine thn (hl pins s σ H _ I h) fun v s1 hq0=>?_
  obtain⟨y,H1,I1,r1,q1⟩:=hq0
  obtain⟨x,rfl,q⟩:=q1
  obtain⟨t,rfl⟩:=r1
  have fin:∀(ty:String),(Turn X.prog X.w X.K tg (Its x) [s1.heap.objs.size] s1.heap.objs.size (fun i h=>h.IsStrIter s1.heap.objs.size ty x t i))->
      PIE X pins σ tg R (.ref s1.heap.objs.size) { s1 with heap:=s1.heap.push { cls:=.type ty,data:=.fields #[.str x t,.int 0 0] } }:=fun ty T=>by
    refine⟨s1.heap.objs.size,[s1.heap.objs.size],_,_,H1,rfl,I1.kept (t':=s1.toks) fun b o e=>Heap.get?_push_of_some _ e,T,⟨_,Heap.get?_push_size _ rfl,rfl,rfl⟩,fun b hb=>?_,q⟩
    have e:b=s1.heap.objs.size:=by simpa using hb
    subst e
    exact I1.fpOk (Nat.le_refl _) (I1.hok.fresh (Nat.le_refl _))
  cases ha:x.cps.all (· < 128)
  · exact wpAny_pyIter_wide ha (fin "str_iterator" (zk0 _ x t _ (by decide) wpAny_pyNext_wide_item wpAny_pyNext_wide_end wpAny_pyIter_striter_wide))
  · exact wpAny_pyIter_ascii ha (fin "str_ascii_iterator" (zk0 _ x t _ (by decide) wpAny_pyNext_ascii_item wpAny_pyNext_ascii_end wpAny_pyIter_striter_ascii))
section
variable {X:Cx}
theorem zfy:∀{bs:List Bool}{us:List Value},Vals (bs.map V.bl) us->us=bs.map Value.bool
  | [],_,r=>by cases r;rfl
  | b::bs,_,r=>by
    cases r with
    | cons r1 r2=>rw[show _=Value.bool b from r1,zfy r2];rfl
theorem zng (bs:List Bool):((List.range bs.length).all fun i=>(bs[i]?).getD true)=bs.all id:=by
  rw[Bool.eq_iff_iff,List.all_eq_true,List.all_eq_true]
  constructor
  · intro h b hb
    obtain⟨i,hi,e⟩:=List.mem_iff_getElem.mp hb
    have:=h i (List.mem_range.mpr hi)
    rw[List.getElem?_eq_getElem hi,Option.getD_some,e] at this
    exact this
  · intro h i hi
    have hi':=List.mem_range.mp hi
    rw[List.getElem?_eq_getElem hi',Option.getD_some]
    exact h _ (List.getElem_mem hi')
theorem znh (hc:X.calm=true):zd0 X (.builtin "all") (fun xs H Q=>∃(a:Addr) (bs:List Bool),xs = [V.ref a]/\SqL X.K H a (bs.map V.bl)/\Q (.bl (bs.all id)) H):=by
  intro pins s σ H xs us Q I r h
  obtain⟨a,bs,rfl,ha,q⟩:=h
  obtain⟨u,rfl,ru⟩:=zd7 r
  cases ru
  obtain⟨its,rv,pl,hz⟩:=I.list ha
  have e:its=bs.map Value.bool:=zfy rv
  subst e
  have hl:=pl.isList
  have hlt:a<s.heap.objs.size:=by obtain⟨_,e,_⟩:=hl;exact Heap.lt_size e
  refine call_all_walk (wpAny_pyIter_list hl ?_)
  refine⟨s.heap.objs.size,[s.heap.objs.size,a],[s.heap.objs.size],(bs.map Value.bool).toArray.size,_,_,fun i=>(bs[i]?).getD true,rfl,Walks.list (A:=X.A.in1) (I.ok.hd hc) _ a (Nat.ne_of_lt hlt) (bs.map Value.bool).toArray,
    ⟨⟨_,Heap.get?_push_size _ rfl,rfl,rfl⟩,hl.push _⟩,fun i v s' Q' E' hP hQ=>?_,fun h' tk hk=>?_⟩
  · have hP':(bs.map Value.bool)[i]? = some v:=by simpa using hP
    rw[List.getElem?_map] at hP'
    cases e:bs[i]? with
    | none=>rw[e] at hP';cases hP'
    | some b=>
      rw[e] at hP'
      cases hP'
      simp only [e,Option.getD_some] at hQ
      exact wpAny_truthy_bool hQ
  · have e:((List.range (bs.map Value.bool).toArray.size).all fun i=>(bs[i]?).getD true)=bs.all id:=by
      rw[List.size_toArray,List.length_map];exact zng bs
    rw[e]
    refine⟨.bl (bs.all id),H,?_,rfl,q⟩
    exact I.kept fun b o eb=>hk b o (fun z=>by rw[List.mem_singleton.mp z] at eb;exact absurd (Heap.lt_size eb) (Nat.lt_irrefl _)) (Heap.get?_push_of_some _ eb)
theorem zni:zd0 X (.type "int") (fun xs H Q=>∃x n,xs = [V.str x]/\PySem.intText? x=some n/\x.length<=640/\Q (.int n) H):=by
  intro pins s σ H xs us Q I r h
  obtain⟨x,n,rfl,hn,hl,q⟩:=h
  obtain⟨u,rfl,t,rfl⟩:=zd7 r
  exact PySem.W.KIN.call_text hn hl ⟨.int n,H,I.tok _,⟨_,rfl⟩,q⟩
theorem zjb:MtR X "str.startswith" (fun x xs H Q=>∃a b,x=V.str a/\xs = [V.str b]/\Q (.bl (Txt.startswith a b)) H):=by
  intro pins s σ H x xs v us Q I rx rs h
  obtain⟨a,b,rfl,rfl,q⟩:=h
  obtain⟨t,rfl⟩:=rx
  obtain⟨u,rfl,t',rfl⟩:=zd7 rs
  exact SC.startswith ⟨.bl _,H,I,rfl,q⟩
theorem zes:∀{ys:List Str}{us:List Value},Vals (ys.map V.str) us->StrsAre us ys
  | [],_,r=>by cases r;exact .nil
  | y::ys,_,r=>by
    cases r with
    | cons r1 r2=>
      obtain⟨t,rfl⟩:=r1
      exact .cons y t (zes r2)
theorem zsd:MtR X "str.join" (fun x xs H Q=>∃(sep:Str) (p:Addr) (ys:List Str),x=V.str sep/\xs = [V.ref p]/\SqL X.K H p (ys.map V.str)/\(ys.map (·.length)).sum+ys.length * sep.length<=16777216/\Q (.str (Txt.join sep ys)) H):=by
  intro pins s σ H x xs v us Q I rx rs h
  obtain⟨sep,p,ys,rfl,rfl,hp,hz,q⟩:=h
  obtain⟨t,rfl⟩:=rx
  obtain⟨u,rfl,ru⟩:=zd7 rs
  cases ru
  obtain⟨its,rv,pl,_⟩:=I.list hp
  exact PyProof.Rows.join_list pl.isList (by simpa using zes rv) hz fun t' k=>⟨.str _,H,I.tok _,⟨_,rfl⟩,q⟩
def rSlS:V->Option Int->Option Int->Hp->VK->Prop:=fun x lo hi H Q=>∃z,x = .str z/\z.length<=sizeLine/\Q (.str (Txt.slice z lo hi)) H
theorem zk1:SlR X rSlS:=by
  intro pins s σ H x v vl vu lo hi sl Q I rx hs pl pu h
  obtain⟨z,rfl,hz,q⟩:=h
  obtain⟨t,rfl⟩:=rx
  refine⟨"str",_,F.slot_str_getitem.lookup,typeIs_str _ _ _,?_⟩
  have fin:∀(t':Tok) (k:Nat),EP X pins σ Q (.str (Txt.slice z lo hi) t') { s with toks:=k }:=fun t' k=>⟨.str _,H,I.tok k,⟨_,rfl⟩,q⟩
  obtain⟨o,ho,hcl,hd⟩:=hs
  cases pl<;>cases pu
  · exact wpAny_getItem_str_slice (l:=none) (u:=none) (st:=none) ⟨o,ho,hcl,hd⟩ rfl (post_val_or_str ⟨Nat.le_trans (Txt.slice_le z _ _) hz,fin⟩)
  · exact wpAny_getItem_str_slice (l:=none) (u:=some (_,_)) (st:=none) ⟨o,ho,hcl,hd⟩ rfl (post_val_or_str ⟨Nat.le_trans (Txt.slice_le z _ _) hz,fin⟩)
  · exact wpAny_getItem_str_slice (l:=some (_,_)) (u:=none) (st:=none) ⟨o,ho,hcl,hd⟩ rfl (post_val_or_str ⟨Nat.le_trans (Txt.slice_le z _ _) hz,fin⟩)
  · exact wpAny_getItem_str_slice (l:=some (_,_)) (u:=some (_,_)) (st:=none) ⟨o,ho,hcl,hd⟩ rfl (post_val_or_str ⟨Nat.le_trans (Txt.slice_le z _ _) hz,fin⟩)
theorem zpl:zd0 X (.builtin "isinstance") (fun xs H Q=>∃x t n b,xs = [x,V.ty n]/\TyOf X.K H x t/\PySem.W.kitOne X.K t (.type n)=some b/\Q (.bl b) H):=by
  intro pins s σ H xs us Q I r h
  obtain⟨x,t,n,b,rfl,ty,e,q⟩:=h
  obtain⟨u,w',rfl,ru,rw'⟩:=zo7 r
  cases rw'
  exact zm8 I ru ty e fun tk=>⟨.bl b,H,I.tok tk,rfl,q⟩
end
theorem len1 {Pl:List Value->Prop}(h:∀a,Pl [a]):∀us:List Value,us.length=1->Pl us
  | [a],_=>h a
theorem len2 {Pl:List Value->Prop}(h:∀a b,Pl [a,b]):∀us:List Value,us.length=2->Pl us
  | [a,b],_=>h a b
theorem len3 {Pl:List Value->Prop}(h:∀a b c,Pl [a,b,c]):∀us:List Value,us.length=3->Pl us
  | [a,b,c],_=>h a b c
theorem len4 {Pl:List Value->Prop}(h:∀a b c d,Pl [a,b,c,d]):∀us:List Value,us.length=4->Pl us
  | [a,b,c,d],_=>h a b c d
def Df (K:PySem.W.Frag) (mg:Str->Option Value) (x:Str) (st:Stmt) (ps:List Str):Prop:=
  ∃(f:Addr) (fd:FuncData),Fun K x x st f fd/\mg x=some (.ref f)/\∀us:List Value,us.length=ps.length->bindArgs fd ⟨us,[]⟩=pure (ps.zip us)
theorem df_mk {K:PySem.W.Frag}{h:Heap}{mg:Str->Option Value}(X:K.In h) (G:h.Ns mainGlobals mg) {x:Str}{st:Stmt}{ps:List Str}{f:Addr}{oc kV dc pm cd ct:Value}{od an:Option Addr}{sl:Array (Option Value)}
    (hb:∀(kV doc pm:Value) (an:Option Addr) (cdv ct:Value) (us:List Value),us.length=ps.length->bindArgs (PySem.W.fnOf x x (zd1 st) (zb7 st) (zr st) .none kV doc pm an cdv ct) ⟨us,[]⟩=pure (ps.zip us))
    (a:PySem.W.nsIn K mainGlobals x=some (some (.ref f))) (l:K.lookup f=some ⟨oc,od,.func (PySem.W.fnOf x x (zd1 st) (zb7 st) (zr st) .none kV dc pm an cd ct),sl⟩) (c:PySem.W.codeIn K cd x=true) (k:PySem.W.keepIn K (.ref f)=true):Df K mg x st ps:=
  ⟨f,_,zq9 l c k,PySem.W.mg_of X G a,fun us hl=>hb kV dc pm an cd ct us hl⟩
theorem const_mk {K:PySem.W.Frag}{h:Heap}{mg:Str->Option Value}(X:K.In h) (G:h.Ns mainGlobals mg) {x:Str}{u:Value}(a:PySem.W.nsIn K mainGlobals x=some (some u)):mg x=some u:=PySem.W.mg_of X G a
theorem rel_mk {K:PySem.W.Frag}{h:Heap}{mg:Str->Option Value}(X:K.In h) (G:h.Ns mainGlobals mg) {x:Str}{u:Value}{v:V}(a:PySem.W.nsIn K mainGlobals x=some (some u)) (r:RelV v u):∃u,mg x=some u/\RelV v u:=⟨u,PySem.W.mg_of X G a,r⟩
theorem blt_mk {K:PySem.W.Frag}{h:Heap}{mg:Str->Option Value}(X:K.In h) (G:h.Ns mainGlobals mg) {x:Str}(a:PySem.W.nsIn K mainGlobals x=some none):mg x=none:=PySem.W.mg_none_of X G a
def Has (P:Program) (w:World) (K:PySem.W.Frag) (mg:Str->Option Value) (base:Heap) (x:Str) (ps:List Str) (k:Nat) (sp:Sp):Prop:=
  ∃(f:Addr) (fd:FuncData),mg x=some (.ref f)/\PySem.W.keepIn K (.ref f)=true/\(∃oc od osl,K.lookup f=some ⟨oc,od,.func fd,osl⟩)/\(∀us:List Value,us.length=ps.length->bindArgs fd ⟨us,[]⟩=pure (ps.zip us))/\FnOk P w K mg base CX0 k f fd ps sp
section
variable {P:Program}{w:World}{K:PySem.W.Frag}{mg:Str->Option Value}{base:Heap}
theorem Df.has {x:Str}{st:Stmt}{N ps:List Str}{k:Nat}{sp:Sp}(D:Df K mg x st ps) (S:FnScope N ps (zr st)) (len:∀vs H Q E,sp vs H Q E->vs.length=ps.length)
    (hbody:∀(f:Addr) (cdv:Value) (A:Around) (outer:List Env) (s:Shared) (H:Hp) (vs:List V) (Q:VK) (E:XK),Room k (A.deeper (envOfC x (zr st) s.heap.objs.size f cdv))->sp vs H Q E->
      ∃t,PSs (cxOf CX0 P w K mg base N x (zr st) f cdv A outer s H E).nox (zb7 st) t/\t { nx:=fun _ H'=>Q .non H',rt:=Q } (start N vs) H):Has P w K mg base x ps (k+1) sp:=by
  obtain⟨f,fd,F,a,b⟩:=D
  obtain⟨oc,od,kV,doc,pm,an,cdv,ct,osl,e,lk,hcd⟩:=id F.ex
  exact⟨f,fd,a,F.kp,⟨oc,od,osl,lk⟩,b,F.ok S len (hbody f)⟩
end
section
variable {X:Cx}{k:Nat}{ps:List Str}{sp:Sp}{x:Str}{p pos:Pos}{e:Expr}{es:List Expr}{t:TA}
theorem zba (F:Has X.prog X.w X.K X.mg X.base x ps k sp) (hr:Room k X.A) (hg:Gl X x) (ha:PA X (e::es) t) (hdb:(x == ("__debug__" : Str))=false:=by decide)
    (he:starEach (e::es) X.env=(false,eval e X.env)::starEach es X.env:=by rfl) (hpl:(backTo pos (starEach es X.env)).any (·.1)=false:=by rfl):PE X (.Call (.Name x p) (e::es) [] pos) (zt4 sp [] E0 t):=by
  obtain⟨f,fd,a,kp,lk,b,G⟩:=F
  exact zrv G hr hg a kp (.all b) .nil zsa ha hdb he hpl
end
theorem law_walk {l:PySem.W.OpenLaw}{q:Program}{loose:List Str}{XP:(Str->Option Value)->Heap->Prop}{YP:World->Heap->Prop}{d:DefRec}{K:Params->PySem.W.Frag}{k:Nat}{x:Str}{sp:PySem.W.Frag->Sp}
    (hn:l.most=some 63) (hdf:d.params.defaults = []) (hr:Room k callerA) (hY:∀(w:World) (h:Heap),YP w h->(K w.params).In h)
    (hsp:∀(K:PySem.W.Frag) (H:Hp) (a:Addr) (ns:List Int),ns.length<=63->SqL K H a (ns.map V.int)->sp K [.ref a] H (fun v _=>v = .bl true) fun _ _ _=>False)
    (F:∀(w:World) (mg:Str->Option Value) (h:Heap),(K w.params).In h->h.Ns mainGlobals mg->∀base:Heap,(K w.params).In base->base.Ns mainGlobals mg->Has l.prog w (K w.params) mg base d.name [x] k (sp (K w.params))) :
    PySem.W.WalkO q loose XP YP l.row.toRowW d [] (fun f vs=>PySem.call f vs):=by
  refine L2.walk_ofK (n:=63) (k:=k) (x:=x) (CX:=CX0) (sp:=sp) hn (by decide) hdf hr hY (fun w mg fa h KX G hmg=>?_) (fun K H a ns hl _ hS=>hsp K H a ns hl hS) fun _ _ _ _ z=>z
  obtain⟨f,fd,a,kp,⟨oc,od,osl,lk⟩,b,_⟩:=F w mg h KX G h KX G
  have ef:fa=f:=by
    rw[hmg] at a
    cases a;rfl
  subst ef
  refine⟨fd,fun s u=>.of_eq (b [u] rfl),fun base kb nb=>?_⟩
  obtain⟨f',fd',a',kp',⟨oc',od',osl',lk'⟩,b',G'⟩:=F w mg h KX G base kb nb
  have ef:f'=fa:=by
    rw[hmg] at a'
    cases a';rfl
  subst ef
  rw[lk] at lk'
  cases lk'
  exact G'
inductive DEq (K:PySem.W.Frag) (H:Hp):Nat->V->V->Bool->Prop where
  | flat {n:Nat}{x y:V}(fx:zcs x=true) (fy:zcs y=true):DEq K H n x y (eqV x y)
  | lst {n:Nat}{a b:Addr}{xs ys:List V}(e:Nat->Bool) (hx:SqL K H a xs) (hy:SqL K H b ys) (hl:xs.length=ys.length) (he:∀(i:Nat) x y,xs[i]? = some x->ys[i]? = some y->DEq K H n x y (e i)) :
      DEq K H (n+1) (.ref a) (.ref b) ((List.range xs.length).all e)
  | lstN {n:Nat}{a b:Addr}{xs ys:List V}(hx:SqL K H a xs) (hy:SqL K H b ys) (hl:xs.length≠ys.length):DEq K H (n+1) (.ref a) (.ref b) false
  | tup {n:Nat}{a b:Addr}{xs ys:List V}(e:Nat->Bool) (hx:SqT K H a xs) (hy:SqT K H b ys) (he:∀(i:Nat) x y,xs[i]? = some x->ys[i]? = some y->DEq K H n x y (e i)) :
      DEq K H (n+1) (.ref a) (.ref b) ((List.range (min xs.length ys.length)).all e&&xs.length == ys.length)
  | lt {n:Nat}{a b:Addr}{xs ys:List V}(hx:SqL K H a xs) (hy:SqT K H b ys):DEq K H (n+1) (.ref a) (.ref b) false
  | tl {n:Nat}{a b:Addr}{xs ys:List V}(hx:SqT K H a xs) (hy:SqL K H b ys):DEq K H (n+1) (.ref a) (.ref b) false
theorem zk2 {x:V}(h:zcs x=true):eqV x x=true:=by
  cases x<;>first | rfl | (simp[zcs] at h;done) | (simp[eqV];done)
section
variable {X:Cx}{pins:List (Addr×Obj)}{σ:St}{H:Hp}{s:Shared}
theorem znj (I:Inv X pins σ H s) {a:Addr}{xs ys:List V}(hx:SqL X.K H a xs) (hy:SqT X.K H a ys):False:=by
  obtain⟨its,_,⟨o,n,e,c,_,_⟩,_⟩:=I.list hx
  obtain⟨its',_,⟨o',e',c',_⟩,_⟩:=I.tuple hy
  rw[e] at e'
  cases e'
  rw[c] at c'
  injection c' with c'
  exact absurd c' (by decide)
theorem DEq.refl (I:Inv X pins σ H s) {n:Nat}{x y:V}{b:Bool}(h:DEq X.K H n x y b):x=y->b=true:=by
  induction h with
  | flat fx fy=>intro e;subst e;exact zk2 fx
  | lst e hx hy hl he ih=>
    intro q
    cases q
    have:=I.list_inj hx hy
    subst this
    rw[List.all_eq_true]
    intro i hi
    have hi:=List.mem_range.mp hi
    exact ih i _ _ (List.getElem?_eq_getElem hi) (List.getElem?_eq_getElem hi) rfl
  | lstN hx hy hl=>
    intro q
    cases q
    exact absurd (congrArg List.length (I.list_inj hx hy)) hl
  | tup e hx hy he ih=>
    intro q
    cases q
    have:=I.tuple_inj hx hy
    subst this
    rw[Nat.min_self,beq_self_eq_true,Bool.and_true,List.all_eq_true]
    intro i hi
    have hi:=List.mem_range.mp hi
    exact ih i _ _ (List.getElem?_eq_getElem hi) (List.getElem?_eq_getElem hi) rfl
  | lt hx hy=>intro q;cases q;exact (znj I hx hy).elim
  | tl hx hy=>intro q;cases q;exact (znj I hy hx).elim
theorem zd9 (A:Around):A.in1.units<=A.units+1:=by
  first
    | exact Nat.le_refl _
    | exact Nat.le_succ _
    | (unfold Around.in1;simp)
theorem DEq.at (I:Inv X pins σ H s) {n:Nat}{x y:V}{b:Bool}(h:DEq X.K H n x y b):∀{u v:Value}{A:Around},RelV x u->RelV y v->A.units+n<cLine->
    SeqAt.EqAt A s u v b/\((∃p q,x = .ref p/\y = .ref q)->SeqAt.RcAt A s u v b):=by
  induction h with
  | flat fx fy=>
    intro u v A ru rv hu
    refine⟨zq7 ru rv fx fy,fun hq0=>?_⟩
    obtain⟨p,q,e,_⟩:=hq0
    subst e
    cases fx
  | @lst n a b xs ys e hx hy hl he ih=>
    intro u v A ru rv hu
    cases ru
    cases rv
    obtain⟨its,r1,p1,_⟩:=I.list hx
    obtain⟨its2,r2,p2,_⟩:=I.list hy
    have l1:=r1.length
    have l2:=r2.length
    have h1:=zd9 A
    have rc:SeqAt.RcAt A s (.ref a) (.ref b) ((List.range xs.length).all e):=by
      have:=SeqAt.RcAt.lists (A:=A) (e:=e) p1.isList p2.isList (by simp;omega) (by omega) (fun j j1 j2=>by
        have g1:xs[j]? = some (xs[j]'(by simp at j1;omega)):=List.getElem?_eq_getElem _
        have g2:ys[j]? = some (ys[j]'(by simp at j2;omega)):=List.getElem?_eq_getElem _
        obtain⟨w1,q1,t1⟩:=r1.get g1
        obtain⟨w2,q2,t2⟩:=r2.get g2
        have:=(ih j _ _ g1 g2 t1 t2 (A:=A.in1) (by omega)).1
        have z1:its.toArray[j]=w1:=by
          have:=List.getElem?_eq_some_iff.mp q1
          obtain⟨_,z⟩:=this
          simpa using z
        have z2:its2.toArray[j]=w2:=by
          have:=List.getElem?_eq_some_iff.mp q2
          obtain⟨_,z⟩:=this
          simpa using z
        rw[z1,z2]
        exact this)
      have es:its.toArray.size=xs.length:=by simp;omega
      rw[es] at this
      exact this
    refine⟨?_,fun _=>rc⟩
    by_cases hab:a=b
    · subst hab
      have:=(DEq.lst e hx hy hl he).refl I rfl
      rw[this]
      exact .same _
    · exact .of_refs hab rc
  | @lstN n a b xs ys hx hy hl=>
    intro u v A ru rv hu
    cases ru
    cases rv
    obtain⟨its,r1,p1,_⟩:=I.list hx
    obtain⟨its2,r2,p2,_⟩:=I.list hy
    have l1:=r1.length
    have l2:=r2.length
    have rc:SeqAt.RcAt A s (.ref a) (.ref b) false:=SeqAt.RcAt.lists_lengths p1.isList p2.isList (by simp;omega) (by omega)
    refine⟨?_,fun _=>rc⟩
    by_cases hab:a=b
    · subst hab
      exact absurd (congrArg List.length (I.list_inj hx hy)) hl
    · exact .of_refs hab rc
  | @tup n a b xs ys e hx hy he ih=>
    intro u v A ru rv hu
    cases ru
    cases rv
    obtain⟨its,r1,p1,_⟩:=I.tuple hx
    obtain⟨its2,r2,p2,_⟩:=I.tuple hy
    have l1:=r1.length
    have l2:=r2.length
    have h1:=zd9 A
    have rc:SeqAt.RcAt A s (.ref a) (.ref b) ((List.range (min xs.length ys.length)).all e&&xs.length == ys.length):=by
      have:=SeqAt.RcAt.tuples (A:=A) (e:=e) (show s.heap.IsTuple a its.toArray from p1) (show s.heap.IsTuple b its2.toArray from p2) (by omega) (fun j j1 j2=>by
        have g1:xs[j]? = some (xs[j]'(by simp at j1;omega)):=List.getElem?_eq_getElem _
        have g2:ys[j]? = some (ys[j]'(by simp at j2;omega)):=List.getElem?_eq_getElem _
        obtain⟨w1,q1,t1⟩:=r1.get g1
        obtain⟨w2,q2,t2⟩:=r2.get g2
        have:=(ih j _ _ g1 g2 t1 t2 (A:=A.in1) (by omega)).1
        have z1:its.toArray[j]=w1:=by
          have:=List.getElem?_eq_some_iff.mp q1
          obtain⟨_,z⟩:=this
          simpa using z
        have z2:its2.toArray[j]=w2:=by
          have:=List.getElem?_eq_some_iff.mp q2
          obtain⟨_,z⟩:=this
          simpa using z
        rw[z1,z2]
        exact this)
      have es:its.toArray.size=xs.length:=by simp;omega
      have es2:its2.toArray.size=ys.length:=by simp;omega
      rw[es,es2] at this
      exact this
    refine⟨?_,fun _=>rc⟩
    by_cases hab:a=b
    · subst hab
      have:=(DEq.tup e hx hy he).refl I rfl
      rw[this]
      exact .same _
    · exact .of_refs hab rc
  | @lt n a b xs ys hx hy=>
    intro u v A ru rv hu
    cases ru
    cases rv
    obtain⟨its,r1,p1,_⟩:=I.list hx
    obtain⟨its2,r2,p2,_⟩:=I.tuple hy
    exact⟨SeqAt.EqAt.list_tuple p1.isList (show s.heap.IsTuple b its2.toArray from p2) (by omega),fun _=>SeqAt.RcAt.list_tuple p1.isList (show s.heap.IsTuple b its2.toArray from p2) (by omega)⟩
  | @tl n a b xs ys hx hy=>
    intro u v A ru rv hu
    cases ru
    cases rv
    obtain⟨its,r1,p1,_⟩:=I.tuple hx
    obtain⟨its2,r2,p2,_⟩:=I.list hy
    exact⟨SeqAt.EqAt.tuple_list (show s.heap.IsTuple a its.toArray from p1) p2.isList (by omega),fun _=>SeqAt.RcAt.tuple_list (show s.heap.IsTuple a its.toArray from p1) p2.isList (by omega)⟩
end
section
variable {X:Cx}{pins:List (Addr×Obj)}{σ:St}{H:Hp}{s:Shared}
theorem zk3 (I:Inv X pins σ H s) {n:Nat}{xs ys:List V}{its its2:List Value}{e:Nat->Bool}(r1:Vals xs its) (r2:Vals ys its2) (he:∀(i:Nat) x y,xs[i]? = some x->ys[i]? = some y->DEq X.K H n x y (e i)) {A:Around}(hu:A.units+n<cLine) :
    ∀(j:Nat) (h1:j<its.toArray.size) (h2:j<its2.toArray.size),SeqAt.EqAt A s its.toArray[j] its2.toArray[j] (e j):=fun j j1 j2=>by
  have l1:=r1.length
  have l2:=r2.length
  have g1:xs[j]? = some (xs[j]'(by simp at j1;omega)):=List.getElem?_eq_getElem _
  have g2:ys[j]? = some (ys[j]'(by simp at j2;omega)):=List.getElem?_eq_getElem _
  obtain⟨w1,q1,t1⟩:=r1.get g1
  obtain⟨w2,q2,t2⟩:=r2.get g2
  have:=((he j _ _ g1 g2).at I t1 t2 (A:=A) hu).1
  have z1:its.toArray[j]=w1:=by
    obtain⟨_,z⟩:=List.getElem?_eq_some_iff.mp q1
    simpa using z
  have z2:its2.toArray[j]=w2:=by
    obtain⟨_,z⟩:=List.getElem?_eq_some_iff.mp q2
    simpa using z
  rw[z1,z2]
  exact this
theorem DEq.ne (I:Inv X pins σ H s) {n:Nat}{p q:Addr}{b:Bool}(h:DEq X.K H n (.ref p) (.ref q) b) {A:Around}(hu:A.units+n<cLine):SeqAt.RcNeAt A s (.ref p) (.ref q) (!b):=by
  have h1:=zd9 A
  cases h with
  | flat fx fy=>cases fx
  | lst e hx hy hl he=>
    obtain⟨its,r1,p1,_⟩:=I.list hx
    obtain⟨its2,r2,p2,_⟩:=I.list hy
    have l1:=r1.length
    have l2:=r2.length
    have:=SeqAt.RcNeAt.lists (A:=A) (e:=e) p1.isList p2.isList (by simp;omega) (by omega) (zk3 I r1 r2 he (A:=A.in1) (by omega))
    rw[List.size_toArray,←l1] at this
    exact this
  | lstN hx hy hl=>
    obtain⟨its,r1,p1,_⟩:=I.list hx
    obtain⟨its2,r2,p2,_⟩:=I.list hy
    have l1:=r1.length
    have l2:=r2.length
    exact SeqAt.RcNeAt.lists_lengths p1.isList p2.isList (by simp;omega) (by omega)
  | tup e hx hy he=>
    obtain⟨its,r1,p1,_⟩:=I.tuple hx
    obtain⟨its2,r2,p2,_⟩:=I.tuple hy
    have l1:=r1.length
    have l2:=r2.length
    have:=SeqAt.RcNeAt.tuples (A:=A) (e:=e) (show s.heap.IsTuple p its.toArray from p1) (show s.heap.IsTuple q its2.toArray from p2) (by omega) (zk3 I r1 r2 he (A:=A.in1) (by omega))
    rw[List.size_toArray,List.size_toArray,←l1,←l2] at this
    exact this
  | lt hx hy=>
    obtain⟨its,r1,p1,_⟩:=I.list hx
    obtain⟨its2,r2,p2,_⟩:=I.tuple hy
    exact SeqAt.RcNeAt.list_tuple p1.isList (show s.heap.IsTuple q its2.toArray from p2) (by omega)
  | tl hx hy=>
    obtain⟨its,r1,p1,_⟩:=I.tuple hx
    obtain⟨its2,r2,p2,_⟩:=I.list hy
    exact SeqAt.RcNeAt.tuple_list (show s.heap.IsTuple p its.toArray from p1) p2.isList (by omega)
end
section
variable {X:Cx}
def rEqD (K:PySem.W.Frag):R2:=fun x y H Q=>∃p q b,x = .ref p/\y = .ref q/\DEq K H 8 x y b/\Q (.bl b) H
theorem zuk (hu:X.A.units+9<cLine):OpR X (compareOp .Eq) (rEqD X.K):=by
  intro pins s σ H x y v u Q I rx ry h
  obtain⟨p,q,b,rfl,rfl,d,hq⟩:=h
  exact (d.at I rx ry (A:=X.A) (by omega)).2 ⟨p,q,rfl,rfl⟩ X.prog X.w _ _ ⟨.bl b,H,I,rfl,hq⟩
def rNeD (K:PySem.W.Frag):R2:=fun x y H Q=>∃p q b,x = .ref p/\y = .ref q/\DEq K H 8 x y b/\Q (.bl (!b)) H
theorem zul (hu:X.A.units+9<cLine):OpR X (compareOp .NotEq) (rNeD X.K):=by
  intro pins s σ H x y v u Q I rx ry h
  obtain⟨p,q,b,rfl,rfl,d,hq⟩:=h
  cases rx
  cases ry
  exact d.ne I (A:=X.A) (by omega) X.prog X.w _ _ ⟨.bl (!b),H,I,rfl,hq⟩
def rInD (K:PySem.W.Frag) (neg:Bool):R2:=fun x y H Q=>∃(p:Addr) (xs:List V) (e:V->Bool),y = .ref p/\(SqL K H p xs\/SqT K H p xs)/\(∀z∈xs,DEq K H 8 z x (e z))/\Q (.bl (if neg then !xs.any e else xs.any e)) H
theorem znk:∀{xs:List V}{us:List Value}{u:Value},Vals xs us->u∈us->∃x∈xs,RelV x u
  | _,_,_,.cons r t,h=>by
    rcases List.mem_cons.mp h with h | h
    · subst h;exact⟨_,List.mem_cons_self ..,r⟩
    · obtain⟨x,hx,q⟩:=znk t h
      exact⟨x,List.mem_cons_of_mem _ hx,q⟩
def absE (e:V->Bool) (u:Value):Bool:=match absV u with
  | some x=>e x
  | none=>false
theorem znl {e:V->Bool}{x:V}{u:Value}(r:RelV x u):absE e u=e x:=by unfold absE;rw[r.abs]
theorem zj7 {e:V->Bool}:∀{xs:List V}{us:List Value},Vals xs us->us.any (absE e)=xs.any e
  | _,_,.nil=>rfl
  | _,_,.cons r t=>by rw[List.any_cons,List.any_cons,znl r,zj7 t]
theorem znm (hu:X.A.units+10<cLine):OpR X (compareOp .NotIn) (rInD X.K true):=by
  intro pins s σ H x y v u Q I rx ry h
  obtain⟨p,xs,e,rfl,hq,hd,q⟩:=h
  cases ry
  have h1:=zd9 X.A
  have items:∀{its:List Value},Vals xs its->∀z,z∈its.toArray->SeqAt.EqAt X.A.in1 s z v (absE e z):=fun {its} r z hz=>by
    obtain⟨x',hx',rz⟩:=znk r (by simpa using hz)
    rw[znl rz]
    exact ((hd x' hx').at I rz rx (A:=X.A.in1) (by omega)).1
  rcases hq with hq | hq
  · obtain⟨its,r,pl,hz⟩:=I.list hq
    refine SeqAt.notIn_listAt (absE e) pl.isList (items r) ⟨.bl _,H,I,rfl,?_⟩
    rw[show its.toArray.any (absE e)=its.any (absE e) by simp,zj7 r]
    exact q
  · obtain⟨its,r,pl,hz⟩:=I.tuple hq
    refine SeqAt.notIn_tupleAt (absE e) pl (items r) ⟨.bl _,H,I,rfl,?_⟩
    rw[show its.toArray.any (absE e)=its.any (absE e) by simp,zj7 r]
    exact q
end
def eqL (xs ys:List V):Bool:=(List.range (min xs.length ys.length)).all (fun i=>match xs[i]?,ys[i]? with | some x,some y=>eqV x y | _,_=>true)&&xs.length == ys.length
theorem DEq.flatT {K:PySem.W.Frag}{H:Hp}{n:Nat}{a b:Addr}{xs ys:List V}(hx:SqT K H a xs) (hy:SqT K H b ys) (fx:∀x∈xs,zcs x=true) (fy:∀x∈ys,zcs x=true):DEq K H (n+1) (.ref a) (.ref b) (eqL xs ys):=by
  refine DEq.tup _ hx hy fun i x y e1 e2=>?_
  rw[e1,e2]
  exact DEq.flat (fx x (List.mem_of_getElem? e1)) (fy y (List.mem_of_getElem? e2))
theorem zh2 {xs:List V}(h:∀x∈xs,zcs x=true):eqL xs xs=true:=by
  unfold eqL
  rw[beq_self_eq_true,Bool.and_true,List.all_eq_true]
  intro i hi
  rw[Nat.min_self] at hi
  have hi:=List.mem_range.mp hi
  rw[List.getElem?_eq_getElem hi]
  exact zk2 (h _ (List.getElem_mem hi))
theorem DEq.sameL {K:PySem.W.Frag}{H:Hp}{n:Nat}{a b:Addr}{xs:List V}(hx:SqL K H a xs) (hy:SqL K H b xs) (h:∀x∈xs,DEq K H n x x true):DEq K H (n+1) (.ref a) (.ref b) true:=by
  have:=DEq.lst (n:=n) (fun _=>true) hx hy rfl fun i x y e1 e2=>by
    rw[e1] at e2;cases e2
    exact h x (List.mem_of_getElem? e1)
  rw[show (List.range xs.length).all (fun _=>true)=true from List.all_eq_true.mpr fun _ _=>rfl] at this
  exact this
theorem DEq.sameT {K:PySem.W.Frag}{H:Hp}{n:Nat}{a b:Addr}{xs ys:List V}(hx:SqT K H a xs) (hy:SqT K H b ys) (hl:xs.length=ys.length) (h:∀(i:Nat) x y,xs[i]? = some x->ys[i]? = some y->DEq K H n x y true):DEq K H (n+1) (.ref a) (.ref b) true:=by
  have:=DEq.tup (n:=n) (fun _=>true) hx hy h
  rw[show (List.range (min xs.length ys.length)).all (fun _=>true)=true from List.all_eq_true.mpr fun _ _=>rfl,hl,beq_self_eq_true] at this
  exact this
theorem Same.tup {K:PySem.W.Frag}{H H':Hp}{a:Addr}{xs:List V}(e:Same H H') (h:SqT K H a xs):SqT K H' a xs:=by
  rcases h with (h | ⟨o,h⟩) | h
  · exact .inl (.inl (e _ _ h))
  · exact .inl (.inr ⟨o,e _ _ h⟩)
  · exact .inr h
theorem Same.new {H:Hp}{D:Addr}{o:HO}(h:H D=none):Same H (upd H D o):=fun b u e=>by rw[zj (zk e h)];exact e
theorem Same.upd {H H':Hp}{D:Addr}{o:HO}(e:Same H H') (h:H D=none):Same H (upd H' D o):=fun b u q=>by
  rw[zj (zk q h)];exact e b u q
section
variable {X:Cx}(K:PySem.W.Frag) (h:X.K=K)
include h
theorem zaf:IxR X (rIxL K):=h▸zr1
theorem znn:IxR X (rIxT K):=h▸zua
theorem zaz:SlR X (rSlL K):=h▸zr2
theorem zpm:OpR X (binaryOp .Add) (zt9 K):=h▸zry
theorem zha:OpR X (compareOp .In) (rIn K false):=h▸zna
theorem zh3 (hu:X.A.units+9<cLine):OpR X (compareOp .Eq) (rEqD K):=h▸zuk hu
theorem zfz (hu:X.A.units+9<cLine):OpR X (compareOp .NotEq) (rNeD K):=h▸zul hu
theorem zl7 (hu:X.A.units+10<cLine):OpR X (compareOp .NotIn) (rInD K true):=h▸znm hu
theorem zh:zd0 X (.builtin "len") (fun xs H Q=>∃p ys,xs = [.ref p]/\(SqL K H p ys\/SqT K H p ys)/\Q (.int ys.length) H):=h▸zi5
theorem zno:zd0 X (.builtin "isinstance") (fun xs H Q=>∃x t n b,xs = [x,V.ty n]/\TyOf K H x t/\PySem.W.kitOne K t (.type n)=some b/\Q (.bl b) H):=h▸zpl
theorem zl8 (hc:X.calm=true):zd0 X (.builtin "all") (fun xs H Q=>∃(a:Addr) (bs:List Bool),xs = [V.ref a]/\SqL K H a (bs.map V.bl)/\Q (.bl (bs.all id)) H):=h▸znh hc
theorem zfl:MtR X "str.join" (fun x xs H Q=>∃(sep:Str) (p:Addr) (ys:List Str),x=V.str sep/\xs = [V.ref p]/\SqL K H p (ys.map V.str)/\(ys.map (·.length)).sum+ys.length * sep.length<=16777216/\Q (.str (Txt.join sep ys)) H):=h▸zsd
variable {o e:Expr}{es:List Expr}{to:TE}{t:TA}{name:Str}{apos cpos:Pos}{T id:String}{r:V->List V->Hp->VK->Prop}
theorem zbu (pa:PlainAttrs T) (slot:Slot T name id) (hty:typeOf (.builtin id)=pure (.type "method_descriptor")) (hm:MtR X id r) (ho:PE X o to) (ha:PA X (e::es) t)
    (hbase:attributeBase o name X.env (eval o X.env)=eval o X.env:=by rfl)
    (hfew:((backTo cpos (starEach (e::es) X.env)).all (fun x=>!x.1)&&(backToKw cpos (keywordEach [] X.env)).all (fun x=>x.1.isSome)
      && decide ((e::es).length+([]:List Keyword).length+(if ([]:List Keyword).isEmpty then 0 else 1)<30))=true:=by rfl)
    (hline:(apos.endLine == cpos.line)=true:=by rfl) (hs:starEach (e::es) X.env=(false,eval e X.env)::starEach es X.env:=by rfl) (hplain:(backTo cpos (starEach es X.env)).any (·.1)=false:=by rfl) :
    PE X (.Call (.Attribute o name apos) (e::es) [] cpos) (tBM K T r to t):=h▸zvr pa slot hty hm ho ha hbase hfew hline hs hplain
end
section
variable {X:Cx}{tg:Expr}(K:PySem.W.Frag) (h:X.K=K)
include h
theorem zcm {l:Expr}{tl:TE}(hl:PE X l tl):PI X tg l (zt1 K tl):=h▸zrq hl
theorem zj8 {es:List Expr}{k:Nat}{t:TGs}{n:Nat}{pos:Pos}(hc:X.calm=true) (h':PGs X es t)
    (hn:(assignEach es X.env).length=n:=by rfl) (hst:(assignEach es X.env).findIdx? (·.1)=none:=by rfl):PG X (.Tuple es k pos) (gTup K n t):=h▸ztz hc h' hn hst
end
theorem hu10 {A:Around}{k:Nat}(hr:Room k A):A.units+9<cLine:=Nat.lt_of_le_of_lt (Nat.add_le_add_left (by decide:9<=64) _) hr.units
theorem hu11 {A:Around}{k:Nat}(hr:Room k A):A.units+10<cLine:=Nat.lt_of_le_of_lt (Nat.add_le_add_left (by decide:10<=64) _) hr.units
theorem za5 {c:TT}{t u:TS}{D:Ends}{σ:St}{H:Hp}(b:Bool) (ht:∀Q':Bool->Hp->Prop,(∀H',Same H H'->Q' b H')->c σ H Q') (hs:∀H',Same H H'->if b=true then t D σ H' else u D σ H'):tIfS c t u D σ H:=ht _ hs
theorem DEq.nilL {K:PySem.W.Frag}{H:Hp}{n:Nat}{a b:Addr}{xs:List V}(hx:SqL K H a xs) (hy:SqL K H b []):DEq K H (n+1) (.ref a) (.ref b) (decide (xs = [])):=by
  by_cases h:xs = []
  · subst h
    exact DEq.lst (fun _=>true) hx hy rfl fun i x y e _=>by simp at e
  · rw[decide_eq_false h]
    exact DEq.lstN hx hy fun z=>h (List.length_eq_zero_iff.mp z)
theorem zjc {α:Type}{x:α}{xs:List α}:atI (x::xs) 0=some x:=by
  have:=zbr (xs:=x::xs) (j:=0) (v:=x) rfl
  exact this
theorem zl9 {x:V}{xs:List V}:cutV (x::xs) (some 1) none=xs:=by
  unfold cutV HT.sIx
  simp
theorem zai {n:Nat}(h:n<=1000):n<=sizeLine:=Nat.le_of_lt (zbo h)
open Builtin Builtin.Str
theorem zea:∀(ys:List Str) (k:Nat),Vals (ys.map V.str) (strsFrom k ys)
  | [],_=>.nil
  | y::ys,k=>.cons ⟨k,rfl⟩ (zea ys (k+1))
section
variable {X:Cx}
theorem zk4 {pins:List (Addr×Obj)}{σ:St}{H:Hp}{s:Shared}{Q:VK}{ys:List Str}{us:List Value}{k n:Nat}(I:Inv X pins σ H s) (r:Vals (ys.map V.str) us) (hz:ys.length<=sizeLine) (q:∀p,H p=none->Q (.ref p) (upd H p (.lst (ys.map V.str)))) :
    EP X pins σ Q (.ref s.heap.objs.size) { s with heap:=s.heap.push { cls:=.type "list",data:=.seq us.toArray n },toks:=k }:=
  ⟨.ref s.heap.objs.size,_,I.laid (t':=k) (o:=.lst (ys.map V.str)) (fun b u e=>Heap.get?_push_of_some _ e) (Nat.le_refl _) ⟨by rw[List.length_map];exact hz,us,n,r,Heap.get?_push_size _ rfl⟩,rfl,q _ (I.hok.fresh (Nat.le_refl _))⟩
theorem zh4:MtR X "str.split" (fun x xs H Q=>∃a b,x=V.str a/\xs = [V.str b]/\(b.length == 0)=false/\a.length<=sizeLine/\(Txt.split a b).length<=sizeLine/\∀p,H p=none->Q (.ref p) (upd H p (.lst ((Txt.split a b).map V.str)))):=by
  intro pins s σ H x xs v us Q I rx rs h
  obtain⟨a,b,rfl,rfl,hb,ha,hn,q⟩:=h
  obtain⟨t,rfl⟩:=rx
  obtain⟨u,rfl,t',rfl⟩:=zd7 rs
  have one:Txt.split a b = [a]->EP X pins σ Q (.ref s.heap.objs.size) { s with heap:=s.heap.push { cls:=.type "list",data:=.seq [Value.str a t].toArray 0 },toks:=s.toks }:=fun e=>by
    rw[e] at q
    exact zk4 I (ys:=[a]) (.cons ⟨t,rfl⟩ .nil) (by show 1<=sizeLine;decide) q
  cases h1:(decide (a.length<b.length)||decide (strKind a<strKind b))
  · cases hf:(occurrences a b 0 a.length (a.length+1)).isEmpty
    · have e:Txt.split a b=partsBetween a (occurrences a b 0 a.length (a.length+1)) b.length:=by
        unfold Txt.split
        rw[h1,hf];rfl
      rw[e] at hn q
      refine call_meets F.slot_str_split (typeIs_str _ _ _) F.entry_str_split (F.args_str_split_2 _ _) (meets_str_split_sep a b t t' h1 hb hf ha hn) ?_
      exact zk4 I (zea _ _) hn q
    · exact call_meets F.slot_str_split (typeIs_str _ _ _) F.entry_str_split (F.args_str_split_2 _ _) (meets_str_split_not_found a b t t' h1 hb hf) (one (by unfold Txt.split;rw[h1,hf];rfl))
  · exact call_meets F.slot_str_split (typeIs_str _ _ _) F.entry_str_split (F.args_str_split_2 _ _) (meets_str_split_cannot_occur a b t t' h1) (one (by unfold Txt.split;rw[h1];rfl))
end
section
variable {X:Cx}{pins:List (Addr×Obj)}{σ:St}{H:Hp}{s:Shared}{h':Heap}
theorem Inv.turnedL {t':Nat}{ch:List Addr}(I:Inv X pins σ H s) (k:∀b o,b ∉ ch->s.heap.get? b=some o->h'.get? b=some o) (hf:∀b∈ch,FpOk X pins H b):Inv X pins σ H { s with heap:=h',toks:=t' }:=by
  have nit:∀b u,H b=some u->b ∉ ch:=fun b u e z=>by rw[(hf b z).1] at e;cases e
  refine I.step (g':=s.gens) (d':=s.drawn) (ch:=ch) (fun b hb=>⟨(hf b hb).2.2.2.1,(hf b hb).2.1,(hf b hb).2.2.2.2.1,(hf b hb).2.2.2.2.2⟩) (fun b o _ _ hc e _=>k b o hc e) (fun b o _ _ hc e _=>⟨o.slots,k b o hc e⟩) (fun _ _ _ _ n=>n)
    (fun b o hc e=>⟨o,k b o hc e⟩) (fun _ _ e=>e) (fun _ _ _ e=>e) (fun b ps e=>⟨#[],by rw[e];simp⟩) (fun m hm=>?_) (fun b u e=>?_) I.bare
  · obtain⟨o,es,ep,ho,r⟩:=hm
    exact⟨o,es,ep,k _ o (fun z=>(hf _ z).2.1 rfl) ho,r⟩
  · refine (I.hok b u e).stay (fun c v hc q=>k c v ?_ q) (fun _ q=>q) fun _ _ q=>q
    rcases hc with z | z
    · rw[z];exact nit b u e
    · exact nit c _ z
theorem Inv.turnedNew {t':Nat}{ch:List Addr}{T:Addr}{o:HO}(I:Inv X pins σ H s) (k:∀b u,b ∉ ch->s.heap.get? b=some u->h'.get? b=some u) (hf:∀b∈ch,FpOk X pins H b) (hT:s.heap.objs.size<=T)
    (new:ObjOk X.prog X.w (upd H T o) h' T o):Inv X pins σ (upd H T o) { s with heap:=h',toks:=t' }:=by
  have hn:H T=none:=I.hok.fresh hT
  have nit:∀b u,H b=some u->b ∉ ch:=fun b u e z=>by rw[(hf b z).1] at e;cases e
  have neT:∀b u,s.heap.get? b=some u->b≠T:=fun b u e=>Nat.ne_of_lt (Nat.lt_of_lt_of_le (Heap.lt_size e) hT)
  refine I.step (g':=s.gens) (d':=s.drawn) (ch:=ch) (fun b hb=>⟨(hf b hb).2.2.2.1,(hf b hb).2.1,(hf b hb).2.2.2.2.1,(hf b hb).2.2.2.2.2⟩) (fun b u _ _ hc e _=>k b u hc e) (fun b u _ _ hc e _=>⟨u.slots,k b u hc e⟩) (fun b u _ e n=>by rw[zj (neT b u e)];exact n)
    (fun b u hc e=>⟨u,k b u hc e⟩) (fun b xs e=>by rw[zj (zk e hn)];exact e) (fun b u v e=>by rw[zj (zk e hn)];exact e) (fun b ps e=>⟨#[],by rw[zj (zk e hn),e];simp⟩) (fun m hm=>?_) (fun b u e=>?_) I.bare
  · obtain⟨u,es,ep,ho,r⟩:=hm
    exact⟨u,es,ep,k _ u (fun z=>(hf _ z).2.1 rfl) ho,r⟩
  · by_cases hb:b=T
    · subst hb
      rw[zb] at e
      cases e
      exact new
    · rw[zj hb] at e
      refine (I.hok b u e).stay (fun c v hc q=>k c v ?_ q) (fun c q=>by rw[zj (zk q hn)];exact q) fun c xs q=>by rw[zj (zk q hn)];exact q
      rcases hc with z | z
      · rw[z];exact nit b u e
      · exact nit c _ z
end
theorem zj9 {prog:Program}{w:World}{A:Around}{it:Addr}{fp:List Addr}{n:Nat}{P:Nat->Value->Prop}{St:Nat->Heap->Prop}(D:Draws prog w A it fp n P St) (a:Nat) :
    Draws prog w A it fp (n+a) (fun i v=>P (i-a) v) (fun i h=>a<=i/\St (i-a) h) where
  live:=fun i h st=>D.live _ h st.2
  frame:=fun i h h' st k=>⟨st.1,D.frame _ h h' st.2 k⟩
  item:=fun i s Q E hi st hQ=>D.item (i-a) s Q E (by have:=st.1;omega) st.2 fun x h1 tk p q r=>hQ x h1 tk p ⟨by have:=st.1;omega,by
    have:i+1-a=i-a+1:=by have:=st.1;omega
    rw[this];exact q⟩ r
  done:=fun s Q E st hE=>D.done s Q E (by have:=st.2;rwa [Nat.add_sub_cancel] at this) hE
theorem zpn {prog:Program}{w:World}{A:Around}{E:Value->Shared->Prop}{s:Shared}{e it l:Addr}{i:Nat}{j:Int}{items:Array Value}{old:Value}{Q:Option Value->Shared->Prop}(hd:A.handled=none)
    (he:IsEnum s.heap e it j old) (hi:s.heap.IsListIter it l i) (hl:s.heap.IsList l items) (hx:items[i]? = none) (hQ:∀h1,Heap.ExtBut it s.heap h1->Q none { s with heap:=h1 }):wpAny (model prog w) A (pyNext (.ref e)) Q E s:=by
  have D:Draws prog w A.in1 it [it,l] i (fun _ _=>False) (fun k h=>(k<i->False)/\h.IsListIter it l i/\h.IsList l items):=
    ⟨fun _ _ q=>let ⟨o,ho,_⟩:=q.2.1;⟨o,ho⟩,fun _ _ _ q k=>⟨q.1,q.2.1.at fun o x=>k it (by simp) o x,q.2.2.at fun o x=>k l (by simp) o x⟩,fun k _ _ _ hk q _=>(q.1 hk).elim,fun s1 _ _ q hE=>wpAny_nextOf_list_end (A:=A.in1) hd q.2.1 q.2.2 hx hE⟩
  exact wpAny_pyNext_enum_endD D he ⟨fun z=>Nat.lt_irrefl _ z,hi,hl⟩ hQ
def Ite (K:PySem.W.Frag) (a:Addr) (st:Nat):It:=
  ⟨fun i H=>∃xs x,SqL K H a xs/\xs[i]? = some x,fun i H v H'=>∃T x,H T=none/\v = .ref T/\H'=upd H T (.tup [.int ((st+i:Nat):Int),x])/\∀xs,SqL K H a xs->xs[i]? = some x,fun i H=>∃xs,SqL K H a xs/\xs.length<=i⟩
theorem znp {P:Program}{w:World}{K:PySem.W.Frag}{elts:List Expr}{ct:Nat}{pos:Pos}(a e it:Addr) (st:Nat) (hne:e≠it) :
    Turn P w K (.Tuple elts ct pos) (Ite K a st) [e,it] e (fun i h=>(∃old,IsEnum h e it ((st+i:Nat):Int) old)/\h.IsListIter it a i) where
  mem:=by simp
  obj:=fun i h q b hb=>by
    obtain⟨⟨old,he⟩,o,ho,c,d⟩:=q
    rcases List.mem_cons.mp hb with hb | hb
    · subst hb
      exact⟨_,he,fun v z=>by cases z⟩
    · rw[List.mem_singleton] at hb
      subst hb
      exact⟨o,ho,fun v z=>by rw[d] at z;cases z⟩
  keep:=fun i h h' q k=>⟨let ⟨old,he⟩:=q.1;⟨old,k e (by simp) _ he⟩,q.2.at fun o x=>k it (by simp) o x⟩
  item:=by
    intro X hP hw hK hc i pins s σ H E I hf q hg
    subst hP hw hK
    obtain⟨xs,x,hq,hx⟩:=hg
    obtain⟨⟨old,he⟩,hit⟩:=q
    obtain⟨its,rv,p,hz⟩:=I.list hq
    obtain⟨u,hu,ru⟩:=rv.get hx
    have hl:=p.isList
    have li:a≠it:=by
      rintro rfl
      obtain⟨o,ho,c,d⟩:=hit
      obtain⟨o2,ho2,c2,_⟩:=hl
      rw[ho] at ho2;cases ho2;rw[c] at c2
      injection c2 with c2
      exact absurd c2 (by decide)
    have le:e≠a:=by
      rintro rfl
      obtain⟨o2,ho2,c2,_⟩:=hl
      rw[he] at ho2;cases ho2
      injection c2 with c2
      exact absurd c2 (by decide)
    have hi:i<its.toArray.size:=by
      have:=(List.getElem?_eq_some_iff.mp hu).1
      simpa using this
    have hel:e<s.heap.objs.size:=Heap.lt_size he
    have hil:it<s.heap.objs.size:=by obtain⟨o,ho,_⟩:=hit;exact Heap.lt_size ho
    refine wpAny_pyNext_enum_itemD (zj9 (Draws.list (A:=X.A.in1) (I.ok.hd hc) it a li its.toArray) st) he ⟨by omega,by rw[Nat.add_sub_cancel_left];exact⟨hit,hl⟩⟩ (by omega) hne (by simp[hne,le]) fun y h1 tk py eo sy ht hsz kk=>?_
    have ey:y=u:=by
      have py:its.toArray[st+i-st]? = some y:=py
      rw[Nat.add_sub_cancel_left] at py
      have hu':its.toArray[i]? = some u:=by simpa using hu
      rw[hu'] at py
      exact (Option.some.inj py).symm
    subst ey
    refine⟨_,rfl,?_⟩
    have I1:Inv X pins σ (upd H s.heap.objs.size (.tup [.int ((st+i:Nat):Int),x])) { s with heap:=h1,toks:=tk+1 }:=
      I.turnedNew (ch:=[e,it]) (o:=.tup [.int ((st+i:Nat):Int),x]) (fun b o hb q=>kk b o (fun z=>hb (by simp[z])) (fun z=>hb (by simp[z])) q) hf (Nat.le_refl _) ⟨(by show 2<=sizeLine;decide),[_,y],.cons ⟨_,rfl⟩ (.cons ru .nil),_,ht,rfl,_,rfl⟩
    refine wpAny_letOwnedTupleGo_enum eo fun h2 he2 hs2=>?_
    have fn:∀b∈[e,it],upd H s.heap.objs.size (.tup [.int ((st+i:Nat):Int),x]) b=none:=fun b hb=>by
      have hb':b≠s.heap.objs.size:=by
        rcases List.mem_cons.mp hb with z | z
        · subst z;exact Nat.ne_of_lt hel
        · rw[List.mem_singleton] at z;subst z;exact Nat.ne_of_lt hil
      rw[zj hb']
      exact (hf b hb).1
    have I2:=I1.turnedL (t':=tk+1) (h':=h2) (ch:=[e]) (fun b o hb q=>(hs2.2 b (fun z=>hb (by simp[z]))).trans q) (fun b hb=>by
      rw[List.mem_singleton] at hb
      subst hb
      exact⟨fn _ (by simp),(hf _ (by simp)).2⟩)
    have sy:=sy.2
    rw[show st+i+1-st=i+1 by omega] at sy
    refine⟨.ref s.heap.objs.size,_,I2,rfl,⟨_,x,I.hok.fresh (Nat.le_refl _),rfl,rfl,fun ys hy=>by rw[I.list_inj hy hq];exact hx⟩,⟨⟨y,?_⟩,sy.1.at fun o q=>(hs2.2 it hne.symm).trans q⟩,fn⟩
    have:((st+(i+1):Nat):Int)=((st+i:Nat):Int)+1:=by omega
    rw[this]
    exact he2
  done:=by
    intro X hP hw hK hc i pins s σ H E I hf q hg
    subst hP hw hK
    obtain⟨xs,hq,hx⟩:=hg
    obtain⟨⟨old,he⟩,hit⟩:=q
    obtain⟨its,rv,p,hz⟩:=I.list hq
    have hl:=rv.length
    have hlist:=p.isList
    have li:a≠it:=by
      rintro rfl
      obtain⟨o,ho,c,d⟩:=hit
      obtain⟨o2,ho2,c2,_⟩:=hlist
      rw[ho] at ho2;cases ho2;rw[c] at c2
      injection c2 with c2
      exact absurd c2 (by decide)
    exact zpn (I.ok.hd hc) he hit hlist (by simp;omega) fun h1 eb=>⟨rfl,I.turnedL (t':=s.toks) (ch:=[it]) (fun b o hb q=>eb b o (fun z=>hb (by simp[z])) q) (fun b hb=>hf b (by rw[List.mem_singleton] at hb;simp[hb]))⟩
  self:=fun _ _ _ _ _ q h=>let ⟨_,he⟩:=q.1;wpAny_pyIter_enum he h
def SIt (b:Bool) (h:Heap) (it a:Addr) (i:Nat):Prop:=if b=true then h.IsTupleIter it a i else h.IsListIter it a i
def SSq (b:Bool) (h:Heap) (a:Addr) (items:Array Value):Prop:=if b=true then h.IsTuple a items else h.IsList a items
def znq (b:Bool):String:=if b=true then "tuple_iterator" else "list_iterator"
section
variable {prog:Program}{w:World}{A:Around}{E:Value->Shared->Prop}{s:Shared}{z TI TO i1 i2 l1 l2:Addr}{k1 k2:Nat}{xs ys:Array Value}{x y a b:Value}{t1 t2:Bool}
theorem zh5 {b:Bool}{l:Addr}{items:Array Value}{Q:Value->Shared->Prop}(h:SSq b s.heap l items) (q:Q (.ref s.heap.objs.size) { s with heap:=s.heap.push { cls:=.type (znq b),data:=.fields #[.ref l,.int 0 0] } }):wpAny (model prog w) A (pyIter (.ref l)) Q E s:=by
  cases b with
  | true=>exact wpAny_pyIter_tuple (show s.heap.IsTuple l items from h) q
  | false=>exact wpAny_pyIter_list (show s.heap.IsList l items from h) q
end
def SqV (K:PySem.W.Frag) (b:Bool) (H:Hp) (a:Addr) (xs:List V):Prop:=if b=true then SqT K H a xs else SqL K H a xs
section
variable {X:Cx}{pins:List (Addr×Obj)}{σ:St}{H:Hp}{s:Shared}{a:Addr}{xs ys:List V}
theorem Inv.sq {b:Bool}(I:Inv X pins σ H s) (h:SqV X.K b H a xs):∃its:List Value,Vals xs its/\SSq b s.heap a its.toArray:=by
  cases b with
  | true=>
    obtain⟨its,r,p,_⟩:=I.tuple (show SqT X.K H a xs from h)
    exact⟨its,r,p⟩
  | false=>
    obtain⟨its,r,p,_⟩:=I.list (show SqL X.K H a xs from h)
    exact⟨its,r,p.isList⟩
end
open Sem (wp)
def zgu (b:Bool) (l:Addr):Obj:={ cls:=.type (znq b),data:=.fields #[.ref l,.int 0 0] }
def zka (it:Addr) (n:Int):Obj:={ cls:=.type "enumerate",data:=.fields #[.none,.bool false,.ref it,rawInt n,.none,.none] }
theorem zfa (a b:Value):checkTypeCall "enumerate" ⟨[a],[("start",b)]⟩=pure ():=by kernel_rfl
theorem zf0 (a b:Value):checkBuiltinCall "enumerate.__new__" ⟨[.type "enumerate",a],[("start",b)]⟩=pure ():=by kernel_rfl
theorem zma (b:Bool) (l:Addr) (xs:Array Value) (n:Int) (t:Tok) (hn:Builtin.SmallTypes.fitsIndex n=true) :
    Meets (Builtin.«enumerate.__new__» ⟨[.type "enumerate",.ref l],[("start",.int n t)]⟩) (fun _ R s=>SSq b s.heap l xs/\R (.ok (.ret (.ref (s.heap.push (zgu b l)).objs.size))) { s with heap:=(s.heap.push (zgu b l)).push (zka s.heap.objs.size n) }):=
  .of_wp fun prog w A R s h=>by
    obtain⟨hp,g,d,tk,os⟩:=s
    obtain⟨q1,h⟩:=h
    have sub:=sub_enumerate
    have a1:SSq b (Shared.heap ⟨hp,g,d,tk,os⟩) l xs:=q1
    wp_walk using zh5 a1
    refine wpAny_stack_any (fun stk=>wpAny_pure ?_)
    split
    · rename_i c _ _ _ _ _
      generalize (c == Value.type "enumerate")=short
      cases short
      all_goals
        wp_walk using zh5 a1
        exact⟨_,rfl,h⟩
    · wp_walk using zh5 a1
      exact⟨_,rfl,h⟩
theorem zkb (a b c:Value):argsOk "object.__init__" ⟨[a,b],[("start",c)]⟩:=by
  unfold argsOk
  rw[signature?_of (id:="object.__init__") (n:="__tini__".toList) (o:="tcejbo".toList) (by kernel_rfl) F.owner_object]
  kernel_rfl
theorem zmb {self a b:Value}{k:Str}:Meets (Builtin.«object.__init__» ⟨[self,a],[(k,b)]⟩) (fun _ R s=>s.TypeIs self "enumerate"/\R (.ok (.ret .none)) s):=by
  refine Meets.of_wp fun prog w A R s hs=>?_
  obtain⟨hT,hq⟩:=hs
  have hl:typeLookup (.type "enumerate") "__init__" = pure (some (.builtin "object.__init__")):=F.called_enumerate.init.lookup
  have hm:=F.called_enumerate.made
  have hne:(some "enumerate.__new__" != some "object.__new__")=true:=by decide
  repeat (any_goals first | wp_step | assumption)
  exact⟨_,rfl,hq⟩
section
variable {prog:Program}{w:World}{A:Around}{E:Value->Shared->Prop}{s:Shared}
theorem znr {b:Bool}{l:Addr}{xs:Array Value}{n:Int}{t:Tok}{Q:Value->Shared->Prop}(hn:Builtin.SmallTypes.fitsIndex n=true) (q1:SSq b s.heap l xs)
    (h:∀g,IsEnum g (s.heap.objs.size+1) s.heap.objs.size n .none->SIt b g s.heap.objs.size l 0->(∀c o,s.heap.get? c=some o->g.get? c=some o)->Q (.ref (s.heap.objs.size+1)) { s with heap:=g }) :
    wpAny (model prog w) A (call (.type "enumerate") [.ref l] [("start",.int n t)]) Q E s:=by
  have ft:=F.called_enumerate
  obtain⟨c,tl,hmro⟩:=ft.mro
  have hmade:=ft.made
  have hsub:=ft.sub
  have hct:=zfa (.ref l) (.int n t)
  refine wpAny_call (codeAny_of_tree ?_)
  show wpAny (model prog w) _ (callAny (.type "enumerate") _) _ _ _
  refine wpAny_pure ⟨Code.quiet_builtin _ (by decide +kernel),codeAny_builtin F.entry_type_call ?_⟩
  rw[Around.under_plain (weight_type_call_type "enumerate" [.ref l] [("start",.int n t)]) (units_type_call_type "enumerate" [.ref l] [("start",.int n t)])]
  have h1:=ft.notType
  have h2:=ft.canCreate
  repeat (any_goals first | wp_step | assumption)
  have sz:(s.heap.push (zgu b l)).objs.size=s.heap.objs.size+1:=Heap.size_push ..
  have en:IsEnum ((s.heap.push (zgu b l)).push (zka s.heap.objs.size n)) (s.heap.objs.size+1) s.heap.objs.size n .none:=by
    have:=Heap.get?_push_size (s.heap.push (zgu b l)) (o:=zka s.heap.objs.size n) rfl
    rwa [sz] at this
  have itg:((s.heap.push (zgu b l)).push (zka s.heap.objs.size n)).get? s.heap.objs.size=some (zgu b l):=Heap.get?_push_of_some _ (Heap.get?_push_size _ rfl)
  refine codeAny_mono (codeAny_call_builtin ft.plain F.entry_enumerate_new (wpAny_of_eq (zf0 _ _) (zma b l xs n t hn prog w A.in1
    (wants (fun obj s1=>obj = .ref (s.heap.objs.size+1)/\s1 = { s with heap:=(s.heap.push (zgu b l)).push (zka s.heap.objs.size n) }) E) s ⟨q1,by rw[sz];exact⟨rfl,rfl⟩⟩))) fun r s1 hr=>?_
  cases r with
  | error e=>exact hr
  | ok fl=>
    cases fl with
    | ret obj=>
      obtain⟨rfl,rfl⟩:=hr
      have hT:({ s with heap:=(s.heap.push (zgu b l)).push (zka s.heap.objs.size n) }:Shared).TypeIs (.ref (s.heap.objs.size+1)) "enumerate":=⟨_,en,rfl⟩
      have hli:=ft.init.lookup
      have hbi:=ft.init.bind (.ref (s.heap.objs.size+1))
      repeat (any_goals first | wp_step | assumption)
      refine codeAny_mono (codeAny_call_builtin ft.init.plain F.entry_object_init (ft.init.check _ _ _ _ _ _ _ _ hT (zkb _ _ _) (zmb prog w A.in1 (wants (fun r s2=>r = .none/\s2 = { s with heap:=(s.heap.push (zgu b l)).push (zka s.heap.objs.size n) }) E) _ ⟨hT,rfl,rfl⟩))) fun r2 s2 hr2=>?_
      cases r2 with
      | error e=>exact hr2
      | ok fl2=>
        cases fl2 with
        | ret r=>
          obtain⟨rfl,rfl⟩:=hr2
          repeat (any_goals first | wp_step | assumption)
          refine h _ en ?_ fun c o e=>Heap.get?_push_of_some _ (Heap.get?_push_of_some _ e)
          cases b with
          | true=>exact⟨_,itg,rfl,rfl⟩
          | false=>exact⟨_,itg,rfl,rfl⟩
        | _=>exact hr2.elim
    | _=>exact hr.elim
end
def zum (K:PySem.W.Frag) (n:Nat) (te:TE):TI:=fun σ H R=>te σ H fun x H1=>∃l xs,x = .ref l/\SqL K H1 l xs/\R (Ite K l n) H1
section
variable {X:Cx}
theorem zse {elts:List Expr}{ct:Nat}{tpos:Pos}{e:Expr}{te:TE}{p pos kpos cpos:Pos}{j:Nat}(n:Nat) (hn:Builtin.SmallTypes.fitsIndex (n:Int)=true) (hg:Gl X "enumerate") (hm:X.mg "enumerate" = none) (he:PE X e te)
    (hs:starEach [e] X.env = [(false,eval e X.env)]:=by rfl) :
    PI X (.Tuple elts ct tpos) (.Call (.Name "enumerate" p) [e] [⟨some "start",.Constant (.int (n:Int)) j cpos,kpos⟩] pos) (zum X.K n te):=by
  intro pins s σ H R I h
  refine wpAny_Call_Name_kw (zfp I hg hm boot_enumerate ?_)
  refine PySem.W.callWith_of (P:=fun _=>True) (first:=[]) (by rw[hs];rfl) (fun h _=>⟨.machine,.inr (.inl rfl),fun _ _ _ _ _ q=>wpAny_pure q⟩) (PyProof.Rows.evalArgs_kw2 rfl ?_ hs)
  refine thn (za he zc hs pos pins s σ H (fun vs H1=>match vs with | [x]=>∃l xs,x = .ref l/\SqL X.K H1 l xs/\R (Ite X.K l n) H1 | _=>False) I h) fun us s1 hq0=>?_
  obtain⟨vs,H1,I1,r,q⟩:=hq0
  match vs,q with
  | [x],q=>
    obtain⟨l,xs,rfl,hl,q⟩:=q
    obtain⟨u,rfl,ru⟩:=zd7 r
    cases ru
    refine thn (zrx (nm:=some "start") (kpos:=kpos) (zf (i:=(n:Int)) (j:=j) (pos:=cpos)) zt7 pos pins s1 σ H1 (fun zs H2=>zs = [.int (n:Int)]/\H2=H1) I1 ⟨rfl,rfl⟩) fun ws s2 ⟨zs,H2,I2,rz,q2⟩=>⟨trivial,?_⟩
    obtain⟨rfl,rfl⟩:=q2
    obtain⟨v,rfl,t,rfl⟩:=zd7 rz
    obtain⟨its,r',g1⟩:=I2.sq (b:=false) hl
    refine znr hn g1 fun g en it kk=>wpAny_pyIter_enum en ?_
    have f:∀k,FpOk X pins H2 (s2.heap.objs.size+k):=fun k=>I2.fpOk (Nat.le_add_right _ _) (I2.hok.fresh (Nat.le_add_right _ _))
    refine⟨s2.heap.objs.size+1,[s2.heap.objs.size+1,s2.heap.objs.size],_,_,H2,rfl,I2.kept (t':=s2.toks) kk,znp l _ _ n (Nat.succ_ne_self _),⟨⟨_,en⟩,it⟩,fun b hb=>?_,q⟩
    simp only [List.mem_cons,List.not_mem_nil,or_false] at hb
    rcases hb with rfl | rfl
    · exact f 1
    · exact f 0
end
open Sem (wp)
section
variable {prog:Program}{w:World}{A:Around}{s:Shared}{R:Result->Shared->Prop}{I:Addr}{fp wr:List Addr}{n:Nat}{P:Nat->Value->Prop}{St:Nat->Heap->Prop}
theorem zun (W:Walks prog w A.in1 I fp wr n P St) (hn:n<=sizeLine) (S:Addr) (c:Nat) (hst:St 0 s.heap) (hS:S ∉ fp) (hl:s.heap.get? S=some { cls:=.type "list",data:=.seq #[] c })
    (hR:∀s1 acc c1,Moved (S::wr) (fun a b=>b=a) s s1->s1.heap.get? S=some { cls:=.type "list",dict:=none,data:=.seq acc c1,slots:=#[] }->ItemsOf P acc n->R (.ok (.ret .none)) s1) :
    wpAny (model prog w) A.in1 (rule "list.extend.makes-room" >>= fun _=>Builtin.List.listTouch (.ref S) >>= fun _=>again (.builtin "list.extend.loop" ⟨[.ref S,.ref I,.none],[]⟩))
      (fun fin s1=>match fin with | .done f=>R (.ok f) s1 | .again c1=>c1.quiet=true/\codeAny (model prog w) A c1 R s1) (fun e s1=>R (.error e) s1) s:=by
  refine wpAny_bind (wpAny_rule (wpAny_bind ?_))
  show wpAny (model prog w) A.in1 (updateSeq S (·.push .none) >>= fun _=>updateSeq S (·.pop)) _ _ _
  refine wpAny_bind (wpAny_updateSeq hl rfl ?_)
  have l2:=Heap.get?_update_self (Obj.mapSeq (·.push Value.none)) hl rfl
  refine wpAny_updateSeq (hz:=by seq_fits) l2 rfl ?_
  have l3:=Heap.get?_update_self (Obj.mapSeq (·.pop)) l2 rfl
  have oth:∀b o,b≠S->s.heap.get? b=some o->((s.heap.update S (Obj.mapSeq (·.push Value.none))).update S (Obj.mapSeq (·.pop))).get? b=some o:=fun b o hb e=>(Heap.get?_update_other _ _ (Ne.symm hb)).trans ((Heap.get?_update_other _ _ (Ne.symm hb)).trans e)
  refine wpAny_pure ⟨plainId_quiet F.plain_extend_loop _,codeAny_extend_loopS W.toS hn _ hS _ n 0 _ _ _ rfl (Nat.zero_le _) (W.toS.frame 0 s _ s.toks hst (Nat.le_refl _) fun b hb o e=>oth b o (fun h=>hS (h▸hb)) e) l3 (ItemsOf.nil P) fun s1 acc c1 hm h1 h2=>?_⟩
  have m0:Moved (S::wr) (fun (a b:Array GenState)=>b=a) s { s with heap:=(s.heap.update S (Obj.mapSeq (·.push Value.none))).update S (Obj.mapSeq (·.pop)) }:=⟨fun b o hb e=>oth b o (fun h=>hb (by simp[h])) e,rfl,rfl,rfl,Nat.le_refl _⟩
  exact hR s1 acc c1 (Moved.trans (fun _ _ _ h1 h2=>h2.trans h1) m0 hm) h1 h2
end
section
variable {prog:Program}{w:World}{A:Around}{s:Shared}{R:Result->Shared->Prop}
theorem zns {S:Addr}{x:Value}(hl:s.heap.get? S=some { cls:=.type "list",data:=.seq #[] })
    (h:wpAny (model prog w) A.in1 (Builtin.List.listExtendWith (.ref S) x .none) (fun fin s1=>match fin with | .done f=>R (.ok f) s1 | .again c1=>c1.quiet=true/\codeAny (model prog w) A c1 R s1) (fun e s1=>R (.error e) s1)
      { s with heap:=s.heap.update S (Obj.mapSeq (fun _=>(#[]:Array Value))) }) :
    wpAny (model prog w) A.in1 (Builtin.«list.__init__» ⟨[.ref S,x],[]⟩) (fun fin s1=>match fin with | .done f=>R (.ok f) s1 | .again c1=>c1.quiet=true/\codeAny (model prog w) A c1 R s1) (fun e s1=>R (.error e) s1) s:=by
  show wpAny (model prog w) A.in1 (do let was ←Builtin.List.listItems (.ref S);Builtin.List.listUpdate (.ref S) (fun _=>#[]);letGo was.toList.reverse;Builtin.List.listExtendWith (.ref S) x .none) _ _ s
  refine wpAny_bind ?_
  unfold Builtin.List.listItems
  refine wpAny_bind (wpAny_seqItems hl rfl (wpAny_pure ?_))
  show wpAny (model prog w) A.in1 (updateSeq S (fun _=>#[]) >>= fun _=>letGo (#[]:Array Value).toList.reverse >>= fun _=>Builtin.List.listExtendWith (.ref S) x .none) _ _ s
  exact wpAny_bind (wpAny_updateSeq hl rfl (wpAny_bind (wpAny_letGo h)))
end
theorem Vals.of_get:∀{xs:List V}{us:List Value},xs.length=us.length->(∀(i:Nat) x u,xs[i]? = some x->us[i]? = some u->RelV x u)->Vals xs us
  | [],[],_,_=>.nil
  | x::xs,u::us,hl,h=>.cons (h 0 x u rfl rfl) (Vals.of_get (by simpa using hl) fun i y v e1 e2=>h (i+1) y v (by simpa using e1) (by simpa using e2))
  | [],_::_,hl,_=>by simp at hl
  | _::_,[],hl,_=>by simp at hl
theorem Paired.get' {α β:Type}{F:α->β->Prop}:∀{l₁:List α}{l₂:List β}{i:Nat}{a:α},Paired F l₁ l₂->l₁[i]? = some a->∃b,l₂[i]? = some b/\F a b
  | _,_,_,_,.nil,e=>by simp at e
  | _,_,0,_,.cons r _,e=>by simp at e;subst e;exact⟨_,rfl,r⟩
  | _,_,i+1,a,.cons _ t,e=>by
    obtain⟨u,h1,h2⟩:=Paired.get' (i:=i) (a:=a) t (by simpa using e)
    exact⟨u,by simpa using h1,h2⟩
def DfM (K:PySem.W.Frag) (C:Addr) (qual m:Str) (st:Stmt) (ps:List Str):Prop:=
  ∃(f:Addr) (fd:FuncData),Fun K m qual st f fd/\Meth K C m f/\∀us:List Value,us.length=ps.length->bindArgs fd ⟨us,[]⟩=pure (ps.zip us)
theorem dfm_mk {K:PySem.W.Frag}{C:Addr}{qual m:Str}{st:Stmt}{ps:List Str}{f:Addr}{oc kV dc pm cd ct:Value}{od an:Option Addr}{sl:Array (Option Value)}
    (hb:∀(kV doc pm:Value) (an:Option Addr) (cdv ct:Value) (us:List Value),us.length=ps.length->bindArgs (PySem.W.fnOf m qual (zd1 st) (zb7 st) (zr st) .none kV doc pm an cdv ct) ⟨us,[]⟩=pure (ps.zip us))
    (a:PySem.W.findIn K (.ref C) m=some (some (.ref f))) (l:K.lookup f=some ⟨oc,od,.func (PySem.W.fnOf m qual (zd1 st) (zb7 st) (zr st) .none kV dc pm an cd ct),sl⟩) (c:PySem.W.codeIn K cd qual=true) (k:PySem.W.keepIn K (.ref f)=true)
    (i:PySem.W.isFn K (.ref f)=true):DfM K C qual m st ps:=⟨f,_,zq9 l c k,⟨a,i,k⟩,fun us hl=>hb kV dc pm an cd ct us hl⟩
def HasM (P:Program) (w:World) (K:PySem.W.Frag) (mg:Str->Option Value) (base:Heap) (C:Addr) (m:Str) (ps:List Str) (k:Nat) (sp:Sp):Prop:=
  ∃(f:Addr) (fd:FuncData),Meth K C m f/\(∀us:List Value,us.length=ps.length->bindArgs fd ⟨us,[]⟩=pure (ps.zip us))/\FnOk P w K mg base CX0 k f fd ps sp
section
variable {P:Program}{w:World}{K:PySem.W.Frag}{mg:Str->Option Value}{base:Heap}
theorem DfM.has {C:Addr}{qual m:Str}{st:Stmt}{N ps:List Str}{k:Nat}{sp:Sp}(D:DfM K C qual m st ps) (S:FnScope N ps (zr st)) (len:∀vs H Q E,sp vs H Q E->vs.length=ps.length)
    (hbody:∀(f:Addr) (cdv:Value) (A:Around) (outer:List Env) (s:Shared) (H:Hp) (vs:List V) (Q:VK) (E:XK),Room k (A.deeper (envOfC qual (zr st) s.heap.objs.size f cdv))->sp vs H Q E->
      ∃t,PSs (cxOf CX0 P w K mg base N qual (zr st) f cdv A outer s H E).nox (zb7 st) t/\t { nx:=fun _ H'=>Q .non H',rt:=Q } (start N vs) H):HasM P w K mg base C m ps (k+1) sp:=by
  obtain⟨f,fd,F,a,b⟩:=D
  obtain⟨oc,od,kV,doc,pm,an,cdv,ct,osl,e,lk,hcd⟩:=id F.ex
  exact⟨f,fd,a,b,F.ok S len (hbody f)⟩
end
section
variable {X:Cx}{k:Nat}{ps:List Str}{sp:Sp}{C:Addr}{m x:Str}{p pos apos:Pos}{o e:Expr}{es:List Expr}{t:TA}{ta:TE}
theorem zk5 {pl:Sem Bool}(F:HasM X.prog X.w X.K X.mg X.base C m ps k sp) (c:Cls X.K C) (hr:Room k X.A) (he:PE X o ta) (ha:PA X (e::es) t)
    (hst:starEach (e::es) X.env=(false,eval e X.env)::starEach es X.env:=by rfl) (hpl:(backTo pos (starEach es X.env)).any (·.1)=false:=by rfl)
    (ht:eval (.Call (.Attribute o m apos) (e::es) [] pos) X.env=(do
      let ov ←eval o X.env
      standAt apos.atName
      let (f,first) ←holding [ov] (getMethod ov m pl)
      callWith pos f first (backTo pos (starEach (e::es) X.env)) (backToKw pos (keywordEach [] X.env))):=by rfl) :
    PE X (.Call (.Attribute o m apos) (e::es) [] pos) (zt5 C m sp [] E0 ta t):=by
  obtain⟨f,fd,a,b,G⟩:=F
  exact zrw he c a G hr (.all b) .nil zsa ha hst hpl ht
theorem zsf (F:HasM X.prog X.w X.K X.mg X.base C "__init__" ps k sp) (hmk:PySem.W.makesIn X.K C=true) (hk:PySem.W.keepIn X.K (.ref C)=true) (hr:Room (k+1) X.A) (hg:Gl X x) (hm:X.mg x=some (.ref C)) (hdb:(x == ("__debug__" : Str))=false:=by decide) :
    PE X (.Call (.Name x p) [] [] pos) (zt6 C sp [] E0 tNil):=by
  obtain⟨f,fd,a,b,G⟩:=F
  exact zpb ⟨hmk,a.at_,a.fn,hk⟩ G hr hg hm (.all b) .nil zsa hdb
end
section
variable {X:Cx}(K:PySem.W.Frag) (h:X.K=K)
include h
theorem zpo {elts:List Expr}{ct:Nat}{tpos:Pos}{e:Expr}{te:TE}{p pos kpos cpos:Pos}{j:Nat}(n:Nat) (hn:Builtin.SmallTypes.fitsIndex (n:Int)=true) (hg:Gl X "enumerate") (hm:X.mg "enumerate" = none) (he:PE X e te)
    (hs:starEach [e] X.env = [(false,eval e X.env)]:=by rfl) :
    PI X (.Tuple elts ct tpos) (.Call (.Name "enumerate" p) [e] [⟨some "start",.Constant (.int (n:Int)) j cpos,kpos⟩] pos) (zum K n te):=h▸zse n hn hg hm he hs
end
theorem zpp {K:PySem.W.Frag}{a:Addr}{n:Nat}{xs:List V}{g:TG}{tb:TS}{D:Ends}{σ:St}{H:Hp}(Pv:Nat->St->Hp->Prop) (h0:Pv 0 σ H) (hl:∀i σ H,i<=xs.length->Pv i σ H->SqL K H a xs)
    (hs:∀i x σ H T,xs[i]? = some x->Pv i σ H->H T=none->g (.ref T) σ (upd H T (.tup [.int ((n+i:Nat):Int),x])) fun σ2 H2=>tb { D with nx:=Pv (i+1),ct:=Pv (i+1),bk:=D.nx } σ2 H2) (hd:∀σ H,Pv xs.length σ H->D.nx σ H) :
    ∃W:Nat->Nat->St->Hp->Prop,(∃m,W 0 m σ H)/\∀i m σ H,W i m σ H->
      ((Ite K a n).stop i H/\D.nx σ H)\/((Ite K a n).go i H/\∃N:St->Hp->Prop,(∀σ' H',N σ' H'->∃m',m'<m/\W (i+1) m' σ' H')/\∀x H',(Ite K a n).yld i H x H'->g x σ H' fun σ2 H2=>tb { D with nx:=N,ct:=N,bk:=D.nx } σ2 H2):=by
  refine⟨fun i m σ H=>m=xs.length-i/\i<=xs.length/\Pv i σ H,⟨xs.length,by simp,Nat.zero_le _,h0⟩,?_⟩
  rintro i m σ H ⟨rfl,hi,p⟩
  have q:=hl i σ H hi p
  by_cases hlt:i<xs.length
  · refine .inr ⟨⟨xs,xs[i],q,by simp[hlt]⟩,Pv (i+1),fun σ' H' p'=>⟨xs.length-(i+1),by omega,rfl,hlt,p'⟩,fun x H' y=>?_⟩
    obtain⟨T,z,hT,rfl,rfl,y⟩:=y
    exact hs i z σ H T (y xs q) p hT
  · have e:i=xs.length:=by omega
    subst e
    exact .inl ⟨⟨xs,q,Nat.le_refl _⟩,hd σ H p⟩
section
variable {X:Cx}
theorem zjd (c:Nat):∀(n:Nat) (a:Array Nat),List.foldl (fun x y=>x++y) a (List.replicate n #[c])=a++(List.replicate n c).toArray
  | 0,a=>by simp
  | n+1,a=>by
    rw[List.replicate_succ,List.foldl_cons,zjd c n,List.replicate_succ]
    apply Array.ext'
    simp
end
def zsg (n i:Nat) (p:Prop):Prop:=∃m',m'<n-i/\m'=n-(i+1)/\i+1<=n/\p
theorem zuo {n i:Nat}{p:Prop}(h:i<n) (q:p):zsg n i p:=⟨n-(i+1),by omega,rfl,h,q⟩
theorem ze4 {α:Type}{xs:List α}{i:Nat}{x:α}(h:xs[i]? = some x):i<xs.length:=(List.getElem?_eq_some_iff.mp h).1
theorem zk6 {J:It}{xs:List V}{P:Hp->Prop}{own:List Str}{ix:List Nat}{g:TG}{tc:TT}{te:TE}{σ:St}{H1:Hp}{D:Addr}{Q:VK}(F:Fix J xs P)
    (R:Nat->St->List V->Hp->Prop) (h0:R 0 (st0 own ix σ) [] (upd H1 D (.lst [])))
    (hP:∀i σ' ys H',R i σ' ys H'->P H'/\H' D=some (.lst ys)/\ys.length<=i) (hz:xs.length<=sizeLine)
    (hs:∀i x σ' ys H',xs[i]? = some x->R i σ' ys H'->g x σ' H' fun σ3 H3=>tc σ3 H3 fun b H4=>
      if b=true then te σ3 H4 fun y H5=>H5 D=some (.lst ys)/\zsg xs.length i (R (i+1) σ3 (ys++[y]) (upd H5 D (.lst (ys++[y])))) else H4 D=some (.lst ys)/\zsg xs.length i (R (i+1) σ3 ys H4))
    (hQ:∀σ' ys H',R xs.length σ' ys H'->Q (.ref D) H'):zpk own ix J g tc te σ H1 D Q:=by
  refine⟨fun i m σ' ys H'=>m=xs.length-i/\i<=xs.length/\R i σ' ys H',⟨xs.length,by simp,Nat.zero_le _,h0⟩,?_⟩
  rintro i m σ' ys H' ⟨rfl,hi,r⟩
  obtain⟨p1,p2,p3⟩:=hP i σ' ys H' r
  refine⟨p2,?_⟩
  by_cases hlt:i<xs.length
  · refine .inr ⟨F.go i _ p1 hlt,by omega,fun x H2 y=>?_⟩
    obtain⟨e,y'⟩:=F.yld i _ x H2 p1 y
    subst e
    exact hs i x σ' ys _ (y' hlt) r
  · have e:i=xs.length:=by omega
    subst e
    exact .inl ⟨F.stop _ _ p1 (Nat.le_refl _),hQ σ' ys H' r⟩
end L2
namespace Dm
open PySem PySem.NumText
abbrev co (x:Str):List Nat:=x.cps.toList
theorem zas (x:Str):(co x).length=x.length:=by simp[Str.length]
theorem zbp {x y:Str}(h:co x=co y):x=y:=by
  cases x with
  | mk a=>cases y with
    | mk b=>
      have:a=b:=by
        have h:a.toList=b.toList:=h
        exact Array.toList_inj.mp h
      rw[this]
theorem zup (l:List Nat):co ⟨l.toArray⟩=l:=by simp[co]
theorem zsh (x:Str) (c:Nat):(0+1<=x.length&&Builtin.Str.subAt x ⟨#[c]⟩ 0)=decide ((co x).head? = some c):=by
  obtain⟨a⟩:=x
  obtain⟨l⟩:=a
  cases l with
  | nil=>simp[co,Str.length]
  | cons d r=>
    show (decide (0+1<=((d::r).toArray).size)&&(((d::r).toArray.extract 0 (0+1)) == #[c]))=decide ((d::r).head? = some c)
    have e1:decide (0+1<=((d::r).toArray).size)=true:=decide_eq_true (by simp)
    rw[e1,Bool.true_and]
    have e2:((d::r).toArray.extract 0 (0+1)) = #[d]:=by simp
    rw[e2]
    by_cases h:d=c
    · subst h;simp
    · have:¬(d::r).head? = some c:=by simp[h]
      rw[decide_eq_false this]
      simp[h]
theorem zhb (x:Str) (c:Nat):Txt.startswith x ⟨#[c]⟩=decide ((co x).head? = some c):=zsh x c
def sIx' (n d:Nat):Option Int->Nat
  | none=>d
  | some i=>if i<0 then (max (i+(n:Int)) 0).toNat else min i.toNat n
theorem zvv (l:List Nat) (i k:Nat):((List.range k).map fun m=>i+m).filterMap (fun j=>l[j]?)=(l.drop i).take k:=by
  induction k generalizing i with
  | zero=>simp
  | succ k ih=>
    rw[List.range_succ_eq_map,List.map_cons,List.map_map]
    have e:((List.range k).map ((fun m=>i+m) ∘ Nat.succ))=(List.range k).map fun m=>(i+1)+m:=by
      apply List.map_congr_left
      intro a _
      simp only [Function.comp,Nat.succ_eq_add_one];omega
    rw[e,List.filterMap_cons]
    simp only [Nat.add_zero]
    rw[ih (i+1)]
    cases h:l[i]? with
    | none=>
      have hl:l.length<=i:=List.getElem?_eq_none_iff.mp h
      rw[List.drop_eq_nil_of_le hl,List.drop_eq_nil_of_le (by omega)];simp
    | some v=>
      obtain⟨hi,e⟩:=List.getElem?_eq_some_iff.mp h
      rw[List.drop_eq_getElem_cons hi,List.take_succ_cons,e]
def zpq (n:Nat) (d:Int):Option Int->Int
  | none=>d
  | some i=>max 0 (min (if i<0 then i+(n:Int) else i) n)
theorem zk7 (n d:Nat) (hd:d<=n) (o:Option Int):zpq n d o=((sIx' n d o:Nat):Int):=by
  cases o with
  | none=>rfl
  | some i=>simp only [sIx',zpq];split<;>omega
theorem zsi (n d:Nat) (hd:d<=n) (o:Option Int):sIx' n d o<=n:=by
  cases o with
  | none=>exact hd
  | some i=>simp only [sIx'];split<;>omega
theorem zhc (lo hi:Option Int) (n:Nat):Builtin.Str.strSliceIndices lo hi 1 n=(List.range (sIx' n n hi-sIx' n 0 lo)).map fun m=>sIx' n 0 lo+m:=by
  have:Builtin.Str.strSliceIndices lo hi 1 n=sliceRange (zpq n 0 lo) (zpq n n hi) 1:=by
    cases lo<;>cases hi<;>rfl
  rw[this,show (0:Int)=((0:Nat):Int) from rfl,zk7 n 0 (Nat.zero_le _),zk7 n n (Nat.le_refl _)]
  unfold sliceRange
  simp only [show (1:Int) > 0 by decide,if_true,Int.one_mul,Int.ediv_one]
  have ec:(if ((sIx' n 0 lo:Nat):Int)<((sIx' n n hi:Nat):Int) then ((sIx' n n hi:Nat):Int)-((sIx' n 0 lo:Nat):Int)+1-1 else 0).toNat=sIx' n n hi-sIx' n 0 lo:=by
    split<;>omega
  rw[ec]
  apply List.map_congr_left
  intro a _
  omega
theorem zeb (x:Str) (lo hi:Option Int):co (Txt.slice x lo hi)=((co x).drop (sIx' x.length 0 lo)).take (sIx' x.length x.length hi-sIx' x.length 0 lo):=by
  have key:(Builtin.Str.strSliceIndices lo hi 1 x.length).filterMap (x.cps[·]?)=((co x).drop (sIx' x.length 0 lo)).take (sIx' x.length x.length hi-sIx' x.length 0 lo):=by
    rw[zhc,←zvv (co x)]
    congr 1
    funext j
    simp[co]
  unfold Txt.slice
  split
  · rename_i h
    have hl:(Builtin.Str.strSliceIndices lo hi 1 x.length).length=x.length:=by
      simpa using h
    rw[zhc,List.length_map,List.length_range] at hl
    have h1:=zsi x.length x.length (Nat.le_refl _) hi
    have h2:sIx' x.length 0 lo=0\/x.length=0:=by omega
    have h3:=zas x
    rcases h2 with h2 | h2
    · rw[hl,h2,List.drop_zero,List.take_of_length_le (by omega)]
    · have:co x = []:=List.length_eq_zero_iff.mp (by omega)
      rw[this];simp
  · rw[zup];exact key
theorem zkc (x:Str):co (Txt.slice x (some 1) none)=(co x).drop 1:=by
  rw[zeb]
  have h:=zas x
  simp only [sIx']
  rw[if_neg (by decide)]
  cases e:co x with
  | nil=>simp
  | cons c r=>
    rw[e,List.length_cons] at h
    have e1:min (1:Int).toNat x.length=1:=by
      show min 1 x.length=1
      omega
    rw[e1,List.take_of_length_le (by simp;omega)]
def NAMES:Str:="abcdefghijklmnopqrstuvwxyz0123456789-"
def FIGS:Str:="0123456789"
def zh6 (l:List Nat) (sg:Str):Bool:=l.all fun c=>decide (c∈co sg)
def zaj (x:Str):Bool:=decide (1<=x.length)&&decide (x.length<=12)&&zh6 (co x) NAMES
def figs:List Nat->List Nat
  | []=>[]
  | c::r=>if c=45 then r else c::r
theorem zec (r:List Nat):figs (45::r)=r:=by unfold figs;exact if_pos rfl
theorem zc1 {c:Nat}(r:List Nat) (h:c≠45):figs (c::r)=c::r:=by unfold figs;exact if_neg h
def ZERO:Str:="0"
def zcg (x:Str):Bool:=decide (1<=(figs (co x)).length)&&decide ((figs (co x)).length<=60)&&zh6 (figs (co x)) FIGS && !(decide ((figs (co x)).head? = some 48) && !decide (x=ZERO))
def numI (x:Str):Int:=if (co x).head? = some 45 then 0-((digitsVal (figs (co x)):Nat):Int) else ((digitsVal (figs (co x)):Nat):Int)
theorem zk8 (c:Nat):c∈co FIGS↔48<=c/\c<=57:=by
  have e:co FIGS=List.range' 48 10:=by decide +kernel
  rw[e,List.mem_range'_1]
  exact⟨fun h=>⟨h.1,Nat.le_of_lt_succ h.2⟩,fun h=>⟨h.1,Nat.lt_succ_of_le h.2⟩⟩
theorem ze5 {l:List Nat}(h:zh6 l FIGS=true):AllDigits l:=fun c hc=>by
  have:=List.all_eq_true.mp h c hc
  exact (zk8 c).mp (of_decide_eq_true this)
theorem zdz {l:List Nat}(h:AllDigits l):zh6 l FIGS=true:=List.all_eq_true.mpr fun c hc=>decide_eq_true ((zk8 c).mpr (h c hc))
theorem zpr {x:Str}(h:zcg x=true):intText? x=some (numI x)/\x.length<=61:=by
  unfold zcg at h
  simp only [Bool.and_eq_true,decide_eq_true_eq] at h
  obtain⟨⟨⟨h1,h2⟩,h3⟩,_⟩:=h
  have hd:=ze5 h3
  have hl:=zas x
  unfold numI
  cases e:co x with
  | nil=>rw[e] at h1;simp[figs] at h1
  | cons c r=>
    rw[e] at h1 h2 hd hl
    rw[List.length_cons] at hl
    by_cases hc:c=45
    · subst hc
      rw[zec] at h1 h2 hd
      rw[zec,if_pos (by rfl),Int.zero_sub]
      exact⟨intText_neg e hd (by intro z;rw[z] at h1;simp at h1) (by omega),by omega⟩
    · rw[zc1 r hc] at h1 h2 hd
      rw[zc1 r hc,if_neg (by simp[hc])]
      rw[List.length_cons] at h2
      have hne:x.cps.toList≠[]:=by
        show co x≠[]
        rw[e];simp
      have hd':AllDigits x.cps.toList:=by
        show AllDigits (co x)
        rw[e];exact hd
      have q:=intText_digits hd' hne (by omega)
      have q':intText? x=some ((digitsVal (co x):Nat):Int):=q
      rw[e] at q'
      exact⟨q',by omega⟩
def dg (m:Nat):List Nat:=(Nat.toDigits 10 m).map Char.toNat
theorem zf1 (t:String):co (Str.ofString t)=t.toList.map Char.toNat:=by rw[Str.ofString_eq_toList]
theorem zbm (m:Nat):co (Str.ofString (toString ((m:Nat):Int)))=dg m:=by
  rw[zf1]
  show (Nat.repr m).toList.map Char.toNat=_
  rw[Nat.toList_repr];rfl
theorem zhd (m:Nat):co (Str.ofString (toString (Int.negSucc m)))=45::dg (m+1):=by
  rw[zf1]
  show ("-" ++ Nat.repr (m+1)).toList.map Char.toNat=_
  rw[String.toList_append,List.map_append,Nat.toList_repr]
  try rfl
theorem zhe:∀d:Nat,d<10->(Nat.digitChar d).toNat=d+48:=by decide
theorem zsj {m:Nat}(h:m<10):dg m = [m+48]:=by
  unfold dg
  rw[Nat.toDigits_of_lt_base h,List.map_cons,List.map_nil,zhe m h]
theorem zsk {m:Nat}(h:10<=m):dg m=dg (m / 10)++[m%10+48]:=by
  have hm:m%10<10:=Nat.mod_lt m (by decide)
  unfold dg
  rw[Nat.toDigits_of_base_le (by decide) h,List.map_append,List.map_cons,List.map_nil,zhe _ hm]
theorem zra (m:Nat):digitsVal (dg m)=m:=by
  induction m using Nat.strongRecOn with
  | _ m ih=>
    by_cases h:m<10
    · rw[zsj h]
      show 0 * 10+(m+48-48)=m
      omega
    · rw[zsk (by omega)]
      have:=ih (m / 10) (by omega)
      unfold digitsVal at this ⊢
      rw[List.foldl_append,this]
      show m / 10 * 10+(m%10+48-48)=m
      omega
theorem zf2 (m:Nat):AllDigits (dg m):=by
  induction m using Nat.strongRecOn with
  | _ m ih=>
    by_cases h:m<10
    · rw[zsj h]
      intro c hc
      rw[List.mem_singleton] at hc
      omega
    · rw[zsk (by omega)]
      intro c hc
      rcases List.mem_append.mp hc with hc | hc
      · exact ih (m / 10) (by omega) c hc
      · rw[List.mem_singleton] at hc
        omega
theorem znt {m k:Nat}(hk:1<=k) (h:m<10 ^ k):(dg m).length<=k:=by
  unfold dg
  rw[List.length_map]
  exact (Nat.length_toDigits_le_iff (by decide) hk).mpr h
theorem zk9 (m:Nat):1<=(dg m).length:=by
  unfold dg
  rw[List.length_map]
  exact Nat.length_toDigits_pos
theorem znu (m:Nat) (h:0<m):∃c r,dg m=c::r/\49<=c/\c<=57:=by
  induction m using Nat.strongRecOn with
  | _ m ih=>
    by_cases h1:m<10
    · exact⟨m+48,[],zsj h1,by omega,by omega⟩
    · obtain⟨c,r,e,h2,h3⟩:=ih (m / 10) (by omega) (by omega)
      exact⟨c,r++[m%10+48],by rw[zsk (by omega),e];rfl,h2,h3⟩
theorem zh7 (n:Int) (h1:n.natAbs<10 ^ 60):zcg (Str.ofString (toString n))=true/\numI (Str.ofString (toString n))=n/\(Str.ofString (toString n)).length<=61:=by
  have hl:=zas (Str.ofString (toString n))
  unfold zcg numI
  cases n with
  | ofNat m=>
    have e:co (Str.ofString (toString (Int.ofNat m)))=dg m:=zbm m
    have h1:m<10 ^ 60:=h1
    have p:=znt (by decide) h1
    have p1:=zk9 m
    rw[e] at hl
    by_cases hm:m=0
    · subst hm
      have z:Str.ofString (toString (Int.ofNat 0))=ZERO:=by decide +kernel
      rw[z]
      refine⟨by decide +kernel,by decide +kernel,by decide +kernel⟩
    · obtain⟨c,r,ed,h2,h3⟩:=znu m (by omega)
      have hc:c≠45:=by omega
      have ef:figs (dg m)=dg m:=by rw[ed,zc1 r hc]
      rw[e,ef]
      refine⟨?_,?_,by omega⟩
      · rw[decide_eq_true p1,decide_eq_true p,zdz (zf2 m),ed]
        have:¬(c::r).head? = some 48:=by
          intro z
          have:c=48:=Option.some.inj z
          omega
        rw[decide_eq_false this];rfl
      · rw[zra,if_neg]
        · rfl
        · rw[ed]
          intro z
          have:c=45:=Option.some.inj z
          omega
  | negSucc m=>
    have e:co (Str.ofString (toString (Int.negSucc m)))=45::dg (m+1):=zhd m
    have h1:m+1<10 ^ 60:=h1
    have p:=znt (by decide) h1
    have p1:=zk9 (m+1)
    rw[e,List.length_cons] at hl
    rw[e,zec]
    obtain⟨c,r,ed,h2,h3⟩:=znu (m+1) (by omega)
    refine⟨?_,?_,by omega⟩
    · rw[decide_eq_true p1,decide_eq_true p,zdz (zf2 (m+1)),ed]
      have:¬(c::r).head? = some 48:=by
        intro z
        have:c=48:=Option.some.inj z
        omega
      rw[decide_eq_false this];rfl
    · rw[zra,if_pos (by rfl)]
      omega
def zbn (ns:List Int) (i:Int):Int:=ns.getD i.toNat 0
def pt (c k m:Int):Int:=(c%99991+17) * (48271+7919 * k)%65537 * (k+3)%8191%m
theorem zps (c k m:Int) (h:0<m):0<=pt c k m/\pt c k m<m:=⟨Int.emod_nonneg _ (by omega),Int.emod_lt_of_pos _ h⟩
def nmI (one at':Int) (k j:Nat):Int:=if (j:Int)=at' then pt one ((j:Int)+2) 37+k else pt one ((j:Int)+2) 37
def nmN (one at':Int) (k j:Nat):Nat:=(co NAMES).getD (nmI one at' k j%37).toNat 0
def nmC (one at':Int) (k size:Nat):List Nat:=(List.range size).map (nmN one at' k)
theorem znv:(co NAMES).length=37:=by decide +kernel
theorem zpt:(co NAMES).Nodup:=by decide +kernel
theorem ix37 (z:Int):0<=z%37/\(z%37).toNat<(co NAMES).length:=by
  have h1:=Int.emod_nonneg z (show (37:Int)≠0 by decide)
  have h2:=Int.emod_lt_of_pos z (show (0:Int)<37 by decide)
  rw[znv]
  omega
theorem zsl (one at':Int) (k j:Nat):nmN one at' k j∈co NAMES:=by
  unfold nmN
  have h:=(ix37 (nmI one at' k j)).2
  rw[List.getD_eq_getElem?_getD,List.getElem?_eq_getElem h]
  exact List.getElem_mem h
theorem znw {i j:Nat}(hi:i<(co NAMES).length) (hj:j<(co NAMES).length) (h:(co NAMES).getD i 0=(co NAMES).getD j 0):i=j:=by
  rw[List.getD_eq_getElem?_getD,List.getD_eq_getElem?_getD,List.getElem?_eq_getElem hi,List.getElem?_eq_getElem hj] at h
  have h:(co NAMES)[i]=(co NAMES)[j]:=h
  exact (List.getElem_inj zpt).mp h
theorem zd2 (one at':Int) (k size:Nat):(nmC one at' k size).length=size:=by unfold nmC;simp
theorem znx {one at':Int}{k size j:Nat}(h:j<size):(nmC one at' k size)[j]? = some (nmN one at' k j):=by
  unfold nmC
  rw[List.getElem?_map,List.getElem?_range h];rfl
def zy (l:List Nat):Str:=⟨l.toArray⟩
theorem zv (l:List Nat):co (zy l)=l:=zup l
theorem zf3 {l m:List Nat}(h:zy l=zy m):l=m:=by
  have:=congrArg co h
  rwa [zv,zv] at this
theorem zed {x:Str}(h1:1<=(co x).length) (h2:(co x).length<=12) (h3:∀c∈co x,c∈co NAMES):zaj x=true:=by
  rw[zas] at h1 h2
  unfold zaj
  rw[decide_eq_true h1,decide_eq_true h2]
  show zh6 (co x) NAMES=true
  exact List.all_eq_true.mpr fun c hc=>decide_eq_true (h3 c hc)
theorem zny {one at':Int}{k size c:Nat}(h:c∈nmC one at' k size):c∈co NAMES:=by
  obtain⟨j,_,rfl⟩:=List.mem_map.mp h
  exact zsl ..
theorem zdg {f:Nat->Str}{n:Nat}(h:∀i j,i<n->j<n->f i=f j->i=j):((List.range n).map f).Nodup:=by
  unfold List.Nodup
  rw[List.pairwise_map]
  refine List.Pairwise.imp_of_mem (R:=(·≠·)) (fun {a b} ha hb hab e=>?_) List.nodup_range
  exact hab (h a b (List.mem_range.mp ha) (List.mem_range.mp hb) e)
theorem zuq:(Str.ofString "" : Str)=zy []:=by decide +kernel
theorem zje (l m:List Nat):zy l++zy m=zy (l++m):=by
  apply zbp
  show (l.toArray++m.toArray).toList=(l++m).toArray.toList
  simp
theorem zcu (l:List Nat):(zy l).length=l.length:=by show l.toArray.size=_;simp
theorem zmc (l:List Nat) (z:Int) (h0:0<=z) (h1:z<=l.length):Txt.slice (zy l) none (some z)=zy (l.take z.toNat):=by
  apply zbp
  rw[zeb,zv,zv,zcu]
  simp only [sIx']
  rw[if_neg (by omega),List.drop_zero,Nat.sub_zero]
  congr 1
  omega
end Dm
namespace Dm
open PySem PySem.NumText L2
abbrev Tups (H:Hp):List Addr->List (List V)->Prop:=Paired fun a ws=>H a=some (.tup ws)
theorem Tups.get {H:Hp}:∀{as:List Addr}{wss:List (List V)}{a:Addr},Tups H as wss->a∈as->∃ws∈wss,H a=some (.tup ws)
  | _,_,_,.cons h t,ha=>by
    rcases List.mem_cons.mp ha with ha | ha
    · subst ha;exact⟨_,List.mem_cons_self ..,h⟩
    · obtain⟨ws,hw,e⟩:=Tups.get t ha
      exact⟨ws,List.mem_cons_of_mem _ hw,e⟩
theorem zla {H:Hp}{p:Addr}{xs ys:List V}(h:H p=some (.lst xs)):∀b zs,H b=some (.tup zs)->upd H p (.lst ys) b=some (.tup zs):=fun b zs e=>by
  rw[zj (zhq e h (by intro z;cases z))];exact e
theorem Tups.any {H:Hp}{as:List Addr}{wss:List (List V)}{ws:List V}(t:Tups H as wss):∀(e:V->Bool),(∀a vs,vs∈wss->H a=some (.tup vs)->e (.ref a)=decide (vs=ws))->(as.map V.ref).any e=decide (ws∈wss):=by
  intro e he
  induction t with
  | nil=>simp
  | @cons a vs as wss h t ih=>
    rw[List.map_cons,List.any_cons,he a vs (List.mem_cons_self ..) h,ih fun b us q r=>he b us (List.mem_cons_of_mem _ q) r]
    by_cases q:vs=ws
    · subst q;simp
    · rw[decide_eq_false q,Bool.false_or]
      have:ws∈vs::wss↔ws∈wss:=by
        rw[List.mem_cons]
        constructor
        · rintro (z | z)
          · exact absurd z.symm q
          · exact z
        · exact .inr
      exact decide_eq_decide.mpr this.symm
def tupE (H:Hp) (ws:List V):V->Bool
  | .ref a=>match H a with
    | some (.tup vs)=>decide (vs=ws)
    | _=>false
  | _=>false
theorem znz {H:Hp}{ws vs:List V}{a:Addr}(h:H a=some (.tup vs)):tupE H ws (.ref a)=decide (vs=ws):=by
  show (match H a with | some (.tup vs)=>decide (vs=ws) | _=>false)=_
  rw[h]
theorem Tups.anyE {H:Hp}{as:List Addr}{wss:List (List V)}{ws:List V}(t:Tups H as wss):(as.map V.ref).any (tupE H ws)=decide (ws∈wss):=t.any _ fun _ _ _ h=>znz h
def jc (s:List Nat):List (List Nat)->List Nat
  | []=>[]
  | [x]=>x
  | x::y::r=>x++s++jc s (y::r)
theorem zn0 (s y:List Nat):∀(x:List Nat) (r:List (List Nat)),jc s (x::r++[y])=jc s (x::r)++s++y
  | x,[]=>rfl
  | x,z::r=>by
    show x++s++jc s (z::r++[y])=(x++s++jc s (z::r))++s++y
    rw[zn0 s y z r]
    simp only [List.append_assoc]
theorem zrb (s:List Nat):∀l:List (List Nat),(jc s l).length<=(l.map List.length).sum+l.length * s.length
  | []=>Nat.zero_le _
  | [x]=>by simp[jc]
  | x::y::r=>by
    have:=zrb s (y::r)
    show (x++s++jc s (y::r)).length<=_
    rw[List.length_append,List.length_append,List.map_cons,List.sum_cons,List.length_cons,Nat.succ_mul]
    omega
theorem zag (x y:Str):co (x++y)=co x++co y:=by
  show (x.cps++y.cps).toList=_
  simp
theorem zcn (sep:Str):∀l:List Str,co (Txt.join sep l)=jc (co sep) (l.map co):=by
  have go:∀l:List Str,co (Str.join sep l)=jc (co sep) (l.map co):=by
    intro l
    induction l with
    | nil=>rfl
    | cons x r ih=>
      cases r with
      | nil=>rfl
      | cons y r=>
        show co (x++sep++Str.join sep (y::r))=co x++co sep++jc (co sep) ((y::r).map co)
        rw[zag,zag,ih]
  intro l
  cases l with
  | nil=>rfl
  | cons x r=>
    show co (Builtin.Str.glued sep (x::r))=_
    rw[StrLaws.glued_eq_join]
    exact go _
theorem zhf (sep:Str) (l:List Str):Txt.join sep l=zy (jc (co sep) (l.map co)):=zbp (by rw[zcn,zv])
theorem zlb:(Str.ofString " " : Str)=zy [32]:=by decide +kernel
theorem zkd:(Str.ofString "\n" : Str)=zy [10]:=by decide +kernel
theorem zur {l:List (List Nat)}{k:Nat}(h:∀x∈l,x.length<=k):(l.map List.length).sum<=l.length * k:=by
  induction l with
  | nil=>simp
  | cons x r ih=>
    rw[List.map_cons,List.sum_cons,List.length_cons,Nat.succ_mul]
    have:=h x (List.mem_cons_self ..)
    have:=ih fun y hy=>h y (List.mem_cons_of_mem _ hy)
    omega
structure Tie where
  k:Str
  a:Str
  b:Str
  g:Option Int
def SAME:Str:="same"
theorem zsm {x y:Str}(h1:¬co x<co y) (h2:¬co y<co x):x=y:=by
  rw[List.not_lt] at h1 h2
  exact zbp (List.le_antisymm h2 h1)
theorem zpu {x y:Str}(h1:co x<co y) (h2:co y<co x):False:=List.lt_irrefl _ (List.lt_trans h1 h2)
theorem zvw {y m f:List Nat}(h1:y<m) (h2:¬f<m):y<f:=by
  exact Decidable.byContradiction fun z=>h2 (List.lt_of_le_of_lt (List.not_lt.mp z) h1)
def Nb (ts:List Tie) (y z:Str):Prop:=∃t∈ts,t.k=SAME/\((t.a=y/\t.b=z)\/(t.b=y/\t.a=z))
inductive Cn (ts:List Tie):Str->Str->Prop where
  | refl (x:Str):Cn ts x x
  | step {x y z:Str}(h:Cn ts x y) (n:Nb ts y z):Cn ts x z
structure Good (ts:List Tie) (lab:Str->Str):Prop where
  to:∀x,Cn ts x (lab x)
  eq:∀x y,Cn ts x y->lab x=lab y
  le:∀x y,Cn ts x y->¬co y<co (lab x)
def dN (us:List Str) (lab:Str->Str):List (Key×V):=us.map fun x=>(Sum.inr x,V.str (lab x))
def zgv (l:List Str):Prop:=l.Pairwise (fun a b=>¬co b<co a)
theorem ze6:∀{a b:List Str},a.Perm b->zgv a->zgv b->a=b
  | [],b,p,_,_=>by rw[List.nil_perm.mp p]
  | x::r,[],p,_,_=>by have:=p.length_eq;cases this
  | x::r,y::r',p,ha,hb=>by
    have hx:x∈y::r':=p.mem_iff.mp (by simp)
    have hy:y∈x::r:=p.mem_iff.mpr (by simp)
    have e:x=y:=by
      rcases List.mem_cons.mp hx with h | h
      · exact h
      · rcases List.mem_cons.mp hy with h2 | h2
        · exact h2.symm
        · exact zsm ((List.pairwise_cons.mp hb).1 x h) ((List.pairwise_cons.mp ha).1 y h2)
    subst e
    rw[ze6 (List.Perm.cons_inv p) (List.pairwise_cons.mp ha).2 (List.pairwise_cons.mp hb).2]
def insS (x:Str):List Str->List Str
  | []=>[x]
  | y::r=>if co y<co x then y::insS x r else x::y::r
def srt:List Str->List Str
  | []=>[]
  | x::r=>insS x (srt r)
theorem zf4 (x:Str):∀l,(insS x l).Perm (x::l)
  | []=>.refl _
  | y::r=>by
    unfold insS
    split
    · exact ((zf4 x r).cons y).trans (.swap x y r)
    · exact .refl _
theorem zee:∀l,(srt l).Perm l
  | []=>.refl _
  | x::r=>(zf4 x (srt r)).trans ((zee r).cons x)
theorem zhg (x:Str):∀l,zgv l->zgv (insS x l)
  | [],_=>List.pairwise_singleton ..
  | y::r,h=>by
    unfold insS
    obtain⟨h1,h2⟩:=List.pairwise_cons.mp h
    split
    · next c=>
      refine List.pairwise_cons.mpr ⟨fun z hz=>?_,zhg x r h2⟩
      rcases List.mem_cons.mp ((zf4 x r).mem_iff.mp hz) with e | hz
      · subst e;exact fun q=>zpu q c
      · exact h1 z hz
    · next c=>
      refine List.pairwise_cons.mpr ⟨fun z hz=>?_,h⟩
      rcases List.mem_cons.mp hz with e | hz
      · subst e;exact c
      · intro q
        exact h1 z hz (zvw q c)
theorem zef:∀l,zgv (srt l)
  | []=>.nil
  | x::r=>zhg x (srt r) (zef r)
theorem zlc {ms us:List Str}(p:ms.Perm us) (h:zgv ms):ms=srt us:=ze6 (p.trans (zee us).symm) h (zef us)
theorem zsn (us:List Str):(srt us).length=us.length:=(zee us).length_eq
def dV (ks:List Str) (f:Str->V):List (Key×V):=ks.map fun x=>(Sum.inr x,f x)
structure Fnd where
  n:Str
  u:Str
  lo:Int
  hi:Int
abbrev Ln:=Str->List (Str×Addr)
theorem zld {α:Type}{F:Addr->α->Prop}{as:List Addr}{ps:List α}{i:Nat}{x:V}(t:Paired F as ps) (hx:(as.map V.ref)[i]? = some x):∃q p,x = .ref q/\ps[i]? = some p/\as[i]? = some q/\F q p:=by
  rw[List.getElem?_map] at hx
  cases e:as[i]? with
  | none=>rw[e] at hx;cases hx
  | some q=>
    rw[e] at hx
    cases hx
    obtain⟨p,h1,h2⟩:=Paired.get' t e
    exact⟨q,p,rfl,h1,rfl,h2⟩
theorem zn1 {K:PySem.W.Frag}{H:Hp}{n:Nat}{xs:List Str}:∀x∈xs.map V.str,DEq K H n x x true:=fun x hx=>by
  obtain⟨z,_,rfl⟩:=List.mem_map.mp hx
  have:=DEq.flat (K:=K) (H:=H) (n:=n) (x:=.str z) (y:=.str z) rfl rfl
  rwa [show eqV (.str z) (.str z)=true from by simp[eqV]] at this
end Dm
namespace L2
open PySem PySem.Spec PyProof.Rows
theorem zc8:∀(r:List Str) (x:Str),risingS x r=true->(x::r).Pairwise (fun a b=>¬b.cps.toList<a.cps.toList)
  | [],x,_=>List.pairwise_singleton ..
  | y::r,x,h=>by
    unfold risingS at h
    rw[Bool.and_eq_true] at h
    have ih:=zc8 r y h.2
    have h1:¬y.cps.toList<x.cps.toList:=by
      intro z
      have:ltCps y.cps.toList x.cps.toList=true:=by rw[ltCps_eq];exact decide_eq_true z
      rw[this] at h
      simp at h
    refine List.pairwise_cons.mpr ⟨fun b hb=>?_,ih⟩
    rcases List.mem_cons.mp hb with rfl | hb
    · exact h1
    · intro z
      have h2:=(List.pairwise_cons.mp ih).1 b hb
      rw[List.not_lt] at h1 h2
      exact absurd z (List.not_lt.mpr (List.le_trans h1 h2))
theorem zfb {ss:List Str}(h:sortedS ss=true):ss.Pairwise (fun a b=>¬b.cps.toList<a.cps.toList):=by
  cases ss with
  | nil=>exact .nil
  | cons x r=>exact zc8 r x h
section
variable {X:Cx}
theorem zdh {K:PySem.W.Frag}(h:X.K=K):zd0 X (.builtin "sorted") (fun xs H Q=>∃(a:Addr) (ns:List Str),xs = [V.ref a]/\SqL K H a (ns.map V.str)/\ns.length<64/\
    ∀(p:Addr) (ms:List Str),H p=none->ms.Perm ns->ms.Pairwise (fun a b=>¬b.cps.toList<a.cps.toList)->Q (.ref p) (upd H p (.lst (ms.map V.str)))):=by
  subst h
  intro pins s σ H xs us Q I r h
  obtain⟨a,ns,rfl,ha,hn,q⟩:=h
  obtain⟨u,rfl,ru⟩:=zd7 r
  cases ru
  obtain⟨its,rv,pl,hz⟩:=I.list ha
  have hl:=rv.length
  rw[List.length_map] at hl
  refine PyProof.Rows.sorted_strs pl.isList (zes rv) (by omega) fun out ms a1 a2 a3=>?_
  obtain⟨e,he⟩:=PyProof.Rows.sortedAll_at s.heap its out
  have hn':H (s.heap.objs.size+1)=none:=I.hok.fresh (Nat.le_succ _)
  have hm:ms.length=ns.length:=a2.length_eq
  have hs:sizeLine=16777216:=sizeLine_eq
  have vs:∀{us:List Value}{ys:List Str},StrsAre us ys->Vals (ys.map V.str) us:=by
    intro us ys h
    induction h with
    | nil=>exact .nil
    | cons x t _ ih=>exact .cons ⟨t,rfl⟩ ih
  refine⟨.ref (s.heap.objs.size+1),_,I.laid (t':=s.toks) (a:=s.heap.objs.size+1) (o:=.lst (ms.map V.str)) (fun b o eb=>PyProof.Rows.sortedAll_old eb) (Nat.le_succ _) ⟨?_,out.toList,e,vs a1,?_⟩,rfl,q _ ms hn' a2 (zfb a3)⟩
  · rw[List.length_map];omega
  · rw[he]
end
end L2
namespace HT
open PySem PySem.Spec PyProof.Rows PySem.Calls
end HT
namespace L2
open PySem PySem.Spec PyProof.Rows
def dd (val:Nat->Str):Nat->List Str
  | 0=>[]
  | i+1=>if val i∈dd val i then dd val i else dd val i++[val i]
section
variable {prog:Program}{w:World}{A:Around}{R:Result->Shared->Prop}
end
end L2
namespace Dm
open PySem PySem.NumText L2
def lvN (lv:Str->Nat) (L:List (Str×Addr)):List Int:=L.map fun p=>(lv p.1:Int)+1
end Dm
namespace L2
open PySem PySem.Spec PyProof.Rows
end L2
namespace Dm
open PySem PySem.NumText L2
end Dm
namespace L2
open PySem PySem.Spec PyProof.Rows
abbrev IS:=Int×Str
theorem zeg {α β:Type}{F:α->β->Prop}{as:List α}{bs:List β}(h:Paired F as bs):∀{i:Nat}{a:α}{b:β},as[i]? = some a->bs[i]? = some b->F a b:=by
  induction h with
  | nil=>intro i a b e _;simp at e
  | cons h _ ih=>
    intro i a b e1 e2
    cases i with
    | zero=>simp at e1 e2;rw[←e1,←e2];exact h
    | succ i=>exact ih (by simpa using e1) (by simpa using e2)
end L2
namespace Dm
open PySem PySem.NumText L2
end Dm
namespace L2
open PySem
theorem DEq.allL {K:PySem.W.Frag}{H:Hp}{n:Nat}{a b:Addr}{xs ys:List V}(hx:SqL K H a xs) (hy:SqL K H b ys) (hl:xs.length=ys.length) (h:∀(i:Nat) x y,xs[i]? = some x->ys[i]? = some y->DEq K H n x y true):DEq K H (n+1) (.ref a) (.ref b) true:=by
  have:=DEq.lst (n:=n) (fun _=>true) hx hy hl h
  rw[List.all_eq_true.mpr fun _ _=>rfl] at this
  exact this
end L2
namespace L2
open PySem PySem.W PyProof.Rows
def askB (N:Nat) (lt:Nat->Nat->Bool):Nat->Nat->(Bool->Shared->Prop)->Shared->Prop:=fun i j C s=>i<N/\j<N/\i≠j/\C (lt i j) s
structure Tot (N:Nat) (lt:Nat->Nat->Bool):Prop where
  irr:∀a,a<N->lt a a=false
  tr:∀a b c,a<N->b<N->c<N->lt a b=true->lt b c=true->lt a c=true
  tot:∀a b,a<N->b<N->a≠b->lt a b=false->lt b a=true
structure Good (N:Nat) (p:Array Nat):Prop where
  sz:p.size=N
  lt:∀i,i<N->p.getD i 0<N
  inj:∀i j,i<N->j<N->p.getD i 0=p.getD j 0->i=j
def Asc (lt:Nat->Nat->Bool) (p:Array Nat) (k:Nat):Prop:=∀i j,i<j->j<k->lt (p.getD i 0) (p.getD j 0)=true
def Dsc (lt:Nat->Nat->Bool) (p:Array Nat) (k:Nat):Prop:=∀i j,i<j->j<k->lt (p.getD j 0) (p.getD i 0)=true
section
variable {N:Nat}{lt:Nat->Nat->Bool}{s:Shared}
theorem Asc.snoc (T:Tot N lt) {p:Array Nat}(G:Good N p) {n:Nat}(h:Asc lt p n) (hn:n<N) (h1:1<=n) (q:lt (p.getD (n-1) 0) (p.getD n 0)=true):Asc lt p (n+1):=by
  intro i j hij hj
  by_cases c:j<n
  · exact h i j hij c
  · have:j=n:=by omega
    subst this
    by_cases c2:i=j-1
    · rw[c2];exact q
    · exact T.tr _ _ _ (G.lt i (by omega)) (G.lt (j-1) (by omega)) (G.lt j hn) (h i (j-1) (by omega) (by omega)) q
theorem Dsc.snoc (T:Tot N lt) {p:Array Nat}(G:Good N p) {n:Nat}(h:Dsc lt p n) (hn:n<N) (h1:1<=n) (q:lt (p.getD n 0) (p.getD (n-1) 0)=true):Dsc lt p (n+1):=by
  intro i j hij hj
  by_cases c:j<n
  · exact h i j hij c
  · have:j=n:=by omega
    subst this
    by_cases c2:i=j-1
    · rw[c2];exact q
    · exact T.tr _ _ _ (G.lt j hn) (G.lt (j-1) (by omega)) (G.lt i (by omega)) q (h i (j-1) (by omega) (by omega))
theorem zn2 (T:Tot N lt) {p:Array Nat}(G:Good N p) {Q:Nat->Shared->Prop}:∀(f n:Nat),1<=n->n+f<=N->Asc lt p n->(∀m,n<=m->m<=n+f->Asc lt p m->(m<n+f->lt (p.getD m 0) (p.getD (m-1) 0)=true)->Q m s)->(kas_asc p f n).kasWp (askB N lt) Q s
  | 0,n,_,_,a,k=>k n (Nat.le_refl _) (Nat.le_refl _) a (fun z=>absurd z (Nat.lt_irrefl _))
  | f+1,n,h1,hn,a,k=>by
    refine⟨G.lt n (by omega),G.lt (n-1) (by omega),fun z=>by have:=G.inj n (n-1) (by omega) (by omega) z;omega,?_⟩
    cases c:lt (p.getD n 0) (p.getD (n-1) 0) with
    | true=>
      dsimp only
      rw[if_pos rfl]
      exact k n (Nat.le_refl _) (by omega) a fun _=>c
    | false=>
      dsimp only
      rw[if_neg (by simp)]
      have ne:p.getD n 0≠p.getD (n-1) 0:=fun z=>by have:=G.inj n (n-1) (by omega) (by omega) z;omega
      have q:=T.tot _ _ (G.lt n (by omega)) (G.lt (n-1) (by omega)) ne c
      refine zn2 T G f (n+1) (by omega) (by omega) (a.snoc T G (by omega) h1 q) fun m m1 m2 am hm=>k m (by omega) (by omega) am fun z=>hm (by omega)
theorem zn3 (T:Tot N lt) {p:Array Nat}(G:Good N p) {Q:Array Nat×Nat×Nat->Shared->Prop}:∀(f n:Nat),1<=n->n+f<=N->Dsc lt p n->(∀m,n<=m->m<=n+f->Dsc lt p m->Q (p,m,0) s)->(kas_desc f p n 0).kasWp (askB N lt) Q s
  | 0,n,_,_,a,k=>k n (Nat.le_refl _) (Nat.le_refl _) a
  | f+1,n,h1,hn,a,k=>by
    refine⟨G.lt n (by omega),G.lt (n-1) (by omega),fun z=>by have:=G.inj n (n-1) (by omega) (by omega) z;omega,?_⟩
    cases c:lt (p.getD n 0) (p.getD (n-1) 0) with
    | true=>
      dsimp only
      rw[if_pos rfl,if_neg (by omega)]
      exact zn3 T G f (n+1) (by omega) (by omega) (a.snoc T G (by omega) h1 c) fun m m1 m2 am=>k m (by omega) (by omega) am
    | false=>
      dsimp only
      rw[if_neg (by simp)]
      have ne:p.getD n 0≠p.getD (n-1) 0:=fun z=>by have:=G.inj n (n-1) (by omega) (by omega) z;omega
      have q:=T.tot _ _ (G.lt n (by omega)) (G.lt (n-1) (by omega)) ne c
      refine⟨G.lt (n-1) (by omega),G.lt n (by omega),Ne.symm ne,?_⟩
      rw[q]
      dsimp only
      rw[if_pos rfl]
      exact k n (Nat.le_refl _) (by omega) a
theorem zf5 {p:Array Nat}{i:Nat}{q:Array Nat}{j:Nat}(h:p[i]? = q[j]?):p.getD i 0=q.getD j 0:=by
  rw[Array.getD_eq_getD_getElem?,Array.getD_eq_getD_getElem?,h]
theorem zf6 {p:Array Nat}{j:Nat}(hj:j<=p.size) (k:Nat):(kas_rev p 0 j).getD k 0=if k<j then p.getD (j-1-k) 0 else p.getD k 0:=by
  have e:=getElem?_mirror_all (xs:=p) (i:=0) hj k
  unfold kas_rev
  by_cases c:k<j
  · rw[if_pos c]
    rw[if_pos ⟨Nat.zero_le _,c⟩] at e
    rw[Nat.zero_add] at e
    exact zf5 e
  · rw[if_neg c]
    rw[if_neg (fun z=>c z.2)] at e
    exact zf5 e
theorem Good.rev {p:Array Nat}(G:Good N p) {j:Nat}(hj:j<=N):Good N (kas_rev p 0 j):=by
  have hz:j<=p.size:=by rw[G.sz];exact hj
  refine⟨by rw[kas_rev_size];exact G.sz,fun i hi=>?_,fun a b ha hb e=>?_⟩
  · rw[zf6 hz]
    split
    · exact G.lt _ (by omega)
    · exact G.lt _ hi
  · rw[zf6 hz,zf6 hz] at e
    by_cases c1:a<j<;>by_cases c2:b<j
    · rw[if_pos c1,if_pos c2] at e
      have:=G.inj _ _ (by omega) (by omega) e
      omega
    · rw[if_pos c1,if_neg c2] at e
      have:=G.inj _ _ (by omega) (by omega) e
      omega
    · rw[if_neg c1,if_pos c2] at e
      have:=G.inj _ _ (by omega) (by omega) e
      omega
    · rw[if_neg c1,if_neg c2] at e
      exact G.inj _ _ (by omega) (by omega) e
theorem Dsc.rev {p:Array Nat}(G:Good N p) {j:Nat}(hj:j<=N) (h:Dsc lt p j):Asc lt (kas_rev p 0 j) j:=by
  have hz:j<=p.size:=by rw[G.sz];exact hj
  intro a b hab hb
  rw[zf6 hz,zf6 hz,if_pos (by omega),if_pos hb]
  exact h _ _ (by omega) (by omega)
theorem zpv (T:Tot N lt) {p:Array Nat}(G:Good N p) (h2:2<=N) {Q:Nat×Array Nat->Shared->Prop}(k:∀m p',1<=m->m<=N->Good N p'->Asc lt p' m->Q (m,p') s):(kas_count N p).kasWp (askB N lt) Q s:=by
  unfold kas_count
  rw[KasT.kasWp_bind]
  refine zn2 T G (N-1) 1 (Nat.le_refl _) (by omega) (fun i j a b=>by omega) fun n n1 n2 an hn=>?_
  by_cases c:n=N
  · rw[if_pos (by rw[c];simp)]
    exact k n p n1 (by omega) G an
  · rw[if_neg (by simpa using c)]
    by_cases c2:n > 1
    · rw[if_pos c2]
      refine⟨G.lt 0 (by omega),G.lt (n-1) (by omega),fun z=>by have:=G.inj 0 (n-1) (by omega) (by omega) z;omega,?_⟩
      rw[an 0 (n-1) (by omega) (by omega)]
      dsimp only
      rw[if_pos rfl]
      exact k n p n1 (by omega) G an
    · rw[if_neg c2]
      have e1:n=1:=by omega
      subst e1
      have h10:=hn (by omega)
      unfold kas_descPart
      rw[KasT.kasWp_bind]
      have d2:Dsc lt p (1+1):=fun i j hij hj=>by
        have:i=0:=by omega
        have:j=1:=by omega
        subst i j
        exact h10
      refine zn3 T G (N-(1+1)) (1+1) (by omega) (by omega) d2 fun m m1 m2 dm=>?_
      show KasT.kasWp _ (if (0:Nat) > 0 then _ else kas_tail3 m N p) _ _
      rw[if_neg (by omega)]
      unfold kas_tail3
      rw[KasT.kasWp_bind]
      refine zn2 T (G.rev (j:=m) (by omega)) (N-m) m (by omega) (by omega) (dm.rev G (by omega)) fun r r1 r2 ar _=>?_
      exact k r _ (by omega) (by omega) (G.rev (by omega)) ar
theorem zh8 (T:Tot N lt) {p:Array Nat}(G:Good N p) {k:Nat}(hk:k<N) {Q:Nat->Shared->Prop}:∀(f l r:Nat),l<=r->r<=k->r-l<=f->(∀i,i<l->lt (p.getD i 0) (p.getD k 0)=true)->(∀i,r<=i->i<k->lt (p.getD k 0) (p.getD i 0)=true)->Asc lt p k->
      (∀m,m<=k->(∀i,i<m->lt (p.getD i 0) (p.getD k 0)=true)->(∀i,m<=i->i<k->lt (p.getD k 0) (p.getD i 0)=true)->Q m s)->(kas_place p k f l r).kasWp (askB N lt) Q s
  | 0,l,r,h1,h2,h3,a,b,_,q=>q l (by omega) a fun i hi hk'=>b i (by omega) hk'
  | f+1,l,r,h1,h2,h3,a,b,as,q=>by
    unfold kas_place
    by_cases c:l≥r
    · rw[if_pos c]
      exact q l (by omega) a fun i hi hk'=>b i (by omega) hk'
    · rw[if_neg c]
      have hm:(l+r) / 2<r:=by omega
      have hl:l<=(l+r) / 2:=by omega
      generalize (l+r) / 2=m at hm hl
      refine⟨G.lt k hk,G.lt m (by omega),fun z=>by have:=G.inj k m hk (by omega) z;omega,?_⟩
      cases e:lt (p.getD k 0) (p.getD m 0) with
      | true=>
        dsimp only
        rw[if_pos rfl]
        refine zh8 T G hk f l m hl (by omega) (by omega) a (fun i hi hik=>?_) as q
        by_cases c3:i=m
        · rw[c3];exact e
        · exact T.tr _ _ _ (G.lt k hk) (G.lt m (by omega)) (G.lt i (by omega)) e (as m i (by omega) hik)
      | false=>
        dsimp only
        rw[if_neg (by simp)]
        have ne:p.getD k 0≠p.getD m 0:=fun z=>by have:=G.inj k m hk (by omega) z;omega
        have e2:=T.tot _ _ (G.lt k hk) (G.lt m (by omega)) ne e
        refine zh8 T G hk f (m+1) r (by omega) h2 (by omega) (fun i hi=>?_) b as q
        by_cases c3:i=m
        · rw[c3];exact e2
        · exact T.tr _ _ _ (G.lt i (by omega)) (G.lt m (by omega)) (G.lt k hk) (as i m (by omega) (by omega)) e2
theorem zke {p:Array Nat}{k d:Nat}(hk:k<p.size) (hd:d<=k) (j:Nat):(bubble p k d).getD j 0=if j=k-d then p.getD k 0 else if k-d<j/\j<=k then p.getD (j-1) 0 else p.getD j 0:=by
  have e:=getElem?_bubble hk d hd j
  by_cases c1:j=k-d
  · rw[if_pos c1] at e ⊢
    exact zf5 e
  · rw[if_neg c1] at e ⊢
    by_cases c2:k-d<j/\j<=k
    · rw[if_pos c2] at e ⊢
      exact zf5 e
    · rw[if_neg c2] at e ⊢
      exact zf5 e
def bubI (k d j:Nat):Nat:=if j=k-d then k else if k-d<j/\j<=k then j-1 else j
theorem zh9 {p:Array Nat}{k d:Nat}(hk:k<p.size) (hd:d<=k) (j:Nat):(bubble p k d).getD j 0=p.getD (bubI k d j) 0:=by
  rw[zke hk hd]
  unfold bubI
  by_cases c1:j=k-d
  · rw[if_pos c1,if_pos c1]
  · rw[if_neg c1,if_neg c1]
    by_cases c2:k-d<j/\j<=k
    · rw[if_pos c2,if_pos c2]
    · rw[if_neg c2,if_neg c2]
theorem zkf {N k d j:Nat}(hk:k<N) (hj:j<N):bubI k d j<N:=by
  unfold bubI
  split
  · exact hk
  · split<;>omega
theorem zpw {k d a b:Nat}(hd:d<=k) (e:bubI k d a=bubI k d b):a=b:=by
  unfold bubI at e
  split at e<;>split at e<;>(try split at e)<;>(try split at e)<;>omega
theorem Good.bub {p:Array Nat}(G:Good N p) {k d:Nat}(hk:k<N) (hd:d<=k):Good N (bubble p k d):=by
  have hz:k<p.size:=by rw[G.sz];exact hk
  refine⟨by rw[bubble_size];exact G.sz,fun i hi=>?_,fun a b ha hb e=>?_⟩
  · rw[zh9 hz hd]
    exact G.lt _ (zkf hk hi)
  · rw[zh9 hz hd,zh9 hz hd] at e
    exact zpw hd (G.inj _ _ (zkf hk ha) (zkf hk hb) e)
theorem zrc (T:Tot N lt) {Q:Array Nat->Shared->Prop}:∀(f:Nat) (p:Array Nat) (k:Nat),Good N p->1<=k->k+f=N->Asc lt p k->(∀p',Good N p'->Asc lt p' N->Q p' s)->(kas_bin f p k).kasWp (askB N lt) Q s
  | 0,p,k,G,h1,hk,a,q=>q p G (by rw[←hk];exact a)
  | f+1,p,k,G,h1,hk,a,q=>by
    unfold kas_bin
    rw[KasT.kasWp_bind]
    have hkN:k<N:=by omega
    refine zh8 T G hkN k 0 k (Nat.zero_le _) (Nat.le_refl _) (by omega) (fun i hi=>by omega) (fun i hi hik=>by omega) a fun m hm lo hi=>?_
    have hz:k<p.size:=by rw[G.sz];exact hkN
    have hd:k-m<=k:=by omega
    refine zrc T f _ (k+1) (G.bub hkN hd) (by omega) (by omega) (fun i j hij hj=>?_) q
    rw[zke hz hd,zke hz hd]
    have em:k-(k-m)=m:=by omega
    rw[em]
    by_cases c1:i=m
    · rw[if_pos c1,if_neg (by omega),if_pos ⟨by omega,by omega⟩]
      exact hi (j-1) (by omega) (by omega)
    · rw[if_neg c1]
      by_cases c2:j=m
      · rw[if_pos c2,if_neg (by omega)]
        exact lo i (by omega)
      · rw[if_neg c2]
        by_cases c3:m<i/\i<=k
        · rw[if_pos c3,if_pos ⟨by omega,by omega⟩]
          exact a _ _ (by omega) (by omega)
        · rw[if_neg c3]
          by_cases c4:m<j/\j<=k
          · rw[if_pos c4]
            exact a _ _ (by omega) (by omega)
          · rw[if_neg c4]
            exact a _ _ (by omega) (by omega)
theorem zhh:Good N (List.toArray (List.range N)):=by
  have e:∀i,i<N->(List.toArray (List.range N)).getD i 0=i:=fun i hi=>by
    rw[Array.getD_eq_getD_getElem?]
    simp[hi]
  refine⟨by simp,fun i hi=>by rw[e i hi];exact hi,fun i j hi hj z=>by rw[e i hi,e j hj] at z;exact z⟩
theorem zso (T:Tot N lt) (h2:2<=N) {Q:Array Nat->Shared->Prop}(q:∀p,Good N p->Asc lt p N->Q p s):(kas_sort N).kasWp (askB N lt) Q s:=by
  unfold kas_sort
  rw[KasT.kasWp_bind]
  refine zpv T zhh h2 fun m p m1 m2 G a=>?_
  dsimp only
  by_cases c:m<N
  · rw[if_pos c]
    have e:max m 1=m:=by omega
    rw[e]
    exact zrc T (N-m) p m G m1 (by omega) a q
  · rw[if_neg c]
    have e:m=N:=by omega
    subst e
    exact q p G a
end
theorem zle {α:Type}{cmp cmp':Nat->Nat->(Bool->Shared->Prop)->Shared->Prop}{s:Shared}{Q:α->Shared->Prop}(h:∀i j (C:Bool->Shared->Prop),cmp i j (fun b s'=>s'=s/\C b s) s->cmp' i j C s) (m:∀i j (C C':Bool->Shared->Prop),(∀b,C b s->C' b s)->cmp i j C s->cmp i j (fun b s'=>s'=s/\C' b s) s):∀(t:KasT α),t.kasWp cmp Q s->t.kasWp cmp' Q s
  | .ret a,q=>q
  | .ask i j k,q=>h i j _ (m i j (fun b s'=>(k b).kasWp cmp Q s') _ (fun b z=>zle h m (k b) z) q)
section
variable {prog:Program}{w:World}{A:Around}{E:Value->Shared->Prop}{s:Shared}
def zbv (h:Heap) (d:Addr) (us:List Value):Heap:=((h.update d (Obj.mapSeq fun _=>#[])).push (seqObj "tuple" us.toArray 0)).push (seqObj "list" #[] 0)
theorem zmd {h:Heap}{d b:Addr}{us:List Value}{o:Obj}(n:b≠d) (e:h.get? b=some o):(zbv h d us).get? b=some o:=by
  unfold zbv
  refine Heap.get?_push_of_some _ (Heap.get?_push_of_some _ ?_)
  rw[Heap.get?_update_other _ _ (Ne.symm n)]
  exact e
def Put (us:List Value) (lt:Nat->Nat->Bool) (out:List Value):Prop:=∃p:Array Nat,Good us.length p/\Asc lt p us.length/\out=p.toList.map fun i=>us.getD i Value.none
theorem zn4 {d:Addr}{us:List Value}{n:Nat}{κ:SortKind}{lt:Nat->Nat->Bool}{P:PySem.Fin->Shared->Prop}(T:Tot us.length lt) (hd:s.heap.get? d=some (seqObj "list" us.toArray n)) (small:us.length<64)
    (kind:2<=us.length->∀(Q:SortKind->Shared->Prop) (E':Value->Shared->Prop),Q κ { s with heap:=zbv s.heap d us }->wpAny (model prog w) A (keyKind' us.toArray) Q E' { s with heap:=zbv s.heap d us })
    (less:∀i j,i<us.length->j<us.length->i≠j->∀(Q:Bool->Shared->Prop),Q (lt i j) { s with heap:=zbv s.heap d us }->wpAny (model prog w) A (keyLt' κ (us.getD i Value.none) (us.getD j Value.none)) Q (fun _ _=>False) { s with heap:=zbv s.heap d us })
    (fin:∀out:List Value,out.length=us.length->Put us lt out->P (.done (.ret .none)) { s with heap:=sortedHeap s.heap d us out.toArray }) :
    wpAny (model prog w) A (Builtin.«list.sort» ⟨[.ref d],[]⟩) P E s:=by
  rw[list_sort_plain]
  have dl:d<s.heap.objs.size:=Heap.lt_size hd
  refine wpAny_bind (listItems_at hd rfl (wpAny_bind (listUpdate_at hd rfl ?_)))
  obtain⟨n1,hd1⟩:∃n1,(s.heap.update d (Obj.mapSeq fun _=>#[])).get? d=some (seqObj "list" #[] n1):=⟨_,get?_update_seq hd (fun _=>#[])⟩
  refine wpAny_bind (seqEpoch_at hd1 rfl (wpAny_bind (wpAny_newTuple (wpAny_bind (wpAny_newList (wpAny_holding ?_))))))
  have hd6:(zbv s.heap d us).get? d=some (seqObj "list" #[] n1):=Heap.get?_push_of_some _ (Heap.get?_push_of_some _ hd1)
  show wpAny (model prog w) A _ P E { s with heap:=zbv s.heap d us }
  dsimp only
  have zl:us.toArray.size=us.length:=by simp
  by_cases c:us.toArray.size<2
  · rw[if_pos c,if_pos c]
    refine wpAny_bind (wpAny_pure ?_)
    rw[StateT.run_pure]
    refine wpAny_bind (wpAny_pure ?_)
    dsimp only
    have ez:(us.toArray.zip us.toArray).map (·.2)=us.toArray:=by
      apply Array.ext'
      simp[List.map_snd_zip]
    refine wpAny_bind (seqEpoch_at hd6 rfl (wpAny_bind (listUpdate_at hd6 rfl ?_ (hsz2:=by rw[Array.size_map];show (us.toArray.zip us.toArray).size<=_;rw[sizeLine_eq];simp;omega))))
    simp only [bne_self_eq_false,Bool.false_eq_true,if_false]
    have go:=fin us rfl ⟨_,zhh,fun i j a b=>by omega,by
      apply List.ext_getElem?
      intro i
      by_cases hi:i<us.length
      · simp[hi]
      · simp[Nat.le_of_not_lt hi]⟩
    refine wpAny_pure ?_
    have e2:(arrOf (SortSt.mk' general' (us.toArray.zip us.toArray) #[] 7 none)).map (·.2)=us.toArray:=ez
    rw[e2]
    exact go
  · rw[if_neg c,if_neg c]
    have two:2<=us.length:=by omega
    refine wpAny_bind (kind two _ _ ?_)
    refine wpAny_bind (wpAny_mono (kat_run (E:=E) (ks:=us) (vs:=us) (G:=fun p s'=>s' = { s with heap:=zbv s.heap d us }/\Good us.length p/\Asc lt p us.length) (Q:=fun st' s'=>s' = { s with heap:=zbv s.heap d us }/\failedOf st'=none/\∃p,Good us.length p/\Asc lt p us.length/\arrOf st'=p.map (kas_item (us.toArray.zip us.toArray))) rfl two small (fun p st' s' _ e1 e2 g=>⟨g.1,e2,p,g.2.1,g.2.2,e1⟩) ?_) (fun r s' q=>?_) fun _ _ z=>z)
    · refine zle (cmp:=askB us.length lt) (fun i j C h=>?_) (fun i j C C' h q=>⟨q.1,q.2.1,q.2.2.1,rfl,h _ q.2.2.2⟩) _ (zso T two fun p g a=>⟨rfl,g,a⟩)
      obtain⟨h1,h2,n12,_,h3⟩:=h
      exact less i j h1 h2 n12 _ h3
    · obtain⟨⟨⟩,st'⟩:=r
      obtain⟨rfl,nf,p,g,a,ea⟩:=q
      dsimp only at ea nf ⊢
      have eo:(arrOf st').map (·.2)=(p.toList.map fun i=>us.getD i Value.none).toArray:=by
        rw[ea]
        apply Array.ext'
        simp only [Array.toList_map,List.map_map]
        refine List.map_congr_left fun i _=>?_
        show (kas_item (us.toArray.zip us.toArray) i).2=_
        rw[kat_item rfl]
      have el:(p.toList.map fun i=>us.getD i Value.none).length=us.length:=by rw[List.length_map,Array.length_toList,g.sz]
      refine wpAny_bind (seqEpoch_at hd6 rfl (wpAny_bind (listUpdate_at hd6 rfl ?_ (hsz2:=by rw[eo];show (p.toList.map fun i=>us.getD i Value.none).toArray.size<=_;rw[List.size_toArray,el,sizeLine_eq];omega))))
      rw[nf]
      simp only [bne_self_eq_false,Bool.false_eq_true,if_false]
      have go:=fin _ el ⟨p,g,a,rfl⟩
      unfold sortedHeap at go
      rw[←eo] at go
      exact wpAny_pure go
theorem zn5 {l:Addr}{us:List Value}{κ:SortKind}{lt:Nat->Nat->Bool}{Q:Value->Shared->Prop}(T:Tot us.length lt) (small:us.length<64)
    (col:∀(E':Value->Shared->Prop) (Q':List Value->Shared->Prop),(∀h1 tk,(∀b o,s.heap.get? b=some o->h1.get? b=some o)->s.heap.objs.size<h1.objs.size->Q' us { s with heap:=h1,toks:=tk })->wpAny (model prog w) A.in1 (collect (.ref l)) Q' E' s)
    (kind:2<=us.length->∀(s':Shared),(∀b o,s.heap.get? b=some o->s'.heap.get? b=some o)->∀{A':Around}{E':Value->Shared->Prop}{Q':SortKind->Shared->Prop},Q' κ s'->wpAny (model prog w) A' (keyKind' us.toArray) Q' E' s')
    (less:∀i j,i<us.length->j<us.length->i≠j->∀(s':Shared),(∀b o,s.heap.get? b=some o->s'.heap.get? b=some o)->∀{Q':Bool->Shared->Prop},Q' (lt i j) s'->wpAny (model prog w) A.in1.in1 (keyLt' κ (us.getD i Value.none) (us.getD j Value.none)) Q' (fun _ _=>False) s')
    (fin:∀(D:Addr) (out:List Value) (h':Heap) (tk c:Nat),out.length=us.length->Put us lt out->(∀b o,s.heap.get? b=some o->h'.get? b=some o)->s.heap.objs.size<=D->h'.get? D=some (seqObj "list" out.toArray c)->Q (.ref D) { s with heap:=h',toks:=tk }) :
    wpAny (model prog w) A (call (.builtin "sorted") [.ref l]) Q E s:=by
  refine Calls.call_function_entry kind_sorted plain_sorted entry_sorted (args_sorted1 _) ?_
  show wpAny _ _ (Builtin.«sorted» ⟨[.ref l],[]⟩) _ _ _
  unfold Builtin.«sorted»
  refine wpAny_bind (m:=checkCount "sorted" 1 1 _) (wpAny_pure (wpAny_bind (col _ _ fun h1 tk k1 z1=>wpAny_bind (wpAny_newList ?_ (by rw[sizeLine_eq];omega)))))
  have hd:(h1.push (seqObj "list" us.toArray 0)).get? h1.objs.size=some (seqObj "list" us.toArray 0):=Heap.get?_push_size _ rfl
  show wpAny _ _ _ _ _ { s with heap:=h1.push (seqObj "list" us.toArray 0),toks:=tk }
  have k2:∀b o,s.heap.get? b=some o->(h1.push (seqObj "list" us.toArray 0)).get? b=some o:=fun b o e=>Heap.get?_push_of_some _ (k1 b o e)
  have nb:∀b o,s.heap.get? b=some o->b≠h1.objs.size:=fun b o e=>Nat.ne_of_lt (Heap.lt_size (k1 b o e))
  generalize h1.push (seqObj "list" us.toArray 0)=g at hd k2
  have kp:∀b o,s.heap.get? b=some o->(zbv g h1.objs.size us).get? b=some o:=fun b o e=>zmd (nb b o e) (k2 b o e)
  have kd:2<=us.length->∀(Q':SortKind->Shared->Prop) (E':Value->Shared->Prop),Q' κ { s with heap:=zbv g h1.objs.size us,toks:=tk }->wpAny (model prog w) A.in1.in1 (keyKind' us.toArray) Q' E' { s with heap:=zbv g h1.objs.size us,toks:=tk }:=fun two Q' E' q=>kind two { s with heap:=zbv g h1.objs.size us,toks:=tk } kp q
  have ls:∀i j,i<us.length->j<us.length->i≠j->∀(Q':Bool->Shared->Prop),Q' (lt i j) { s with heap:=zbv g h1.objs.size us,toks:=tk }->wpAny (model prog w) A.in1.in1 (keyLt' κ (us.getD i Value.none) (us.getD j Value.none)) Q' (fun _ _=>False) { s with heap:=zbv g h1.objs.size us,toks:=tk }:=fun i j a b n Q' q=>less i j a b n { s with heap:=zbv g h1.objs.size us,toks:=tk } kp q
  refine wpAny_bind (wpAny_holding (wpAny_call_entry slot_list_sort ⟨_,hd,rfl⟩ entry_list_sort (zn4 (s:={ s with heap:=g,toks:=tk }) T hd small kd ls fun out lo po=>⟨_,rfl,?_⟩) (args_list_sort _)))
  obtain⟨c,hc⟩:=sortedHeap_at (out:=out.toArray) hd
  refine wpAny_pure ⟨_,rfl,fin h1.objs.size out _ tk c lo po (fun b o e=>?_) (Nat.le_of_lt z1) hc⟩
  have e2:=k2 b o e
  rw[sortedHeap_old (nb b o e) (Heap.lt_size e2)]
  exact e2
theorem zpx {l:Addr}{us:List Value}(hl:s.heap.IsList l us.toArray) (hz:us.length<=sizeLine):∀(E':Value->Shared->Prop) (Q':List Value->Shared->Prop),(∀h1 tk,(∀b o,s.heap.get? b=some o->h1.get? b=some o)->s.heap.objs.size<h1.objs.size->Q' us { s with heap:=h1,toks:=tk })->wpAny (model prog w) A (collect (.ref l)) Q' E' s:=fun E' Q' q=>by
  refine collect_list hl (q _ s.toks (fun b o e=>?_) ?_) hz
  · rw[Heap.get?_update_other _ _ (Nat.ne_of_gt (Heap.lt_size e))]
    exact Heap.get?_push_of_some _ e
  · rw[Heap.size_update,size_push']
    exact Nat.lt_succ_self _
end
theorem zrd:∀{rs us:List Nat},rs.Nodup->(∀x∈rs,x∈us)->rs.length<=us.length
  | [],us,_,_=>Nat.zero_le _
  | a::r,us,hn,hs=>by
    rw[List.nodup_cons] at hn
    have ha:=hs a (by simp)
    have:=zrd (rs:=r) (us:=us.erase a) hn.2 fun x hx=>by
      have:x≠a:=fun z=>hn.1 (z▸hx)
      exact (List.mem_erase_of_ne this).mpr (hs x (List.mem_cons_of_mem _ hx))
    rw[List.length_erase_of_mem ha] at this
    have:=List.length_pos_of_mem ha
    rw[List.length_cons]
    omega
abbrev SS:=Str×Str
def ltPP (p q:SS):Bool:=if p.1=q.1 then decide (p.2.cps.toList<q.2.cps.toList) else decide (p.1.cps.toList<q.1.cps.toList)
theorem zsp {a b:Str}(h:a.cps.toList=b.cps.toList):a=b:=by
  obtain⟨x⟩:=a
  obtain⟨y⟩:=b
  have:x=y:=Array.toList_inj.mp h
  rw[this]
theorem zus {a b:Str}(h:a≠b) (n:¬a.cps.toList<b.cps.toList):b.cps.toList<a.cps.toList:=by
  rcases List.le_iff_lt_or_eq.mp (List.not_lt.mp n) with z | z
  · exact z
  · exact absurd (zsp z.symm) h
theorem zia (p:SS):ltPP p p=false:=by
  unfold ltPP
  rw[if_pos rfl]
  exact decide_eq_false (List.lt_irrefl _)
theorem zn6 {a b c:SS}(h1:ltPP a b=true) (h2:ltPP b c=true):ltPP a c=true:=by
  unfold ltPP at *
  by_cases c1:a.1=b.1
  · rw[if_pos c1] at h1
    by_cases c2:b.1=c.1
    · rw[if_pos c2] at h2
      rw[if_pos (c1.trans c2)]
      exact decide_eq_true (List.lt_trans (of_decide_eq_true h1) (of_decide_eq_true h2))
    · rw[if_neg c2] at h2
      rw[if_neg (fun z=>c2 (c1.symm.trans z)),c1]
      exact h2
  · rw[if_neg c1] at h1
    by_cases c2:b.1=c.1
    · rw[if_neg (fun z=>c1 (z.trans c2.symm)),←c2]
      exact h1
    · rw[if_neg c2] at h2
      have h3:=List.lt_trans (of_decide_eq_true h1) (of_decide_eq_true h2)
      rw[if_neg (fun z=>by rw[z] at h3;exact List.lt_irrefl _ h3)]
      exact decide_eq_true h3
theorem zpy {a b:SS}(ne:a≠b) (h:ltPP a b=false):ltPP b a=true:=by
  unfold ltPP at *
  by_cases c1:a.1=b.1
  · rw[if_pos c1] at h
    rw[if_pos c1.symm]
    exact decide_eq_true (zus (fun z=>ne (Prod.ext c1 z)) (of_decide_eq_false h))
  · rw[if_neg c1] at h
    rw[if_neg (Ne.symm c1)]
    exact decide_eq_true (zus c1 (of_decide_eq_false h))
theorem zut {ps:List SS}(nd:ps.Nodup):Tot ps.length fun i j=>ltPP (ps.getD i ("","")) (ps.getD j ("","")):=by
  have e:∀i (h:i<ps.length),ps.getD i ("","")=ps[i]:=fun i h=>by rw[List.getD_eq_getElem?_getD,List.getElem?_eq_getElem h];rfl
  refine⟨fun a _=>zia _,fun a b c _ _ _ h1 h2=>zn6 h1 h2,fun a b ha hb n h=>zpy (fun z=>n ?_) h⟩
  rw[e a ha,e b hb] at z
  have pw:=List.pairwise_iff_getElem.mp nd
  rcases Nat.lt_trichotomy a b with c | c | c
  · exact absurd z (pw a b ha hb c)
  · exact c
  · exact absurd z.symm (pw b a hb ha c)
theorem zpz {us out:List Value}{lt:Nat->Nat->Bool}{α:Type}(xs:List α) (d:α) (h:Put us lt out) (hl:us.length=xs.length):∃ys:List α,ys.Perm xs/\ys.length=out.length/\(∀i:Nat,i<ys.length->∃j,j<xs.length/\out[i]? = us[j]?/\ys[i]? = xs[j]?)/\
    ∀i j (hi:i<ys.length) (hj:j<ys.length),i<j->∃a b,a<xs.length/\b<xs.length/\ys[i]? = xs[a]?/\ys[j]? = xs[b]?/\lt a b=true:=by
  obtain⟨p,G,A,rfl⟩:=h
  rw[hl] at G A
  have pl:p.toList.length=xs.length:=by rw[Array.length_toList,G.sz]
  have pg:∀i (h:i<xs.length),p.toList[i]? = some (p.getD i 0):=fun i h=>by
    have hi:i<p.size:=by rw[G.sz];exact h
    rw[Array.getElem?_toList,Array.getElem?_eq_getElem hi,Array.getD_eq_getD_getElem?,Array.getElem?_eq_getElem hi]
    rfl
  have pr:p.toList.Perm (List.range xs.length):=by
    rw[List.perm_ext_iff_of_nodup ?_ List.nodup_range]
    · intro a
      rw[List.mem_range]
      constructor
      · intro h
        obtain⟨i,hi⟩:=List.mem_iff_getElem?.mp h
        have hl':=(List.getElem?_eq_some_iff.mp hi).1
        rw[pg i (by omega)] at hi
        cases hi
        exact G.lt i (by omega)
      · intro h
        have inj:p.toList.Nodup:=by
          rw[List.nodup_iff_pairwise_ne,List.pairwise_iff_getElem]
          intro i j hi hj hij z
          have e1:=pg i (by omega)
          have e2:=pg j (by omega)
          rw[List.getElem?_eq_getElem hi] at e1
          rw[List.getElem?_eq_getElem hj] at e2
          have:=G.inj i j (by omega) (by omega) ((Option.some.inj e1).symm.trans (z.trans (Option.some.inj e2)))
          omega
        have sub:∀x∈p.toList,x∈List.range xs.length:=fun x hx=>by
          obtain⟨i,hi⟩:=List.mem_iff_getElem?.mp hx
          have hl':=(List.getElem?_eq_some_iff.mp hi).1
          rw[pg i (by omega)] at hi
          cases hi
          exact List.mem_range.mpr (G.lt i (by omega))
        refine Decidable.byContradiction fun n=>?_
        have:(p.toList).length<=((List.range xs.length).erase a).length:=by
          refine zrd inj fun x hx=>?_
          rw[List.Nodup.mem_erase_iff List.nodup_range]
          exact⟨fun z=>n (z▸hx),sub x hx⟩
        rw[List.length_erase_of_mem (List.mem_range.mpr h),List.length_range,pl] at this
        omega
    · rw[List.nodup_iff_pairwise_ne,List.pairwise_iff_getElem]
      intro i j hi hj hij z
      have e1:=pg i (by omega)
      have e2:=pg j (by omega)
      rw[List.getElem?_eq_getElem hi] at e1
      rw[List.getElem?_eq_getElem hj] at e2
      have:=G.inj i j (by omega) (by omega) ((Option.some.inj e1).symm.trans (z.trans (Option.some.inj e2)))
      omega
  have ex:xs=(List.range xs.length).map fun i=>xs.getD i d:=by
    apply List.ext_getElem?
    intro i
    by_cases hi:i<xs.length
    · simp[hi]
    · simp[Nat.le_of_not_lt hi]
  refine⟨p.toList.map fun i=>xs.getD i d,?_,by rw[List.length_map,List.length_map],fun i hi=>?_,fun i j hi hj hij=>?_⟩
  · have:=pr.map fun i=>xs.getD i d
    rw[←ex] at this
    exact this
  · rw[List.length_map] at hi
    have hlt:=G.lt i (by omega)
    refine⟨p.getD i 0,hlt,?_,?_⟩
    · rw[List.getElem?_map,pg i (by omega)]
      show some (us.getD _ _)=_
      rw[List.getD_eq_getElem?_getD,List.getElem?_eq_getElem (show p.getD i 0<us.length by omega)]
      rfl
    · rw[List.getElem?_map,pg i (by omega)]
      show some (xs.getD _ _)=_
      rw[List.getD_eq_getElem?_getD,List.getElem?_eq_getElem hlt]
      rfl
  · rw[List.length_map] at hi hj
    have h1:=G.lt i (by omega)
    have h2:=G.lt j (by omega)
    refine⟨p.getD i 0,p.getD j 0,h1,h2,?_,?_,A i j hij (by omega)⟩
    · rw[List.getElem?_map,pg i (by omega)]
      show some (xs.getD _ _)=_
      rw[List.getD_eq_getElem?_getD,List.getElem?_eq_getElem h1]
      rfl
    · rw[List.getElem?_map,pg j (by omega)]
      show some (xs.getD _ _)=_
      rw[List.getD_eq_getElem?_getD,List.getElem?_eq_getElem h2]
      rfl
section
variable {prog:Program}{w:World}{A:Around}{E:Value->Shared->Prop}{s:Shared}
def TupSS (h:Heap) (v:Value) (p:SS):Prop:=∃a t u,v = .ref a/\IsTup h a #[.str p.1 t,.str p.2 u]
theorem TupSS.kept {h h':Heap}{v:Value}{p:SS}(t:TupSS h v p) (k:∀b o,h.get? b=some o->h'.get? b=some o):TupSS h' v p:=by
  obtain⟨a,x,y,rfl,o,ho,hc,n,hd⟩:=t
  exact⟨a,x,y,rfl,o,k a o ho,hc,n,hd⟩
theorem zsq {v1 v2:Value}{p q:SS}{Q:Bool->Shared->Prop}(h1:TupSS s.heap v1 p) (h2:TupSS s.heap v2 q) (h:Q (ltPP p q) s):wpAny (model prog w) A (keyLt' (tuples' true) v1 v2) Q (fun _ _=>False) s:=by
  obtain⟨a,t1,u1,rfl,oa,hoa,_,na,hda⟩:=h1
  obtain⟨b,t2,u2,rfl,ob,hob,_,nb,hdb⟩:=h2
  refine kat_lt hoa hda hob hdb ?_
  show KatLex prog w A true false Q [(Value.str p.1 t1,Value.str q.1 t2),(Value.str p.2 u1,Value.str q.2 u2)] 0 s
  refine kat_cons (wpAny_eqBool_str ?_)
  unfold ltPP at h
  by_cases c:p.1=q.1
  · rw[decide_eq_true c]
    rw[if_pos c] at h
    refine kat_yes (kat_cons (wpAny_eqBool_str ?_))
    by_cases c2:p.2=q.2
    · rw[decide_eq_true c2]
      refine kat_yes (kat_nil ?_)
      rw[c2,decide_eq_false (List.lt_irrefl _)] at h
      exact h
    · rw[decide_eq_false c2]
      refine kat_no ?_
      show wpAny _ _ (oneLt' false (Value.str p.2 u1) (Value.str q.2 u2)) _ _ _
      exact kat_one _ _ (lt_str h)
  · rw[decide_eq_false c]
    rw[if_neg c] at h
    refine kat_no ?_
    show wpAny _ _ (oneLt' true (Value.str p.1 t1) (Value.str q.1 t2)) _ _ _
    exact oneLt_str h
theorem zsr {vs:List Value}{ps:List SS}{Q:SortKind->Shared->Prop}(h:Paired (TupSS s.heap) vs ps) (hne:0<ps.length) (q:Q (tuples' true) s):wpAny (model prog w) A (keyKind' vs.toArray) Q E s:=by
  obtain⟨fs,kt,hl,hf⟩:∃fs,KatTups s.heap vs fs/\fs.length=ps.length/\∀v∈fs,∃x t,v=Value.str x t:=by
    clear hne
    induction h with
    | nil=>exact⟨[],.nil,rfl,by simp⟩
    | cons h _ ih=>
      obtain⟨fs,k,l,f⟩:=ih
      obtain⟨a,t,u,rfl,o,ho,hc,n,hd⟩:=h
      refine⟨_::fs,.cons ho hc hd rfl k,by simp[l],fun v hv=>?_⟩
      rcases List.mem_cons.mp hv with rfl | hv
      · exact⟨_,_,rfl⟩
      · exact f v hv
  refine kat_kind (T:=.type "str") kt (by omega) (fun v hv=>?_) rfl q
  obtain⟨x,t,rfl⟩:=hf v hv
  exact Looks.now
end
theorem zeh {α β:Type}{F:α->β->Prop}:∀{as:List α}{bs:List β},as.length=bs.length->(∀(i:Nat) a b,as[i]? = some a->bs[i]? = some b->F a b)->Paired F as bs
  | [],[],_,_=>.nil
  | [],_::_,h,_=>by simp at h
  | _::_,[],h,_=>by simp at h
  | a::as,b::bs,h,k=>.cons (k 0 a b rfl rfl) (zeh (by simpa using h) fun i a b e1 e2=>k (i+1) a b (by simpa using e1) (by simpa using e2))
theorem zss {us out:List Value}{lt:Nat->Nat->Bool}{α:Type}(as:List Addr) (xs:List α) (d:α) (hv:Vals (as.map V.ref) us) (h:Put us lt out) (la:as.length=xs.length) :
    ∃(bs:List Addr) (ys:List α),Vals (bs.map V.ref) out/\bs.length=ys.length/\ys.Perm xs/\(∀(i:Nat) b y,bs[i]? = some b->ys[i]? = some y->∃j:Nat,as[j]? = some b/\xs[j]? = some y)/\ys.Pairwise (fun y z=>∃(a b:Nat),xs[a]? = some y/\xs[b]? = some z/\lt a b=true):=by
  have lu:us.length=(as.zip xs).length:=by
    have:=hv.length
    rw[List.length_map] at this
    rw[List.length_zip]
    omega
  obtain⟨zs,pm,lz,at',up⟩:=zpz (as.zip xs) (0,d) h lu
  have sn:(as.zip xs).map Prod.snd=xs:=List.map_snd_zip (by omega)
  refine⟨zs.map Prod.fst,zs.map Prod.snd,?_,by rw[List.length_map,List.length_map],by have:=pm.map Prod.snd;rwa [sn] at this,fun i b y e1 e2=>?_,?_⟩
  · refine zeh (by rw[List.length_map,List.length_map,lz]) fun i x v e1 e2=>?_
    rw[List.getElem?_map,List.getElem?_map] at e1
    cases ez:zs[i]? with
    | none=>rw[ez] at e1;cases e1
    | some z=>
      rw[ez] at e1
      cases e1
      obtain⟨j,hj,o1,o2⟩:=at' i (List.getElem?_eq_some_iff.mp ez).1
      rw[ez] at o2
      rw[e2] at o1
      obtain⟨h1,h2⟩:=List.getElem?_zip_eq_some.mp o2.symm
      obtain⟨v',e3,r⟩:=hv.get (i:=j) (x:=V.ref z.1) (by rw[List.getElem?_map,h1];rfl)
      rw[←o1] at e3
      cases e3
      exact r
  · rw[List.getElem?_map] at e1 e2
    cases ez:zs[i]? with
    | none=>rw[ez] at e1;cases e1
    | some z=>
      rw[ez] at e1 e2
      cases e1
      cases e2
      obtain⟨j,hj,_,o2⟩:=at' i (List.getElem?_eq_some_iff.mp ez).1
      rw[ez] at o2
      exact⟨j,List.getElem?_zip_eq_some.mp o2.symm⟩
  · rw[List.pairwise_iff_getElem]
    intro i j hi hj hij
    rw[List.length_map] at hi hj
    obtain⟨a,b,ha,hb,e1,e2,l⟩:=up i j hi hj hij
    refine⟨a,b,?_,?_,l⟩
    · rw[List.getElem?_eq_getElem hi] at e1
      have:=(List.getElem?_zip_eq_some.mp e1.symm).2
      rw[List.getElem_map]
      exact this
    · rw[List.getElem?_eq_getElem hj] at e2
      have:=(List.getElem?_zip_eq_some.mp e2.symm).2
      rw[List.getElem_map]
      exact this
section
variable {X:Cx}
theorem Inv.tupSS {pins:List (Addr×Obj)}{σ:St}{H:Hp}{s:Shared}{K:PySem.W.Frag}(hK:X.K=K) (I:Inv X pins σ H s) {a:Addr}{p:SS}(t:SqT K H a [.str p.1,.str p.2]):TupSS s.heap (.ref a) p:=by
  subst hK
  obtain⟨ts,rt,it,_⟩:=I.tuple t
  obtain⟨u1,u2,rfl,⟨t1,rfl⟩,⟨t2,rfl⟩⟩:=zo7 rt
  exact⟨a,t1,t2,rfl,it⟩
theorem zjf {K:PySem.W.Frag}(h:X.K=K):zd0 X (.builtin "sorted") (fun xs H Q=>∃(l:Addr) (as:List Addr) (ps:List SS),xs = [V.ref l]/\SqL K H l (as.map V.ref)/\Paired (fun a (p:SS)=>SqT K H a [.str p.1,.str p.2]) as ps/\ps.Nodup/\ps.length<64/\
    ∀(D:Addr) (bs:List Addr) (qs:List SS),H D=none->Paired (fun a (p:SS)=>SqT K H a [.str p.1,.str p.2]) bs qs->qs.Perm ps->qs.Pairwise (fun a b=>ltPP a b=true)->Q (.ref D) (upd H D (.lst (bs.map V.ref)))):=by
  subst h
  intro pins s σ H xs us Q I r h
  obtain⟨l,as,ps,rfl,hl,pr,nd,h64,q⟩:=h
  obtain⟨u,rfl,ru⟩:=zd7 r
  cases ru
  obtain⟨its,rv,pl,hz⟩:=I.list hl
  have len:=rv.length
  rw[List.length_map] at len
  have lp:as.length=ps.length:=Paired.length pr
  have lip:its.length=ps.length:=by omega
  have hT:Paired (TupSS s.heap) its ps:=zeh lip fun i v p e1 e2=>by
    have hi:i<as.length:=by have:=(List.getElem?_eq_some_iff.mp e1).1;omega
    obtain⟨w',e3,r'⟩:=rv.get (i:=i) (x:=V.ref as[i]) (by simp[hi])
    rw[e1] at e3
    cases e3
    cases r'
    exact I.tupSS rfl (zeg pr (List.getElem?_eq_getElem hi) e2)
  have T:=zut nd
  rw[←lip] at T
  have gd:∀i (h:i<ps.length),ps[i]? = some (ps.getD i ("","")):=fun i h=>by rw[List.getD_eq_getElem?_getD,List.getElem?_eq_getElem h];rfl
  have gi:∀i (h:i<its.length),its[i]? = some (its.getD i Value.none):=fun i h=>by rw[List.getD_eq_getElem?_getD,List.getElem?_eq_getElem h];rfl
  refine zn5 (κ:=tuples' true) T (by omega) (zpx pl.isList (by rw[sizeLine_eq];omega)) (fun two s' kp _ _ Q' q'=>zsr (Paired.mapP hT fun v p t=>t.kept kp) (by omega) q') (fun i j hi hj n s' kp Q' q'=>zsq ((zeg hT (gi i hi) (gd i (by omega))).kept kp) ((zeg hT (gi j hj) (gd j (by omega))).kept kp) q') fun D out h' tk c lo po kp hD hg=>?_
  obtain⟨bs,ys,vb,lb,pm,ab,up⟩:=zss as ps ("","") rv po lp
  have hn:H D=none:=I.hok.fresh hD
  refine⟨.ref D,_,I.laid (t':=tk) (h':=h') (a:=D) (o:=.lst (bs.map V.ref)) kp hD ⟨?_,out,c,vb,by rw[hg]⟩,rfl,q D bs ys hn ?_ pm (up.imp fun ⟨a,b,e1,e2,l⟩=>?_)⟩
  · rw[List.length_map,lb,pm.length_eq,sizeLine_eq];omega
  · refine zeh lb fun i b y e1 e2=>?_
    obtain⟨j,h1,h2⟩:=ab i b y e1 e2
    exact zeg pr h1 h2
  · rw[List.getD_eq_getElem?_getD,List.getD_eq_getElem?_getD,e1,e2] at l
    exact l
end
end L2
namespace L2
open PySem PySem.Spec PyProof.Rows
end L2
namespace Dm
open PySem PySem.NumText L2
def ssV (p:SS):List V:=[.str p.1,.str p.2]
theorem zst {p q:SS}(h:ssV p=ssV q):p=q:=by
  unfold ssV at h
  simp only [List.cons.injEq,V.str.injEq,and_true] at h
  exact Prod.ext h.1 h.2
theorem zdq (p:SS):∀v∈ssV p,zcs v=true:=fun v hv=>by
  unfold ssV at hv
  simp at hv
  rcases hv with rfl | rfl<;>rfl
theorem zuu (p q:SS):eqL (ssV p) (ssV q)=decide (ssV p=ssV q):=by
  rw[Bool.eq_iff_iff,decide_eq_true_iff]
  unfold ssV
  constructor
  · intro h
    simp[eqL,eqV] at h
    have h0:=h 0 (by omega)
    have h1:=h 1 (by omega)
    simp at h0 h1
    rw[h0,h1]
  · intro h
    rw[h]
    exact zh2 (zdq q)
abbrev TupsS (H:Hp):List Addr->List SS->Prop:=Paired fun a p=>H a=some (.tup (ssV p))
theorem TupsS.tups {H:Hp}{as:List Addr}{ps:List SS}(t:TupsS H as ps):Tups H as (ps.map ssV):=by
  induction t with
  | nil=>exact .nil
  | cons h _ ih=>exact .cons h ih
theorem TupsS.deq {K:PySem.W.Frag}{H:Hp}{n:Nat}{as:List Addr}{ps:List SS}{q:SS}{b:Addr}(t:TupsS H as ps) (hb:H b=some (.tup (ssV q))):∀z∈as.map V.ref,DEq K H (n+1) z (.ref b) (tupE H (ssV q) z):=by
  intro z hz
  obtain⟨a,ha,rfl⟩:=List.mem_map.mp hz
  obtain⟨vs,hvs,e⟩:=t.tups.get ha
  obtain⟨p,_,rfl⟩:=List.mem_map.mp hvs
  rw[znz e,←zuu]
  exact DEq.flatT (SqT.of e) (SqT.of hb) (zdq p) (zdq q)
theorem TupsS.any {H:Hp}{as:List Addr}{ps:List SS}{q:SS}(t:TupsS H as ps):(as.map V.ref).any (tupE H (ssV q))=decide (q∈ps):=by
  rw[t.tups.anyE,decide_eq_decide,List.mem_map]
  constructor
  · rintro ⟨p,hp,e⟩
    exact zst e▸hp
  · intro h
    exact⟨q,h,rfl⟩
theorem zsu {K:PySem.W.Frag}{H:Hp}{n:Nat}{D E:Addr}{as bs:List Addr}{ps:List SS}(hD:SqL K H D (as.map V.ref)) (hE:SqL K H E (bs.map V.ref)) (ta:Paired (fun a (p:SS)=>SqT K H a [.str p.1,.str p.2]) as ps) (tb:Paired (fun a (p:SS)=>SqT K H a [.str p.1,.str p.2]) bs ps):DEq K H (n+1+1) (.ref D) (.ref E) true:=by
  have l1:=Paired.length ta
  have l2:=Paired.length tb
  refine DEq.allL hD hE (by rw[List.length_map,List.length_map];omega) fun i x y e1 e2=>?_
  obtain⟨a,p,rfl,hp,_,ha⟩:=zld ta e1
  obtain⟨b,q,rfl,hq,_,hb⟩:=zld tb e2
  rw[hp] at hq
  cases hq
  have:=DEq.flatT (n:=n) ha hb (zdq p) (zdq p)
  have e:eqL [V.str p.1,V.str p.2] [V.str p.1,V.str p.2]=true:=zh2 (zdq p)
  rw[e] at this
  exact this
theorem zf7 {c:Nat}:∀{a b p q:List Nat},c ∉ a->c ∉ b->a++c::p=b++c::q->a=b/\p=q
  | [],[],_,_,_,_,e=>⟨rfl,by simpa using e⟩
  | [],y::b,_,_,_,hb,e=>by
    have e1:c=y:=(List.cons.inj e).1
    exact absurd (by rw[e1];exact List.mem_cons_self ..) hb
  | x::a,[],_,_,ha,_,e=>by
    have e1:x=c:=(List.cons.inj e).1
    exact absurd (by rw[←e1];exact List.mem_cons_self ..) ha
  | x::a,y::b,p,q,ha,hb,e=>by
    obtain⟨e1,e2⟩:=List.cons.inj e
    obtain⟨r1,r2⟩:=zf7 (fun z=>ha (List.mem_cons_of_mem _ z)) (fun z=>hb (List.mem_cons_of_mem _ z)) e2
    exact⟨by rw[e1,r1],r2⟩
theorem zre {c:Nat}:∀{l m:List (List Nat)},l≠[]->m≠[]->(∀x∈l,c ∉ x)->(∀x∈m,c ∉ x)->jc [c] l=jc [c] m->l=m
  | [],_,h,_,_,_,_=>absurd rfl h
  | _,[],_,h,_,_,_=>absurd rfl h
  | [x],[y],_,_,_,_,e=>by rw[show x=y from e]
  | [x],y::z::m,_,_,hl,_,e=>by
    have e:x=y++[c]++jc [c] (z::m):=e
    exact absurd (by rw[e];simp) (hl x (List.mem_cons_self ..))
  | x::w::l,[y],_,_,_,hm,e=>by
    have e:x++[c]++jc [c] (w::l)=y:=e
    exact absurd (by rw[←e];simp) (hm y (List.mem_cons_self ..))
  | x::w::l,y::z::m,_,_,hl,hm,e=>by
    have e:x++[c]++jc [c] (w::l)=y++[c]++jc [c] (z::m):=e
    rw[List.append_assoc,List.append_assoc] at e
    obtain⟨e1,e2⟩:=zf7 (hl x (List.mem_cons_self ..)) (hm y (List.mem_cons_self ..)) e
    rw[e1,zre (List.cons_ne_nil _ _) (List.cons_ne_nil _ _) (fun u hu=>hl u (List.mem_cons_of_mem _ hu)) (fun u hu=>hm u (List.mem_cons_of_mem _ hu)) e2]
theorem zc2 {c:Nat}{ls:List (List Nat)}(h0:ls≠[]) (hf:∀x∈ls,c ∉ x):Txt.split (zy (jc [c] ls)) ⟨#[c]⟩=ls.map zy:=by
  have j:=StrLaws.join_split (zy (jc [c] ls)) ⟨#[c]⟩
  have f:=StrLaws.split_free (zy (jc [c] ls)) c
  have p:=PyProof.Rows.split_pos (zy (jc [c] ls)) ⟨#[c]⟩
  generalize Txt.split (zy (jc [c] ls)) ⟨#[c]⟩=ps at j f p
  have hne:ps≠[]:=by
    rintro rfl
    simp at p
  have e:jc [c] (ps.map co)=jc [c] ls:=by
    have:=congrArg co j
    rw[zv] at this
    rw[←this]
    cases ps with
    | nil=>exact absurd rfl hne
    | cons a r=>
      have:=zcn ⟨#[c]⟩ (a::r)
      rw[show Txt.join ⟨#[c]⟩ (a::r)=Str.join ⟨#[c]⟩ (a::r) from StrLaws.glued_eq_join _ _] at this
      exact this.symm
  have e2:=zre (by simpa using hne) h0 (fun x hx=>by
    obtain⟨q,hq,rfl⟩:=List.mem_map.mp hx
    exact f q hq) hf e
  rw[←e2,List.map_map]
  refine (List.map_id' ps).symm.trans (List.map_congr_left fun x _=>?_)
  exact zbp (by rw[Function.comp,zv])
theorem zf8:(Str.ofString " " : Str)=⟨#[32]⟩:=by decide +kernel
theorem zp0:(Str.ofString "\n" : Str)=⟨#[10]⟩:=by decide +kernel
def zn7 (x:Str):List Str:=(Txt.split x " ").filter fun y=>!decide (y = "")
def zn8:List Str->Bool
  | []=>true
  | y::_=>Txt.startswith y ";"
theorem zkg:∀c∈co NAMES,c≠32/\c≠10/\c≠59:=by decide +kernel
theorem zbh {x:Str}(h:zaj x=true):(∀c∈co x,c≠32/\c≠10/\c≠59)/\co x≠[]:=by
  unfold zaj at h
  simp only [Bool.and_eq_true,decide_eq_true_eq] at h
  obtain⟨⟨h1,h2⟩,h3⟩:=h
  refine⟨fun c hc=>zkg c (of_decide_eq_true (List.all_eq_true.mp h3 c hc)),fun z=>?_⟩
  rw[←zas,z] at h1
  exact absurd h1 (by decide)
theorem zf9 (n:Int):(∀c∈co (Str.ofString (toString n)),c≠32/\c≠10/\c≠59)/\co (Str.ofString (toString n))≠[]:=by
  have d:∀m:Nat,∀c∈dg m,c≠32/\c≠10/\c≠59:=fun m c hc=>by
    have:=zf2 m c hc
    omega
  have e:∀m:Nat,dg m≠[]:=fun m z=>by
    have:=zk9 m
    rw[z] at this
    exact absurd this (by decide)
  cases n with
  | ofNat m=>
    have q:co (Str.ofString (toString (Int.ofNat m)))=dg m:=zbm m
    rw[q]
    exact⟨d m,e m⟩
  | negSucc m=>
    have q:co (Str.ofString (toString (Int.negSucc m)))=45::dg (m+1):=zhd m
    rw[q]
    refine⟨fun c hc=>?_,by simp⟩
    rcases List.mem_cons.mp hc with rfl | hc
    · decide
    · exact d _ c hc
theorem zlf {s:List Nat}{c:Nat}:∀{l:List (List Nat)},c∈jc s l->c∈s\/∃x∈l,c∈x
  | [],h=>absurd h (by simp[jc])
  | [x],h=>.inr ⟨x,List.mem_cons_self ..,h⟩
  | x::y::r,h=>by
    have h:c∈x++s++jc s (y::r):=h
    rcases List.mem_append.mp h with h | h
    · rcases List.mem_append.mp h with h | h
      · exact .inr ⟨x,List.mem_cons_self ..,h⟩
      · exact .inl h
    · rcases zlf h with h | ⟨z,hz,h⟩
      · exact .inl h
      · exact .inr ⟨z,List.mem_cons_of_mem _ hz,h⟩
theorem zn9 {α:Type}(xs:List α) (u v:α):atI (xs++[u,v]) (-2)=some u:=by
  have hl:(xs++[u,v]).length=xs.length+2:=by simp
  have e:ixN (xs++[u,v]).length (-2)=some xs.length:=by
    unfold ixN
    rw[hl,if_neg (by decide),if_pos (by omega)]
    congr 1
    omega
  unfold atI
  rw[e]
  simp
theorem zoa {α:Type}(xs:List α) (u v:α):atI (xs++[u,v]) (-1)=some v:=by
  have:=zhv (xs++[u]) v
  rwa [List.append_assoc] at this
theorem zlg (x:Str) (ks:List Str):inV (.str x) (ks.map V.str)=decide (x∈ks):=by
  unfold inV
  induction ks with
  | nil=>rfl
  | cons k r ih=>
    rw[List.map_cons,List.any_cons,ih]
    show ((k == x)||decide (x∈r))=_
    by_cases h:k=x
    · subst h;simp
    · rw[beq_eq_false_iff_ne.mpr h,Bool.false_or]
      exact decide_eq_decide.mpr ⟨fun z=>List.mem_cons_of_mem _ z,fun z=>(List.mem_cons.mp z).resolve_left fun e=>h e.symm⟩
theorem zdr {κ:Type} [DecidableEq κ] {kvs:List (κ×V)}{k:κ}(h:k ∉ kvs.map (·.1)):valV kvs k=none:=by
  unfold valV
  rw[Option.map_eq_none_iff,List.find?_eq_none]
  intro x hx e
  exact h (List.mem_map.mpr ⟨x,hx,by simpa using e⟩)
theorem zet {κ:Type} [DecidableEq κ] {kvs:List (κ×V)}{k:κ}(h:k∈kvs.map (·.1)):(valV kvs k).isSome=true:=by
  rw[←zfk,List.any_eq_true]
  obtain⟨x,hx,e⟩:=List.mem_map.mp h
  exact⟨x,hx,decide_eq_true e⟩
theorem zp1 {k x:Str}{v:V}{r:List (Str×V)}(h:k=x):List.lookup k ((x,v)::r)=some v:=by subst h;simp
theorem zgw {k x:Str}{v:V}{r:List (Str×V)}(h:¬k=x):List.lookup k ((x,v)::r)=List.lookup k r:=by
  rw[List.lookup_cons,beq_eq_false_iff_ne.mpr h]
def dU (us:List Str):List (Key×V):=us.map fun x=>(Sum.inr x,V.bl true)
theorem dU_mem {us:List Str}{x:Str}:(Sum.inr x:Key)∈(dU us).map (·.1)↔x∈us:=by
  unfold dU
  rw[List.map_map]
  constructor
  · intro h
    obtain⟨y,hy,e⟩:=List.mem_map.mp h
    cases e;exact hy
  · intro h
    exact List.mem_map.mpr ⟨x,h,rfl⟩
theorem zsv {us:List Str}{x:Str}(h:x ∉ us):putK (dU us) (Sum.inr x:Key) (.bl true)=dU (us++[x]):=by
  rw[zpd _ (zdr fun z=>h (dU_mem.mp z))]
  unfold dU
  rw[List.map_append];rfl
theorem zco (x:Str):zy (co x)=x:=zbp (by rw[zv])
structure PassLn (y:Str):Prop where
  pass:zn8 (zn7 y)=true
  feed:10 ∉ co y
  len:y.length<=900
instance (y:Str):Decidable (PassLn y):=decidable_of_iff (zn8 (zn7 y)=true/\10 ∉ co y/\y.length<=900) ⟨fun h=>⟨h.1,h.2.1,h.2.2⟩,fun h=>⟨h.pass,h.feed,h.len⟩⟩
theorem zme {ls:List Str}(h0:ls≠[]) (hf:∀l∈ls,10 ∉ co l):Txt.split (Txt.join "\n" ls) "\n" = ls:=by
  have:=zc2 (c:=10) (ls:=ls.map co) (by simpa using h0) (fun x hx=>by
    obtain⟨v,hv,rfl⟩:=List.mem_map.mp hx
    exact hf v hv)
  rw[←zp0,List.map_map] at this
  have e:Txt.join "\n" ls=zy (jc [10] (ls.map co)):=by
    show Txt.join (Str.ofString "\n") ls=_
    rw[zhf,zkd,zv]
  rw[e]
  exact this.trans ((List.map_congr_left fun v _=>zco _).trans (List.map_id ls))
theorem zdi {ls:List Str}(hl:ls.length<=400) (h:∀l∈ls,l.length<=900):(Txt.join "\n" ls).length<=1000000/\(ls.map (·.length)).sum+ls.length * (Str.ofString "\n" : Str).length<=16777216:=by
  have e:Txt.join "\n" ls=zy (jc [10] (ls.map co)):=by
    show Txt.join (Str.ofString "\n") ls=_
    rw[zhf,zkd,zv]
  have h1:=zrb [10] (ls.map co)
  have h2:=zur (l:=ls.map co) (k:=900) fun x hx=>by
    obtain⟨v,hv,rfl⟩:=List.mem_map.mp hx
    rw[zas]
    exact h v hv
  have h3:(ls.map co).map List.length=ls.map (·.length):=by
    rw[List.map_map]
    exact List.map_congr_left fun v _=>zas v
  have e1:(Str.ofString "\n" : Str).length=1:=by decide +kernel
  rw[h3] at h1 h2
  rw[List.length_map] at h1 h2
  have : [10].length=1:=rfl
  rw[this] at h1
  rw[e,zcu,e1]
  omega
theorem zp2 {one at':Int}{k k' size:Nat}(h0:0<=at') (h1:at'<size) (hk:k<37) (hk':k'<37) (h:nmC one at' k size=nmC one at' k' size):k=k':=by
  have hj:at'.toNat<size:=by omega
  have e1:=znx (one:=one) (at':=at') (k:=k) hj
  have e2:=znx (one:=one) (at':=at') (k:=k') hj
  rw[h,e2] at e1
  have e:nmN one at' k' at'.toNat=nmN one at' k at'.toNat:=Option.some.inj e1
  unfold nmN at e
  have q:=znw (ix37 _).2 (ix37 _).2 e
  have a1:=(ix37 (nmI one at' k' at'.toNat)).1
  have a2:=(ix37 (nmI one at' k at'.toNat)).1
  have q2:nmI one at' k' at'.toNat%37=nmI one at' k at'.toNat%37:=by omega
  unfold nmI at q2
  rw[if_pos (Int.toNat_of_nonneg h0),if_pos (Int.toNat_of_nonneg h0)] at q2
  omega
def zib (n:Nat) (one at':Int) (size:Nat):List Str:=(List.range n).map fun k=>zy (nmC one at' k size)
def zga (n:Nat) (one at':Int) (size:Nat):List Str:=(List.range n).map fun k=>zy ((nmC one at' 0 size).take (size-k))
theorem zmf {n:Nat}{one at':Int}{size:Nat}(hn:n<=37) (h0:0<=at') (h1:at'<size) (h2:1<=size) (h3:size<=12):(zib n one at' size).Nodup/\(∀x∈zib n one at' size,zaj x=true)/\(zib n one at' size).length=n:=by
  refine⟨zdg fun i j hi hj e=>zp2 h0 h1 (by omega) (by omega) (zf3 e),fun x hx=>?_,by unfold zib;simp⟩
  obtain⟨k,_,rfl⟩:=List.mem_map.mp hx
  exact zed (by rw[zv,zd2];exact h2) (by rw[zv,zd2];exact h3) fun c hc=>by rw[zv] at hc;exact zny hc
theorem zmg {n:Nat}{one at':Int}{size:Nat}(h2:n<=size) (h3:size<=12):(zga n one at' size).Nodup/\(∀x∈zga n one at' size,zaj x=true)/\(zga n one at' size).length=n:=by
  refine⟨zdg fun i j hi hj e=>?_,fun x hx=>?_,by unfold zga;simp⟩
  · have e:=congrArg List.length (zf3 e)
    rw[List.length_take,List.length_take,zd2] at e
    omega
  · obtain⟨k,hk,rfl⟩:=List.mem_map.mp hx
    have hk:=List.mem_range.mp hk
    refine zed ?_ ?_ fun c hc=>?_
    · rw[zv,List.length_take,zd2];omega
    · rw[zv,List.length_take,zd2];omega
    · rw[zv] at hc
      exact zny (List.mem_of_mem_take hc)
def rowT (i:Int) (names:List Str):Str:=Str.empty++(toString i:String) ++ ": " ++ Txt.join " " names
def zfc (l0:Str) (xs:List Str):Str:=xs.foldl (fun l x=>l ++ " " ++ x) l0
def zp (p:SS):Str:=Str.empty++p.1 ++ " > " ++ p.2
theorem zeu (x:Str):Str.empty++x=x:=zbp (by rw[zag];rfl)
theorem zlh (xs:List Str):∀l0,co (zfc l0 xs)=co l0++(xs.map fun x=>32::co x).flatten:=by
  induction xs with
  | nil=>intro l0;simp[zfc]
  | cons x r ih=>
    intro l0
    show co (zfc (l0++Str.ofString " " ++ x) r)=_
    rw[ih,zag,zag,zlb,zv]
    simp
theorem zkh (x:List Nat):∀r:List (List Nat),jc [32] (x::r)=x++(r.map fun y=>32::y).flatten
  | []=>by simp[jc]
  | y::r=>by
    show x++[32]++jc [32] (y::r)=_
    rw[zkh y r]
    simp
theorem zp3:(Str.ofString ": " : Str)=zy [58,32]:=by decide +kernel
theorem zjg:(Str.ofString ":" : Str)=zy [58]:=by decide +kernel
theorem zev (i:Int) {names:List Str}(h:names≠[]):rowT i names=zfc ((toString i:String)++Str.ofString ":") names:=by
  cases names with
  | nil=>exact absurd rfl h
  | cons x r=>
    apply zbp
    unfold rowT
    show co (Str.empty++Str.ofString (toString i)++Str.ofString ": " ++ Txt.join (Str.ofString " ") (x::r))=_
    rw[zlh,zeu,zag,zag,zcn,zlb,zv,zp3,zv]
    show _=co (Str.ofString (toString i)++Str.ofString ":")++_
    rw[zag,zjg,zv,List.map_cons,zkh,List.map_map]
    simp
    rfl
theorem zgb {xs:List Str}(h:∀x∈xs,x.length<=12):∀l0,(zfc l0 xs).length<=l0.length+13 * xs.length:=by
  induction xs with
  | nil=>intro l0;simp[zfc]
  | cons x r ih=>
    intro l0
    have:=ih (fun y hy=>h y (List.mem_cons_of_mem _ hy)) (l0++Str.ofString " " ++ x)
    have hx:=h x (List.mem_cons_self ..)
    show (zfc (l0++Str.ofString " " ++ x) r).length<=_
    have e:(l0++Str.ofString " " ++ x).length=l0.length+1+x.length:=by
      rw[←zas,zag,zag,List.length_append,List.length_append,zas,zas,zas]
      rw[show (Str.ofString " " : Str).length=1 by decide +kernel]
    rw[e] at this
    rw[List.length_cons]
    omega
theorem zgc:∀i:Nat,i<64->(Str.ofString (toString (i:Int)):Str).length<=2:=by decide +kernel
theorem zgd {p:SS}(h1:p.1.length<=12) (h2:p.2.length<=12):(zp p).length<=30:=by
  unfold zp
  show (Str.empty++p.1++Str.ofString " > " ++ p.2).length<=30
  rw[zeu,←zas,zag,zag,List.length_append,List.length_append,zas,zas,zas]
  have:(Str.ofString " > " : Str).length=3:=by decide +kernel
  omega
end Dm
namespace L2
open PySem PySem.Spec PyProof.Rows
structure UnderV (bm:List Value):Prop where
  v:bm.contains (.type "ValueError")=true
  b:bm.contains (.type "BaseException")=true
  a:bm.contains (.type "AttributeError")=false
  n:bm.contains (.type "NameError")=false
def XObj (h:Heap) (C:Addr) (bm:List Value):Prop:=∃nm q N bs hdct sn sub ab col dd k0 k1 k2 k3 k5,h.get? C=some (excClassObj nm q C N bs bm hdct sn sub ab col dd k0 k1 k2 k3 k5 "ValueError.__new__")
theorem zge {C:Addr}{bm:List Value}{T:String}{b:Bool}(h:bm.contains (.type T)=b):(Value.ref C::bm).contains (.type T)=b:=by
  rw[List.contains_cons,h];rfl
section
variable {prog:Program}{w:World}{A:Around}{h:Heap}{g:Array GenState}{d:Drawn}{t:Nat}{os:OsState}{C:Addr}{bm:List Value}
theorem zsw {R:Result->Shared->Prop}(U:UnderV bm) (x:XObj h C bm) {us:List Value}(hz:us.length<=sizeLine)
    (k:R (.ok (.ret (.ref (h.objs.size+1)))) { heap:=(h.push { cls:=.type "tuple",data:=.seq us.toArray }).push { cls:=.ref C,data:=.fields #[.ref h.objs.size,.none,.none,.none,.bool false,.none] },gens:=g,drawn:=d,toks:=t,os:=os }) :
    codeAny (model prog w) A (.builtin "ValueError.__new__" ⟨.ref C::us,[]⟩) R { heap:=h,gens:=g,drawn:=d,toks:=t,os:=os }:=by
  obtain⟨a1,a2,a3,a4,a5,a6,a7,a8,a9,b1,b2,b3,b4,b5,b6,e⟩:=x
  have F:=PySem.F.excBase_ValueError
  have f1:=F.ends
  have c1:=zge (C:=C) U.v
  have c2:=zge (C:=C) U.a
  have c3:=zge (C:=C) U.n
  refine codeAny_builtinAt F.entry ?_
  unfold Builtin.«BaseException.__new__»
  refine PySem.wpAt_bind (show PySem.wpAt (model prog w) _ _ (stack >>= _) _ _ _ from PySem.wpAt_bind (PySem.wpAt_stack fun p below=>PySem.wpAt_of_wpAny ?_))
  wp_walk
  refine PySem.wpAt_of_wpAny ?_
  rw[F.owner]
  repeat (first
    | with_reducible refine wpAny_madeHere_exc F.canon e ?_
    | with_reducible refine wpAny_loadPart_at e ?_
    | (with_reducible refine wpAny_isSubtype_exc e ?_
       first | rw[c1] | rw[c2] | rw[c3])
    | wp_step)
  show R _ _
  rw[Heap.size_push]
  exact k
theorem zob {M:Model}{E:Value->Shared->Prop}(U:UnderV bm) (x:XObj h C bm) {us:List Value}{Q:Unit->Shared->Prop}(k:Q () { heap:=h,gens:=g,drawn:=d,toks:=t,os:=os }) :
    wpAny M A (checkBuiltinCall "ValueError.__new__" ⟨.ref C::us,[]⟩) Q E { heap:=h,gens:=g,drawn:=d,toks:=t,os:=os }:=by
  obtain⟨a1,a2,a3,a4,a5,a6,a7,a8,a9,b1,b2,b3,b4,b5,b6,e⟩:=x
  exact wpAny_check_new_subU PySem.F.excBase_ValueError U.v .base e k
theorem zoc {E:Value->Shared->Prop}{vI:Value}{us:List Value}{Q:Fin->Shared->Prop}(U:UnderV bm) (x:XObj h C bm) (hz:us.length<=sizeLine)
    (lk:PySem.W.Looks (model prog w) h (typeLookup (.ref C) "__init__") (some (vI))) (bd:∀self,PySem.W.Looks (model prog w) h (bindSpecial (vI) self) (vI,[self]))
    (k:∀h' e,h.objs.size<=e->Heap.MadeExcOf h h' e (.ref C) us->wpAny (model prog w) A (call (vI) (.ref e::us)) (fun r s'=>r = .none/\Q (.done (.ret (.ref e))) s') E { heap:=h',gens:=g,drawn:=d,toks:=t,os:=os }) :
    wpAny (model prog w) A (Builtin.«type.__call__» ⟨.ref C::us,[]⟩) Q E { heap:=h,gens:=g,drawn:=d,toks:=t,os:=os }:=by
  have x':=x
  obtain⟨a1,a2,a3,a4,a5,a6,a7,a8,a9,b1,b2,b3,b4,b5,b6,e⟩:=x'
  have F:=PySem.F.excBase_ValueError
  repeat (first | with_reducible refine wpAny_loadPart_at e ?_ | with_reducible refine wpAny_madeBy_exc e ?_ | wp_step)
  refine codeAny_call_builtin_code (Code.quiet_builtin _ F.quiet) (zob U x ?_)
  refine zsw U x hz ?_
  show wpAny (model prog w) _ _ _ _ _
  have kp:∀b o,h.get? b=some o->((h.push { cls:=.type "tuple",data:=.seq us.toArray }).push { cls:=.ref C,data:=.fields #[.ref h.objs.size,.none,.none,.none,.bool false,.none] }).get? b=some o:=
    fun b o q=>Heap.get?_push_of_some _ (Heap.get?_push_of_some _ q)
  have hget:((h.push { cls:=.type "tuple",data:=.seq us.toArray }).push { cls:=.ref C,data:=.fields #[.ref h.objs.size,.none,.none,.none,.bool false,.none] }).get? (h.objs.size+1) =
      some { cls:=.ref C,data:=.fields #[.ref h.objs.size,.none,.none,.none,.bool false,.none] }:=by heap_get
  have ht:((h.push { cls:=.type "tuple",data:=.seq us.toArray }).push { cls:=.ref C,data:=.fields #[.ref h.objs.size,.none,.none,.none,.bool false,.none] }).get? h.objs.size =
      some { cls:=.type "tuple",data:=.seq us.toArray }:=Heap.get?_push_of_some _ (Heap.get?_push_at rfl rfl)
  have made:Heap.MadeExcOf h ((h.push { cls:=.type "tuple",data:=.seq us.toArray }).push { cls:=.ref C,data:=.fields #[.ref h.objs.size,.none,.none,.none,.bool false,.none] }) (h.objs.size+1) (.ref C) us:=
    ⟨kp,Heap.get?_none_of_le (Nat.le_succ _),h.objs.size,hget,Heap.get?_none_of_le (Nat.le_refl _),ht⟩
  have go:=k _ _ (Nat.le_succ _) made
  have e1:=kp _ _ e
  have lk1:=lk.keeps kp
  have bd1:=fun self=>(bd self).keeps kp
  generalize (h.push { cls:=.type "tuple",data:=.seq us.toArray }).push { cls:=.ref C,data:=.fields #[.ref h.objs.size,.none,.none,.none,.bool false,.none] } = h1 at hget go e1 lk1 bd1
  have cC:(Value.ref C::bm).contains (.ref C)=true:=by simp
  unfold isInstance
  repeat (first | with_reducible refine wpAny_loadPart_at hget ?_ | (with_reducible refine wpAny_isSubtype_exc e1 ?_;rw[cC]) | wp_step)
  show wpAny (model prog w) _ (typeLookup (.ref C) _) _ _ _
  refine lk1.at (wpAny_holding (wpAny_bind ((bd1 _).at ?_)))
  refine wpAny_bind (wpAny_mono go (fun r s' hr=>?_) fun _ _ z=>z)
  obtain⟨rfl,q⟩:=hr
  wp_walk
  exact q
theorem zli {E:Value->Shared->Prop}{vI:Value}{us:List Value}{Q:Value->Shared->Prop}(U:UnderV bm) (x:XObj h C bm) (hz:us.length<=sizeLine)
    (lk:PySem.W.Looks (model prog w) h (typeLookup (.ref C) "__init__") (some (vI))) (bd:∀self,PySem.W.Looks (model prog w) h (bindSpecial (vI) self) (vI,[self]))
    (k:∀h' e,h.objs.size<=e->Heap.MadeExcOf h h' e (.ref C) us->wpAny (model prog w) (A.under (.builtin "type.__call__" ⟨.ref C::us,[]⟩)) (call (vI) (.ref e::us)) (fun r s'=>r = .none/\Q (.ref e) s') E { heap:=h',gens:=g,drawn:=d,toks:=t,os:=os }) :
    wpAny (model prog w) A (call (.ref C) us) Q E { heap:=h,gens:=g,drawn:=d,toks:=t,os:=os }:=by
  have x':=x
  obtain⟨a1,a2,a3,a4,a5,a6,a7,a8,a9,b1,b2,b3,b4,b5,b6,e⟩:=x'
  have f1:=tc_lookup
  have f2:=tc_bind (.ref C)
  have hT:({ heap:=h,gens:=g,drawn:=d,toks:=t,os:=os }:Shared).TypeIs (.ref C) "type":=⟨_,e,rfl⟩
  refine wpAny_call (codeAny_of_tree (show wpAny (model prog w) _ (callAny (.ref C) _) _ _ _ from ?_))
  repeat (any_goals (first | assumption | with_reducible refine wpAny_loadPart_at e ?_ | wp_step))
  refine⟨rfl,codeAny_call_builtin_at (Code.quiet_builtin _ (by decide +kernel)) entry_typeCall (wpAny_check_type_call_sub e (zoc U x hz lk bd fun h' e' hs hm=>?_))⟩
  exact k h' e' hs hm
end
section
variable {prog:Program}{w:World}{A:Around}{E:Value->Shared->Prop}{s:Shared}{env:Env}{bm:List Value}
theorem zmh {y:Sem Value}{Q:Flow->Shared->Prop}(U:UnderV bm) (hh:A.handled=none)
    (k:wpAny (model prog w) A y (fun v s1=>∃e C oe vs,v = .ref e/\XObj s1.heap C bm/\s1.heap.get? e=some oe/\oe.cls = .ref C/\oe.data = .fields vs/\vs[1]? = some .none/\E (.ref e) s1) E s) :
    wpAny (model prog w) A (raiseStmt env (some y) none) Q E s:=by
  unfold raiseStmt
  refine wpAny_bind (wpAny_mono k (fun v s1 k1=>?_) fun _ _ z=>z)
  obtain⟨e,C,oe,vs,rfl,⟨a1,a2,a3,a4,a5,a6,a7,a8,a9,b1,b2,b3,b4,b5,b6,o⟩,he,hc,hd,h1,hE⟩:=k1
  have cB:=zge (C:=C) U.b
  obtain⟨hp,g,d,tk,os⟩:=s1
  repeat (first
    | (with_reducible refine wpAny_loadPart_at he ?_;rw[hc])
    | with_reducible refine wpAny_loadPart_at o ?_
    | (with_reducible refine wpAny_isSubtype_exc o ?_;rw[cB])
    | wp_step)
  rw[hd]
  refine wpAny_pure ?_
  rw[h1]
  refine wpAny_pure ?_
  rw[if_neg (by decide)]
  exact wpAny_pure (wpAny_raiseNew_none hh hE)
theorem zmi {x:Str}{C:Addr}{vI:Value}{np cpos pos:Pos}{a:PySem.Expr}{as:List PySem.Expr}{Q:Flow->Shared->Prop}(U:UnderV bm) (hh:A.handled=none)
    (hst:starEach (a::as) env=(false,eval a env)::starEach as env) (hpl:(backTo cpos (starEach as env)).any (·.1)=false)
    (k:wpAny (model prog w) A (eval (.Name x np) env) (fun f s1=>f = .ref C/\wpAny (model prog w) A (spliced (backTo cpos (starEach (a::as) env)))
      (fun us s2=>us.length<=sizeLine/\XObj s2.heap C bm/\PySem.W.Looks (model prog w) s2.heap (typeLookup (.ref C) "__init__") (some (vI))/\(∀self,PySem.W.Looks (model prog w) s2.heap (bindSpecial (vI) self) (vI,[self]))/\
        ∀h' e,s2.heap.objs.size<=e->Heap.MadeExcOf s2.heap h' e (.ref C) us->wpAny (model prog w) (A.under (.builtin "type.__call__" ⟨.ref C::us,[]⟩)) (call (vI) (.ref e::us))
          (fun r s3=>r = .none/\∃oe vs,XObj s3.heap C bm/\s3.heap.get? e=some oe/\oe.cls = .ref C/\oe.data = .fields vs/\vs[1]? = some .none/\E (.ref e) s3) E { s2 with heap:=h' }) E s1) E s) :
    wpAny (model prog w) A (exec (.Raise (some (.Call (.Name x np) (a::as) [] cpos)) none pos) env) Q E s:=by
  rw[arm_exec_Raise]
  simp only [evalOpt,Option.map]
  refine wpAny_bind (wpAny_standAt (zmh U hh (wpAny_bind (wpAny_mono (wpAny_Call_ofName (wpAny_mono k (fun f s1 k1=>?_) fun _ _ z=>z)) (fun v s3 k3=>wpAny_bind (wpAny_standAt (wpAny_pure k3))) fun _ _ z=>z))))
  obtain⟨rfl,k1⟩:=k1
  unfold callWith
  have any:(backTo cpos (starEach (a::as) env)).any (·.1)=false:=by
    rw[hst]
    show (false||(backTo cpos (starEach as env)).any (·.1))=false
    rw[hpl];rfl
  rw[hst] at k1 ⊢
  refine wpAny_bind (wpAny_holding (Calls.evalArgs_plain (wpAny_mono k1 (fun us s2 k2=>wpAny_bind (wpAny_standAt ?_)) fun _ _ z=>z)))
  obtain⟨hz,xo,lk,bd,go⟩:=k2
  obtain⟨hp,g,d,tk,os⟩:=s2
  rw[hst] at any
  simp only [any]
  have xo':=xo
  obtain⟨a1,a2,a3,a4,a5,a6,a7,a8,a9,b1,b2,b3,b4,b5,b6,o⟩:=xo'
  refine wpAny_bind (wpAny_keeperOf_exc o ?_)
  refine wpAny_bind (zli U xo hz lk bd fun h' e hs hm=>wpAny_mono (go h' e hs hm) (fun r s3 q=>?_) fun _ _ z=>z)
  obtain⟨r0,oe,vs,q⟩:=q
  exact⟨r0,wpAny_bind (wpAny_holding (wpAny_point (wpAny_pure ⟨e,C,oe,vs,rfl,q⟩)))⟩
end
theorem zhi {o:Obj}{vs:Array Value}(h:o.data = .fields vs) (f:Array Value->Array Value):Obj.mapFields f o = { o with data:=.fields (f vs) }:=by
  obtain⟨c,d,dt,sl⟩:=o
  cases h
  rfl
structure Gone (fs:List Addr) (e T:Addr) (xs:List Addr) (oe:Obj) (vs:Array Value) (h h':Heap):Prop where
  keep:∀b o,b≠e->b ∉ fs->b ∉ xs->h.get? b=some o->h'.get? b=some o
  slot:∀b o,b∈fs->h.get? b=some o->∃sl,h'.get? b=some { o with slots:=sl }
  new:h.get? T=none
  exc:h'.get? e=some { oe with data:=.fields (vs.setIfInBounds 1 (.ref T)) }
  ent:∃oT ts,h'.get? T=some oT/\oT.data = .fields ts/\ts[3]? = some .none
  old:∀b∈xs,∃o,h'.get? b=some o
section
variable {M:Model}{A:Around}{E:Value->Shared->Prop}{s:Shared}
theorem entry_new {base:Heap}{env:Env}{outer:List Env}{L e:Addr}{oe:Obj}{vs:Array Value}{head:Value}{nx:Bool}{Q:Unit->Shared->Prop}
    (hfr:A.frames=some (env::outer)) (hl:s.heap.FunFrames base (env::outer)) (hf:env.frame=some L) (he:s.heap.get? e=some oe) (hd:oe.data = .fields vs) (hz:1<vs.size)
    (k:∀h',Gone (frs (env::outer)) e s.heap.objs.size [] oe vs s.heap h'->Q () { s with heap:=h' }) :
    wpAny M A (do let a ←frameOf env;let pl ←entryPlaceOf L nx;let b ←EntryCells.newEntry head a .none (rawInt L) .none pl;setField (.ref e) 1 b) (fun _ s'=>wpAny M A (setFlight (.ref e) none) Q E s') E s:=by
  have nf:∀b∈frs (env::outer),∃o,s.heap.get? b=some o/\∀us,o.data≠.fields us:=fun b hb=>(hl.mem hb).2
  have ne:e ∉ frs (env::outer):=fun hm=>by
    obtain⟨o,ho,hn⟩:=nf e hm
    rw[he] at ho
    cases ho
    exact hn vs hd
  refine wpAny_bind (wpAny_frameOf_fun hfr hl hf fun h1 s1=>?_)
  obtain⟨z1,k1,u1⟩:=s1
  refine wpAny_bind (wpAny_entryPlaceOf fun pl hpl=>?_)
  unfold EntryCells.newEntry newFields
  refine wpAny_bind (wpAny_newObj_type ?_ (hpl.sizeOk5 _ _ _ _ _))
  have e1:h1.get? e=some oe:=(k1 e ne).trans he
  generalize hN:({ cls:=.type "traceback",dict:=none,data:=.fields ([head,.ref L,.none,rawInt L,.none]++(if pl.isEmpty then List.replicate 6 Value.none else pl)).toArray }:Obj)=N
  have dN:N.data = .fields ([head,.ref L,.none,rawInt L,.none]++(if pl.isEmpty then List.replicate 6 Value.none else pl)).toArray:=by rw[←hN]
  generalize hts:([head,.ref L,.none,rawInt L,.none]++(if pl.isEmpty then List.replicate 6 Value.none else pl)).toArray=ts at dN
  have zt:3<ts.size:=by rw[←hts];simp
  have fN:N.isFreed=false:=Obj.isFreed_of_fields dN
  have e2:=Heap.get?_push_of_some (h:=h1) N e1
  refine wpAny_setField e2 hd hz ?_
  have Te:h1.objs.size≠e:=Nat.ne_of_gt (Heap.lt_size e1)
  have e3:=Heap.get?_update_self (Obj.mapFields (·.setIfInBounds 1 (Value.ref h1.objs.size))) e2 (Obj.isFreed_of_fields (Obj.data_mapFields hd _))
  rw[zhi hd] at e3
  have t3:=(Heap.get?_update_other (h1.push N) (Obj.mapFields (·.setIfInBounds 1 (Value.ref h1.objs.size))) (Ne.symm Te)).trans (Heap.get?_push_size h1 fN)
  unfold setFlight
  refine wpAny_bind (wpAny_field e3 rfl (x:=.ref h1.objs.size) (by simp[hz]) ?_)
  rw[if_pos (show (Value.ref h1.objs.size != Value.none)=true from by simp)]
  refine wpAny_setField t3 dN zt (k _ ?_)
  have t4:=Heap.get?_update_self (Obj.mapFields (·.setIfInBounds 3 ((none:Option Addr).elim Value.none fun f=>rawInt f))) t3 (Obj.isFreed_of_fields (Obj.data_mapFields dN _))
  have oth:∀b o,b≠e->h1.get? b=some o->(((h1.push N).update e (Obj.mapFields (·.setIfInBounds 1 (Value.ref h1.objs.size)))).update h1.objs.size (Obj.mapFields (·.setIfInBounds 3 ((none:Option Addr).elim Value.none fun f=>rawInt f)))).get? b=some o:=fun b o hb q=>by
    rw[Heap.get?_update_other _ _ (Nat.ne_of_gt (Heap.lt_size q)),Heap.get?_update_other _ _ (Ne.symm hb)]
    exact Heap.get?_push_of_some _ q
  refine⟨fun b o hb hn _ q=>oth b o hb ((k1 b hn).trans q),fun b o hb q=>?_,Heap.get?_none_of_le (Nat.le_refl _),?_,?_,fun b hb=>absurd hb (by simp)⟩
  · obtain⟨sl,q1⟩:=u1 b o q
    exact⟨sl,oth b _ (fun z=>ne (z▸hb)) q1⟩
  · rw[Heap.get?_update_other _ _ Te,e3,z1]
  · rw[←z1]
    exact⟨_,_,t4,Obj.data_mapFields dN _,by simp[zt]⟩
theorem zki {base:Heap}{env:Env}{outer:List Env}{L e:Addr}{oe:Obj}{vs:Array Value}{Q:Unit->Shared->Prop}
    (hfr:A.frames=some (env::outer)) (hl:s.heap.FunFrames base (env::outer)) (hf:env.frame=some L) (he:s.heap.get? e=some oe) (hd:oe.data = .fields vs) (h1:vs[1]? = some .none)
    (k:∀h',Gone (frs (env::outer)) e s.heap.objs.size [] oe vs s.heap h'->Q () { s with heap:=h' }):wpAny M A (leaving env (.ref e)) Q E s:=by
  unfold leaving noteFrame
  simp only [hf]
  refine wpAny_bind (wpAny_bind (wpAny_field he hd h1 ?_))
  rw[if_neg (by decide)]
  exact entry_new hfr hl hf he hd (Array.getElem?_eq_some_iff.mp h1).1 k
end
def Fly (H:Hp) (h0 h:Heap) (e:Addr) (cls:Value) (dc:Option Addr):Prop:=
  ∃(oe:Obj) (vs:Array Value) (T:Addr) (oT:Obj) (ts:Array Value),h.get? e=some oe/\oe.cls=cls/\oe.dict=dc/\oe.data = .fields vs/\vs[1]? = some (.ref T)/\T≠e/\h.get? T=some oT/\oT.data = .fields ts/\ts[3]? = some .none/\
    H e=none/\H T=none/\h0.objs.size<=e/\h0.objs.size<=T
def zvx (H:Hp) (h0 h:Heap) (e:Addr) (cls:Value) (dc:Option Addr):Prop:=
  ∃(oe:Obj) (vs:Array Value),h.get? e=some oe/\oe.cls=cls/\oe.dict=dc/\oe.data = .fields vs/\vs[1]? = some .none/\H e=none/\h0.objs.size<=e
def CX1 (P:Program) (w:World):CXT:=fun outer H s E u s'=>∃(e:Addr) (cls:Value) (dc:Option Addr) (H':Hp),u = .ref e/\s'.os=s.os/\AllBare s'.gens/\Un (frs outer) [] H H' s.heap s'.heap/\HOk P w H' s'.heap/\
  Fly H' s.heap s'.heap e cls dc/\E cls dc H'
def XeIs (X:Cx) (E:XK):Prop:=X.xe=(fun u s'=>wpAny (model X.prog X.w) X.A (leaving X.env u) (fun _ s''=>CX1 X.prog X.w X.outer X.H₀ X.s₀ E u s'') (fun u' s''=>CX1 X.prog X.w X.outer X.H₀ X.s₀ E u' s'') s')/\
  X.stack=X.env::X.outer/\X.env.frame=some X.env.locals/\X.ex = []
theorem xeIs_of {P:Program}{w:World}{K:PySem.W.Frag}{mg:Str->Option Value}{base:Heap}{N:List Str}{qual:Str}{scope:Scope}{f:Addr}{cd:Value}{A:Around}{outer:List Env}{s:Shared}{H:Hp}{E:XK} :
    XeIs (cxOf (CX1 P w) P w K mg base N qual scope f cd A outer s H E) E:=⟨rfl,rfl,rfl,rfl⟩
section
variable {X:Cx}{pins:List (Addr×Obj)}{σ:St}{H:Hp}{s:Shared}{E:XK}{e:Addr}{cls:Value}{dc:Option Addr}
theorem zsx {h':Heap}{T:Addr}{xs:List Addr}{oe:Obj}{vs:Array Value}(I:Inv X pins σ H s) (x:XeIs X E) (G:Gone (frs (X.env::X.outer)) e T xs oe vs s.heap h') (hc:oe.cls=cls) (hdc:oe.dict=dc) (hz:1<vs.size)
    (He:H e=none) (nz:X.s₀.heap.objs.size<=e) (hxz:∀b∈xs,H b=none/\X.s₀.heap.objs.size<=b) (hTe:T≠e) (hsz:s.heap.objs.size<=T) (hE:E cls dc H) :
    CX1 X.prog X.w X.outer X.H₀ X.s₀ E (.ref e) { s with heap:=h' }:=by
  obtain⟨x1,x2,x3,x4⟩:=x
  have ne:X.s₀.heap.get? e=none:=Heap.get?_none_of_le nz
  have hx:∀b∈xs,H b=none/\X.s₀.heap.get? b=none:=fun b hb=>⟨(hxz b hb).1,Heap.get?_none_of_le (hxz b hb).2⟩
  have nL:∀b o,X.s₀.heap.get? b=some o->b≠X.env.locals:=fun b o q z=>absurd (Heap.lt_size q) (Nat.not_lt.mpr (z▸I.ok.above))
  have fr:∀b,b∈frs (X.env::X.outer)->b=X.env.locals\/b∈frs X.outer:=fun b hb=>by
    unfold frs at hb
    rw[List.filterMap_cons,x3] at hb
    exact List.mem_cons.mp hb
  have fr2:∀b,b∈frs X.outer->b∈frs (X.env::X.outer):=fun b hb=>by
    unfold frs
    rw[List.filterMap_cons,x3]
    exact List.mem_cons_of_mem _ hb
  have notx:∀b o,X.s₀.heap.get? b=some o->b≠e/\b ∉ xs:=fun b o q=>⟨fun z=>(by rw[z,ne] at q;cases q),fun z=>(by rw[(hx b z).2] at q;cases q)⟩
  have HT:H T=none:=I.hok.fresh hsz
  have sf:∀b∈frs (X.env::X.outer),H b=none:=by
    have:=I.stkFree
    rw[x2] at this
    exact this
  refine⟨e,cls,dc,H,rfl,I.os,I.bare,?_,?_,?_,hE⟩
  · refine⟨fun b o q n nf _=>?_,fun b o q n nf _=>?_,fun b o q n _=>I.base.free b o q n (by rw[x4];simp),fun b o q _=>?_,I.base.tups,I.base.frzs,I.base.tbls⟩
    · exact G.keep b o (notx b o q).1 (fun z=>(fr b z).elim (nL b o q) nf) (notx b o q).2 (I.base.keep b o q n nf (by rw[x4];simp))
    · obtain⟨sl,z⟩:=I.base.slot b o q n nf (by rw[x4];simp)
      obtain⟨sl',z'⟩:=G.slot b _ (fr2 b nf) z
      exact⟨sl',z'⟩
    · obtain⟨o',z⟩:=I.base.there b o q (by rw[x4];simp)
      by_cases hb:b∈frs (X.env::X.outer)
      · obtain⟨sl,z'⟩:=G.slot b _ hb z
        exact⟨_,z'⟩
      · exact⟨_,G.keep b _ (notx b o q).1 hb (notx b o q).2 z⟩
  · intro a o q
    refine (I.hok a o q).stay (fun b u hb z=>?_) (fun _ z=>z) fun _ _ z=>z
    have Hb:H b≠none:=by
      rcases hb with z | z
      · rw[z,q];simp
      · rw[z];simp
    exact G.keep b u (fun z=>Hb (z▸He)) (fun z=>Hb (sf b z)) (fun z=>Hb (hx b z).1) z
  · obtain⟨oT,ts,t1,t2,t3⟩:=G.ent
    refine⟨_,_,T,oT,ts,G.exc,hc,hdc,rfl,by simp[hz],hTe,t1,t2,t3,He,HT,nz,Nat.le_trans I.sz hsz⟩
theorem zp4 (I:Inv X pins σ H s) (x:XeIs X E) (r:zvx H X.s₀.heap s.heap e cls dc) (hE:E cls dc H):X.xe (.ref e) s:=by
  obtain⟨oe,vs,he,hc,hdc,hd,h1,He,ne⟩:=r
  have x':=x
  obtain⟨x1,x2,x3,x4⟩:=x'
  rw[x1]
  have fr:=I.ok.frames
  have st:=I.stack
  rw[x2] at fr st
  exact zki fr st x3 he hd h1 fun h' G=>zsx I x G hc hdc (Array.getElem?_eq_some_iff.mp h1).1 He ne (fun b hb=>absurd hb (by simp)) (Nat.ne_of_gt (Heap.lt_size he)) (Nat.le_refl _) hE
theorem XeIs.own (x:XeIs X E):PassesOwn (model X.prog X.w) X.A X.env X.xe:=by
  rw[x.1]
  exact PassesOwn.leaving
end
def HasX (P:Program) (w:World) (K:PySem.W.Frag) (mg:Str->Option Value) (base:Heap) (x:Str) (ps:List Str) (k:Nat) (sp:Sp):Prop:=
  ∃(f:Addr) (fd:FuncData),mg x=some (.ref f)/\PySem.W.keepIn K (.ref f)=true/\(∃oc od osl,K.lookup f=some ⟨oc,od,.func fd,osl⟩)/\(∀us:List Value,us.length=ps.length->bindArgs fd ⟨us,[]⟩=pure (ps.zip us))/\FnOk P w K mg base (CX1 P w) k f fd ps sp
section
variable {P:Program}{w:World}{K:PySem.W.Frag}{mg:Str->Option Value}{base:Heap}
theorem Df.hasX {x:Str}{st:Stmt}{N ps:List Str}{k:Nat}{sp:Sp}(D:Df K mg x st ps) (S:FnScope N ps (zr st)) (len:∀vs H Q E,sp vs H Q E->vs.length=ps.length)
    (body:∀(f:Addr) (cdv:Value) (A:Around) (outer:List Env) (s:Shared) (H:Hp) (vs:List V) (Q:VK) (E:XK),Room k (A.deeper (envOfC x (zr st) s.heap.objs.size f cdv))->sp vs H Q E->
      ∃t,PSs (cxOf (CX1 P w) P w K mg base N x (zr st) f cdv A outer s H E) (zb7 st) t/\t { nx:=fun _ H'=>Q .non H',rt:=Q } (start N vs) H):HasX P w K mg base x ps (k+1) sp:=by
  obtain⟨f,fd,F,a,b⟩:=D
  obtain⟨oc,od,kV,doc,pm,an,cdv,ct,osl,e,lk,hcd⟩:=id F.ex
  subst e
  exact⟨f,_,a,F.kp,⟨oc,od,osl,lk⟩,b,zt8 lk hcd S len (body f cdv)⟩
theorem HasX.good {x:Str}{ps:List Str}{k:Nat}{sp sp':Sp}(F:HasX P w K mg base x ps k sp) (h:∀vs H Q E,sp' vs H Q E->sp vs H Q (fun _ _ _=>False)):Has P w K mg base x ps k sp':=by
  obtain⟨f,fd,a,kp,lk,b,G⟩:=F
  refine⟨f,fd,a,kp,lk,b,fun vs H Q E q=>G.len _ _ _ _ (h _ _ _ _ q),fun A outer s H args us vs Q E hr he hb hv hs=>?_⟩
  refine codeAny_mono (G.run A outer s H args us vs Q _ hr he hb hv (h _ _ _ _ hs)) fun r s' hq=>?_
  cases r with
  | ok fl=>
    cases fl with
    | ret u=>exact hq
    | next=>exact False.elim hq
    | brk=>exact False.elim hq
    | cont=>exact False.elim hq
  | error e=>
    obtain⟨_,_,_,_,_,_,_,_,_,_,z⟩:=hq
    exact z.elim
end
section
variable {prog:Program}{w:World}{A:Around}{E:Value->Shared->Prop}{h:Heap}{g:Array GenState}{d:Drawn}{t:Nat}{os:OsState}{C:Addr}{bm:List Value}
theorem zmj {M:Model}{Q:Unit->Shared->Prop}{e:Addr}{oe:Obj}{us:List Value}(U:UnderV bm) (x:XObj h C bm) (he:h.get? e=some oe) (hc:oe.cls = .ref C) (k:Q () { heap:=h,gens:=g,drawn:=d,toks:=t,os:=os }) :
    wpAny M A (checkBuiltinCall "ValueError.__init__" ⟨.ref e::us,[]⟩) Q E { heap:=h,gens:=g,drawn:=d,toks:=t,os:=os }:=by
  obtain⟨a1,a2,a3,a4,a5,a6,a7,a8,a9,b1,b2,b3,b4,b5,b6,o⟩:=x
  have F:=PySem.F.excBase_ValueError
  have c1:=zge (C:=C) U.v
  have hs:=F.noStar
  simp only [checkBuiltinCall,F.initKind,F.initSplit,F.initRow]
  repeat (first
    | (with_reducible refine wpAny_loadPart_at he ?_;rw[hc])
    | with_reducible refine wpAny_loadPart_at o ?_
    | (with_reducible refine wpAny_isSubtype_exc o ?_;rw[c1])
    | wp_step)
  refine wpAny_onRaise ?_
  have st:∀(a b:String) (n:Nat),Bind.check ⟨.positional,"*","ValueError",.self,[⟨"args",.varPos,false⟩]⟩ a b n (List.map (fun x=>x.fst) ({ pos:=Value.ref e::us }:Args).kw)=pure ():=fun a b n=>check_star_args _ _ _ _ _ _
  rw[st]
  exact wpAny_pure k
theorem zvy {Q:Value->Shared->Prop}{e t0:Addr}{oe:Obj}{vs:Array Value}{us:List Value}(U:UnderV bm) (x:XObj h C bm) (hz:us.length<=sizeLine) (he:h.get? e=some oe) (hc:oe.cls = .ref C) (hd:oe.data = .fields vs) (h0:vs[0]? = some (.ref t0))
    (k:∀h',(∀b o,b≠e->h.get? b=some o->h'.get? b=some o)->h'.get? e=some { oe with data:=.fields (vs.setIfInBounds 0 (.ref h.objs.size)) }->Q .none { heap:=h',gens:=g,drawn:=d,toks:=t,os:=os }) :
    wpAny (model prog w) A (call (.builtin "ValueError.__init__") (.ref e::us)) Q E { heap:=h,gens:=g,drawn:=d,toks:=t,os:=os }:=by
  have F:=PySem.F.excBase_ValueError
  refine wpAny_call (codeAny_call_builtin F.init.plain F.initEntry (zmj U x he hc ?_))
  unfold Builtin.«BaseException.__init__»
  wp_walk
  rw[hd]
  refine wpAny_pure ?_
  rw[h0]
  refine wpAny_pure (wpAny_bind ?_)
  have he2:=Heap.get?_push_of_some (h:=h) { cls:=.type "tuple",data:=.seq us.toArray } he
  have z0:=(Array.getElem?_eq_some_iff.mp h0).1
  refine wpAny_setField he2 hd z0 ?_
  have e3:=Heap.get?_update_self (Obj.mapFields (·.setIfInBounds 0 (Value.ref h.objs.size))) he2 (Obj.isFreed_of_fields (Obj.data_mapFields hd _))
  rw[zhi hd] at e3
  have go:=k _ (fun b o hb q=>(Heap.get?_update_other _ _ (Ne.symm hb)).trans (Heap.get?_push_of_some _ q)) e3
  wp_walk
  exact go
end
def zgx:List Value->Bool
  | [.type a,.type b,.type c,.type d]=>a == "ValueError" && (b == "Exception" && (c == "BaseException" && d == "object"))
  | .ref _::r=>zgx r
  | _=>false
theorem zgf:∀{l:List Value},zgx l=true->l = [.type "ValueError",.type "Exception",.type "BaseException",.type "object"]\/∃c r,l = .ref c::r/\zgx r=true
  | [.type a,.type b,.type c,.type d],e=>by
    simp only [zgx,Bool.and_eq_true,beq_iff_eq] at e
    obtain⟨rfl,rfl,rfl,rfl⟩:=e
    exact .inl rfl
  | .ref c::r,e=>.inr ⟨c,r,rfl,by unfold zgx at e;exact e⟩
theorem zlj (self:Value):∀{l:List Value},zgx l=true->refuseLoop self "__setattr__" l=pure ()
  | [],e=>by cases e
  | v::r,e=>by
    rcases zgf e with h | ⟨c,r',h,e'⟩
    · rw[h];exact PySem.F.store_ValueError.passes self
    · cases h
      rw[refuseLoop_ref]
      exact zlj self e'
theorem zjh:∀{l:List Value},zgx l=true->l.contains (.type "object")=true
  | [],e=>by cases e
  | v::r,e=>by
    rcases zgf e with h | ⟨c,r',h,e'⟩
    · rw[h];decide +kernel
    · cases h
      rw[List.contains_cons,zjh e',Bool.or_true]
def zkj (K:PySem.W.Frag) (C:Addr):Bool:=(PySem.W.clsIn K C).any fun cd=>zgx cd.mro
structure XCls (K:PySem.W.Frag) (C:Addr):Prop where
  hd:PySem.W.hasDictIn K C=true
  po:zkj K C=true
  sa:PySem.W.findIn K (.ref C) "__setattr__" = some (some (.builtin "object.__setattr__"))
section
variable {prog:Program}{w:World}{A:Around}{E:Value->Shared->Prop}{R:Result->Shared->Prop}{s:Shared}{K:PySem.W.Frag}{x C:Addr}{name:Str}{v:Value}
theorem zod {ox:Obj}{od:Option Obj}{tk:Tok}{r:Option Value}(X:K.In s.heap) (I:PySem.W.InstAt s.heap x ox C od) (hp:(PySem.W.clsIn K C).any (fun cd=>zgx cd.mro)=true) (ht:PySem.W.takerIn K C name=some r)
    (h:∀b,wpAny (model prog w) A.in1 (match r with | some a=>Builtin.ObjectAttr.setByDescriptor a (.ref x) v | none=>Builtin.ObjectAttr.storeInOwnDict (.ref x) (.ref C) (.str name tk) name v b)
      (fun fin s'=>match fin with | .done f=>R (.ok f) s' | .again c'=>c'.quiet=true/\codeAny (model prog w) A c' R s') (fun e s'=>R (.error e) s') s) :
    codeAny (model prog w) A (.call (.builtin "object.__setattr__") ⟨[.ref x,.str name tk,v],[]⟩) R s:=by
  have SF:=PySem.F.store_object
  obtain⟨cd,hc,ho⟩:=PySem.W.any_some hp
  have ne:cd.mro.isEmpty=false:=by cases q:cd.mro with | nil=>rw[q] at ho;cases ho | cons _ _=>rfl
  have sub:PySem.W.Looks (model prog w) s.heap (isInstance (.ref x) (.type "object")) true:=I.type.andThen (PySem.W.looks_mroIn X (by unfold PySem.W.mroIn;rw[hc,Option.bind_some,if_neg (by rw[ne];decide),zjh ho]))
  refine codeAny_call_builtin SF.slot.plain SF.entry (@PySem.W.check_slot (model prog w) _ _ s "object.__setattr__" "object" "__setattr__" (.ref x) [.str name tk,v] [] _ SF.kind SF.split sub (SF.args (.ref x) (.str name tk) v) ?_)
  obtain⟨attr,ha,hr⟩:=Option.bind_eq_some_iff.mp ht
  have hm:PySem.W.Looks (model prog w) s.heap (mroOf (.ref C)) cd.mro:=(PySem.W.looks_clsIn X hc).andThen .now
  have L3:PySem.W.Looks (model prog w) s.heap (Builtin.ObjectAttr.storeTaker? attr) r:=by
    cases attr with
    | none=>cases hr;exact .now
    | some a=>
      obtain⟨b,hb,rfl⟩:=Option.map_eq_some_iff.mp hr
      refine (PySem.W.looks_takesIn X hb).andThen ?_
      cases b<;>exact .now
  rw[PySem.W.osa_eq,refuse_eq]
  refine wpAny_bind (wpAny_bind (I.type.here (wpAny_bind (hm.here ?_))))
  rw[zlj _ ho]
  refine wpAny_pure (wpAny_bind (I.type.here (wpAny_bind ((PySem.W.looks_findIn X ha).here (wpAny_bind (L3.here ?_))))))
  exact h _
theorem xset {oe:Obj}{vs:Array Value}{Q:Unit->Shared->Prop}(X:K.In s.heap) (he:s.heap.get? x=some oe) (hcl:oe.cls = .ref C) (hdn:oe.dict=none) (hdt:oe.data = .fields vs) (c:XCls K C) (ht:PySem.W.takerIn K C name=some none)
    (h:∀h' tk,(∀b o,b≠x->s.heap.get? b=some o->h'.get? b=some o)->h'.get? x=some { oe with dict:=some s.heap.objs.size }->h'.Ns1 s.heap.objs.size (fun y=>if y=name then some v else none)->Q () { s with heap:=h',toks:=tk }) :
    wpAny (model prog w) A (setAttr (.ref x) name v) Q E s:=by
  have J:PySem.W.InstAt s.heap x oe C none:=⟨he,hcl,by unfold PySem.W.notCls;rw[hdt],by rw[hdn];trivial⟩
  refine PySem.W.set_plain X J c.sa (zod (s:={ s with toks:=s.toks+1 }) (r:=none) X J c.po ht fun b=>?_)
  obtain⟨cd,hc,hd'⟩:=PySem.W.any_some c.hd
  obtain⟨oc,od,odt,osl⟩:=oe
  dsimp only at hcl hdn hdt
  subst hcl hdn hdt
  refine wpAny_bind (wpAny_pure (wpAny_bind (wpAny_bind (wpAny_loadPart he (wpAny_bind (PySem.W.Looks.here (s:={ s with toks:=s.toks+1 }) (PySem.W.looks_clsIn X hc) ?_))))))
  rw[hd']
  have hx₁:(s.heap.push { cls:=.type "dict",data:=.dict #[] }).get? x=some { cls:=Value.ref C,data:=Data.fields vs,slots:=osl }:=Heap.get?_push_of_some _ he
  have hxs:x≠s.heap.objs.size:=Nat.ne_of_lt (Heap.lt_size he)
  rw[if_neg (by decide)]
  show wpAny (model prog w) _ (if (!true || !typeHasDict (Value.ref C))=true then pure none else _) _ _ _
  rw[if_neg (by simp[typeHasDict])]
  refine wpAny_bind (wpAny_alloc' ?_)
  refine wpAny_bind (wpAny_update' hx₁ ?_)
  refine wpAny_pure ?_
  have hgd:((s.heap.push { cls:=.type "dict",data:=.dict #[] }).update x fun o=>{ cls:=o.cls,dict:=some s.heap.objs.size,data:=o.data,slots:=o.slots }).get? s.heap.objs.size
      = some { cls:=.type "dict",data:=.dict #[] }:=
    (Heap.get?_update_ne _ _ _ _ hxs.symm).trans (Heap.get?_push_at rfl rfl)
  have hnd:((s.heap.push { cls:=.type "dict",data:=.dict #[] }).update x fun o=>{ cls:=o.cls,dict:=some s.heap.objs.size,data:=o.data,slots:=o.slots }).Ns s.heap.objs.size (fun _=>none):=
    ⟨_,#[],_,hgd,rfl,fun e he=>absurd he (by simp),fun _=>rfl⟩
  show wpAny _ _ (Builtin.ObjectAttr.storeInDict s.heap.objs.size (.str name s.toks) name v) _ _ _
  unfold Builtin.ObjectAttr.storeInDict Builtin.ObjectAttr.newKeyGuard
  refine wpAny_bind (wpAny_pure (wpAny_bind (wpAny_nsSet1 (Heap.Ns1.of_empty hnd) fun h' hn' hs=>?_)))
  obtain⟨oD,esD,epD,hoD,hdD,hcD⟩:=hn'.count (Within.cons name v Within.nil)
  refine wpAny_bind (wpAny_lookBehind hoD (by rw[hdD];exact pastItsLine_dict (Nat.le_trans hcD (by rw[List.length_cons,List.length_nil,sizeLine_eq];omega))) ?_)
  refine wpAny_pure (h h' _ (fun b o hb q=>?_) ?_ hn')
  · exact (hs.2 b (Nat.ne_of_lt (Heap.lt_size q))).trans ((Heap.get?_update_ne _ _ _ _ hb).trans (Heap.get?_push_of_some _ q))
  · exact (hs.2 x hxs).trans (Heap.get?_update_self _ hx₁ rfl)
end
def excO (e C:Addr) (dc:Option Addr):HO:=.ext fun h=>∃oe vs t0,h.get? e=some oe/\oe.cls = .ref C/\oe.dict=dc/\oe.data = .fields vs/\vs[0]? = some (.ref t0)/\vs[1]? = some .none
section
variable {X:Cx}{pins:List (Addr×Obj)}{σ:St}{H:Hp}{s:Shared}{a C:Addr}{dc:Option Addr}{f:Str}{A:Around}{E:Value->Shared->Prop}
theorem zlk {P:Program}{w:World}{h:Heap}{oe:Obj}{vs:Array Value}{t0:Addr}(h1:h.get? a=some oe) (h2:oe.cls = .ref C) (h3:oe.dict=dc) (h4:oe.data = .fields vs) (h5:vs[0]? = some (.ref t0)) (h6:vs[1]? = some .none):ObjOk P w H h a (excO a C dc):=
  ⟨⟨oe,vs,t0,h1,h2,h3,h4,h5,h6⟩,⟨oe,h1⟩,fun g1 g2 ⟨oe',vs',t0',q1,q2⟩ k=>⟨oe',vs',t0',k _ q1,q2⟩⟩
theorem zkk {y:V}{u:Value}{Q:Unit->Shared->Prop}(I:Inv X pins σ H s) (e:H a=some (excO a C none)) (c:XCls X.K C) (n:NoAttr X.K C f) (ry:RelV y u)
    (h:∀d s',H d=none->Inv X pins σ (upd (upd H d (.xd [(f,y)])) a (excO a C (some d))) s'->Q () s'):wpAny (model X.prog X.w) A (setAttr (.ref a) f u) Q E s:=by
  obtain⟨⟨oe,vs,t0,h1,h2,h3,h4,h5,h6⟩,_,_⟩:=(show ObjOk X.prog X.w H s.heap a (excO a C none) from I.hok a _ e)
  refine xset I.kIn h1 h2 h3 h4 c n.taker fun h' tk k hx hns=>?_
  have hd:=I.hok.fresh (Nat.le_refl s.heap.objs.size)
  have hne:s.heap.objs.size≠a:=Nat.ne_of_gt (Heap.lt_size h1)
  have fr:oe.isFreed=false:=Obj.isFreed_of_fields h4
  have u1:(h'.update a fun _=>oe).get? a=some oe:=Heap.get?_update_self _ hx fr
  have u2:∀b,b≠a->(h'.update a fun _=>oe).get? b=h'.get? b:=fun b hb=>Heap.get?_update_other _ _ (Ne.symm hb)
  have I1:=I.laid (a:=s.heap.objs.size) (o:=.xd [(f,y)]) (h':=h'.update a fun _=>oe) (t':=tk) (fun b o q=>by
    by_cases hb:b=a
    · subst hb
      rw[h1] at q
      cases q
      exact u1
    · rw[u2 b hb]
      exact k b o hb q) (Nat.le_refl _) ⟨_,hns.at fun o q=>by rw[u2 _ hne];exact q,fun g=>by
        by_cases hg:g=f
        · rw[if_pos hg]
          subst hg
          rw[List.lookup_cons,beq_self_eq_true]
          exact ry
        · rw[if_neg hg,List.lookup_cons,beq_eq_false_iff_ne.mpr hg]
          exact True.intro⟩
  have I2:=I1.write (x:=a) (e:=a) (o:=excO a C (some s.heap.objs.size)) (h':=h') (t':=tk) (by rw[zj hne.symm,e];exact True.intro) (.inl rfl) (fun b o hb q=>by rw[u2 b hb] at q;exact q) ⟨_,hx⟩ (zlk hx h2 rfl h4 h5 h6)
  exact h _ _ hd I2
end
structure XBase (K:PySem.W.Frag) (D:Addr):Prop where
  rd:PySem.W.readsIn K D (.type "type")=true
  ga:PySem.W.specialIn K (.ref D) "__getattribute__" = some (some (.builtin "type.__getattribute__"))
  fc:PySem.W.findCls K (.ref D) (.type "type") "__init__" = some (.val (.builtin "ValueError.__init__"))
def XObjK (K:PySem.W.Frag) (C:Addr) (bm:List Value):Prop:=∃nm q N bs hdct sn sub ab col dd k0 k1 k2 k3 k5,K.lookup C=some (excClassObj nm q C N bs bm hdct sn sub ab col dd k0 k1 k2 k3 k5 "ValueError.__new__")
theorem XObjK.in {K:PySem.W.Frag}{C:Addr}{bm:List Value}{h:Heap}(x:XObjK K C bm) (X:K.In h):XObj h C bm:=by
  obtain⟨a1,a2,a3,a4,a5,a6,a7,a8,a9,b1,b2,b3,b4,b5,b6,e⟩:=x
  exact⟨a1,a2,a3,a4,a5,a6,a7,a8,a9,b1,b2,b3,b4,b5,b6,X _ _ e⟩
def zuv (K:PySem.W.Frag) (t:TA):TE:=fun σ H Q=>t σ H fun xs H1=>∃a C dc bm rest,xs = .ref a::rest/\H1 a=some (excO a C dc)/\XObjK K C bm/\UnderV bm/\rest.length<=sizeLine/\Q .non H1
def zvz (K:PySem.W.Frag) (ta tv:TE) (f:Str):TS:=fun D σ H=>tv σ H fun y H1=>ta σ H1 fun x H2=>∃a C,x = .ref a/\H2 a=some (excO a C none)/\XCls K C/\NoAttr K C f/\
  ∀d,H2 d=none->D.nx σ (upd (upd H2 d (.xd [(f,y)])) a (excO a C (some d)))
theorem zuw {H:Hp}{a:Addr}{o:HO}(h:H a=some o):upd H a o=H:=by
  funext b
  unfold upd
  by_cases e:b=a
  · rw[if_pos e,e,h]
  · rw[if_neg e]
section
variable {X:Cx}{o e value:Expr}{es:List Expr}{x f:Str}{p pos pos' apos:Pos}{ta tv:TE}{t:TA}{D:Addr}
theorem zsy (ha:PE X o ta) (hv:PE X value tv) (hs:swapsWith value (some (.Attribute o f pos')) pos.line X.env=pure false):PS X (.Assign [.Attribute o f pos'] value pos) (zvz X.K ta tv f):=by
  intro pins s σ H D I h
  refine plainObj_wpAny_Assign_Attribute (thn (hv pins s σ H _ I h) fun u s1 ⟨y,H1,I1,ry,q⟩=>thn (ha pins s1 σ H1 _ I1 q) fun ov s2 hq0=>?_) hs
  obtain⟨x,H2,I2,rx,a,C,ex,ea,c,n,q2⟩:=hq0
  subst ex
  obtain rfl:ov=Value.ref a:=rx
  exact zkk I2 ea c n ry fun d s3 hd I3=>⟨σ,_,I3,q2 d hd⟩
theorem zp5 {pins:List (Addr×Obj)}{s:Shared}{σ:St}{H:Hp}{a C:Addr}{dc:Option Addr}{bm:List Value}{us:List Value}{Q:VK}(I:Inv X pins σ H s) (e:H a=some (excO a C dc)) (xo:XObjK X.K C bm) (U:UnderV bm) (hz:us.length<=sizeLine) (q:Q .non H) :
    wpAny (model X.prog X.w) X.A (call (.builtin "ValueError.__init__") (.ref a::us)) (EP X pins σ Q) X.xe s:=by
  obtain⟨⟨oe,vs,t0,h1,h2,h3,h4,h5,h6⟩,_,_⟩:=(show ObjOk X.prog X.w H s.heap a (excO a C dc) from I.hok a _ e)
  obtain⟨hp,g,d,tk,os⟩:=s
  refine zvy U (xo.in I.kIn) hz h1 h2 h4 h5 fun h' k hx=>?_
  have z0:=(Array.getElem?_eq_some_iff.mp h5).1
  have I2:=I.write (x:=a) (e:=a) (o:=excO a C dc) (h':=h') (t':=tk) (by rw[e];exact True.intro) (.inl rfl) (fun b o hb z=>k b o hb z) ⟨_,hx⟩ (zlk (t0:=hp.objs.size) hx h2 h3 rfl (by simp[z0]) (by rw[Array.getElem?_setIfInBounds_ne (by decide)];exact h6))
  rw[zuw e] at I2
  exact⟨.non,H,I2,rfl,q⟩
theorem zp6 {pl:Sem Bool}(hg:Gl X x) (hm:X.mg x=some (.ref D)) (b:XBase X.K D) (ha:PA X (e::es) t) (hdb:(x == ("__debug__" : Str))=false:=by decide)
    (hst:starEach (e::es) X.env=(false,eval e X.env)::starEach es X.env:=by rfl) (hpl:(backTo pos (starEach es X.env)).any (·.1)=false:=by rfl)
    (ht:eval (.Call (.Attribute (.Name x p) "__init__" apos) (e::es) [] pos) X.env=(do
      let ov ←eval (.Name x p) X.env
      standAt apos.atName
      let (f,first) ←holding [ov] (getMethod ov "__init__" pl)
      callWith pos f first (backTo pos (starEach (e::es) X.env)) (backToKw pos (keywordEach [] X.env))):=by rfl) :
    PE X (.Call (.Attribute (.Name x p) "__init__" apos) (e::es) [] pos) (zuv X.K t):=by
  intro pins s σ H Q I h
  refine PySem.W.methodCall_KW (pl:=pl) (zdb I hg hm ?_ hdb) ht
  refine PySem.W.method_cls I.kIn b.ga (PySem.W.cls_value I.kIn b.rd b.fc (by decide +kernel) ?_)
  have hA:=ha pos pins _ σ H _ (I.tok (s.toks+1)) h
  rw[hst] at hA ⊢
  refine Calls.callWith_builtin (by show (false||(backTo pos (starEach es X.env)).any (·.1))=false;rw[hpl]<;>rfl) (Calls.evalArgs_plain ?_)
  refine thn hA fun us s2 hq0=>?_
  obtain⟨vs,H2,I2,r2,a,C,dc,bm,rest,ev,ea,xo,U,hz,q⟩:=hq0
  subst ev
  cases r2 with
  | cons r1 r2=>
    cases r1
    exact zp5 I2 ea xo U (by rw[←r2.length];exact hz) q
end
def del (H:Hp) (e:Addr):Hp:=fun b=>if b=e then none else H b
theorem zic {H:Hp}{e:Addr}:del H e e=none:=by unfold del;rw[if_pos rfl]
theorem zgg {H:Hp}{e b:Addr}(h:b≠e):del H e b=H b:=by unfold del;rw[if_neg h]
structure XMk (K:PySem.W.Frag) (C f:Addr) (bm:List Value):Prop where
  obj:XObjK K C bm
  un:UnderV bm
  init:PySem.W.findIn K (.ref C) "__init__" = some (some (.ref f))
  fn:PySem.W.isFn K (.ref f)=true
section
variable {X:Cx}{pins:List (Addr×Obj)}{σ:St}{H:Hp}{s:Shared}
theorem Inv.drop {e:Addr}{φ:Heap->Prop}(I:Inv X pins σ H s) (he:H e=some (.ext φ)):Inv X pins σ (del H e) s:=by
  refine I.un (h':=s.heap) (t':=s.toks) ⟨fun _ _ q _ _ _=>q,fun b o q _ _ _=>⟨o.slots,q⟩,fun b o _ n _=>?_,fun b o q _=>⟨o,q⟩,fun b xs q=>?_,fun b o u q=>?_,fun b ps q=>⟨#[],?_⟩⟩ fun a o q=>?_
  · by_cases z:b=e
    · rw[z];exact zic
    · rw[zgg z];exact n
  · rw[zgg (fun z=>by rw[z,he] at q;cases q)];exact q
  · rw[zgg (fun z=>by rw[z,he] at q;cases q)];exact q
  · rw[zgg (fun z=>by rw[z,he] at q;cases q),Array.append_empty];exact q
  · have na:a≠e:=fun z=>by rw[z,zic] at q;cases q
    rw[zgg na] at q
    refine (I.hok a o q).stay (fun _ _ _ z=>z) (fun b z=>?_) fun b xs z=>?_
    · rw[zgg (fun w=>by rw[w,he] at z;cases z)];exact z
    · rw[zgg (fun w=>by rw[w,he] at z;cases z)];exact z
end
def zrf (C:Addr) (sp:Sp) (dvs:List V) (E E1:XK) (t:TA):TS:=fun _ σ H=>t σ H fun vs H1=>∀e,H1 e=none->sp (.ref e::(vs++dvs)) (upd H1 e (excO e C none)) (fun v H2=>v = .non/\∃dc,H2 e=some (excO e C dc)/\E (.ref C) dc (del H2 e)) E1
section
variable {X:Cx}{CX:CXT}{k:Nat}{f C:Addr}{fd:FuncData}{ps:List Str}{sp:Sp}{dvs:List V}{ds:List Value}{E E1:XK}{x:Str}{p pos cpos:Pos}{e:Expr}{es:List Expr}{t:TA}{bm:List Value}
theorem zp7 (M:XMk X.K C f bm) (F:FnOk X.prog X.w X.K X.mg X.base CX k f fd ps sp) (hr:Room (k+1) X.A) (xe:XeIs X E) (hx:zfu CX X E1) (hg:Gl X x) (hm:X.mg x=some (.ref C)) (hb:Binds X.K fd ps ds) (hd:Vals dvs ds) (hps:ps.length<=1000) (ha:PA X (e::es) t)
    (hdb:(x == ("__debug__" : Str))=false:=by decide) (he:starEach (e::es) X.env=(false,eval e X.env)::starEach es X.env:=by rfl) (hpl:(backTo cpos (starEach es X.env)).any (·.1)=false:=by rfl) :
    PS X (.Raise (some (.Call (.Name x p) (e::es) [] cpos)) none pos) (zrf C sp dvs E E1 t):=by
  intro pins s σ H D I h
  refine zmi (vI:=.ref f) M.un hr.hd he hpl (zdb I hg hm ⟨rfl,thn (ha cpos pins s σ H _ I h) fun us s2 hq0=>?_⟩ hdb)
  obtain⟨vs,H1,I1,r,q⟩:=hq0
  have fr:∀a,s2.heap.objs.size<=a->H1 a=none:=fun a h=>I1.hok.fresh h
  have q0:=q _ (fr _ (Nat.le_refl _))
  have l0:=F.len _ _ _ _ q0
  rw[List.length_cons,List.length_append] at l0
  have rl:=r.length
  refine⟨by rw[sizeLine_eq];omega,M.obj.in I1.kIn,PySem.W.looks_findIn I1.kIn M.init,fun self=>PySem.W.bind_fn I1.kIn self (beq_iff_eq.mp M.fn),fun h' ex hs hmd=>?_⟩
  have hq:=q ex (fr ex hs)
  obtain⟨t0,h1,_,_⟩:=hmd.there
  have I2:=I1.laid (a:=ex) (o:=excO ex C none) (h':=h') (t':=s2.toks) hmd.keeps hs (zlk h1 rfl rfl rfl rfl rfl)
  have r2:Vals (V.ref ex::(vs++dvs)) (Value.ref ex::(us++ds)):=.cons rfl (r.append hd)
  have hl:(Value.ref ex::us++ds).length=ps.length:=by
    have e:=r2.length
    rw[F.len _ _ _ _ hq] at e
    exact e.symm
  refine wpAny_call (codeAny_mono (F.run _ X.stack _ _ ⟨Value.ref ex::us,[]⟩ (Value.ref ex::(us++ds)) _ _ E1 (hr.make C us []) (I2.env0.make C us []) (hb _ (Value.ref ex::us) I2.kIn hl) r2 hq) fun r s' hq'=>?_)
  cases r with
  | error e=>exact hx pins σ _ _ e s' I2 hq'
  | ok fl=>
    cases fl with
    | ret u=>
      obtain⟨v,H',I3,rv,ev,dc,he',hE⟩:=I2.after hq'
      subst ev
      obtain⟨⟨oe,ws,t1,g1,g2,g3,g4,g5,g6⟩,_,_⟩:=(show ObjOk X.prog X.w H' s'.heap ex (excO ex C dc) from I3.hok ex _ he')
      have I4:=I3.drop he'
      exact⟨rv,oe,ws,M.obj.in I3.kIn,g1,g2,g4,g6,zp4 I4 xe ⟨oe,ws,g1,g2,g3,g4,g6,zic,Nat.le_trans I1.sz hs⟩ hE⟩
    | next=>exact False.elim hq'
    | brk=>exact False.elim hq'
    | cont=>exact False.elim hq'
end
section
variable {M:Model}{A:Around}{E:Value->Shared->Prop}{s:Shared}
theorem zoe {base:Heap}{env:Env}{outer:List Env}{L e T:Addr}{oe oT:Obj}{vs ts:Array Value}{Q:Unit->Shared->Prop}
    (hfr:A.frames=some (env::outer)) (hl:s.heap.FunFrames base (env::outer)) (hf:env.frame=some L) (he:s.heap.get? e=some oe) (hd:oe.data = .fields vs) (h1:vs[1]? = some (.ref T))
    (hT:s.heap.get? T=some oT) (dT:oT.data = .fields ts) (h3:ts[3]? = some .none) (ne:T≠e)
    (k:∀h',Gone (frs (env::outer)) e s.heap.objs.size [T] oe vs s.heap h'->Q () { s with heap:=h' }) :
    wpAny M A (noteFrame (.ref e) env) (fun _ s'=>wpAny M A (setFlight (.ref e) none) Q E s') E s:=by
  unfold noteFrame
  simp only [hf]
  refine wpAny_bind (wpAny_field he hd h1 ?_)
  rw[if_pos (show (Value.ref T != Value.none)=true from by simp)]
  refine wpAny_bind (wpAny_field hT dT h3 ?_)
  rw[if_neg (show ¬((Value.none == rawInt L)=true) from by simp[rawInt])]
  have z3:=(Array.getElem?_eq_some_iff.mp h3).1
  refine wpAny_bind (wpAny_setField hT dT z3 ?_)
  have oth:∀b,b≠T->(s.heap.update T (Obj.mapFields (·.setIfInBounds 3 Value.none))).get? b=s.heap.get? b:=fun b hb=>Heap.get?_update_other _ _ (Ne.symm hb)
  have self:=Heap.get?_update_self (Obj.mapFields (·.setIfInBounds 3 Value.none)) hT (Obj.isFreed_of_fields (Obj.data_mapFields dT _))
  have nf:T ∉ frs (env::outer):=fun hm=>by
    obtain⟨_,o,ho,hn⟩:=hl.mem hm
    rw[hT] at ho
    cases ho
    exact hn ts dT
  have sz:(s.heap.update T (Obj.mapFields (·.setIfInBounds 3 Value.none))).objs.size=s.heap.objs.size:=Heap.size_after_update ..
  refine entry_new (s:={ s with heap:=s.heap.update T (Obj.mapFields (·.setIfInBounds 3 Value.none)) }) hfr (hl.of_keeps fun b o hb hn=>⟨o,(oth b fun z=>?_).trans hb,rfl⟩) hf ((oth e ne.symm).trans he) hd (Array.getElem?_eq_some_iff.mp h1).1 fun h' G=>?_
  · subst z
    rw[hT] at hb
    cases hb
    exact hn ts dT
  · have e1:(s.heap.update T (Obj.mapFields (·.setIfInBounds 3 Value.none))).objs.size=s.heap.objs.size:=sz
    have G:=G
    dsimp only at G
    rw[e1] at G
    refine k h' ⟨fun b o hb hn hx q=>G.keep b o hb hn (by simp) ((oth b fun z=>hx (by simp[z])).trans q),fun b o hb q=>G.slot b o hb ((oth b fun z=>nf (z▸hb)).trans q),Heap.get?_none_of_le (Nat.le_refl _),G.exc,G.ent,fun b hb=>?_⟩
    rw[List.mem_singleton] at hb
    subst hb
    exact⟨_,G.keep b _ ne nf (by simp) self⟩
end
def Met (X:Cx) (pins:List (Addr×Obj)) (H:Hp) (h:Heap) (e:Addr) (cls:Value) (dc:Option Addr):Prop:=
  ∃(oe:Obj) (vs:Array Value) (T:Addr) (oT:Obj) (ts:Array Value),h.get? e=some oe/\oe.cls=cls/\oe.dict=dc/\oe.data = .fields vs/\vs[1]? = some (.ref T)/\T≠e/\h.get? T=some oT/\oT.data = .fields ts/\ts[3]? = some .none/\FpOk X pins H e/\FpOk X pins H T
section
variable {X:Cx}{pins:List (Addr×Obj)}{σ:St}{H:Hp}{s:Shared}{E:XK}
theorem zsz {Q:Unit->Shared->Prop}{E':Value->Shared->Prop}{u:Value}{s':Shared}(I:Inv X pins σ H s) (x2:X.stack=X.env::X.outer) (x3:X.env.frame=some X.env.locals) (h:CX1 X.prog X.w X.stack H s E u s')
    (k:∀e cls dc H' h',u = .ref e->Inv X pins σ H' { s' with heap:=h' }->Met X pins H' h' e cls dc->E cls dc H'->Q () { s' with heap:=h' }) :
    wpAny (model X.prog X.w) X.A (noteFrame u X.env) (fun _ s1=>wpAny (model X.prog X.w) X.A (setFlight u none) Q E' s1) E' s':=by
  obtain⟨e,cls,dc,H',rfl,os,bare,un,hok,fl,hE⟩:=h
  have I':=I.call' os un hok bare (ch:=[]) (fun b z=>absurd z (by simp))
  obtain⟨oe,vs,T,oT,ts,he,hc,hdc,hd,h1,hTe,hT,dT,h3,He,HT,ne,nT⟩:=fl
  have fr:=I'.ok.frames
  have st:=I'.stack
  rw[x2] at fr st
  refine zoe fr st x3 he hd h1 hT dT h3 hTe fun h' G=>?_
  have F1:FpOk X pins H' e:=I.fpOk ne He
  have F2:FpOk X pins H' T:=I.fpOk nT HT
  have sf:∀b∈frs (X.env::X.outer),H' b=none:=by
    have:=I'.stkFree
    rw[x2] at this
    exact this
  have U:Un (frs X.stack) [e,T] H' H' s'.heap h':=by
    rw[x2]
    refine⟨fun b o q n nf nx=>G.keep b o (fun z=>nx (by simp[z])) nf (fun z=>nx (by rw[List.mem_singleton.mp z];simp)) q,fun b o q n hb nx=>G.slot b o hb q,fun b o q n _=>n,fun b o q nx=>?_,fun _ _ z=>z,fun _ _ _ z=>z,fun _ ps z=>⟨#[],by rw[Array.append_empty];exact z⟩⟩
    by_cases hb:b∈frs (X.env::X.outer)
    · obtain⟨sl,z⟩:=G.slot b o hb q
      exact⟨_,z⟩
    · exact⟨o,G.keep b o (fun z=>nx (by simp[z])) hb (fun z=>nx (by rw[List.mem_singleton.mp z];simp)) q⟩
  have hok':HOk X.prog X.w H' h':=fun a o q=>by
    refine (hok a o q).stay (fun b u hb z=>?_) (fun _ z=>z) fun _ _ z=>z
    have Hb:H' b≠none:=by
      rcases hb with z | z
      · rw[z,q];simp
      · rw[z];simp
    exact G.keep b u (fun z=>Hb (z▸He)) (fun z=>Hb (sf b z)) (fun z=>Hb (by rw[List.mem_singleton.mp z];exact HT)) z
  have I2:Inv X pins σ H' { s' with heap:=h' }:=I'.call' (s':={ s' with heap:=h' }) (ch:=[e,T]) rfl U hok' I'.bare fun b hb=>by
    have F:FpOk X pins H' b:=by
      rcases List.mem_cons.mp hb with z | z
      · rw[z];exact F1
      · rw[List.mem_singleton.mp z];exact F2
    exact⟨F.2.2.2.1,F.2.1,F.2.2.2.2.1,F.2.2.2.2.2⟩
  obtain⟨oT',ts',t1,t2,t3⟩:=G.ent
  have hTn:s'.heap.objs.size≠e:=Nat.ne_of_gt (Heap.lt_size he)
  exact k e cls dc H' h' rfl I2 ⟨_,_,s'.heap.objs.size,oT',ts',G.exc,hc,hdc,rfl,by simp[(Array.getElem?_eq_some_iff.mp h1).1],hTn,t1,t2,t3,F1,I'.fpOk (Nat.le_refl _) (hok.fresh (Nat.le_refl _))⟩ hE
end
structure XCatch (K:PySem.W.Frag) (D:Addr):Prop where
  nt:PySem.W.instIn K (.ref D) (.type "tuple")=some false
  ty:PySem.W.isClsIn K D=true
  ex:PySem.W.mroIn K D (.type "BaseException")=some true
section
variable {M:Model}{A:Around}{E:Value->Shared->Prop}{s:Shared}{K:PySem.W.Frag}{e C D:Addr}{oe:Obj}{b:Bool}
theorem zp8 {Q:Bool->Shared->Prop}(X:K.In s.heap) (he:s.heap.get? e=some oe) (hc:oe.cls = .ref C) (cd:XCatch K D) (hs:PySem.W.mroIn K C (.ref D)=some b) (h:Q b s):wpAny M A (excMatches (.ref e) (.ref D)) Q E s:=by
  have L1:=PySem.W.looks_instIn (M:=M) X cd.nt
  have L3:=PySem.W.looks_mroIn (M:=M) X cd.ex
  have L4:=PySem.W.looks_mroIn (M:=M) X hs
  have L5:PySem.W.Looks M s.heap (typeOf (.ref e)) (.ref C):=hc▸(PySem.W.Looks.ld he).andThen .now
  unfold excMatches
  refine wpAny_bind (L1.here ?_)
  dsimp only
  rw[if_neg (by decide)]
  refine wpAny_bind (wpAny_pure ?_)
  simp only [List.forIn_cons,List.forIn_nil]
  have L6:PySem.W.Looks M s.heap (isExcClass (.ref D)) true:=by
    unfold isExcClass
    refine PySem.W.Looks.andThen (a:=true) ?_ ?_
    · obtain⟨c,hc⟩:=Option.isSome_iff_exists.mp cd.ty
      unfold PySem.W.clsIn at hc
      split at hc
      · rename_i hk
        exact (PySem.W.Looks.ld (part:=_) (X _ _ hk)).andThen .now
      · cases hc
    · exact L3
  refine wpAny_bind (wpAny_bind (wpAny_bind (L6.here ?_)))
  rw[if_neg (by decide)]
  refine wpAny_pure (wpAny_pure (wpAny_bind (L5.here (wpAny_bind (wpAny_bind (wpAny_bind (L4.here ?_)))))))
  cases b with
  | true=>rw[if_pos rfl];exact wpAny_pure (wpAny_pure (wpAny_pure h))
  | false=>rw[if_neg (by decide)];exact wpAny_pure (wpAny_pure (wpAny_pure h))
end
section
variable {X:Cx}{pins:List (Addr×Obj)}{σ:St}{H:Hp}{s:Shared}
theorem Inv.track {a:Addr}{o:HO}(I:Inv X pins σ H s) (f:FpOk X pins H a) (xe:X.ex = []) (ok:ObjOk X.prog X.w (upd H a o) s.heap a o):Inv X pins σ (upd H a o) s:=by
  obtain⟨f1,f2,f3,f4,f5,f6⟩:=f
  have f4:X.s₀.heap.objs.size<=a:=f4.resolve_left (by rw[xe];simp)
  refine⟨I.ok,I.os,I.bare,⟨I.base.keep,I.base.slot,fun b ob q n hx=>?_,I.base.there,fun b xs q=>?_,fun b ob u q=>?_,fun b ps q=>?_⟩,I.loc,I.cell,?_,fun x c z=>?_,fun p hp=>?_,fun b ob q=>?_,I.len⟩
  · rw[zj (fun z=>absurd (Heap.lt_size q) (Nat.not_lt.mpr (by rw[z];exact f4)))]
    exact I.base.free b ob q n hx
  · have:=I.base.tups b xs q
    rw[zj (fun z=>by rw[z,f1] at this;cases this)]
    exact this
  · have:=I.base.frzs b ob u q
    rw[zj (fun z=>by rw[z,f1] at this;cases this)]
    exact this
  · obtain⟨m,this⟩:=I.base.tbls b ps q
    refine⟨m,?_⟩
    rw[zj (fun z=>by rw[z,f1] at this;cases this)]
    exact this
  · rw[zj f2.symm];exact I.free
  · rw[zj (f5 x c z)];exact I.freeC x c z
  · obtain⟨q1,q2,q3,q4,q5⟩:=I.pin p hp
    exact⟨q1,by rw[zj (f6 p hp)];exact q2,q3,q4,q5⟩
  · by_cases z:b=a
    · subst z
      rw[zb] at q
      cases q
      exact ok
    · rw[zj z] at q
      refine (I.hok b ob q).stay (fun _ _ _ z=>z) (fun c w=>?_) fun c xs w=>?_
      · rw[zj (fun z=>by rw[z,f1] at w;cases w)];exact w
      · rw[zj (fun z=>by rw[z,f1] at w;cases w)];exact w
theorem zid {M:Model}{A:Around}{E:Value->Shared->Prop}{i:Nat}{n:Str}{pos:Pos}{Q:Unit->Shared->Prop}(I:Inv X pins σ H s) (hN:X.N.Nodup) (hi:X.N[i]? = some n) (hl:X.env.scope.names.lookup n=some .local)
    (h:∀s',Inv X pins (σ.set i none) H s'->Q () s'):wpAny M A (do bindName X.env n .none;unbindBehindTheSuite X.env n pos) Q E s:=by
  have hcls:(X.env.scope.kind == .class||(X.env.scope.kind == .module&&X.env.locals != X.env.globals))=false:=by rw[I.ok.kind];rfl
  refine wpAny_bind (wpAny_bindName (zfj I hN hi (.inl hl) (v:=.non) rfl (fun s1 I1=>?_) (.inr hl)))
  unfold unbindBehindTheSuite
  refine wpAny_onRaise ?_
  unfold unbindName
  refine wpAny_bind (wpAny_point (wpAny_bind ?_))
  unfold deleteName
  obtain⟨m,hn,hl'⟩:=id I1.loc
  have hlk:X.env.kindOf n=some .local:=hl
  simp only [hlk,hcls]
  rw[if_neg (by decide)]
  have iσ:i<(σ.set i (some V.non)).length:=by rw[I1.len];exact (List.getElem?_eq_some_iff.mp hi).1
  obtain⟨u,ru,lu⟩:=hl' i n .non hi (by rw[List.getElem?_set_self (by simpa using iσ)]) (.inl hl)
  have mn:(m n).isSome=true:=by
    rcases lu with ⟨_,z⟩ | ⟨z,_⟩
    · rw[z];rfl
    · rw[hlk] at z;rcases z with z | z<;>cases z
  refine wpAny_bind (wpAny_nsDel_keeps hn fun h2 v hn2 hs2=>?_)
  rw[mn]
  simp only [if_true,Bool.not_true,Bool.false_eq_true,if_false]
  refine wpAny_pure (wpAny_point (h _ ?_))
  have cne:=I1.cne
  obtain⟨oL,_,_,hoL,_⟩:=id hn
  refine⟨I1.ok,I1.os,I1.bare,⟨fun b o e n hb hx=>?_,fun b o e n hb hx=>?_,I1.base.free,fun b o e hx=>?_,I1.base.tups,I1.base.frzs,I1.base.tbls⟩,⟨_,hn2,fun j y v' e1 e2 e3=>?_⟩,fun y c e=>?_,I1.free,I1.freeC,fun p hp=>?_,fun b ob e=>?_,by simpa using I.len⟩
  · exact (hs2.2 b (Nat.ne_of_lt (Nat.lt_of_lt_of_le (Heap.lt_size e) I1.ok.above))).trans (I1.base.keep b o e n hb hx)
  · obtain⟨sl,e1⟩:=I1.base.slot b o e n hb hx
    exact⟨sl,(hs2.2 b (Nat.ne_of_lt (Nat.lt_of_lt_of_le (Heap.lt_size e) I1.ok.above))).trans e1⟩
  · obtain⟨o',e1⟩:=I1.base.there b o e hx
    exact⟨o',(hs2.2 b (Nat.ne_of_lt (Nat.lt_of_lt_of_le (Heap.lt_size e) I1.ok.above))).trans e1⟩
  · have hj:j≠i:=fun z=>by
      subst z
      rw[List.getElem?_set_self (by simpa using iσ)] at e2
      cases e2
    rw[List.getElem?_set_ne (Ne.symm hj)] at e2
    obtain⟨u',r',q⟩:=hl' j y v' e1 (by rw[List.getElem?_set_ne (Ne.symm hj)];exact e2) e3
    refine⟨u',r',?_⟩
    rcases q with ⟨k,z⟩ | ⟨k,c,z1,z2⟩
    · refine .inl ⟨k,?_⟩
      have:y≠n:=fun z=>hj (zhr hN e1 (z▸hi))
      simp[this,z]
    · exact .inr ⟨k,c,z1,z2.sameBut hs2 (cne y c z1)⟩
  · obtain⟨w',z⟩:=I1.cell y c e
    exact⟨w',z.sameBut hs2 (cne y c e)⟩
  · obtain⟨e,n,ne,nf,d⟩:=I1.pin p hp
    exact⟨(hs2.2 p.1 ne).trans e,n,ne,nf,d⟩
  · refine (I1.hok b ob e).stay (fun c w' hc q=>(hs2.2 c ?_).trans q) (fun _ q=>q) fun _ _ q=>q
    rintro rfl
    rcases hc with rfl | hc
    · rw[I1.free] at e;cases e
    · rw[I1.free] at hc;cases hc
end
def Cx.inTry (X:Cx) (pn:List (Addr×Obj)) (xe:Value->Shared->Prop):Cx:={ X with pn:=pn,xe:=xe }
def Cx.inSuite (X:Cx) (v:Value) (xe:Value->Shared->Prop):Cx:={ X with A:=X.A.mark (some v),calm:=false,xe:=xe }
structure XFn (X:Cx):Prop where
  st:X.stack=X.env::X.outer
  fr:X.env.frame=some X.env.locals
  ex:X.ex = []
def zux (X:Cx) (Es:St->XK):Prop:=∀(pins:List (Addr×Obj)) (σ:St) (H:Hp) (s:Shared) (u:Value) (s':Shared),Inv X pins σ H s->CX1 X.prog X.w X.stack H s (Es σ) u s'->X.xe u s'
def excH (e C:Addr) (dc:Option Addr):HO:=.ext fun h=>∃oe vs,h.get? e=some oe/\oe.cls = .ref C/\oe.dict=dc/\oe.data = .fields vs
abbrev TH:=Ends->St->Addr->Option Addr->Hp->Prop
def PH (X:Cx) (hs:List ExceptHandler) (th:TH):Prop:=
  ∀(pins:List (Addr×Obj)) (s:Shared) (σ:St) (H:Hp) (D:Ends) (e C:Addr) (dc:Option Addr),Inv X pins σ H s->Met X pins H s.heap e (.ref C) dc->th D σ C dc H->wpAny (model X.prog X.w) X.A (handleBy (.ref e) X.env hs) (SP X pins D) X.xe s
def zv0:TH:=fun _ _ _ _ _=>False
def zuy (i:Nat) (D:Ends):Ends:={ nx:=fun σ H=>D.nx (σ.set i none) H,rt:=D.rt,bk:=fun σ H=>D.bk (σ.set i none) H,ct:=fun σ H=>D.ct (σ.set i none) H }
def thAs (K:PySem.W.Frag) (i:Nat) (Dc:Addr) (ts:TS) (thr:TH):TH:=fun D σ C dc H=>∃b,PySem.W.mroIn K C (.ref Dc)=some b/\
  if b=true then ∀e,H e=none->ts (zuy i D) (σ.set i (some (.ref e))) (upd H e (excH e C dc)) else thr D σ C dc H
def sTry (tb:(St->XK)->TS) (th:TH):TS:=fun D σ H=>tb (fun σ' cls dc H'=>∃C,cls = .ref C/\th D σ' C dc H') D σ H
def zuz (sp:Sp) (dvs:List V) (Es:St->XK) (t:TA):TE:=fun σ H Q=>t σ H fun vs H1=>sp (vs++dvs) H1 Q (Es σ)
section
variable {X:Cx}{pins:List (Addr×Obj)}{σ:St}{H:Hp}{s:Shared}
theorem zji {v:Value}{xe:Value->Shared->Prop}(I:Inv X pins σ H s):Inv (X.inSuite v xe) pins σ H s:=
  ⟨⟨I.ok.mod,I.ok.kind,I.ok.glob,I.ok.blt,I.ok.above,I.ok.inj,I.ok.has,I.ok.cab,(fun z=>absurd z Bool.false_ne_true),I.ok.frames,I.ok.stk,I.ok.exf,I.ok.bs,I.ok.bsz,I.ok.noex,I.ok.exfs,I.ok.funs,I.ok.frf⟩,
    I.os,I.bare,I.base,I.loc,I.cell,I.free,I.freeC,I.pin,I.hok,I.len⟩
theorem zc3 {v:Value}{xe:Value->Shared->Prop}(ok:X.Ok) (I:Inv (X.inSuite v xe) pins σ H s):Inv X pins σ H s:=⟨ok,I.os,I.bare,I.base,I.loc,I.cell,I.free,I.freeC,I.pin,I.hok,I.len⟩
theorem zs0 {xe:Value->Shared->Prop}(I:Inv X pins σ H s):Inv (X.inTry (X.pn++pins) xe) [] σ H s:=
  ⟨⟨I.ok.mod,I.ok.kind,I.ok.glob,I.ok.blt,I.ok.above,I.ok.inj,I.ok.has,I.ok.cab,I.ok.hd,I.ok.frames,I.ok.stk,I.ok.exf,I.ok.bs,I.ok.bsz,I.ok.noex,I.ok.exfs,I.ok.funs,I.ok.frf⟩,
    I.os,I.bare,I.base,I.loc,I.cell,I.free,I.freeC,fun p hp=>I.pin p ((List.mem_append.mp hp).elim id fun z=>absurd z (by simp)),I.hok,I.len⟩
theorem zdj {pins':List (Addr×Obj)}{xe:Value->Shared->Prop}(ok:X.Ok) (I:Inv (X.inTry (X.pn++pins) xe) pins' σ H s):Inv X pins σ H s:=
  ⟨ok,I.os,I.bare,I.base,I.loc,I.cell,I.free,I.freeC,fun p hp=>I.pin p (List.mem_append_left _ hp),I.hok,I.len⟩
end
section
variable {X:Cx}{CX:CXT}{k i:Nat}{f Dc:Addr}{ps:List Str}{sp:Sp}{x n:Str}{p pos hpos:Pos}{e:Expr}{es:List Expr}{t:TA}{Es:St->XK}{b₀:Stmt}{suite body:List Stmt}{h₀:ExceptHandler}{rest hs:List ExceptHandler}{ts:TS}{thr th:TH}{tb:(St->XK)->TS}
theorem zu0 (F:HasX X.prog X.w X.K X.mg X.base x ps k sp) (xe:zux X Es) (hr:Room k X.A) (hg:Gl X x) (ha:PA X (e::es) t) (hdb:(x == ("__debug__" : Str))=false:=by decide)
    (he:starEach (e::es) X.env=(false,eval e X.env)::starEach es X.env:=by rfl) (hpl:(backTo pos (starEach es X.env)).any (·.1)=false:=by rfl):PE X (.Call (.Name x p) (e::es) [] pos) (zuz sp [] Es t):=by
  obtain⟨f,fd,a,kp,_,b,G⟩:=F
  intro pins s σ H Q I h
  refine wpAny_Call_Name_kw (zdb I hg a ?_ hdb)
  refine PySem.W.callWith_K (h₀:=X.base) I.ok.mod.kin kp (thn (ha pos pins s σ H _ I h) fun us s1 ⟨vs,H1,I1,r,q⟩=>⟨I1.kIn,?_⟩) he hpl
  have r2:Vals (vs++[]) (us++[]):=r.append .nil
  have hl:(us++[]).length=ps.length:=by rw[←r2.length];exact G.len _ _ _ _ q
  refine wpAny_call (codeAny_mono (G.run X.A X.stack s1 H1 ⟨us,[]⟩ (us++[]) (vs++[]) Q (Es σ) hr I1.env0 ((Binds.all b) s1 us I1.kIn hl) r2 q) fun r s' hq=>?_)
  cases r with
  | error e=>exact xe pins σ H1 s1 e s' I1 hq
  | ok fl=>
    cases fl with
    | ret u=>exact I1.after hq
    | next=>exact False.elim hq
    | brk=>exact False.elim hq
    | cont=>exact False.elim hq
theorem zu1 (x:XFn X) (hb:∀pn xe (Es:St->XK),zux (X.inTry pn xe) Es->PSs (X.inTry pn xe) body (tb Es)) (hh:PH X (h₀::hs) th):PS X (.Try body (h₀::hs) [] [] pos) (sTry tb th):=by
  intro pins s σ H D I h
  refine wpAny_Try_except ?_
  refine wpAny_mono (hb (X.pn++pins) (fun e s₁=>wpAny (model X.prog X.w) X.A (noteFrame e X.env) (fun _ s₂=>wpAny (model X.prog X.w) X.A (setFlight e none) (fun _ s₃=>wpAny (model X.prog X.w) X.A (handleBy e X.env (h₀::hs)) (SP X pins D) X.xe s₃) X.xe s₂) X.xe s₁)
    (fun σ' cls dc H'=>∃C,cls = .ref C/\th D σ' C dc H') (fun pins' σ' H' s' u s'' I' hcx=>?_) [] s σ H D (zs0 I) h) (fun fl s1 q=>?_) fun _ _ z=>z
  · refine zsz (zdj I.ok I') x.st x.fr hcx fun e cls dc H2 h' hu I2 met hE=>?_
    subst hu
    obtain⟨C,rfl,hth⟩:=hE
    exact hh pins _ σ' H2 D e C dc I2 met hth
  · cases fl with
    | next=>
      obtain⟨σ',H',J,q⟩:=q
      exact wpAny_execs_nil ⟨σ',H',zdj I.ok J,q⟩
    | brk=>
      obtain⟨σ',H',J,q⟩:=q
      exact⟨σ',H',zdj I.ok J,q⟩
    | cont=>
      obtain⟨σ',H',J,q⟩:=q
      exact⟨σ',H',zdj I.ok J,q⟩
    | ret u=>
      obtain⟨v,σ',H',J,r,q⟩:=q
      exact⟨v,σ',H',zdj I.ok J,r,q⟩
theorem zu2:PH X [] zv0:=fun _ _ _ _ _ _ _ _ _ _ h=>h.elim
theorem zv1 (xf:XFn X) (hg:Gl X x) (hm:X.mg x=some (.ref Dc)) (cd:XCatch X.K Dc) (hN:X.N.Nodup) (hi:X.N[i]? = some n) (hl:X.env.scope.names.lookup n=some .local)
    (hsu:∀v xe,PSs (X.inSuite v xe) (b₀::suite) ts) (hr:PH X rest thr) (hdb:(x == ("__debug__" : Str))=false:=by decide) :
    PH X (.ExceptHandler (some (.Name x p)) (some n) (b₀::suite) hpos::rest) (thAs X.K i Dc ts thr):=by
  intro pins s σ H D e C dc I met h
  obtain⟨oe,vs,T,oT,tvs,he,hc,hdc,hd,h1,hTe,hT,dT,h3,F1,F2⟩:=met
  obtain⟨b,hb,h⟩:=h
  refine wpAny_handleBy_cons (codeAny_handlers_test (zdb (X:=X.inSuite (.ref e) X.xe) (zji I) hg hm ?_ hdb)) (by intro q;cases q)
  refine zp8 (K:=X.K) I.kIn he hc cd hb ?_
  cases b with
  | false=>
    rw[if_neg (by decide)] at h
    exact hr pins s σ H D e C dc I ⟨oe,vs,T,oT,tvs,he,hc,hdc,hd,h1,hTe,hT,dT,h3,F1,F2⟩ h
  | true=>
    rw[if_pos rfl] at h
    refine codeAny_handlers_suite_as ?_
    refine wpAny_setFlight_none he hd h1 hT dT (Array.getElem?_eq_some_iff.mp h3).1 ?_
    have oth:∀b,b≠T->(s.heap.update T (Obj.mapFields (·.setIfInBounds 3 .none))).get? b=s.heap.get? b:=fun b hb=>Heap.get?_update_other _ _ (Ne.symm hb)
    have I1:Inv X pins σ H { s with heap:=s.heap.update T (Obj.mapFields (·.setIfInBounds 3 .none)) }:=I.turnedL (t':=s.toks) (ch:=[T]) (fun b o hb q=>by rw[oth b (fun z=>hb (by simp[z]))];exact q) fun b hb=>by rw[List.mem_singleton.mp hb];exact F2
    have he1:=(oth e hTe.symm).trans he
    have I2:=I1.track (a:=e) (o:=excH e C dc) F1 xf.ex ⟨⟨oe,vs,he1,hc,hdc,hd⟩,⟨oe,he1⟩,fun g1 g2 ⟨oe',vs',q1,q2⟩ kk=>⟨oe',vs',kk _ q1,q2⟩⟩
    refine zfj I2 hN hi (.inl hl) (v:=.ref e) rfl (fun s2 I3=>?_) (.inr hl)
    refine thn (hsu (.ref e) _ pins s2 _ _ (zuy i D) (zji I3) (h e F1.1)) fun fl s3 q=>?_
    cases fl with
    | next=>
      obtain⟨σ',H',J,q⟩:=q
      exact zid (zc3 I.ok J) hN hi hl fun s5 J5=>⟨_,H',J5,q⟩
    | brk=>
      obtain⟨σ',H',J,q⟩:=q
      exact zid (zc3 I.ok J) hN hi hl fun s5 J5=>⟨_,H',J5,q⟩
    | cont=>
      obtain⟨σ',H',J,q⟩:=q
      exact zid (zc3 I.ok J) hN hi hl fun s5 J5=>⟨_,H',J5,q⟩
    | ret u=>
      obtain⟨v,σ',H',J,r,q⟩:=q
      exact zid (zc3 I.ok J) hN hi hl fun s5 J5=>⟨v,_,H',J5,r,q⟩
end
end L2
namespace L2
def XOk (K:PySem.W.Frag) (C:PySem.Addr):Prop:=∃bm,XObjK K C bm/\UnderV bm
end L2
namespace L2
open PySem
def zll (K:PySem.W.Frag) (C:Addr):Bool:=match K.lookup C with
  | some ⟨.type t,_,.cls cd,sl⟩=>t == "type" && ((match cd.mro with | .ref c::bm=>c == C&&(bm.contains (.type "ValueError")&&(bm.contains (.type "BaseException")&&(!bm.contains (.type "AttributeError") && !bm.contains (.type "NameError")))) | _=>false)&&(!cd.hasDel &&
      (match sl.toList with | [_,_,_,_,some (.builtin i),_]=>i == "ValueError.__new__" | _=>false)))
  | _=>false
theorem zu3 {K:PySem.W.Frag}{C:Addr}(h:zll K C=true):XOk K C:=by
  unfold zll at h
  split at h
  · rename_i t dd cd sl hk
    rw[Bool.and_eq_true,Bool.and_eq_true,Bool.and_eq_true] at h
    obtain⟨h1,h2,h3,h4⟩:=h
    split at h2
    · rename_i c bm hm
      split at h4
      · rename_i k0 k1 k2 k3 i k5 hs
        simp only [Bool.and_eq_true,beq_iff_eq,Bool.not_eq_true'] at h1 h2 h3 h4
        obtain⟨rfl,a1,a2,a3,a4⟩:=h2
        subst h1 h4
        refine⟨bm,⟨cd.name,cd.qualname,cd.ns,cd.bases,cd.hasDict,cd.slotNames,cd.subclasses,cd.abstract,cd.collection,dd,k0,k1,k2,k3,k5,?_⟩,⟨a1,a2,a3,a4⟩⟩
        rw[hk]
        obtain⟨x1,x2,x3,x4,x5,x6,x7,x8,x9,y1,y2⟩:=cd
        dsimp only at hm h3
        subst hm h3
        obtain⟨l⟩:=sl
        dsimp only at hs
        subst hs
        rfl
      · cases h4
    · cases h2
  · cases h
end L2
namespace L2
open PySem PySem.Spec PyProof.Rows
structure XGet (K:PySem.W.Frag) (C:Addr):Prop where
  ga:PySem.W.findIn K (.ref C) "__getattribute__" = some (some (.builtin "BaseException.__getattribute__"))
  gn:PySem.W.findIn K (.ref C) "__getattr__" = some none
  bx:PySem.W.mroIn K C (.type "BaseException")=some true
  hd:PySem.W.hasDictIn K C=true
section
variable {prog:Program}{w:World}{A:Around}{E:Value->Shared->Prop}{s:Shared}{K:PySem.W.Frag}{x C:Addr}{ox:Obj}{od:Option Obj}{name:Str}{v:Value}{expr:Bool}{Q:Value->Shared->Prop}
theorem zof {Qf:Prop}(X:K.In s.heap) (I:PySem.W.InstAt s.heap x ox C od) (g:XGet K C)
    (h:wpAny (model prog w) A.in1 (Builtin.«object.__getattribute__» ⟨[.ref x,.str name s.toks],[]⟩)
      (fun fin s'=>match fin with | .done (.ret v)=>wpAny (model prog w) A (handedOut v) Q E s' | _=>False) (fun _ _=>False) { s with toks:=s.toks+1 }) :
    wpAny (model prog w) A (getAttr (.ref x) name expr) Q E s:=by
  have FB:=PySem.F.attrBase_ValueError
  refine wpAny_bind (wpAny_mkText (wpAny_holding (wpAny_bind (I.type _ _ _ _ (fun _ _ e=>e) (wpAny_bind (PySem.W.looks_findIn X g.ga _ _ _ _ (fun _ _ e=>e) ?_))))))
  dsimp only
  rw[show (onTheHeap (Value.ref C)&&Value.builtin "BaseException.__getattribute__" == Value.builtin "object.__getattribute__")=false from by rw[show (Value.builtin "BaseException.__getattribute__" == Value.builtin "object.__getattribute__")=false from by decide +kernel,Bool.and_false],if_neg (by decide)]
  refine wpAny_bind (PySem.W.looks_hook (mc:=.ref C) X (r:=none) (by rw[if_pos (show onTheHeap (Value.ref C)=true from rfl)];exact g.gn) _ _ _ _ (fun _ _ e=>e) (wpAny_bind (wpAny_attempt (wpAny_holding ?_))))
  unfold callGetattribute
  rw[show (expr&&onTheHeap (Value.builtin "BaseException.__getattribute__"))=false from by cases expr<;>rfl,if_neg (by decide)]
  unfold boundAndCalled
  rw[FB.ga.bind]
  refine wpAny_bind (wpAny_pure ?_)
  show wpAny _ _ (call (.builtin "BaseException.__getattribute__") [.ref x,.str name s.toks]) _ _ _
  refine wpAny_call ?_
  refine codeAny_call_builtin FB.ga.plain PySem.F.entry_bexc_ga ?_
  refine @PySem.W.check_slot (model prog w) _ _ { s with toks:=s.toks+1 } "BaseException.__getattribute__" "BaseException" "__getattribute__" (.ref x) [.str name s.toks] [] _ (by decide +kernel) (by decide +kernel) (I.type.andThen (PySem.W.looks_mroIn X g.bx)) (PySem.F.args_bexc_ga (.ref x) (.str name s.toks)) ?_
  refine wpAny_mono h (fun fin s' z=>?_) fun _ _ z=>z.elim
  rcases fin with (_ | _ | _ | _) | _<;>first | exact z | exact z.elim
theorem zhj (X:K.In s.heap) (I:PySem.W.InstAt s.heap x ox C od) (g:XGet K C)
    (hf:PySem.W.findObj K C od name=some (.value v)) (hh:PySem.W.handedIn v=true) (h:Q v { s with toks:=s.toks+1 }):wpAny (model prog w) A (getAttr (.ref x) name expr) Q E s:=by
  refine zof (Qf:=True) X I g ?_
  obtain⟨hh',g,d,t,os⟩:=s
  have L0:=I.type (M:=model prog w)
  have L1:=PySem.W.looks_find (M:=model prog w) X I hf
  unfold Builtin.«object.__getattribute__»
  refine wpAny_bind (wpAny_pure (wpAny_bind (wpAny_pure (wpAny_bind (L0.at (wpAny_bind (L1.at ?_)))))))
  refine wpAny_pure ?_
  show wpAny _ _ (handedOut v) _ _ _
  rw[PySem.W.handedOut_of hh];exact wpAny_pure h
end
def zu4 (K:PySem.W.Frag) (ta:TE) (f:Str):TE:=fun σ H Q=>ta σ H fun x H1=>∃a C d fs v,x = .ref a/\H1 a=some (excH a C (some d))/\H1 d=some (.xd fs)/\XGet K C/\NoAttr K C f/\fs.lookup f=some v/\Q v H1
section
variable {X:Cx}{pins:List (Addr×Obj)}{σ:St}{H:Hp}{s:Shared}{a C d:Addr}{fs:List (Str×V)}{f:Str}{v:V}{A:Around}{E:Value->Shared->Prop}
theorem zkl {b:Bool}{Q:Value->Shared->Prop}(I:Inv X pins σ H s) (e:H a=some (excH a C (some d))) (ed:H d=some (.xd fs)) (c:XGet X.K C) (n:NoAttr X.K C f) (l:fs.lookup f=some v)
    (h:∀u s',Inv X pins σ H s'->RelV v u->Q u s'):wpAny (model X.prog X.w) A (getAttr (.ref a) f b) Q E s:=by
  obtain⟨⟨oe,vs,h1,h2,h3,h4⟩,_,_⟩:=(show ObjOk X.prog X.w H s.heap a (excH a C (some d)) from I.hok a _ e)
  obtain⟨mA,ns,r⟩:=(show ObjOk X.prog X.w H s.heap d (.xd fs) from I.hok d _ ed)
  obtain⟨u,hu,ru⟩:=RelO.some_of (v:=v) (o:=mA f) (by rw[←l];exact r f)
  obtain⟨od,ho,hl⟩:=zd8 ns
  have J:PySem.W.InstAt s.heap a oe C (some od):=⟨h1,h2,by unfold PySem.W.notCls;rw[h4],by rw[h3];exact ho⟩
  exact zhj I.kIn J c (PySem.W.findObj_own c.hd n rfl (by rw[hl,hu])) (zft ru) (h u _ (I.tok _) ru)
end
section
variable {X:Cx}{e:Expr}{f:Str}{pos:Pos}{ta:TE}
theorem zs1 (he:PE X e ta) (hb:attributeBase e f X.env (eval e X.env)=eval e X.env):PE X (.Attribute e f pos) (zu4 X.K ta f):=by
  intro pins s σ H Q I h
  refine zj1 hb (thn (he pins s σ H _ I h) fun u s1 hq0=>?_)
  obtain⟨x,H1,I1,rx,a,C,d,fs,v,ex,ea,ed,c,n,l,q⟩:=hq0
  subst ex
  obtain rfl:u=Value.ref a:=rx
  exact zkl I1 ea ed c n l fun u' s2 I2 ru=>⟨v,H1,I2,ru,q⟩
end
structure XIsi (K:PySem.W.Frag) (C:Addr):Prop where
  ha:PySem.W.findIn K (.ref C) "__class__" = some (some (.builtin "object.__class__"))
  hn:PySem.W.specialIn K (.builtin "object.__class__") "__get__" = some (some (.builtin "getset_descriptor.__get__"))
  htk:PySem.W.takesIn K (.builtin "object.__class__")=some true
  hm:PySem.W.mroIn K C (.type "object")=some true
end L2
namespace L2
open PySem
def xchk (C:Addr) (o:Obj):Bool:=(match o with
  | ⟨.type t,_,.cls cd,sl⟩=>t == "type" && ((match cd.mro with | .ref c::bm=>c == C&&(bm.contains (.type "ValueError")&&(bm.contains (.type "BaseException")&&(!bm.contains (.type "AttributeError") && !bm.contains (.type "NameError")))) | _=>false)&&(!cd.hasDel &&
      (match sl.toList with | [_,_,_,_,some (.builtin i),_]=>i == "ValueError.__new__" | _=>false)))
  | _=>false)&&(match o.data with | .cls cd=>zgx cd.mro | _=>false)
theorem zog {K:PySem.W.Frag}{C:Addr}{c0:Value}{dd:Option Addr}{cd:ClassData}{sl:Array (Option Value)}(l:K.lookup C=some ⟨c0,dd,.cls cd,sl⟩) (h:xchk C ⟨c0,dd,.cls cd,sl⟩=true):zll K C=true/\zkj K C=true:=by
  unfold xchk at h
  rw[Bool.and_eq_true] at h
  refine⟨?_,?_⟩
  · unfold zll
    rw[l]
    cases c0<;>first | exact h.1 | (have:=h.1;cases this)
  · unfold zkj PySem.W.clsIn
    rw[l]
    exact h.2
theorem xcls_of {K:PySem.W.Frag}{C:Addr}{c0:Value}{dd:Option Addr}{cd:ClassData}{sl:Array (Option Value)}(l:K.lookup C=some ⟨c0,dd,.cls cd,sl⟩) (h:xchk C ⟨c0,dd,.cls cd,sl⟩=true) (h1:PySem.W.hasDictIn K C=true)
    (h2:PySem.W.findIn K (.ref C) "__setattr__" = some (some (.builtin "object.__setattr__"))):XCls K C:=⟨h1,(zog l h).2,h2⟩
theorem xok_at {K:PySem.W.Frag}{C:Addr}{c0:Value}{dd:Option Addr}{cd:ClassData}{sl:Array (Option Value)}(l:K.lookup C=some ⟨c0,dd,.cls cd,sl⟩) (h:xchk C ⟨c0,dd,.cls cd,sl⟩=true):XOk K C:=zu3 (zog l h).1
end L2
namespace L2
open PySem PySem.Spec PyProof.Rows
section
variable {X:Cx}{k:Nat}{C:Addr}{ps:List Str}{sp:Sp}{E:XK}{x:Str}{p pos cpos:Pos}{e:Expr}{es:List Expr}{t:TA}
theorem zgh (M:HasM X.prog X.w X.K X.mg X.base C "__init__" ps k sp) (xo:XOk X.K C) (hr:Room (k+1) X.A) (xe:XeIs X E) (hg:Gl X x) (hm:X.mg x=some (.ref C)) (hps:ps.length<=1000) (ha:PA X (e::es) t)
    (hdb:(x == ("__debug__" : Str))=false:=by decide) (he:starEach (e::es) X.env=(false,eval e X.env)::starEach es X.env:=by rfl) (hpl:(backTo cpos (starEach es X.env)).any (·.1)=false:=by rfl) :
    PS X (.Raise (some (.Call (.Name x p) (e::es) [] cpos)) none pos) (zrf C sp [] E (fun _ _ _=>False) t):=by
  obtain⟨f,fd,m,b,F⟩:=M
  obtain⟨bm,xo,U⟩:=xo
  exact zp7 ⟨xo,U,m.at_,m.fn⟩ F hr xe (fun _ _ _ _ _ _ _ z=>z.elim) hg hm (.all b) .nil hps ha hdb he hpl
end
theorem zp9 {X:Cx}{e:Expr}{f:Str}{pos:Pos}{ta:TE}(K:PySem.W.Frag) (h:X.K=K) (he:PE X e ta) (hb:attributeBase e f X.env (eval e X.env)=eval e X.env):PE X (.Attribute e f pos) (zu4 K ta f):=h▸zs1 he hb
section
variable {prog:Program}{w:World}{A:Around}{E:Value->Shared->Prop}{s:Shared}{K:PySem.W.Frag}{x C:Addr}{ox:Obj}{od:Option Obj}{name:Str}{v:Value}{fill expr:Bool}{tk:Tok}
theorem zs2 {Q:Value->Shared->Prop}(X:K.In s.heap) (I:PySem.W.InstAt s.heap x ox C od) (g:XGet K C)
    (h:wpAny (model prog w) A.in1 (Builtin.«object.__getattribute__» ⟨[.ref x,.str name tk],[]⟩)
      (fun fin s'=>match fin with | .done (.ret v)=>wpAny (model prog w) A (handedOut v) Q E s' | _=>False) (fun _ _=>False) s) :
    wpAny (model prog w) A (getAttrBy (.ref x) (.str name tk) fill expr) Q E s:=by
  have FB:=PySem.F.attrBase_ValueError
  unfold getAttrBy
  refine wpAny_holding (wpAny_bind (I.type _ _ _ _ (fun _ _ e=>e) (wpAny_bind (PySem.W.looks_findIn X g.ga _ _ _ _ (fun _ _ e=>e) ?_))))
  dsimp only
  rw[show (onTheHeap (Value.ref C)&&Value.builtin "BaseException.__getattribute__" == Value.builtin "object.__getattribute__")=false from by rw[show (Value.builtin "BaseException.__getattribute__" == Value.builtin "object.__getattribute__")=false from by decide +kernel,Bool.and_false],if_neg (by decide)]
  refine wpAny_bind (PySem.W.looks_hook (mc:=.ref C) X (r:=none) (by rw[if_pos (show onTheHeap (Value.ref C)=true from rfl)];exact g.gn) _ _ _ _ (fun _ _ e=>e) (wpAny_bind (wpAny_attempt (wpAny_holding ?_))))
  unfold callGetattribute
  rw[show (expr&&onTheHeap (Value.builtin "BaseException.__getattribute__"))=false from by cases expr<;>rfl,if_neg (by decide)]
  unfold boundAndCalled
  rw[FB.ga.bind]
  refine wpAny_bind (wpAny_pure ?_)
  show wpAny _ _ (call (.builtin "BaseException.__getattribute__") [.ref x,.str name tk]) _ _ _
  refine wpAny_call ?_
  refine codeAny_call_builtin FB.ga.plain PySem.F.entry_bexc_ga ?_
  refine @PySem.W.check_slot (model prog w) _ _ s "BaseException.__getattribute__" "BaseException" "__getattribute__" (.ref x) [.str name tk] [] _ (by decide +kernel) (by decide +kernel) (I.type.andThen (PySem.W.looks_mroIn X g.bx)) (PySem.F.args_bexc_ga (.ref x) (.str name tk)) ?_
  refine wpAny_mono h (fun fin s' z=>?_) fun _ _ z=>z.elim
  rcases fin with (_ | _ | _ | _) | _<;>first | exact z | exact z.elim
theorem zu5 {Q:Option Value->Shared->Prop}(X:K.In s.heap) {od:Obj}(I:PySem.W.InstAt s.heap x ox C (some od)) (g:XGet K C) (i:XIsi K C) (h:Q (some (.ref C)) { s with toks:=s.toks+1 }):wpAny (model prog w) A (getAttr? (.ref x) "__class__") Q E s:=by
  have hf:PySem.W.findObj K C (some od) "__class__" = some (.bind (.builtin "getset_descriptor.__get__") (.builtin "object.__class__")):=PySem.W.findObj_data (by obtain⟨cd,hc,_⟩:=PySem.W.any_some g.hd;rw[hc];rfl) i.ha i.hn i.htk
  refine wpAny_bind (wpAny_mkText (wpAny_bind (wpAny_attempt (zs2 (s:={ s with toks:=s.toks+1 }) X I g ?_))))
  have L0:=I.type (M:=model prog w)
  have L1:=PySem.W.looks_find (M:=model prog w) X I hf
  unfold Builtin.«object.__getattribute__»
  refine wpAny_bind (wpAny_pure (wpAny_bind (wpAny_pure (wpAny_bind (L0 _ _ _ _ (fun _ _ e=>e) (wpAny_bind (L1 _ _ _ _ (fun _ _ e=>e) ?_)))))))
  show wpAny (model prog w) A.in1 (holding [.builtin "object.__class__"] (call (.builtin "getset_descriptor.__get__") [.builtin "object.__class__",.ref x,.ref C]) >>= ret) _ _ _
  refine wpAny_bind (wpAny_holding (wpAny_call (PySem.W.class_get (s:={ s with toks:=s.toks+1 }) X I i.hm ?_)))
  exact wpAny_pure (PySem.W.handed_on rfl (wpAny_pure h))
theorem zqa {od:Obj}(g:XGet K C) (i:XIsi K C):PySem.W.KitX K (.ref x) (.ref C) (fun h=>PySem.W.InstAt h x ox C (some od)) where
  ty:=fun _ _ _ I=>I.type
  it:=fun _ _ X _=>by
    obtain⟨cdD,hcD,_⟩:=PySem.W.any_some g.hd
    unfold PySem.W.clsIn at hcD
    split at hcD
    · rename_i c' d' cd' sl' ho
      intro A' Q' E' s' k q
      unfold isType loadHead
      exact wpAny_bind (wpAny_loadPart (k _ _ (X _ _ ho)) (wpAny_pure q))
    · cases hcD
  ne:=fun h tp dd its n sl X htp=>by
    obtain⟨cdD,hcD,_⟩:=PySem.W.any_some g.hd
    refine Bool.eq_false_iff.mpr fun q=>?_
    have e:C=tp:=Value.ref.inj (beq_iff_eq.mp q)
    subst e
    unfold PySem.W.clsIn at hcD
    split at hcD
    · rename_i c' d' cd' sl' ho
      have z:=(X _ _ ho).symm.trans htp
      cases z
    · cases hcD
  ca:=fun X I k=>zu5 X I g i k
end
section
variable {X:Cx}
theorem zoh {pins:List (Addr×Obj)}{σ:St}{H:Hp}{s:Shared}{a C d:Addr}{fs:List (Str×V)}{c:Value}{b:Bool}{Q:VK}(I:Inv X pins σ H s) (ea:H a=some (excH a C (some d))) (ed:H d=some (.xd fs)) (g:XGet X.K C) (i:XIsi X.K C) (e:PySem.W.kitOne X.K (.ref C) c=some b) (q:Q (.bl b) H) :
    wpAny (model X.prog X.w) X.A (call (.builtin "isinstance") [.ref a,c]) (EP X pins σ Q) X.xe s:=by
  obtain⟨⟨oe,vs,h1,h2,h3,h4⟩,_,_⟩:=(show ObjOk X.prog X.w H s.heap a (excH a C (some d)) from I.hok a _ ea)
  obtain⟨mA,ns,r⟩:=(show ObjOk X.prog X.w H s.heap d (.xd fs) from I.hok d _ ed)
  obtain⟨od,ho,hl⟩:=zd8 ns
  have J:PySem.W.InstAt s.heap a oe C (some od):=⟨h1,h2,by unfold PySem.W.notCls;rw[h4],by rw[h3];exact ho⟩
  exact PySem.W.kia_one (zqa g i) I.kIn J e (fun z=>nomatch z) fun tk=>⟨.bl b,H,I.tok tk,rfl,q⟩
theorem zmk (K:PySem.W.Frag) (h:X.K=K):zd0 X (.builtin "isinstance") (fun xs H Q=>∃a C d fs n b,xs = [.ref a,V.ty n]/\H a=some (excH a C (some d))/\H d=some (.xd fs)/\XGet K C/\XIsi K C/\PySem.W.kitOne K (.ref C) (.type n)=some b/\Q (.bl b) H):=by
  subst h
  intro pins s σ H xs us Q I r h
  obtain⟨a,C,d,fs,n,b,rfl,ea,ed,g,i,e,q⟩:=h
  obtain⟨u,w',rfl,ru,rw'⟩:=zo7 r
  cases ru
  cases rw'
  exact zoh I ea ed g i e q
theorem zcv (K:PySem.W.Frag) (h:X.K=K):zd0 X (.builtin "isinstance") (fun xs H Q=>∃a C d fs D b,xs = [.ref a,.ref D]/\H a=some (excH a C (some d))/\H d=some (.xd fs)/\XGet K C/\XIsi K C/\PySem.W.kitOne K (.ref C) (.ref D)=some b/\Q (.bl b) H):=by
  subst h
  intro pins s σ H xs us Q I r h
  obtain⟨a,C,d,fs,D,b,rfl,ea,ed,g,i,e,q⟩:=h
  obtain⟨u,w',rfl,ru,rw'⟩:=zo7 r
  cases ru
  cases rw'
  exact zoh I ea ed g i e q
end
open Sem (wp)
namespace Rv
theorem slot_next:Slot "list_reverseiterator" "__next__" "list_reverseiterator.__next__":=
  .of (owner:="list_reverseiterator") (n:="__next__") (by rw[typeLookup_type,builtinLookup_eq_fast];kernel_rfl) (by decide +kernel) (by decide +kernel) (by decide +kernel)
    (by first | exact .inl (by decide +kernel) | exact .inr (by decide +kernel)) (by rw[isSubtype_type];kernel_rfl)
theorem slot_iter:Slot "list_reverseiterator" "__iter__" "list_reverseiterator.__iter__":=
  .of (owner:="list_reverseiterator") (n:="__iter__") (by rw[typeLookup_type,builtinLookup_eq_fast];kernel_rfl) (by decide +kernel) (by decide +kernel) (by decide +kernel)
    (by first | exact .inl (by decide +kernel) | exact .inr (by decide +kernel)) (by rw[isSubtype_type];kernel_rfl)
theorem entry_next:entryFor table "list_reverseiterator.__next__" = some Builtin.«list_reverseiterator.__next__»:=entryFor_of_tree (by kernel_rfl)
theorem entry_iter:entryFor table "list_reverseiterator.__iter__" = some Builtin.«dict_keyiterator.__iter__»:=
  entryFor_alias (id':="dict_keyiterator.__iter__") (by kernel_rfl) (by first | rfl | decide +kernel | (unfold String.splitOn;simp +decide [String.splitOnAux])) (by decide +kernel) (by kernel_rfl)
theorem owner:Manifest.owners.lookup (String.ofList ['r','o','t','a','r','e','t','i','e','s','r','e','v','e','r','_','t','s','i','l'].reverse)=some Manifest.sig_list_reverseiterator:=by kernel_rfl
theorem args_next (a:Value):argsOk "list_reverseiterator.__next__" ⟨[a],[]⟩:=by
  unfold argsOk
  rw[signature?_of (id:="list_reverseiterator.__next__") (n:="__txen__".toList) (o:="rotaretiesrever_tsil".toList) (by kernel_rfl) owner]
  kernel_rfl
theorem args_iter (a:Value):argsOk "list_reverseiterator.__iter__" ⟨[a],[]⟩:=by
  unfold argsOk
  rw[signature?_of (id:="list_reverseiterator.__iter__") (n:="__reti__".toList) (o:="rotaretiesrever_tsil".toList) (by kernel_rfl) owner]
  kernel_rfl
theorem mro_reversed:mroOf (.type "reversed")=pure [.type "reversed",.type "object"]:=by rw[mroOf_type];kernel_rfl
theorem zml:typeLookup (.type "reversed") "__new__" = pure (some (.builtin "reversed.__new__")):=by rw[typeLookup_type,builtinLookup_eq_fast];kernel_rfl
theorem made:Bind.madeBy (.type "reversed")=pure (some "reversed.__new__"):=madeBy_type mro_reversed zml (by decide +kernel)
theorem typeCall (a:Value):checkTypeCall "reversed" ⟨[a],[]⟩=pure ():=by kernel_rfl
theorem newCall (a:Value):checkBuiltinCall "reversed.__new__" ⟨[.type "reversed",a],[]⟩=pure ():=by kernel_rfl
theorem entry_new:entryFor table "reversed.__new__" = some Builtin.«reversed.__new__»:=entryFor_of_tree (by kernel_rfl)
theorem sub_no:isSubtype (.type "list_reverseiterator") (.type "reversed")=pure false:=by rw[isSubtype_type];kernel_rfl
theorem sub_self:isSubtype (.type "reversed") (.type "reversed")=pure true:=by rw[isSubtype_type];kernel_rfl
end Rv
def IsRev (h:Heap) (it l:Addr) (j:Int):Prop:=∃o,h.get? it=some o/\o.cls = .type "list_reverseiterator"/\o.data = .fields #[.ref l,.int j 0]
theorem IsRev.typeIs {s:Shared}{it l:Addr}{j:Int}(x:IsRev s.heap it l j):s.TypeIs (.ref it) "list_reverseiterator":=let ⟨o,ho,hc,_⟩:=x;⟨o,ho,hc⟩
theorem IsRev.at {h h':Heap}{it l:Addr}{j:Int}(x:IsRev h it l j) (e:∀o,h.get? it=some o->h'.get? it=some o):IsRev h' it l j:=let ⟨o,ho,r⟩:=x;⟨o,e _ ho,r⟩
section
variable {prog:Program}{w:World}{A:Around}{E:Value->Shared->Prop}{s:Shared}
theorem zlm {it l:Addr}{j:Int}{Q:Value->Shared->Prop}(hit:IsRev s.heap it l j) (h:Q (.ref it) s):wpAny (model prog w) A (pyIter (.ref it)) Q E s:=by
  refine wpAny_pyIter_slot hit.typeIs Rv.slot_iter (wpAny_call_entry Rv.slot_iter hit.typeIs Rv.entry_iter ?_ (Rv.args_iter _))
  show wpAny _ _ (ret (.ref it)) _ _ s
  exact wpAny_pure ⟨_,rfl,"list_reverseiterator",_,hit.typeIs,Rv.slot_next.lookup,h⟩
theorem zqb {it l:Addr}{j:Nat}{items:Array Value}{x:Value}{Q:Option Value->Shared->Prop}(hit:IsRev s.heap it l (j:Int)) (hl:s.heap.IsList l items) (hx:items[j]? = some x)
    (hQ:∀h',IsRev h' it l ((j:Int)-1)->Heap.SameBut it s.heap h'->Q (some x) { s with heap:=h' }):wpAny (model prog w) A (pyNext (.ref it)) Q E s:=by
  obtain⟨o,ho,hc,hd⟩:=id hit
  obtain⟨ol,hol,_,nl,hdl⟩:=hl
  unfold pyNext
  refine wpAny_bind (wpAny_attempt (wpAny_callSpecial?_slot (name:=Str.ofString "__next__") hit.typeIs Rv.slot_next (wpAny_call_entry Rv.slot_next hit.typeIs Rv.entry_next ?_ (Rv.args_next _))))
  show wpAny _ _ (field (.ref it) 1 >>= _) _ _ s
  refine wpAny_bind (wpAny_field ho hd (x:=.int j 0) rfl ?_)
  show wpAny _ _ (if (j:Int)<0 then _ else _) _ _ s
  rw[if_neg (by omega)]
  show wpAny _ _ (field (.ref it) 0 >>= _) _ _ s
  refine wpAny_bind (wpAny_field ho hd (x:=.ref l) rfl ?_)
  refine wpAny_bind (wpAny_seqItems hol hdl ?_)
  simp only [Int.toNat_natCast,hx]
  refine wpAny_bind (wpAny_setField ho hd (by simp) (wpAny_pure ⟨x,rfl,wpAny_pure (hQ _ ?_ (Heap.SameBut.update ..))⟩))
  exact⟨_,Heap.get?_update_self _ ho (Obj.isFreed_of_fields (Obj.data_mapFields hd _)),(Obj.cls_mapFields ..).trans hc,by rw[Obj.data_mapFields hd];simp[rawInt]⟩
theorem zs3 {it l:Addr}{j:Int}{Q:Option Value->Shared->Prop}(hh:A.handled=none) (hit:IsRev s.heap it l j) (hj:j<0)
    (hQ:∀h',(∀b o,s.heap.get? b=some o->h'.get? b=some o)->Q none { s with heap:=h' }):wpAny (model prog w) A (pyNext (.ref it)) Q E s:=by
  obtain⟨o,ho,hc,hd⟩:=id hit
  unfold pyNext
  refine wpAny_bind (wpAny_attempt (wpAny_callSpecial?_slot (name:=Str.ofString "__next__") hit.typeIs Rv.slot_next (wpAny_call_entry Rv.slot_next hit.typeIs Rv.entry_next ?_ (Rv.args_next _))))
  show wpAny _ _ (field (.ref it) 1 >>= _) _ _ s
  refine wpAny_bind (wpAny_field ho hd (x:=.int j 0) rfl ?_)
  show wpAny _ _ (if j<0 then _ else _) _ _ s
  rw[if_pos hj]
  refine wpAny_bind (wpAny_rule (wpAny_bind ?_))
  show wpAny _ _ (newExc (.type "StopIteration") [] >>= _) _ _ _
  refine wpAny_bind ?_
  simp only [newExc,newTuple]
  refine wpAny_bind (wpAny_newObj_type ?_ (by size_fits))
  refine wpAny_bind (m:=firstArgMember _ _) (wpAny_of_eq (a:=Value.none) (by first | rfl | (simp only [firstArgMember];rfl)) ?_)
  refine wpAny_newObj_type ?_ (by size_fits)
  simp only [raiseNew]
  refine wpAny_bind (wpAny_handled ?_)
  rw[show A.in1.handled=none from hh]
  refine wpAny_bind (wpAny_pure (wpAny_throw ?_))
  refine wpAny_bind (wpAny_isInstance (T:="StopIteration") (b:=true) ⟨_,Heap.get?_push_size _ rfl,rfl⟩ isSubtype_stop ?_)
  exact wpAny_pure (hQ _ fun b o e=>Heap.get?_push_of_some _ (Heap.get?_push_of_some _ e))
end
def zgy (l:Addr) (n:Nat):Obj:={ cls:=.type "list_reverseiterator",data:=.fields #[.ref l,rawInt ((n:Int)-1)] }
theorem zmm (l:Addr) (items:Array Value) :
    Meets (Builtin.«list.__reversed__» ⟨[.ref l],[]⟩) (fun _ R s=>s.heap.IsList l items/\R (.ok (.ret (.ref s.heap.objs.size))) { s with heap:=s.heap.push (zgy l items.size) }):=
  .of_wp fun prog w A R s h=>by
    obtain⟨hl,h⟩:=h
    obtain⟨o,ho,hc,n,hd⟩:=hl
    wp_walk
    rw[hd]
    wp_walk
    exact⟨_,rfl,h⟩
theorem zoi (l:Addr) (items:Array Value) :
    Meets (Builtin.«reversed.__new__» ⟨[.type "reversed",.ref l],[]⟩) (fun _ R s=>s.heap.IsList l items/\R (.ok (.ret (.ref s.heap.objs.size))) { s with heap:=s.heap.push (zgy l items.size) }):=
  .of_wp fun prog w A R s h=>by
    obtain⟨hl,h⟩:=h
    have hT:=hl.typeIs
    have hk:=F.slot_list_reversed.lookup
    have hb:=F.slot_list_reversed.bind (.ref l)
    have sub:=Rv.sub_self
    wp_walk
    refine codeAny_mono (codeAny_call_builtin F.slot_list_reversed.plain F.entry_list_reversed (F.slot_list_reversed.check _ _ _ _ _ _ _ _ hT (F.args_list_reversed_1 _) (zmm l items prog w A.in1
      (wants (fun v s1=>v = .ref s.heap.objs.size/\s1 = { s with heap:=s.heap.push (zgy l items.size) }) (fun e s'=>R (.error e) s')) s ⟨hl,rfl,rfl⟩))) fun r s1 hr=>?_
    cases r with
    | error e=>exact hr
    | ok fl=>
      cases fl with
      | ret obj=>
        obtain⟨rfl,rfl⟩:=hr
        exact wpAny_pure ⟨_,rfl,h⟩
      | _=>exact hr.elim
section
variable {prog:Program}{w:World}{A:Around}{E:Value->Shared->Prop}{s:Shared}
theorem zqc {l:Addr}{items:Array Value}{Q:Value->Shared->Prop}(hl:s.heap.IsList l items)
    (h:Q (.ref s.heap.objs.size) { s with heap:=s.heap.push (zgy l items.size) }):wpAny (model prog w) A (call (.type "reversed") [.ref l]) Q E s:=by
  have hct:=Rv.typeCall (.ref l)
  have hmade:=Rv.made
  have hmro:=Rv.mro_reversed
  refine wpAny_call (codeAny_of_tree ?_)
  show wpAny (model prog w) _ (callAny (.type "reversed") _) _ _ _
  refine wpAny_pure ⟨Code.quiet_builtin _ (by decide +kernel),codeAny_builtin F.entry_type_call ?_⟩
  rw[Around.under_plain (weight_type_call_type "reversed" [.ref l] []) (units_type_call_type "reversed" [.ref l] [])]
  have h1:(Value.type "reversed" == Value.type "type")=false:=by decide +kernel
  have h2:((Manifest.find? "reversed").bind (·.mro.findSome? fun t=>(Manifest.find? t).bind fun b=>if b.noNew then some true else if b.attrs.any (·.1 == "__new__") then some false else none)).getD false=false:=by decide +kernel
  repeat (any_goals first | wp_step | assumption)
  refine codeAny_mono (codeAny_call_builtin (by decide +kernel) Rv.entry_new (wpAny_of_eq (Rv.newCall _) (zoi l items prog w A.in1
    (wants (fun obj s1=>obj = .ref s.heap.objs.size/\s1 = { s with heap:=s.heap.push (zgy l items.size) }) E) s ⟨hl,rfl,rfl⟩))) fun r s1 hr=>?_
  cases r with
  | error e=>exact hr
  | ok fl=>
    cases fl with
    | ret obj=>
      obtain⟨rfl,rfl⟩:=hr
      have hT:({ s with heap:=s.heap.push (zgy l items.size) }:Shared).TypeIs (.ref s.heap.objs.size) "list_reverseiterator":=⟨_,Heap.get?_push_size _ rfl,rfl⟩
      have hsub:=Rv.sub_no
      repeat (any_goals first | wp_step | assumption)
    | _=>exact hr.elim
end
theorem boot_ValueError:bootBuiltins "ValueError" = some (.type "ValueError"):=by decide +kernel
theorem kit_own {K:PySem.W.Frag}{C D:Addr}{b:Bool}{cd:ClassData}(h1:PySem.W.clsIn K D=some cd) (h2:PySem.W.typeIn K (.ref D)=some (.type "type")) (h3:PySem.W.subIn K (.ref C) (.ref D)=some b) (h4:(Value.ref C == Value.ref D)=true->b=true):PySem.W.kitOne K (.ref C) (.ref D)=some b:=by
  unfold PySem.W.kitOne
  split
  · rename_i h
    rw[h4 h]
  · unfold PySem.W.kitCls
    dsimp only
    rw[h1,h2,h3]
    rfl
theorem kit_typ {K:PySem.W.Frag}{C:Addr}{T:String}{b:Bool}(h1:PySem.W.kitMeta T=true) (h3:PySem.W.subIn K (.ref C) (.type T)=some b):PySem.W.kitOne K (.ref C) (.type T)=some b:=by
  unfold PySem.W.kitOne
  rw[if_neg (show ¬((Value.ref C == Value.type T)=true) from Bool.false_ne_true)]
  unfold PySem.W.kitCls
  dsimp only
  rw[if_pos h1,h3]
theorem meta_ValueError:PySem.W.kitMeta "ValueError" = true:=by decide +kernel
section
variable {X:Cx}
theorem zaw (K:PySem.W.Frag) (hK:X.K=K):OpR X (binaryOp .Add) (fun x y H Q=>∃l b xs zs,x = .ref l/\y = .ref b/\SqL K H l xs/\SqL K H b zs/\xs.length+zs.length<=sizeLine/\∀p,H p=none->Q (.ref p) (upd H p (.lst (xs++zs)))):=by
  subst hK
  intro pins s σ H x y v u Q I rx ry h
  obtain⟨l,b,xs,zs,rfl,rfl,hH,hB,hz,q⟩:=h
  cases rx
  cases ry
  obtain⟨its,r,hl,z⟩:=I.list hH
  obtain⟨its2,r2,hl2,z2⟩:=I.list hB
  have e1:=r.length
  have e2:=r2.length
  obtain⟨⟨cls,dd,data,sl⟩,ho,hc,n,hd⟩:=hl.isList
  obtain⟨⟨cls2,dd2,data2,sl2⟩,ho2,hc2,n2,hd2⟩:=hl2.isList
  simp only at hc hd hc2 hd2
  subst hc hd hc2 hd2
  have e:its.toArray++its2.toArray=(its++its2).toArray:=by simp
  refine concat_meets ⟨_,ho,rfl⟩ ⟨_,ho2,rfl⟩ noFill_list_add seq_list_add PySem.F.slot_list_add PySem.F.entry_list_add (PySem.F.args_list_add_2 _ _) (list_addW l b its.toArray its2.toArray n n2 dd dd2 sl sl2 (by rw[List.size_toArray,List.size_toArray];omega)) ⟨ho,ho2,?_⟩
  rw[e]
  exact⟨.ref _,_,I.lnew (t':=s.toks) (r.append r2) (by rw[List.length_append];omega),rfl,q _ I.fresh⟩
end
section
variable {X:Cx}{tg:Expr}
abbrev TJ:=Str->St->Hp->VK->Prop
def PJ (X:Cx) (ms:List (Sem Value)) (t:TJ):Prop:=
  ∀(pins:List (Addr×Obj)) (s:Shared) (σ:St) (H:Hp) (out:Str) (Q:VK),Inv X pins σ H s->t out σ H Q->wpAny (model X.prog X.w) X.A (joinParts out ms) (EP X pins σ Q) X.xe s
def jNil:TJ:=fun out _ H Q=>out.length<=sizeLine/\Q (.str out) H
theorem zu6:PJ X [] jNil:=fun _ _ _ H _ _ I h=>joinParts_nil ⟨.str _,H,I.tok _,⟨_,rfl⟩,h.2⟩ h.1
def jTxt (te:TE) (tj:TJ):TJ:=fun out σ H Q=>te σ H fun x H1=>∃y,x = .str y/\(out++y).length<=sizeLine/\tj (out++y) σ H1 Q
theorem zu7 {e:Expr}{te:TE}{tj:TJ}{ms:List (Sem Value)}(he:PE X e te) (hj:PJ X ms tj):PJ X (eval e X.env::ms) (jTxt te tj):=by
  intro pins s σ H out Q I h
  refine joinParts_cons (thn (he pins s σ H _ I h) fun v s1 hq0=>?_)
  obtain⟨x,H1,I1,r1,q1⟩:=hq0
  obtain⟨y,rfl,hl,q⟩:=q1
  obtain⟨t,rfl⟩:=r1
  exact⟨hl,hj pins s1 σ H1 _ Q I1 q⟩
def jFld (te:TE) (tj:TJ):TJ:=fun out σ H Q=>te σ H fun x H1=>∃y,(x = .str y\/∃i:Int,x = .int i/\i.natAbs.log2<1920/\y=toString i)/\y.length<=sizeLine/\(out++y).length<=sizeLine/\tj (out++y) σ H1 Q
theorem zu8 {e:Expr}{pos:Pos}{te:TE}{tj:TJ}{ms:List (Sem Value)}(he:PE X e te) (hj:PJ X ms tj):PJ X (eval (.FormattedValue e (-1) none pos) X.env::ms) (jFld te tj):=by
  intro pins s σ H out Q I h
  refine joinParts_cons (FormattedValue_plain (thn (he pins s σ H _ I h) fun v s1 hq0=>?_))
  obtain⟨x,H1,I1,r1,q1⟩:=hq0
  obtain⟨y,hx,hy,hl,q⟩:=q1
  rcases hx with rfl | ⟨i,rfl,hi,rfl⟩
  · obtain⟨t,rfl⟩:=r1
    exact PyProof.Rows.formatField_str (fun t' tk=>⟨hl,hj pins _ σ H1 _ Q (I1.tok _) q⟩) hy
  · obtain⟨t,rfl⟩:=r1
    exact PyProof.Rows.formatField_int_small hi ⟨hl,hj pins _ σ H1 _ Q (I1.tok _) q⟩
theorem zoj {e1 e2:Expr}{es:List Expr}{pos:Pos}{tj:TJ}(h:PJ X (eval e1 X.env::eval e2 X.env::evalEach es X.env) tj):PE X (.JoinedStr (e1::e2::es) pos) (tj Str.empty):=
  fun pins s σ H Q I q=>JoinedStr_many (h pins s σ H _ Q I q)
end
end L2
namespace PySem
open Sem (wp)
end PySem
namespace L2
open PySem PySem.Spec PyProof.Rows
section
open SeqAt
end
section
variable {prog:Program}{w:World}{A:Around}{E:Value->Shared->Prop}{s:Shared}
theorem zv2 {v1 v2:Value}{p q:SS}{Q:Value->Shared->Prop}(hu:A.units<cLine) (h1:TupSS s.heap v1 p) (h2:TupSS s.heap v2 q) (h:Q (.bool (!ltPP q p)) s) :
    wpAny (model prog w) A (richCompare .LtE v1 v2) Q E s:=by
  obtain⟨a,t1,u1,rfl,oa,hoa,hca,na,hda⟩:=h1
  obtain⟨b,t2,u2,rfl,ob,hob,hcb,nb,hdb⟩:=h2
  have ta:s.TypeIs (.ref a) "tuple":=⟨oa,hoa,hca⟩
  have tb:s.TypeIs (.ref b) "tuple":=⟨ob,hob,hcb⟩
  refine wpAny_richCompare_same_room (op:=.LtE) ta tb F.slot_tuple_le (wpAny_call_entry F.slot_tuple_le ta F.entry_tuple_le ?_ (F.args_tuple_le_2 _ _)) hu
  show wpAny _ _ (isInstance (.ref b) (.type "tuple") >>= _) _ _ s
  refine wpAny_bind (wpAny_isInstance tb isSubtype_tuple_tuple ?_)
  rw[if_neg (by decide)]
  refine wpAny_bind (wpAny_tupleItemsOf hoa hda (wpAny_bind (wpAny_tupleItemsOf hob hdb (wpAny_bind ?_))))
  show wpAny _ _ (forIn [((Value.str p.1 t1,Value.str q.1 t2):Value×Value),(Value.str p.2 u1,Value.str q.2 u2)] _ _) _ _ s
  rw[List.forIn_cons]
  refine wpAny_bind (wpAny_bind (wpAny_eqBool_str ?_))
  unfold ltPP at h
  by_cases c:p.1=q.1
  · rw[decide_eq_true c,if_neg (by decide)]
    rw[if_pos c.symm] at h
    refine wpAny_pure ?_
    show wpAny _ _ (forIn [((Value.str p.2 u1,Value.str q.2 u2):Value×Value)] _ _) _ _ s
    rw[List.forIn_cons]
    refine wpAny_bind (wpAny_bind (wpAny_eqBool_str ?_))
    by_cases c2:p.2=q.2
    · rw[decide_eq_true c2,if_neg (by decide)]
      refine wpAny_pure ?_
      show wpAny _ _ (forIn ([]:List (Value×Value)) _ _) _ _ s
      rw[List.forIn_nil]
      refine wpAny_pure (wpAny_pure ⟨_,rfl,(fun e=>nomatch e),?_⟩)
      rw[c2,decide_eq_false (List.lt_irrefl _)] at h
      exact h
    · rw[decide_eq_false c2,if_pos (by decide)]
      refine wpAny_bind (wpAny_rule (wpAny_bind (PySem.P.le_str ?_)))
      refine wpAny_pure (wpAny_pure (wpAny_pure ⟨_,rfl,(fun e=>nomatch e),?_⟩))
      exact h
  · rw[decide_eq_false c,if_pos (by decide)]
    rw[if_neg (fun z=>c z.symm)] at h
    refine wpAny_bind (wpAny_rule (wpAny_bind (PySem.P.le_str ?_)))
    refine wpAny_pure (wpAny_pure (wpAny_pure ⟨_,rfl,(fun e=>nomatch e),?_⟩))
    exact h
end
section
variable {X:Cx}
theorem zs4:MtR X "str.endswith" (fun x xs H Q=>∃a b,x=V.str a/\xs = [V.str b]/\Q (.bl (Txt.endswith a b)) H):=by
  intro pins s σ H x xs v us Q I rx rs h
  obtain⟨a,b,rfl,rfl,q⟩:=h
  obtain⟨t,rfl⟩:=rx
  obtain⟨u,rfl,t',rfl⟩:=zd7 rs
  exact SC.endswith ⟨.bl _,H,I,rfl,q⟩
theorem zrg {pins:List (Addr×Obj)}{σ:St}{H:Hp}{s:Shared}{a:Addr}{p:SS}(I:Inv X pins σ H s) (h:SqT X.K H a [.str p.1,.str p.2]):TupSS s.heap (.ref a) p:=by
  obtain⟨its,rv,t,hz⟩:=I.tuple h
  cases rv with
  | cons r1 rv=>
    cases rv with
    | cons r2 rv=>
      cases rv
      obtain⟨t1,rfl⟩:=r1
      obtain⟨t2,rfl⟩:=r2
      exact⟨a,t1,t2,rfl,t⟩
theorem zs5 (K:PySem.W.Frag) (hK:X.K=K) (hu:X.A.units+1<cLine):OpR X (compareOp .LtE) (fun x y H Q=>∃(a b:Addr) (p q:SS),x = .ref a/\y = .ref b/\SqT K H a [.str p.1,.str p.2]/\SqT K H b [.str q.1,.str q.2]/\Q (.bl (!ltPP q p)) H):=by
  subst hK
  intro pins s σ H x y v u Q I rx ry h
  obtain⟨a,b,p,q,rfl,rfl,ha,hb,k⟩:=h
  cases rx
  cases ry
  show wpAny _ _ (richCompare .LtE (.ref a) (.ref b)) _ _ s
  exact zv2 (by omega) (zrg I ha) (zrg I hb) ⟨.bl _,H,I,rfl,k⟩
end
theorem zqd:typeLookup (.type "list_reverseiterator") "__len__" = pure none:=by rw[typeLookup_type,builtinLookup_eq_fast];kernel_rfl
theorem zs6:typeLookup (.type "list_reverseiterator") "__length_hint__" = pure (some (.builtin "list_reverseiterator.__length_hint__")):=by rw[typeLookup_type,builtinLookup_eq_fast];kernel_rfl
section
variable {prog:Program}{w:World}{A:Around}{E:Value->Shared->Prop}{s:Shared}
theorem zok (hh:A.handled=none) (I l:Addr) (hne:l≠I) (items:Array Value) :
    Walks prog w A I [I,l] [I] items.size (fun i v=>items[items.size-1-i]? = some v) (fun i h=>IsRev h I l ((items.size:Int)-1-i)/\h.IsList l items) where
  sub:=fun b hb=>by simp at hb;simp[hb]
  frame:=fun _ _ _ st hk=>⟨st.1.at fun o e=>hk I (by simp) o e,st.2.at fun o e=>hk l (by simp) o e⟩
  item:=fun i s Q E hi st hQ=>by
    obtain⟨h1,h2⟩:=st
    have ej:(items.size:Int)-1-(i:Int)=((items.size-1-i:Nat):Int):=by omega
    rw[ej] at h1
    have hx:items[items.size-1-i]? = some (items[items.size-1-i]'(by omega)):=Array.getElem?_eq_getElem (by omega)
    refine zqb h1 h2 hx fun h' r sb=>hQ _ h' s.toks hx ⟨?_,h2.at fun o e=>(sb.2 l hne).trans e⟩ fun b o hb e=>(sb.2 b (fun z=>hb (by simp[z]))).trans e
    rw[show (items.size:Int)-1-((i+1:Nat):Int)=((items.size-1-i:Nat):Int)-1 by omega]
    exact r
  done:=fun s Q E st hQ=>zs3 hh st.1 (by omega) fun h' kp=>hQ h' s.toks fun b o _ e=>kp b o e
  self:=fun i s Q E st hq=>zlm st.1 hq
theorem zkm {l it:Addr}{items:Array Value}{Q:Value->Shared->Prop}(hh:A.handled=none) (hr:IsRev s.heap it l ((items.size:Int)-1)) (hl:s.heap.IsList l items) (ne:l≠it) (hn:items.size<=sizeLine)
    (hQ:∀h1 acc c tk,(∀b o,b≠it->s.heap.get? b=some o->h1.get? b=some o)->h1.get? s.heap.objs.size=some { cls:=.type "list",dict:=none,data:=.seq acc c,slots:=#[] }->ItemsOf (fun i v=>items[items.size-1-i]? = some v) acc items.size->
      Q (.ref s.heap.objs.size) { s with heap:=h1,toks:=tk }):wpAny (model prog w) A (call (.type "list") [.ref it]) Q E s:=by
  have il:it<s.heap.objs.size:=by obtain⟨o,ho,_⟩:=hr;exact Heap.lt_size ho
  have ll:l<s.heap.objs.size:=by obtain⟨o,ho,_⟩:=hl;exact Heap.lt_size ho
  refine callType_codes (Q₁:=fun obj s1=>obj = .ref s.heap.objs.size/\s1 = { s with heap:=s.heap.push { cls:=.type "list",data:=.seq #[] } }) F.called_list (F.typeCall_list_1 _) F.entry_list_init (code_list_new _ ⟨rfl,rfl⟩) fun obj s1 h1=>?_
  obtain⟨rfl,rfl⟩:=h1
  have hS:(s.heap.push { cls:=.type "list",data:=.seq #[] }).get? s.heap.objs.size=some { cls:=.type "list",data:=.seq #[] }:=Heap.get?_push_size _ rfl
  refine⟨⟨_,hS,rfl⟩,F.args_list_init_2 _ _,zns hS ?_⟩
  have l2:=Heap.get?_update_self (Obj.mapSeq (fun _=>(#[]:Array Value))) hS rfl
  have old:∀b o,s.heap.get? b=some o->((s.heap.push { cls:=.type "list",data:=.seq #[] }).update s.heap.objs.size (Obj.mapSeq (fun _=>(#[]:Array Value)))).get? b=some o:=fun b o e=>
    (Heap.get?_update_other _ _ (fun z=>Nat.lt_irrefl _ (z▸Heap.lt_size e))).trans (Heap.get?_push_of_some _ e)
  have hr2:=hr.at (h':=(s.heap.push { cls:=.type "list",data:=.seq #[] }).update s.heap.objs.size (Obj.mapSeq (fun _=>(#[]:Array Value)))) fun o e=>old it o e
  have hl2:=hl.at (h':=(s.heap.push { cls:=.type "list",data:=.seq #[] }).update s.heap.objs.size (Obj.mapSeq (fun _=>(#[]:Array Value)))) fun o e=>old l o e
  generalize (s.heap.push { cls:=.type "list",data:=.seq #[] }).update s.heap.objs.size (Obj.mapSeq (fun _=>(#[]:Array Value)))=g at l2 old hr2 hl2
  have T:({ s with heap:=g }:Shared).TypeIs (.ref it) "list_reverseiterator":=hr2.typeIs
  unfold Builtin.List.listExtendWith
  refine wpAny_bind (wpAny_typeOf T ?_)
  have sr:Builtin.List.listSameRef (.ref s.heap.objs.size) (.ref it)=false:=by
    have:s.heap.objs.size≠it:=Ne.symm (Nat.ne_of_lt il)
    simp[Builtin.List.listSameRef,this]
  rw[if_neg (by rw[sr];decide)]
  refine wpAny_bind (zlm (s:={ s with heap:=g }) hr2 ?_)
  refine wpAny_bind (wpAny_holding ?_)
  unfold Builtin.List.listLengthHint
  refine wpAny_bind (wpAny_specialOf T zqd ?_)
  show wpAny _ _ (specialOf (Value.ref it) (Str.ofString "__length_hint__") >>= _) _ _ _
  refine wpAny_bind (wpAny_specialOf T zs6 ?_)
  (generalize hid:("list_reverseiterator.__length_hint__" : String)=id0;(fail_if_success (clear hid id0));wp_delta;rw[show splitId id0=some ("list_reverseiterator","__length_hint__") from by subst hid;decide +kernel];subst hid)
  refine wpAny_bind (wpAny_isInstance (b:=true) T (by rw[isSubtype_type];kernel_rfl) ?_)
  refine wpAny_pure ?_
  rw[if_neg (by decide)]
  have SI:s.heap.objs.size ∉ [it,l]:=by
    intro z
    simp only [List.mem_cons,List.not_mem_nil,or_false] at z
    rcases z with z | z
    · exact absurd z (Ne.symm (Nat.ne_of_lt il))
    · exact absurd z (Ne.symm (Nat.ne_of_lt ll))
  have st0:IsRev g it l ((items.size:Int)-1-((0:Nat):Int))/\g.IsList l items:=⟨by simpa using hr2,hl2⟩
  refine wpAny_pure ⟨plainId_quiet F.plain_extend_loop _,codeAny_extend_loopS (zok (prog:=prog) (w:=w) (A:=A.in1.in1) hh it l ne items).toS hn _ SI _ items.size 0 _ _ _ rfl (Nat.zero_le _) st0 l2 (ItemsOf.nil _) fun s' acc c hm h2 h3=>?_⟩
  obtain⟨hp,ge,dr,tk,os⟩:=s'
  obtain⟨m1,m2,m3,m4,m5⟩:=hm
  obtain rfl:ge=s.gens:=m2
  obtain rfl:dr=s.drawn:=m3
  obtain rfl:os=s.os:=m4
  refine⟨rfl,hQ hp acc c tk (fun b o hb e=>m1 b o ?_ (old b o e)) h2 h3⟩
  intro z
  have bl:=Heap.lt_size e
  simp only [List.mem_cons,List.not_mem_nil,or_false] at z
  rcases z with z | z
  · exact absurd bl (by rw[z];exact Nat.lt_irrefl _)
  · exact hb z
end
section
variable {X:Cx}
def zqe (K:PySem.W.Frag) (te:TE):TE:=fun σ H Q=>te σ H fun x H1=>∃l xs,x = .ref l/\SqL K H1 l xs/\∀r,H1 r=none->Q (.ref r) (upd H1 r (.lst xs.reverse))
theorem zmn (K:PySem.W.Frag) (hK:X.K=K) {e:Expr}{te:TE}{p1 p2 pos1 pos2:Pos}(hc:X.calm=true) (hg1:Gl X "list") (hm1:X.mg "list" = none) (hg2:Gl X "reversed") (hm2:X.mg "reversed" = none) (he:PE X e te) (hs:starEach [e] X.env = [(false,eval e X.env)]:=by rfl)
    (hs2:starEach [.Call (.Name "reversed" p2) [e] [] pos2] X.env = [(false,eval (.Call (.Name "reversed" p2) [e] [] pos2) X.env)]:=by rfl):PE X (.Call (.Name "list" p1) [.Call (.Name "reversed" p2) [e] [] pos2] [] pos1) (zqe K te):=by
  subst hK
  intro pins s σ H Q I h
  refine Call_ (zfp I hg1 hm1 boot_list (PyProof.Rows.callWith_type1 ?_ (by rw[hs2];rfl) rfl))
  rw[hs2]
  show wpAny _ _ (spliced ((false,eval (.Call (.Name "reversed" p2) [e] [] pos2) X.env)::[])) _ _ s
  refine Calls.spliced_cons ?_
  refine Call_ (zfp I hg2 hm2 boot_reversed (PyProof.Rows.callWith_type1 (thn (za he zc hs pos2 pins s σ H (fun vs H1=>match vs with | [x]=>∃l xs,x = .ref l/\SqL X.K H1 l xs/\∀r,H1 r=none->Q (.ref r) (upd H1 r (.lst xs.reverse)) | _=>False) I h) fun us s1 hq0=>?_) (by rw[hs];rfl) rfl))
  obtain⟨vs,H1,I1,r1,q1⟩:=hq0
  match vs,q1 with
  | [x],q1=>
    obtain⟨l,xs,rfl,hl,q⟩:=q1
    obtain⟨u,rfl,ru⟩:=zd7 r1
    cases ru
    obtain⟨its,rv,pl,hz⟩:=I1.list hl
    have hn:=rv.length
    refine zqc pl.isList (Calls.spliced_nil ?_)
    have I2:Inv X pins σ H1 { s1 with heap:=s1.heap.push (zgy l its.toArray.size) }:=I1.kept (t':=s1.toks) fun b o e=>Heap.get?_push_of_some _ e
    have ll:l<s1.heap.objs.size:=by obtain⟨_,e,_⟩:=pl.isList;exact Heap.lt_size e
    have hS:its.toArray.size<=sizeLine:=by rw[List.size_toArray];omega
    refine zkm (s:={ s1 with heap:=s1.heap.push (zgy l its.toArray.size) }) (items:=its.toArray) (I1.ok.hd hc) ⟨_,Heap.get?_push_size _ rfl,rfl,rfl⟩ (pl.isList.push _) (Nat.ne_of_lt ll) hS fun h1 acc c tk kp el it=>?_
    have kp':∀b u,s1.heap.get? b=some u->h1.get? b=some u:=fun b u e=>kp b u (Nat.ne_of_lt (Heap.lt_size e)) (Heap.get?_push_of_some _ e)
    have hz2:(s1.heap.push (zgy l its.toArray.size)).objs.size=s1.heap.objs.size+1:=by simp[Heap.push]
    have i1:=it.1
    have i2:=it.2
    refine⟨.ref (s1.heap.push (zgy l its.toArray.size)).objs.size,_,I1.laid (t':=tk) (o:=.lst xs.reverse) kp' (by omega) ⟨by rw[List.length_reverse];omega,acc.toList,c,Vals.of_get ?_ fun i x v ex ev=>?_,by simpa using el⟩,rfl,q _ (I1.hok.fresh (by omega))⟩
    · simp only [List.length_reverse,Array.length_toList]
      simp only [List.size_toArray] at i1
      omega
    · have hi:i<xs.reverse.length:=(List.getElem?_eq_some_iff.1 ex).1
      rw[List.length_reverse] at hi
      rw[List.getElem?_reverse hi] at ex
      obtain⟨u,e1,r1⟩:=rv.get ex
      have e2:=i2 i v (by simpa using ev)
      simp only [List.size_toArray,List.getElem?_toArray] at e2
      rw[hn,e2] at e1
      cases e1
      exact r1
end
end L2
namespace Dm
open PySem PySem.NumText L2
theorem zfm (x:Str) (c:Nat):Txt.endswith x ⟨#[c]⟩=decide ((co x).getLast? = some c):=by
  obtain⟨a⟩:=x
  obtain⟨l⟩:=a
  rcases List.eq_nil_or_concat l with rfl | ⟨r,d,rfl⟩
  · rfl
  · rw[List.concat_eq_append]
    show (decide (0+1<=((r++[d]).toArray).size)&&(((r++[d]).toArray.extract (((r++[d]).toArray).size-1) ((((r++[d]).toArray).size-1)+1)) == #[c]))=decide ((r++[d]).getLast? = some c)
    have e1:decide (0+1<=((r++[d]).toArray).size)=true:=decide_eq_true (by simp)
    rw[e1,Bool.true_and]
    have e0:((r++[d]).toArray).size-1=r.length:=by simp
    rw[e0]
    have e2:((r++[d]).toArray.extract r.length (r.length+1)) = #[d]:=by simp
    rw[e2]
    by_cases h:d=c
    · subst h;simp
    · have:¬(r++[d]).getLast? = some c:=by simp[h]
      rw[decide_eq_false this]
      simp[h]
theorem zds {x:Str}(h:zaj x=true):Txt.endswith x (Str.ofString ":")=false:=by
  have e:(Str.ofString ":" : Str)=⟨#[58]⟩:=by decide +kernel
  rw[e,zfm]
  refine decide_eq_false fun z=>?_
  have hm:58∈co x:=List.mem_of_getLast? z
  unfold zaj at h
  simp only [Bool.and_eq_true,decide_eq_true_eq] at h
  have:=of_decide_eq_true (List.all_eq_true.mp h.2 58 hm)
  exact absurd this (by decide +kernel)
def hdT (i:Int):Str:=Str.ofString (toString i)++Str.ofString ":"
theorem zjj (i:Int):co (hdT i)=co (Str.ofString (toString i))++[58]:=by
  unfold hdT
  rw[zag,zjg,zv]
theorem zln (i:Int):Txt.endswith (hdT i) (Str.ofString ":")=true:=by
  have e:(Str.ofString ":" : Str)=⟨#[58]⟩:=by decide +kernel
  rw[e,zfm,zjj]
  exact decide_eq_true (by simp)
theorem zs7 (i:Int):Txt.slice (hdT i) none (some (-1))=Str.ofString (toString i):=by
  apply zbp
  rw[zeb]
  have hl:(hdT i).length=(co (Str.ofString (toString i))).length+1:=by rw[←zas,zjj,List.length_append];rfl
  have e1:sIx' (hdT i).length 0 none=0:=rfl
  have e2:sIx' (hdT i).length (hdT i).length (some (-1))=(co (Str.ofString (toString i))).length:=by
    show (if (-1:Int)<0 then (max (-1+((hdT i).length:Int)) 0).toNat else min (-1:Int).toNat (hdT i).length)=_
    rw[if_pos (by decide),hl]
    omega
  rw[e1,e2,zjj]
  simp
theorem zjk (i:Int):32 ∉ co (hdT i)/\10 ∉ co (hdT i):=by
  obtain⟨h,_⟩:=zf9 i
  rw[zjj]
  constructor <;>
  · intro z
    rcases List.mem_append.mp z with z | z
    · have:=h _ z
      omega
    · simp at z
theorem zkn (i:Int) {names:List Str}(h:names≠[]):rowT i names=zy (jc [32] (co (hdT i)::names.map co)):=by
  apply zbp
  rw[zev i h,zlh,zv,zkh,List.map_map]
  rfl
theorem zb8 (i:Int) {names:List Str}(h:names≠[]) (hn:∀x∈names,zaj x=true):Txt.split (rowT i names) " " = hdT i::names:=by
  have:=zc2 (c:=32) (ls:=co (hdT i)::names.map co) (List.cons_ne_nil _ _) (fun x hx=>by
    rcases List.mem_cons.mp hx with rfl | hx
    · exact (zjk i).1
    · obtain⟨v,hv,rfl⟩:=List.mem_map.mp hx
      exact fun z=>((zbh (hn v hv)).1 32 z).1 rfl)
  rw[←zf8,←zkn i h,List.map_cons,zco,List.map_map] at this
  refine this.trans ?_
  congr 1
  exact (List.map_congr_left fun v _=>zco _).trans (List.map_id names)
theorem zu9:(Str.ofString " > " : Str)=zy [32,62,32]:=by decide +kernel
theorem zlo (p:SS):zp p=zy (jc [32] [co p.1,[62],co p.2]):=by
  apply zbp
  unfold zp
  show co (Str.empty++p.1++Str.ofString " > " ++ p.2)=_
  rw[zeu,zag,zag,zu9,zv,zv]
  show _=co p.1++[32]++([62]++[32]++co p.2)
  simp
theorem gt1_is:zy [62]=(Str.ofString ">" : Str):=by decide +kernel
theorem zb3 {p:SS}(h1:zaj p.1=true) (h2:zaj p.2=true):Txt.split (zp p) " " = [p.1,Str.ofString ">",p.2]:=by
  have:=zc2 (c:=32) (ls:=[co p.1,[62],co p.2]) (List.cons_ne_nil _ _) (fun x hx=>by
    simp only [List.mem_cons,List.not_mem_nil,or_false] at hx
    rcases hx with rfl | rfl | rfl
    · exact fun z=>((zbh h1).1 32 z).1 rfl
    · decide
    · exact fun z=>((zbh h2).1 32 z).1 rfl)
  rw[←zf8,←zlo] at this
  refine this.trans ?_
  show [zy (co p.1),zy [62],zy (co p.2)]=_
  rw[zco,zco,gt1_is]
theorem zjl (i:Int) {names:List Str}(h:names≠[]) (hn:∀x∈names,zaj x=true):10 ∉ co (rowT i names):=by
  rw[zkn i h,zv]
  intro z
  rcases zlf z with z | ⟨x,hx,z⟩
  · revert z;decide
  · rcases List.mem_cons.mp hx with rfl | hx
    · exact (zjk i).2 z
    · obtain⟨v,hv,rfl⟩:=List.mem_map.mp hx
      exact ((zbh (hn v hv)).1 10 z).2.1 rfl
theorem zhk {p:SS}(h1:zaj p.1=true) (h2:zaj p.2=true):10 ∉ co (zp p):=by
  rw[zlo,zv]
  intro z
  rcases zlf z with z | ⟨x,hx,z⟩
  · revert z;decide
  · simp only [List.mem_cons,List.not_mem_nil,or_false] at hx
    rcases hx with rfl | rfl | rfl
    · exact ((zbh h1).1 10 z).2.1 rfl
    · revert z;decide
    · exact ((zbh h2).1 10 z).2.1 rfl
structure MatOk (rows:List (List Str)) (qs:List SS):Prop where
  rne:∀r∈rows,r≠[]
  rs:∀r∈rows,zgv r
  nm:∀r∈rows,∀x∈r,zaj x=true
  nd:rows.flatten.Nodup
  ql:qs.Pairwise (fun a b=>ltPP a b=true)
  qm:∀p∈qs,p.1∈rows.flatten/\p.2∈rows.flatten
  l1:rows.flatten.length<=63
  l2:qs.length<=63
theorem zfn:∀{rows:List (List Str)},(∀r∈rows,r≠[])->rows.length<=rows.flatten.length
  | [],_=>Nat.le_refl _
  | r::rs,h=>by
    have:=zfn (rows:=rs) fun x hx=>h x (List.mem_cons_of_mem _ hx)
    have hr:=List.length_pos_iff.mpr (h r (List.mem_cons_self ..))
    rw[List.flatten_cons,List.length_append,List.length_cons]
    omega
theorem MatOk.rl {rows:List (List Str)}{qs:List SS}(h:MatOk rows qs):rows.length<=63:=Nat.le_trans (zfn h.rne) h.l1
theorem zbd {r:List Str}:∀{rows:List (List Str)},r∈rows->r.length<=rows.flatten.length
  | s::rs,h=>by
    rw[List.flatten_cons,List.length_append]
    rcases List.mem_cons.mp h with rfl | h
    · omega
    · have:=zbd h
      omega
theorem MatOk.rw63 {rows:List (List Str)}{qs:List SS}(h:MatOk rows qs) {r:List Str}(hr:r∈rows):r.length<=63:=Nat.le_trans (zbd hr) h.l1
theorem MatOk.qn {rows:List (List Str)}{qs:List SS}(h:MatOk rows qs) {p:SS}(hp:p∈qs):zaj p.1=true/\zaj p.2=true:=by
  obtain⟨h1,h2⟩:=h.qm p hp
  obtain⟨r1,hr1,x1⟩:=List.mem_flatten.mp h1
  obtain⟨r2,hr2,x2⟩:=List.mem_flatten.mp h2
  exact⟨h.nm r1 hr1 _ x1,h.nm r2 hr2 _ x2⟩
def mTx (rows:List (List Str)) (qs:List SS):List Str:=
  ((List.range rows.length).map fun i=>rowT ((rows.length-1-i:Nat):Int) (rows.getD (rows.length-1-i) []))++qs.map zp
theorem zc4 {rows:List (List Str)}{i:Nat}(h:i<rows.length):rows.getD i []∈rows/\rows[i]? = some (rows.getD i []):=by
  have e:rows.getD i []=rows[i]:=by simp[List.getD,List.getElem?_eq_getElem h]
  rw[e]
  exact⟨List.getElem_mem _,List.getElem?_eq_getElem h⟩
theorem MatOk.line {rows:List (List Str)}{qs:List SS}(h:MatOk rows qs) {l:Str}(hl:l∈mTx rows qs):10 ∉ co l/\l.length<=900:=by
  unfold mTx at hl
  rcases List.mem_append.mp hl with hl | hl
  · obtain⟨i,hi,rfl⟩:=List.mem_map.mp hl
    have hi:=List.mem_range.mp hi
    obtain⟨hm,_⟩:=zc4 (rows:=rows) (i:=rows.length-1-i) (by omega)
    refine⟨zjl _ (h.rne _ hm) (h.nm _ hm),?_⟩
    have hr:=h.rl
    have h6:=h.rw63 hm
    rw[zev _ (h.rne _ hm)]
    have h1:=zgb (xs:=rows.getD (rows.length-1-i) []) (fun x hx=>by
      have:=h.nm _ hm x hx
      unfold zaj at this
      simp only [Bool.and_eq_true,decide_eq_true_eq] at this
      exact this.1.2) (Str.ofString (toString ((rows.length-1-i:Nat):Int))++Str.ofString ":")
    have h2:=zgc (rows.length-1-i) (by omega)
    have h3:(Str.ofString (toString ((rows.length-1-i:Nat):Int))++Str.ofString ":" : Str).length<=3:=by
      rw[←zas,zag,List.length_append,zas,zas]
      have:(Str.ofString ":" : Str).length=1:=by decide +kernel
      omega
    exact Nat.le_trans h1 (by omega)
  · obtain⟨p,hp,rfl⟩:=List.mem_map.mp hl
    obtain⟨n1,n2⟩:=h.qn hp
    refine⟨zhk n1 n2,Nat.le_trans (zgd ?_ ?_) (by decide)⟩
    · unfold zaj at n1
      simp only [Bool.and_eq_true,decide_eq_true_eq] at n1
      exact n1.1.2
    · unfold zaj at n2
      simp only [Bool.and_eq_true,decide_eq_true_eq] at n2
      exact n2.1.2
theorem q_nr:¬(("number" : Str) = "rows"):=by decide +kernel
theorem q_nk:¬(("number" : Str) = "known"):=by decide +kernel
theorem q_np:¬(("number" : Str) = "pairs"):=by decide +kernel
theorem q_rk:¬(("rows" : Str) = "known"):=by decide +kernel
theorem q_rp:¬(("rows" : Str) = "pairs"):=by decide +kernel
theorem q_kp:¬(("known" : Str) = "pairs"):=by decide +kernel
def rM (nv:V) (pr dk pp:Addr):List (Str×V):=[("number",nv),("rows",.ref pr),("known",.ref dk),("pairs",.ref pp)]
theorem zs8 (nv:V) (pr dk pp:Addr):putF "pairs" (.ref pp) (putF "known" (.ref dk) (putF "rows" (.ref pr) (putF "number" nv [])))=rM nv pr dk pp:=by
  show putF "pairs" (.ref pp) (putF "known" (.ref dk) (if ("number" : Str) = "rows" then _ else _))=_
  rw[if_neg q_nr]
  show putF "pairs" (.ref pp) (if ("number" : Str) = "known" then _ else (("number" : Str),nv)::(if ("rows" : Str) = "known" then _ else _))=_
  rw[if_neg q_nk,if_neg q_rk]
  show (if ("number" : Str) = "pairs" then _ else (("number" : Str),nv)::(if ("rows" : Str) = "pairs" then _ else (("rows" : Str),V.ref pr)::(if ("known" : Str) = "pairs" then _ else _)))=_
  rw[if_neg q_np,if_neg q_rp,if_neg q_kp]
  rfl
theorem zva (nv nv':V) (pr dk pp:Addr):putF "number" nv' (rM nv pr dk pp)=rM nv' pr dk pp:=by
  show (if ("number" : Str) = "number" then _ else _)=_
  rw[if_pos rfl]
  rfl
theorem rM_n (nv:V) (pr dk pp:Addr):(rM nv pr dk pp).lookup ("number" : Str)=some nv:=zp1 rfl
theorem rM_r (nv:V) (pr dk pp:Addr):(rM nv pr dk pp).lookup ("rows" : Str)=some (.ref pr):=by
  unfold rM
  rw[zgw (fun z=>q_nr z.symm),zp1 rfl]
theorem rM_k (nv:V) (pr dk pp:Addr):(rM nv pr dk pp).lookup ("known" : Str)=some (.ref dk):=by
  unfold rM
  rw[zgw (fun z=>q_nk z.symm),zgw (fun z=>q_rk z.symm),zp1 rfl]
theorem rM_p (nv:V) (pr dk pp:Addr):(rM nv pr dk pp).lookup ("pairs" : Str)=some (.ref pp):=by
  unfold rM
  rw[zgw (fun z=>q_np z.symm),zgw (fun z=>q_rp z.symm),zgw (fun z=>q_kp z.symm),zp1 rfl]
theorem zqf (nv:V) (pr dk pp:Addr) {m:Str}(h:m ∉ (["number","rows","known","pairs"]:List Str)):(rM nv pr dk pp).lookup m=none:=by
  simp only [List.mem_cons,List.not_mem_nil,or_false,not_or] at h
  unfold rM
  rw[zgw h.1,zgw h.2.1,zgw h.2.2.1,zgw h.2.2.2];rfl
theorem zdt {α β:Type}{F G:α->β->Prop}:∀{as:List α}{bs:List β},Paired F as bs->(∀a∈as,∀b,F a b->G a b)->Paired G as bs
  | _,_,.nil,_=>.nil
  | _,_,.cons h t,f=>.cons (f _ (List.mem_cons_self ..) _ h) (zdt t fun a ha b=>f a (List.mem_cons_of_mem _ ha) b)
theorem zgi {α β:Type}{F:α->β->Prop}{a:α}{b:β}(h:F a b):∀{as:List α}{bs:List β},Paired F as bs->Paired F (as++[a]) (bs++[b])
  | _,_,.nil=>.cons h .nil
  | _,_,.cons h' t=>.cons h' (zgi h t)
theorem zie {G:Hp}{p a:Addr}{o o1 o2:HO}(hp:G p=some o) (ha:G a=none):(upd (upd G a o1) p o2) p=some o2/\(upd (upd G a o1) p o2) a=some o1/\(∀b x,G b=some x->b≠p->(upd (upd G a o1) p o2) b=some x)/\(∀b,(upd (upd G a o1) p o2) b=none->G b=none/\b≠a/\b≠p)/\p≠a:=by
  have n:p≠a:=zk hp ha
  refine⟨zb,by rw[zj n.symm,zb],fun b x e hb=>by rw[zj hb,zj (zk e ha)];exact e,fun b e=>?_,n⟩
  have n1:b≠p:=fun z=>by rw[z,zb] at e;cases e
  rw[zj n1] at e
  have n2:b≠a:=fun z=>by rw[z,zb] at e;cases e
  rw[zj n2] at e
  exact⟨e,n2,n1⟩
structure MrAt (C:Addr) (H:Hp) (p pr dk pp:Addr) (nv:V) (cs:List Addr) (rows:List (List Str)) (ks:List Str) (bs:List Addr) (qs:List SS):Prop where
  ob:∃dx,H p=some (.ins C dx (rM nv pr dk pp))
  r:H pr=some (.lst (cs.map V.ref))
  rr:Paired (fun c row=>H c=some (.lst (row.map V.str))) cs rows
  d:H dk=some (.dK (dU ks))
  q:H pp=some (.lst (bs.map V.ref))
  qq:Paired (fun a (p:SS)=>H a=some (.tup [.str p.1,.str p.2])) bs qs
  n1:pr≠pp
  n2:pr ∉ cs
  n3:pp ∉ cs
def Kp4 (H H':Hp) (p pr dk pp:Addr):Prop:=∀b o,H b=some o->b≠p->b≠pr->b≠dk->b≠pp->H' b=some o
theorem Kp4.of {H H':Hp}{p pr dk pp:Addr}(h:Same H H'):Kp4 H H' p pr dk pp:=fun b o e _ _ _ _=>h b o e
theorem Kp4.trans {H H1 H2:Hp}{p pr dk pp:Addr}(h:Kp4 H H1 p pr dk pp) (h':Kp4 H1 H2 p pr dk pp):Kp4 H H2 p pr dk pp:=fun b o e b1 b2 b3 b4=>h' b o (h b o e b1 b2 b3 b4) b1 b2 b3 b4
theorem MrAt.same {C:Addr}{H H':Hp}{p pr dk pp:Addr}{nv:V}{cs:List Addr}{rows:List (List Str)}{ks:List Str}{bs:List Addr}{qs:List SS}(R:MrAt C H p pr dk pp nv cs rows ks bs qs) (s:Same H H'):MrAt C H' p pr dk pp nv cs rows ks bs qs:=by
  obtain⟨dx,h⟩:=R.ob
  exact⟨⟨dx,s _ _ h⟩,s _ _ R.r,Paired.mapP R.rr fun a b h=>s _ _ h,s _ _ R.d,s _ _ R.q,Paired.mapP R.qq fun a b h=>s _ _ h,R.n1,R.n2,R.n3⟩
theorem MrAt.free {C:Addr}{H H':Hp}{p pr dk pp:Addr}{nv:V}{cs:List Addr}{rows:List (List Str)}{ks:List Str}{bs:List Addr}{qs:List SS}(R:MrAt C H' p pr dk pp nv cs rows ks bs qs) (k:Kp4 H H' p pr dk pp) {a:Addr}(h:H' a=none):H a=none:=by
  obtain⟨dx,h1⟩:=R.ob
  cases e:H a with
  | none=>rfl
  | some o=>
    have:=k a o e (zk h1 h).symm (zk R.r h).symm (zk R.d h).symm (zk R.q h).symm
    rw[h] at this
    cases this
theorem MrAt.new {C:Addr}{H:Hp}{p pr dk pp:Addr}{nv:V}{cs:List Addr}{rows:List (List Str)}{ks:List Str}{bs:List Addr}{qs:List SS}(R:MrAt C H p pr dk pp nv cs rows ks bs qs) {a:Addr}(h:H a=none):a≠p/\a≠pr/\a≠dk/\a≠pp:=by
  obtain⟨dx,h1⟩:=R.ob
  exact⟨(zk h1 h).symm,(zk R.r h).symm,(zk R.d h).symm,(zk R.q h).symm⟩
theorem zlp {α β:Type}{F:α->β->Prop}:∀{as:List α}{bs:List β}{cs:List α}{ds:List β},Paired F as bs->Paired F cs ds->Paired F (as++cs) (bs++ds)
  | _,_,_,_,.nil,h=>h
  | _,_,_,_,.cons h t,h'=>.cons h (zlp t h')
theorem zlq {α β:Type}{F:α->β->Prop}:∀{as:List α}{bs:List β},Paired F as bs->Paired F as.reverse bs.reverse
  | _,_,.nil=>.nil
  | _,_,.cons h t=>by
    rw[List.reverse_cons,List.reverse_cons]
    exact zlp (zlq t) (.cons h .nil)
theorem zrh {rows:List (List Str)}{i:Nat}(h:i<rows.length):rows.reverse.take (i+1)=rows.reverse.take i++[rows.getD (rows.length-1-i) []]:=by
  rw[List.take_add_one,List.getElem?_reverse h,(zc4 (rows:=rows) (i:=rows.length-1-i) (by omega)).2]
  rfl
theorem flat_rev_mem {rows:List (List Str)}{x:Str}:x∈rows.reverse.flatten↔x∈rows.flatten:=by
  simp only [List.mem_flatten,List.mem_reverse]
theorem zei:∀rows:List (List Str),rows.reverse.flatten.Perm rows.flatten
  | []=>.refl _
  | r::rs=>by
    rw[List.reverse_cons,List.flatten_append,List.flatten_cons,List.flatten_cons,List.flatten_nil,List.append_nil]
    exact List.perm_append_comm.trans (List.Perm.append_left _ (zei rs))
theorem zc5 (rows:List (List Str)) (i:Nat):(rows.take i).flatten.Sublist rows.flatten:=by
  have:=List.take_append_drop i rows
  conv=>rhs;rw[←this,List.flatten_append]
  exact List.sublist_append_left _ _
def numT (word:Str) (o:Bool) (k:Nat):Str:=if o=true then Str.ofString (toString (k:Int))++Str.ofString "-" ++ word else word++Str.ofString "-" ++ Str.ofString (toString (k:Int))
theorem zew:(Str.ofString "-" : Str)=zy [45]:=by decide +kernel
theorem zri (k:Nat):∀c∈co (Str.ofString (toString (k:Int))),c∈co NAMES:=fun c hc=>by
  have e:co (Str.ofString (toString (k:Int)))=dg k:=zbm k
  rw[e] at hc
  have:=zf2 k c hc
  have h:∀d:Nat,d<10->48+d∈co NAMES:=by decide +kernel
  have:=h (c-48) (by omega)
  rwa [show 48+(c-48)=c by omega] at this
theorem zol {k j:Nat}(h:co (Str.ofString (toString (k:Int)))=co (Str.ofString (toString (j:Int)))) (hk:k<64) (hj:j<64):k=j:=by
  have h:=zbp h
  have d:∀k:Nat,k<64->∀j:Nat,j<64->Str.ofString (toString (k:Int))=Str.ofString (toString (j:Int))->k=j:=by decide +kernel
  exact d k hk j hj h
theorem zom {word:Str}(h:zaj word=true) (h8:word.length<=8) (o:Bool) {k:Nat}(hk:k<64):zaj (numT word o k)=true:=by
  have hn:=zgc k hk
  obtain⟨h0,h1⟩:1<=word.length/\∀c∈co word,c∈co NAMES:=by
    unfold zaj at h
    simp only [Bool.and_eq_true,decide_eq_true_eq] at h
    exact⟨h.1.1,fun c hc=>of_decide_eq_true (List.all_eq_true.mp h.2 c hc)⟩
  have h45:45∈co NAMES:=by decide +kernel
  have hs : [45].length=1:=rfl
  rw[←zas] at h0 h8 hn
  unfold numT
  cases o with
  | true=>
    rw[if_pos rfl]
    refine zed ?_ ?_ fun c hc=>?_
    · rw[zag,zag,List.length_append,List.length_append];omega
    · rw[zag,zag,List.length_append,List.length_append,zew,zv];omega
    · rw[zag,zag,zew,zv] at hc
      rcases List.mem_append.mp hc with hc | hc
      · rcases List.mem_append.mp hc with hc | hc
        · exact zri k c hc
        · rw[List.mem_singleton.mp hc];exact h45
      · exact h1 c hc
  | false=>
    rw[if_neg (by decide)]
    refine zed ?_ ?_ fun c hc=>?_
    · rw[zag,zag,List.length_append,List.length_append];omega
    · rw[zag,zag,List.length_append,List.length_append,zew,zv];omega
    · rw[zag,zag,zew,zv] at hc
      rcases List.mem_append.mp hc with hc | hc
      · rcases List.mem_append.mp hc with hc | hc
        · exact h1 c hc
        · rw[List.mem_singleton.mp hc];exact h45
      · exact zri k c hc
theorem zqg {word:Str}{o:Bool}{k j:Nat}(hk:k<64) (hj:j<64) (h:numT word o k=numT word o j):k=j:=by
  have h:=congrArg co h
  unfold numT at h
  cases o with
  | true=>
    rw[if_pos rfl,if_pos rfl,zag,zag,zag,zag] at h
    exact zol (List.append_cancel_right (List.append_cancel_right h)) hk hj
  | false=>
    rw[if_neg (by decide),if_neg (by decide),zag,zag,zag (word++_),zag word] at h
    exact zol (List.append_cancel_left h) hk hj
def zd3 (word:Str) (o:Bool) (n:Nat):List Str:=(List.range n).map (numT word o)
theorem zgj (word:Str) (o:Bool) (n:Nat):(zd3 word o n).length=n:=by unfold zd3;rw[List.length_map,List.length_range]
theorem zko {word:Str}{o:Bool}{n:Nat}(h:n<=64):(zd3 word o n).Nodup:=by
  unfold zd3
  rw[List.nodup_iff_pairwise_ne,List.pairwise_map]
  refine List.Pairwise.imp_of_mem ?_ List.nodup_range
  intro a b ha hb ne z
  exact ne (zqg (by have:=List.mem_range.mp ha;omega) (by have:=List.mem_range.mp hb;omega) z)
theorem zmo {word:Str}(h:zaj word=true) (h8:word.length<=8) {o:Bool}{n:Nat}(hn:n<=64):∀x∈zd3 word o n,zaj x=true:=fun x hx=>by
  obtain⟨k,hk,rfl⟩:=List.mem_map.mp hx
  exact zom h h8 o (by have:=List.mem_range.mp hk;omega)
theorem zlr {x:Str}:∀{gs:List (List Str)}{j:Nat}{g:List Str},gs[j]? = some g->(gs.set j (g++[x])).flatten.Perm (gs.flatten++[x])
  | [],j,g,h=>by cases h
  | a::gs,0,g,h=>by
    have h:a=g:=Option.some.inj h
    subst h
    show (a++[x]++gs.flatten).Perm (a++gs.flatten++[x])
    rw[List.append_assoc,List.append_assoc]
    exact List.Perm.append_left _ List.perm_append_comm
  | a::gs,j+1,g,h=>by
    have h:gs[j]? = some g:=h
    show (a++(gs.set j (g++[x])).flatten).Perm (a++gs.flatten++[x])
    rw[List.append_assoc]
    exact List.Perm.append_left _ (zlr h)
theorem zls {H:Hp}{d:Addr}{g':List Str}:∀{cs:List Addr}{gs:List (List Str)}{j:Nat},Paired (fun c g=>H c=some (.lst (g.map V.str))) cs gs->cs.Nodup->cs[j]? = some d->Paired (fun c g=>upd H d (.lst (g'.map V.str)) c=some (.lst (g.map V.str))) cs (gs.set j g')
  | _,_,j,.nil,_,h=>by cases h
  | d'::cs,_,0,.cons h t,nd,e=>by
    have e:d'=d:=Option.some.inj e
    have nd:=List.nodup_cons.mp nd
    refine .cons (by rw[e];exact zb) (zdt t fun a ha b hb=>?_)
    have n:a≠d:=fun z=>nd.1 (by rw[e,←z];exact ha)
    rw[zj n]
    exact hb
  | a::cs,_,j+1,.cons h t,nd,e=>by
    have e:cs[j]? = some d:=e
    have nd:=List.nodup_cons.mp nd
    refine .cons ?_ (zls t nd.2 e)
    have n:a≠d:=fun z=>nd.1 (z▸List.mem_of_getElem? e)
    rw[zj n]
    exact h
theorem zmp {K:PySem.W.Frag}{H:Hp}{n:Nat}{A B:Addr}{as bs:List Addr}{gs:List (List Str)}(hA:H A=some (.lst (as.map V.ref))) (hB:H B=some (.lst (bs.map V.ref))) (ta:Paired (fun c g=>H c=some (.lst (g.map V.str))) as gs) (tb:Paired (fun c g=>H c=some (.lst (g.map V.str))) bs gs):DEq K H (n+1+1) (.ref A) (.ref B) true:=by
  have la:=Paired.length ta
  have lb:=Paired.length tb
  refine DEq.allL (SqL.of hA) (SqL.of hB) (by rw[List.length_map,List.length_map];omega) fun i x y ex ey=>?_
  rw[List.getElem?_map] at ex ey
  cases e1:as[i]? with
  | none=>rw[e1] at ex;cases ex
  | some a=>
    rw[e1] at ex
    cases ex
    cases e2:bs[i]? with
    | none=>rw[e2] at ey;cases ey
    | some b=>
      rw[e2] at ey
      cases ey
      obtain⟨g,hg,h1⟩:=Paired.get' ta e1
      obtain⟨g',hg',h2⟩:=Paired.get' tb e2
      rw[hg] at hg'
      cases hg'
      exact DEq.sameL (SqL.of h1) (SqL.of h2) zn1
theorem zlt {ns:List Int}{a b:Nat}:∃cs:List Int,cutV (ns.map V.int) (some (a:Int)) (some (b:Int))=cs.map V.int/\cs.length<=b-a:=by
  refine⟨((ns.drop (HT.sIx (ns.map V.int).length 0 (some (a:Int)))).take (HT.sIx (ns.map V.int).length (ns.map V.int).length (some (b:Int))-HT.sIx (ns.map V.int).length 0 (some (a:Int)))),?_,?_⟩
  · unfold cutV
    rw[List.map_take,List.map_drop]
  · rw[List.length_take,List.length_drop]
    unfold HT.sIx
    dsimp only
    rw[if_neg (by omega),if_neg (by omega),List.length_map]
    omega
theorem zv3 {x:Str}(h:zaj x=true):zaj (Txt.slice x none (some 8))=true/\(Txt.slice x none (some 8)).length<=8:=by
  have e:co (Txt.slice x none (some 8))=(co x).take (min 8 x.length):=by
    rw[zeb]
    rfl
  obtain⟨h0,h1,h2⟩:1<=x.length/\x.length<=12/\∀c∈co x,c∈co NAMES:=by
    unfold zaj at h
    simp only [Bool.and_eq_true,decide_eq_true_eq] at h
    exact⟨h.1.1,h.1.2,fun c hc=>of_decide_eq_true (List.all_eq_true.mp h.2 c hc)⟩
  have hl:(co (Txt.slice x none (some 8))).length=min 8 x.length:=by
    rw[e,List.length_take,zas]
    omega
  refine⟨zed (by omega) (by omega) fun c hc=>?_,by rw[←zas];omega⟩
  rw[e] at hc
  exact h2 c (List.mem_of_mem_take hc)
structure MS where
  nv:Option Int
  rows:List (List Str)
  ks:List Str
  qs:List SS
def nvV:Option Int->V
  | none=>.non
  | some n=>.int n
def MS0:MS:=⟨none,[],[],[]⟩
def zmq (s:MS) (n:Int):Prop:=0<=n/\s.qs = []/\(s.nv=none\/s.nv=some (n+1))
def zd4 (ks names:List Str):Prop:=names≠[]/\zgv names/\(∀x∈names,zaj x=true)/\(ks++names).Nodup
def zgk (s:MS) (p:SS):Prop:=p.1∈s.ks/\p.2∈s.ks/\∀l,s.qs.getLast? = some l->ltPP l p=true
def cutW (w:Str):Str:=Txt.slice w none (some (-1))
inductive Take (s:MS) (x:Str):MS->Prop
  | row {w:Str}{r:List Str}(h:Txt.split x " " = w::r) (e:Txt.endswith w ":" = true) (o:zcg (cutW w)=true) (n:zmq s (numI (cutW w))) (k:zd4 s.ks r):Take s x ⟨some (numI (cutW w)),s.rows++[r],s.ks++r,[]⟩
  | pair {a b:Str}(h:Txt.split x " " = [a,">",b]) (e:Txt.endswith a ":" = false) (o:zgk s (a,b)):Take s x ⟨s.nv,s.rows,s.ks,s.qs++[(a,b)]⟩
theorem Take.det {s a b:MS}{x:Str}(h:Take s x a) (h':Take s x b):a=b:=by
  cases h with
  | row h e o n k=>
    cases h' with
    | row h'=>
      rw[h] at h'
      obtain⟨rfl,rfl⟩:=List.cons.inj h'
      rfl
    | pair h' e'=>
      rw[h] at h'
      obtain⟨rfl,_⟩:=List.cons.inj h'
      rw[e] at e'
      cases e'
  | pair h e o=>
    cases h' with
    | row h' e'=>
      rw[h] at h'
      obtain⟨rfl,_⟩:=List.cons.inj h'
      rw[e] at e'
      cases e'
    | pair h' e'=>
      have q:=h.symm.trans h'
      obtain rfl:=(List.cons.inj q).1
      obtain rfl:=(List.cons.inj (List.cons.inj (List.cons.inj q).2).2).1
      rfl
inductive Run:MS->List Str->MS->Prop
  | nil {s:MS}:Run s [] s
  | cons {s a b:MS}{l:Str}{ls:List Str}:Take s l a->Run a ls b->Run s (l::ls) b
theorem Run.app {s a b:MS}{ls ms:List Str}(h:Run s ls a) (h':Run a ms b):Run s (ls++ms) b:=by
  induction h with
  | nil=>exact h'
  | cons t _ ih=>exact .cons t (ih h')
theorem Run.det {s a b:MS}{ls:List Str}(h:Run s ls a) (h':Run s ls b):a=b:=by
  induction h with
  | nil=>cases h';rfl
  | cons t _ ih=>
    cases h' with
    | cons t' r'=>
      cases t.det t'
      exact ih r'
theorem Run.at {s b:MS}{ls:List Str}(h:Run s ls b):∀{j:Nat}{l:Str},ls[j]? = some l->∃a c,Run s (ls.take j) a/\Take a l c:=by
  induction h with
  | nil=>intro j l e;cases e
  | @cons s a b x ls t r ih=>
    intro j l e
    cases j with
    | zero=>
      cases e
      exact⟨s,a,.nil,t⟩
    | succ j=>
      obtain⟨c,d,h1,h2⟩:=ih e
      exact⟨c,d,.cons t h1,h2⟩
theorem Run.snoc {s a b:MS}{ls:List Str}{l:Str}{j:Nat}(h:Run s (ls.take j) a) (e:ls[j]? = some l) (t:Take a l b):Run s (ls.take (j+1)) b:=by
  rw[List.take_add_one,e]
  exact h.app (.cons t .nil)
theorem Take.sizes {s a:MS}{x:Str}(h:Take s x a) (hw:(Txt.split x " ").length<=25):a.ks.length<=s.ks.length+25/\a.rows.length<=s.rows.length+1/\a.qs.length<=s.qs.length+1:=by
  cases h with
  | row h e o n k=>
    rw[h] at hw
    simp only [List.length_cons] at hw
    refine⟨?_,?_,Nat.zero_le _⟩
    · rw[List.length_append];omega
    · rw[List.length_append];exact Nat.le_refl _
  | pair h e o=>
    refine⟨Nat.le_add_right _ _,Nat.le_add_right _ _,?_⟩
    rw[List.length_append]
    exact Nat.le_refl _
theorem Take.nodup {s a:MS}{x:Str}(h:Take s x a) (nd:s.ks.Nodup):a.ks.Nodup:=by
  cases h with
  | row h e o n k=>exact k.2.2.2
  | pair h e o=>exact nd
theorem Run.sizes {s b:MS}{ls:List Str}(h:Run s ls b) (hw:∀x∈ls,(Txt.split x " ").length<=25):b.ks.length<=s.ks.length+25 * ls.length/\b.rows.length<=s.rows.length+ls.length/\b.qs.length<=s.qs.length+ls.length:=by
  induction h with
  | nil=>exact⟨Nat.le_refl _,Nat.le_refl _,Nat.le_refl _⟩
  | cons t r ih=>
    obtain⟨h1,h2,h3⟩:=t.sizes (hw _ (List.mem_cons_self ..))
    obtain⟨g1,g2,g3⟩:=ih fun x hx=>hw x (List.mem_cons_of_mem _ hx)
    rw[List.length_cons]
    refine⟨by omega,by omega,by omega⟩
theorem Run.nodup {s b:MS}{ls:List Str}(h:Run s ls b) (nd:s.ks.Nodup):b.ks.Nodup:=by
  induction h with
  | nil=>exact nd
  | cons t r ih=>exact ih (t.nodup nd)
def Ref (ls:List Str) (r:Nat):Prop:=(∃i s l,ls[i]? = some l/\Run MS0 (ls.take i) s/\(∀s',¬Take s l s')/\r=i+1)\/(∃s,Run MS0 ls s/\s.nv≠some 0/\r=ls.length+1)
structure TextOk (ls:List Str):Prop where
  ne:Txt.join "\n" ls≠Str.ofString ""
  n0:ls≠[]
  feed:∀l∈ls,10 ∉ co l
  len:∀l∈ls,l.length<=900
  words:∀l∈ls,(Txt.split l " ").length<=25
  many:ls.length<=36
theorem TextOk.text {ls:List Str}(h:TextOk ls):Txt.split (Txt.join "\n" ls) "\n" = ls/\(Txt.join "\n" ls).length<=1000000:=
  ⟨zme h.n0 h.feed,(zdi (by have:=h.many;omega) h.len).1⟩
theorem zhl (s:List Nat):∀{l:List (List Nat)}{y:List Nat},y∈l->y.length<=(jc s l).length
  | [x],y,h=>by rw[List.mem_singleton.mp h];exact Nat.le_refl _
  | x::z::r,y,h=>by
    show y.length<=(x++s++jc s (z::r)).length
    rw[List.length_append,List.length_append]
    rcases List.mem_cons.mp h with rfl | h
    · omega
    · have:=zhl s h
      omega
theorem zkp (x:Str):∀y∈Txt.split x (Str.ofString " "),y.length<=x.length:=fun y hy=>by
  have e:(Str.ofString " " : Str)=⟨#[32]⟩:=by decide +kernel
  rw[e] at hy
  have j:=StrLaws.join_split x ⟨#[32]⟩
  generalize Txt.split x ⟨#[32]⟩=ps at j hy
  have h:=zhl [32] (List.mem_map.mpr ⟨y,hy,rfl⟩:co y∈ps.map co)
  have e2:jc [32] (ps.map co)=co x:=by
    cases ps with
    | nil=>cases hy
    | cons a r=>
      have:=zcn ⟨#[32]⟩ (a::r)
      rw[show Txt.join ⟨#[32]⟩ (a::r)=Str.join ⟨#[32]⟩ (a::r) from StrLaws.glued_eq_join _ _,j] at this
      exact this.symm
  rw[e2,zas,zas] at h
  exact h
theorem zqh {w:Str}{n:Nat}(h:w.length<=n):(cutW w).length<=n:=Nat.le_trans (PyProof.Txt.length_slice_le w _ _) h
theorem zlu {s:MS}{n:Nat}{names:List Str}(hn:n<10 ^ 60) (q0:s.qs = []) (hv:s.nv=none\/s.nv=some ((n:Int)+1)) (h:zd4 s.ks names):Take s (rowT (n:Int) names) ⟨some n,s.rows++[names],s.ks++names,[]⟩:=by
  have sp:=zb8 (n:Int) h.1 h.2.2.1
  obtain⟨o1,o2,_⟩:=zh7 (n:Int) hn
  have ec:cutW (hdT (n:Int))=Str.ofString (toString (n:Int)):=zs7 _
  have:=Take.row (s:=s) sp (zln _) (by rw[ec];exact o1) (by rw[ec,o2];exact⟨by omega,q0,hv⟩) h
  rw[ec,o2] at this
  exact this
theorem zon {s:MS}{p:SS}(h1:zaj p.1=true) (h2:zaj p.2=true) (h:zgk s p):Take s (zp p) ⟨s.nv,s.rows,s.ks,s.qs++[p]⟩:=
  .pair (zb3 h1 h2) (zds h1) h
theorem zgl {s:MS}{x w:Str}{r:List Str}(h:Txt.split x " " = w::r) (e:Txt.endswith w ":" = true) (bad:zcg (cutW w)=true->zmq s (numI (cutW w))->¬zd4 s.ks r):∀s',¬Take s x s':=fun s' t=>by
  cases t with
  | row h' e' o n k=>
    obtain⟨rfl,rfl⟩:=List.cons.inj (h.symm.trans h')
    exact bad o n k
  | pair h' e'=>
    obtain⟨rfl,_⟩:=List.cons.inj (h.symm.trans h')
    rw[e] at e'
    cases e'
theorem zif {s:MS}{x w:Str}{r:List Str}(h:Txt.split x " " = w::r) (e:Txt.endswith w ":" = false) (bad:∀b,r = [(">" : Str),b]->¬zgk s (w,b)):∀s',¬Take s x s':=fun s' t=>by
  cases t with
  | row h' e'=>
    obtain⟨rfl,_⟩:=List.cons.inj (h.symm.trans h')
    rw[e] at e'
    cases e'
  | pair h' e' o=>
    obtain⟨rfl,h2⟩:=List.cons.inj (h.symm.trans h')
    exact bad _ h2 o
theorem zgm {ws:List (List Nat)}(h0:ws≠[]) (hf:∀x∈ws,32 ∉ x):Txt.split (zy (jc [32] ws)) " " = ws.map zy:=by
  have:=zc2 (c:=32) h0 hf
  rwa [←zf8] at this
theorem zhm (l:List Nat):Txt.endswith (zy l) ":" = decide (l.getLast? = some 58):=by
  have e:((":" : Str):Str)=⟨#[58]⟩:=by decide +kernel
  rw[e,zfm,zv]
theorem zoo (l:List Nat):cutW (zy (l++[58]))=zy l:=by
  apply zbp
  unfold cutW
  rw[zeb,zv,zv,zcu]
  have e1:sIx' (l++[58]).length 0 none=0:=rfl
  have e2:sIx' (l++[58]).length (l++[58]).length (some (-1))=l.length:=by
    show (if (-1:Int)<0 then (max (-1+((l++[58]).length:Int)) 0).toNat else min (-1:Int).toNat (l++[58]).length)=_
    rw[if_pos (by decide),List.length_append]
    show (max (-1+((l.length+1:Nat):Int)) 0).toNat=_
    omega
  rw[e1,e2]
  simp
theorem za6 {s:MS}{l:List Nat}{ws:List (List Nat)}(hl:32 ∉ l) (hf:∀x∈ws,32 ∉ x) (bad:zcg (zy l)=true->zmq s (numI (zy l))->¬zd4 s.ks (ws.map zy)):∀s',¬Take s (zy (jc [32] ((l++[58])::ws))) s':=by
  have h:=zgm (ws:=(l++[58])::ws) (List.cons_ne_nil _ _) (fun x hx=>by
    rcases List.mem_cons.mp hx with rfl | hx
    · intro z
      rcases List.mem_append.mp z with z | z
      · exact hl z
      · simp at z
    · exact hf x hx)
  refine zgl h (by rw[zhm];simp) fun a b=>?_
  rw[zoo] at a b
  exact bad a b
theorem zfo {s:MS}{w:List Nat}{ws:List (List Nat)}(hw:¬w.getLast? = some 58) (hf:∀x∈w::ws,32 ∉ x) (bad:∀b,ws.map zy = [(">" : Str),b]->¬zgk s (zy w,b)):∀s',¬Take s (zy (jc [32] (w::ws))) s':=by
  have h:=zgm (ws:=w::ws) (List.cons_ne_nil _ _) hf
  exact zif h (by rw[zhm,decide_eq_false hw]) bad
theorem zb9 {s:MS}{w:List Nat}{ws:List (List Nat)}(hw:¬w.getLast? = some 58) (hf:∀x∈w::ws,32 ∉ x) (hl:ws.length≠2):∀s',¬Take s (zy (jc [32] (w::ws))) s':=
  zfo hw hf fun b e=>absurd (by have:=congrArg List.length e;rwa [List.length_map] at this) hl
theorem zop {s:MS}{w g y:List Nat}(hw:¬w.getLast? = some 58) (hf:∀x∈[w,g,y],32 ∉ x) (hg:g≠[62]):∀s',¬Take s (zy (jc [32] [w,g,y])) s':=
  zfo hw hf fun b e=>absurd (zf3 ((List.cons.inj e).1.trans gt1_is.symm)) hg
def ZZ:List Nat:=[122,122]
def badW (m:List Nat) (k:Nat) (d2:List Nat):List (List (List Nat)):=
  [[[]],[[],[]],[[120]],[m],[m,[62]],[[62],m],[m,[62],m,[62],m],[m,[60],m],
   [dg k++[58]],[dg k++[58],[]],[dg k++[58,122,122]],[48::dg k++[58],ZZ],
   [[120]++[58],ZZ],[[45,49]++[58],ZZ],
   [[],dg k++[58],ZZ],[dg k,[58],ZZ],[dg k++[58],ZZ,[]],[dg k++[58],[],ZZ],
   [dg k++[58],[90,122]],[dg k++[58],[122,95,122]],[dg k++[58],[97,98,99,100,101,102,103,104,105,106,107,108,109]],
   [dg k++[58],ZZ,[97]],
   [m,[],[62],m],[m,[62],m,[]],[[],m,[62],m],[m,[62],ZZ],
   [ZZ,[62],m],
   [dg k++[58],ZZ,ZZ],[dg (k+1)++[58],ZZ],[d2++[58],ZZ],
   [43::dg k++[58],ZZ]]
def badT (name:Str) (k:Int):List Str:=
  [Str.ofString "",Str.ofString " ",Str.ofString "x",name,name++Str.ofString " >",Str.ofString "> " ++ name,name++Str.ofString " > " ++ name++Str.ofString " > " ++ name,name++Str.ofString " < " ++ name] ++
  [Str.ofString (toString k)++Str.ofString ":",Str.ofString (toString k)++Str.ofString ": ",Str.ofString (toString k)++Str.ofString ":zz",Str.ofString "0" ++ Str.ofString (toString k)++Str.ofString ": zz"] ++
  [Str.ofString "x: zz",Str.ofString "-1: zz"] ++
  [Str.ofString " " ++ Str.ofString (toString k)++Str.ofString ": zz",Str.ofString (toString k)++Str.ofString " : zz",Str.ofString (toString k)++Str.ofString ": zz ",Str.ofString (toString k)++Str.ofString ":  zz"] ++
  [Str.ofString (toString k)++Str.ofString ": Zz",Str.ofString (toString k)++Str.ofString ": z_z",Str.ofString (toString k)++Str.ofString ": abcdefghijklm"] ++
  [Str.ofString (toString k)++Str.ofString ": zz a"] ++
  [name++Str.ofString "  > " ++ name,name++Str.ofString " > " ++ name++Str.ofString " ",Str.ofString " " ++ name++Str.ofString " > " ++ name,name++Str.ofString " > zz"] ++
  [Str.ofString "zz > " ++ name] ++
  [Str.ofString (toString k)++Str.ofString ": zz zz",Str.ofString (toString (k+1))++Str.ofString ": zz",Str.ofString (toString (k-2))++Str.ofString ": zz"] ++
  [Str.ofString "+" ++ Str.ofString (toString k)++Str.ofString ": zz"]
theorem zs9 (x y:Str):x++y=zy (co x++co y):=zbp (by rw[zag,zv])
theorem zta (name:Str) (k:Nat):badT name (k:Int)=(badW (co name) k (co (Str.ofString (toString ((k:Int)-2))))).map fun ws=>zy (jc [32] ws):=by
  have e1:co (Str.ofString (toString ((k:Int)+1)))=dg (k+1):=zbm (k+1)
  have l1:(Str.ofString "" : Str)=zy []:=by decide +kernel
  have l2:(Str.ofString " " : Str)=zy [32]:=by decide +kernel
  have l3:(Str.ofString "x" : Str)=zy [120]:=by decide +kernel
  have l4:(Str.ofString " >" : Str)=zy [32,62]:=by decide +kernel
  have l5:(Str.ofString "> " : Str)=zy [62,32]:=by decide +kernel
  have l6:(Str.ofString " > " : Str)=zy [32,62,32]:=by decide +kernel
  have l7:(Str.ofString " < " : Str)=zy [32,60,32]:=by decide +kernel
  have l8:(Str.ofString ":" : Str)=zy [58]:=by decide +kernel
  have l9:(Str.ofString ": " : Str)=zy [58,32]:=by decide +kernel
  have l10:(Str.ofString ":zz" : Str)=zy [58,122,122]:=by decide +kernel
  have l11:(Str.ofString "0" : Str)=zy [48]:=by decide +kernel
  have l12:(Str.ofString ": zz" : Str)=zy [58,32,122,122]:=by decide +kernel
  have l13:(Str.ofString "x: zz" : Str)=zy [120,58,32,122,122]:=by decide +kernel
  have l14:(Str.ofString "-1: zz" : Str)=zy [45,49,58,32,122,122]:=by decide +kernel
  have l15:(Str.ofString " : zz" : Str)=zy [32,58,32,122,122]:=by decide +kernel
  have l16:(Str.ofString ": zz " : Str)=zy [58,32,122,122,32]:=by decide +kernel
  have l17:(Str.ofString ":  zz" : Str)=zy [58,32,32,122,122]:=by decide +kernel
  have l18:(Str.ofString ": Zz" : Str)=zy [58,32,90,122]:=by decide +kernel
  have l19:(Str.ofString ": z_z" : Str)=zy [58,32,122,95,122]:=by decide +kernel
  have l20:(Str.ofString ": abcdefghijklm" : Str)=zy [58,32,97,98,99,100,101,102,103,104,105,106,107,108,109]:=by decide +kernel
  have l21:(Str.ofString ": zz a" : Str)=zy [58,32,122,122,32,97]:=by decide +kernel
  have l22:(Str.ofString "  > " : Str)=zy [32,32,62,32]:=by decide +kernel
  have l23:(Str.ofString " > zz" : Str)=zy [32,62,32,122,122]:=by decide +kernel
  have l24:(Str.ofString "zz > " : Str)=zy [122,122,32,62,32]:=by decide +kernel
  have l25:(Str.ofString ": zz zz" : Str)=zy [58,32,122,122,32,122,122]:=by decide +kernel
  have l26:(Str.ofString "+" : Str)=zy [43]:=by decide +kernel
  unfold badT badW ZZ
  rw[l1,l2,l3,l4,l5,l6,l7,l8,l9,l10,l11,l12,l13,l14,l15,l16,l17,l18,l19,l20,l21,l22,l23,l24,l25,l26]
  simp only [zs9,zv,zbm,e1,List.cons_append,List.nil_append,List.map_cons,List.map_nil,jc,List.append_assoc]
  have en:name=zy (co name):=(zco name).symm
  congr 3
theorem dg32 {k:Nat}:32 ∉ dg k:=fun z=>by have:=zf2 k _ z;omega
theorem ztb {k:Nat}:¬(dg k).getLast? = some 58:=fun z=>by have:=zf2 k _ (List.mem_of_getLast? z);omega
theorem ztc {k:Nat}(h:k<10 ^ 60):numI (zy (dg k))=k:=by
  have:=(zh7 (k:Int) h).2.1
  rwa [show (Str.ofString (toString (k:Int)):Str)=zy (dg k) from zbp (by rw[zbm,zv])] at this
theorem zvb {s:MS}{name:Str}{k j:Nat}(hk:k<64) (hn:zaj name=true) (hq:s.qs = []) (hv:s.nv=none\/s.nv=some ((k:Int)+1)) (hz:zy ZZ ∉ s.ks) (h28:s.nv=none->j≠28/\j≠29) {x:Str}(hx:(badT name (k:Int))[j]? = some x):∀s',¬Take s x s':=by
  have hk6:k+1<10 ^ 60:=Nat.lt_trans (show k+1<65 by omega) (by decide)
  obtain⟨hs,hne⟩:=zbh hn
  have m32:32 ∉ co name:=fun z=>(hs 32 z).1 rfl
  have mlast:¬(co name).getLast? = some 58:=fun z=>by
    have:=zds hn
    rw[show Txt.endswith name (Str.ofString ":")=decide ((co name).getLast? = some 58) from by rw[show (Str.ofString ":" : Str)=⟨#[58]⟩ by decide +kernel,zfm],decide_eq_true z] at this
    cases this
  have mco:zy (co name)=name:=zco name
  have d32:32 ∉ dg k:=dg32
  have d2:32 ∉ co (Str.ofString (toString ((k:Int)-2))):=fun z=>((zf9 ((k:Int)-2)).1 32 z).1 rfl
  rw[zta,List.getElem?_map] at hx
  have zn:∀{r:List Str},zy ZZ∈r->True:=fun _=>trivial
  unfold badW at hx
  match j,h28,hx with
  | 0,_,hx=>cases hx;exact zb9 (by decide) (by decide) (by decide)
  | 1,_,hx=>cases hx;exact zb9 (by decide) (by decide) (by decide)
  | 2,_,hx=>cases hx;exact zb9 (by decide) (by decide) (by decide)
  | 3,_,hx=>cases hx;exact zb9 mlast (by simpa using m32) (by simp)
  | 4,_,hx=>cases hx;exact zb9 mlast (by simpa using m32) (by simp)
  | 5,_,hx=>cases hx;exact zb9 (by decide) (by simpa using m32) (by simp)
  | 6,_,hx=>cases hx;exact zb9 mlast (by simpa using m32) (by simp)
  | 7,_,hx=>cases hx;exact zop mlast (by simpa using m32) (by decide)
  | 8,_,hx=>cases hx;exact za6 d32 (by simp) fun _ _ h=>h.1 rfl
  | 9,_,hx=>cases hx;exact za6 d32 (by simp) fun _ _ h=>absurd (h.2.2.1 _ (List.mem_cons_self ..)) (by decide +kernel)
  | 10,_,hx=>cases hx;exact zb9 (by simp) (by simpa using d32) (by decide)
  | 11,_,hx=>
    cases hx
    refine za6 (l:=48::dg k) (by simpa using d32) (by decide) fun o=>?_
    exfalso
    unfold zcg at o
    have e:co (zy (48::dg k))=48::dg k:=zv _
    rw[e,zc1 _ (by decide)] at o
    simp only [Bool.and_eq_true,Bool.not_eq_true',List.head?_cons,decide_true,Bool.true_and,Bool.not_eq_false',decide_eq_true_eq] at o
    have:=congrArg (fun z=>(co z).length) o.2
    simp only [zv,List.length_cons] at this
    have p:=zk9 k
    have z:(co ZERO).length=1:=by decide +kernel
    omega
  | 12,_,hx=>cases hx;exact za6 (l:=[120]) (by decide) (by decide) fun o=>absurd o (by decide +kernel)
  | 13,_,hx=>cases hx;exact za6 (l:=[45,49]) (by decide) (by decide) fun _ n=>absurd n.1 (by decide +kernel)
  | 14,_,hx=>cases hx;exact zop (by decide) (by simpa[ZZ] using d32) (by intro z;have z:=congrArg List.getLast? z;simp at z)
  | 15,_,hx=>cases hx;exact zop ztb (by simpa[ZZ] using d32) (by decide)
  | 16,_,hx=>cases hx;exact za6 d32 (by decide) fun _ _ h=>absurd (List.pairwise_cons.mp h.2.1).1 (by intro z;exact z _ (List.mem_cons_self ..) (by decide +kernel))
  | 17,_,hx=>cases hx;exact za6 d32 (by decide) fun _ _ h=>absurd (h.2.2.1 _ (List.mem_cons_self ..)) (by decide +kernel)
  | 18,_,hx=>cases hx;exact za6 d32 (by decide) fun _ _ h=>absurd (h.2.2.1 _ (List.mem_cons_self ..)) (by decide +kernel)
  | 19,_,hx=>cases hx;exact za6 d32 (by decide) fun _ _ h=>absurd (h.2.2.1 _ (List.mem_cons_self ..)) (by decide +kernel)
  | 20,_,hx=>cases hx;exact za6 d32 (by decide) fun _ _ h=>absurd (h.2.2.1 _ (List.mem_cons_self ..)) (by decide +kernel)
  | 21,_,hx=>cases hx;exact za6 d32 (by decide) fun _ _ h=>absurd (List.pairwise_cons.mp h.2.1).1 (by intro z;exact z _ (List.mem_cons_self ..) (by decide +kernel))
  | 22,_,hx=>cases hx;exact zb9 mlast (by simpa using m32) (by simp)
  | 23,_,hx=>cases hx;exact zb9 mlast (by simpa using m32) (by simp)
  | 24,_,hx=>cases hx;exact zb9 (by decide) (by simpa using m32) (by simp)
  | 25,_,hx=>
    cases hx
    refine zfo mlast (by simpa[ZZ] using m32) fun b e h=>?_
    have:zy ZZ=b:=(List.cons.inj (List.cons.inj e).2).1
    exact hz (this▸h.2.1)
  | 26,_,hx=>cases hx;exact zfo (by decide) (by simpa[ZZ] using m32) fun b e h=>hz h.1
  | 27,_,hx=>cases hx;exact za6 d32 (by decide) (fun _ _ h=>absurd (List.nodup_append.mp h.2.2.2).2.1 (by decide +kernel))
  | 28,h28,hx=>
    cases hx
    refine za6 dg32 (by decide) fun _ n=>?_
    exfalso
    rw[ztc hk6] at n
    rcases hv with v | v
    · exact (h28 v).1 rfl
    · rcases n.2.2 with z | z
      · rw[v] at z;cases z
      · rw[v] at z
        have:=Option.some.inj z
        omega
  | 29,h28,hx=>
    cases hx
    refine za6 d2 (by decide) fun _ n=>?_
    exfalso
    rw[zco,(zh7 ((k:Int)-2) (Nat.lt_trans (show ((k:Int)-2).natAbs<100 by omega) (by decide))).2.1] at n
    rcases hv with v | v
    · exact (h28 v).2 rfl
    · rcases n.2.2 with z | z
      · rw[v] at z;cases z
      · rw[v] at z
        have:=Option.some.inj z
        omega
  | 30,_,hx=>
    cases hx
    refine za6 (l:=43::dg k) (by simpa using d32) (by decide) fun o=>?_
    exfalso
    unfold zcg at o
    have e:co (zy (43::dg k))=43::dg k:=zv _
    rw[e,zc1 _ (by decide)] at o
    simp only [Bool.and_eq_true] at o
    have:=(ze5 o.1.2) 43 (List.mem_cons_self ..)
    omega
  | j+31,_,hx=>cases hx
def lvT (gs:List (List Str)):List Str:=(List.range gs.length).map fun i=>rowT ((gs.length-1-i:Nat):Int) (gs.getD (gs.length-1-i) [])
theorem zoq (gs:List (List Str)):(lvT gs).length=gs.length:=by unfold lvT;rw[List.length_map,List.length_range]
theorem zlv {gs:List (List Str)}{i:Nat}(h:i<gs.length):(lvT gs)[i]? = some (rowT ((gs.length-1-i:Nat):Int) (gs.getD (gs.length-1-i) [])):=by
  unfold lvT
  rw[List.getElem?_map,List.getElem?_range h]
  rfl
def stL (gs:List (List Str)) (i:Nat):MS:=⟨if i=0 then none else some ((gs.length-i:Nat):Int),gs.reverse.take i,(gs.reverse.take i).flatten,[]⟩
theorem zor {gs:List (List Str)}{qs:List SS}(M:MatOk gs qs) {i:Nat}(h:i<gs.length):zd4 (gs.reverse.take i).flatten (gs.getD (gs.length-1-i) []):=by
  obtain⟨hm,_⟩:=zc4 (rows:=gs) (i:=gs.length-1-i) (by omega)
  refine⟨M.rne _ hm,M.rs _ hm,M.nm _ hm,?_⟩
  have et:=zrh h
  have ef:(gs.reverse.take (i+1)).flatten=(gs.reverse.take i).flatten++gs.getD (gs.length-1-i) []:=by rw[et,List.flatten_append,List.flatten_cons,List.flatten_nil,List.append_nil]
  rw[←ef]
  exact (zc5 gs.reverse (i+1)).nodup ((zei gs).nodup_iff.mpr M.nd)
theorem ze7 {gs:List (List Str)}{qs:List SS}(M:MatOk gs qs):∀i,i<=gs.length->Run MS0 ((lvT gs).take i) (stL gs i)
  | 0,_=>by
    rw[List.take_zero]
    unfold stL
    rw[List.take_zero]
    exact .nil
  | i+1,h=>by
    have ih:=ze7 M i (by omega)
    have hl:=M.rl
    have t:=zlu (s:=stL gs i) (n:=gs.length-1-i) (names:=gs.getD (gs.length-1-i) []) (Nat.lt_trans (show gs.length-1-i<64 by omega) (by decide)) rfl (by
      unfold stL
      by_cases c:i=0
      · exact .inl (if_pos c)
      · refine .inr ((if_neg c).trans (congrArg some ?_))
        omega) (zor M (by omega))
    have r:=ih.snoc (zlv (by omega)) t
    have e:stL gs (i+1)=⟨some ((gs.length-1-i:Nat):Int),(stL gs i).rows++[gs.getD (gs.length-1-i) []],(stL gs i).ks++gs.getD (gs.length-1-i) [],[]⟩:=by
      unfold stL
      rw[if_neg (by omega),zrh (by omega),List.flatten_append,List.flatten_cons,List.flatten_nil,List.append_nil,show gs.length-(i+1)=gs.length-1-i by omega]
    rw[e]
    exact r
theorem zdk:∀{ps:List SS}{s:MS},(∀p∈ps,zaj p.1=true/\zaj p.2=true/\p.1∈s.ks/\p.2∈s.ks)->(s.qs++ps).Pairwise (fun a b=>ltPP a b=true)->Run s (ps.map zp) ⟨s.nv,s.rows,s.ks,s.qs++ps⟩
  | [],s,_,_=>by
    rw[List.append_nil]
    exact .nil
  | p::ps,s,hm,hl=>by
    obtain⟨n1,n2,m1,m2⟩:=hm p (List.mem_cons_self ..)
    have t:=zon (s:=s) n1 n2 ⟨m1,m2,fun l hl'=>(List.pairwise_append.mp hl).2.2 l (List.mem_of_getLast? hl') p (List.mem_cons_self ..)⟩
    have r:=zdk (ps:=ps) (s:=⟨s.nv,s.rows,s.ks,s.qs++[p]⟩) (fun q hq=>hm q (List.mem_cons_of_mem _ hq)) (by
      show (s.qs++[p]++ps).Pairwise _
      rw[List.append_assoc];exact hl)
    have e:s.qs++[p]++ps=s.qs++p::ps:=by rw[List.append_assoc];rfl
    rw[←e]
    exact .cons t r
theorem zgn {pre post:List Str}{x:Str}{s:MS}(h:Run MS0 pre s) (hn:∀s',¬Take s x s'):Ref (pre++x::post) (pre.length+1):=by
  refine .inl ⟨pre.length,s,x,?_,?_,hn,rfl⟩
  · simp
  · rw[List.take_left];exact h
theorem zqi {ls:List Str}{r at':Nat}{x:Str}(h:Ref ls r) (hr:r<=ls.length) (ha:r<=at'):Ref (ls.take at'++[x]++ls.drop at') r:=by
  rcases h with ⟨i,s,l,hl,hrun,hst,rfl⟩ | ⟨s,_,_,rfl⟩
  · refine .inl ⟨i,s,l,?_,?_,hst,rfl⟩
    · rw[List.append_assoc,List.getElem?_append_left (by rw[List.length_take];omega),List.getElem?_take_of_lt (by omega)]
      exact hl
    · rw[List.append_assoc,List.take_append_of_le_length (by rw[List.length_take];omega),List.take_take,Nat.min_eq_left (by omega)]
      exact hrun
  · omega
structure LOk (a b:Nat) (x:Str):Prop where
  feed:10 ∉ co x
  len:x.length<=a
  cnt:(co x).count 32<=b
theorem zgo (x y:Str):(x++y).length=x.length+y.length:=by rw[←zas,zag,List.length_append,zas,zas]
theorem LOk.app {a b a' b':Nat}{x y:Str}(h:LOk a b x) (h':LOk a' b' y):LOk (a+a') (b+b') (x++y):=by
  refine⟨fun z=>?_,?_,?_⟩
  · rw[zag] at z
    rcases List.mem_append.mp z with z | z
    · exact h.feed z
    · exact h'.feed z
  · rw[zgo]
    exact Nat.add_le_add h.len h'.len
  · rw[zag,List.count_append]
    exact Nat.add_le_add h.cnt h'.cnt
theorem LOk.lit {x:Str}(h:10 ∉ co x/\x.length<=20/\(co x).count 32<=4):LOk 20 4 x:=⟨h.1,h.2.1,h.2.2⟩
theorem LOk.mono {a b a' b':Nat}{x:Str}(h:LOk a b x) (ha:a<=a') (hb:b<=b'):LOk a' b' x:=⟨h.feed,Nat.le_trans h.len ha,Nat.le_trans h.cnt hb⟩
abbrev zb0 (x:Str):Prop:=LOk 900 24 x
theorem LOk.name {x:Str}(h:zaj x=true):LOk 12 0 x:=by
  obtain⟨hs,_⟩:=zbh h
  refine⟨fun z=>(hs 10 z).2.1 rfl,?_,?_⟩
  · unfold zaj at h
    simp only [Bool.and_eq_true,decide_eq_true_eq] at h
    exact h.1.2
  · rw[List.count_eq_zero.mpr (fun z=>(hs 32 z).1 rfl)]
    exact Nat.le_refl _
theorem LOk.num {k:Int}(h:k.natAbs<100):LOk 61 0 (Str.ofString (toString k)):=by
  obtain⟨hs,_⟩:=zf9 k
  refine⟨fun z=>(hs 10 z).2.1 rfl,(zh7 k (Nat.lt_trans h (by decide))).2.2,?_⟩
  rw[List.count_eq_zero.mpr (fun z=>(hs 32 z).1 rfl)]
  exact Nat.le_refl _
theorem zqj {name:Str}{k:Nat}(hn:zaj name=true) (hk:k<64):∀x∈badT name (k:Int),zb0 x:=by
  have h1:=LOk.name hn
  have h2:LOk 61 0 (Str.ofString (toString (k:Int))):=LOk.num (by omega)
  have h3:LOk 61 0 (Str.ofString (toString ((k:Int)+1))):=LOk.num (by omega)
  have h4:LOk 61 0 (Str.ofString (toString ((k:Int)-2))):=LOk.num (by omega)
  unfold badT
  simp only [List.cons_append,List.nil_append,List.forall_mem_cons]
  exact⟨(LOk.lit (x:=Str.ofString "") (by decide +kernel)).mono (by decide) (by decide),
    (LOk.lit (x:=Str.ofString " ") (by decide +kernel)).mono (by decide) (by decide),
    (LOk.lit (x:=Str.ofString "x") (by decide +kernel)).mono (by decide) (by decide),
    h1.mono (by decide) (by decide),
    (h1.app (LOk.lit (x:=Str.ofString " >") (by decide +kernel))).mono (by decide) (by decide),
    ((LOk.lit (x:=Str.ofString "> ") (by decide +kernel)).app h1).mono (by decide) (by decide),
    ((((h1.app (LOk.lit (x:=Str.ofString " > ") (by decide +kernel))).app h1).app (LOk.lit (x:=Str.ofString " > ") (by decide +kernel))).app h1).mono (by decide) (by decide),
    ((h1.app (LOk.lit (x:=Str.ofString " < ") (by decide +kernel))).app h1).mono (by decide) (by decide),
    (h2.app (LOk.lit (x:=Str.ofString ":") (by decide +kernel))).mono (by decide) (by decide),
    (h2.app (LOk.lit (x:=Str.ofString ": ") (by decide +kernel))).mono (by decide) (by decide),
    (h2.app (LOk.lit (x:=Str.ofString ":zz") (by decide +kernel))).mono (by decide) (by decide),
    (((LOk.lit (x:=Str.ofString "0") (by decide +kernel)).app h2).app (LOk.lit (x:=Str.ofString ": zz") (by decide +kernel))).mono (by decide) (by decide),
    (LOk.lit (x:=Str.ofString "x: zz") (by decide +kernel)).mono (by decide) (by decide),
    (LOk.lit (x:=Str.ofString "-1: zz") (by decide +kernel)).mono (by decide) (by decide),
    (((LOk.lit (x:=Str.ofString " ") (by decide +kernel)).app h2).app (LOk.lit (x:=Str.ofString ": zz") (by decide +kernel))).mono (by decide) (by decide),
    (h2.app (LOk.lit (x:=Str.ofString " : zz") (by decide +kernel))).mono (by decide) (by decide),
    (h2.app (LOk.lit (x:=Str.ofString ": zz ") (by decide +kernel))).mono (by decide) (by decide),
    (h2.app (LOk.lit (x:=Str.ofString ":  zz") (by decide +kernel))).mono (by decide) (by decide),
    (h2.app (LOk.lit (x:=Str.ofString ": Zz") (by decide +kernel))).mono (by decide) (by decide),
    (h2.app (LOk.lit (x:=Str.ofString ": z_z") (by decide +kernel))).mono (by decide) (by decide),
    (h2.app (LOk.lit (x:=Str.ofString ": abcdefghijklm") (by decide +kernel))).mono (by decide) (by decide),
    (h2.app (LOk.lit (x:=Str.ofString ": zz a") (by decide +kernel))).mono (by decide) (by decide),
    ((h1.app (LOk.lit (x:=Str.ofString "  > ") (by decide +kernel))).app h1).mono (by decide) (by decide),
    (((h1.app (LOk.lit (x:=Str.ofString " > ") (by decide +kernel))).app h1).app (LOk.lit (x:=Str.ofString " ") (by decide +kernel))).mono (by decide) (by decide),
    ((((LOk.lit (x:=Str.ofString " ") (by decide +kernel)).app h1).app (LOk.lit (x:=Str.ofString " > ") (by decide +kernel))).app h1).mono (by decide) (by decide),
    (h1.app (LOk.lit (x:=Str.ofString " > zz") (by decide +kernel))).mono (by decide) (by decide),
    ((LOk.lit (x:=Str.ofString "zz > ") (by decide +kernel)).app h1).mono (by decide) (by decide),
    (h2.app (LOk.lit (x:=Str.ofString ": zz zz") (by decide +kernel))).mono (by decide) (by decide),
    (h3.app (LOk.lit (x:=Str.ofString ": zz") (by decide +kernel))).mono (by decide) (by decide),
    (h4.app (LOk.lit (x:=Str.ofString ": zz") (by decide +kernel))).mono (by decide) (by decide),
    (((LOk.lit (x:=Str.ofString "+") (by decide +kernel)).app h2).app (LOk.lit (x:=Str.ofString ": zz") (by decide +kernel))).mono (by decide) (by decide),fun _ h=>nomatch h⟩
theorem zlw:∀{ls:List (List Nat)},ls≠[]->(∀x∈ls,32 ∉ x)->(jc [32] ls).count 32+1=ls.length
  | [x],_,h=>by
    show x.count 32+1=1
    rw[List.count_eq_zero.mpr (h x (List.mem_cons_self ..))]
  | x::y::r,_,h=>by
    have ih:=zlw (ls:=y::r) (List.cons_ne_nil _ _) fun z hz=>h z (List.mem_cons_of_mem _ hz)
    show (x++[32]++jc [32] (y::r)).count 32+1=(y::r).length+1
    rw[List.count_append,List.count_append,List.count_eq_zero.mpr (h x (List.mem_cons_self ..))]
    have:([32]:List Nat).count 32=1:=rfl
    omega
theorem zc6 (x:Str):(Txt.split x " ").length=(co x).count 32+1:=by
  have e:((" " : Str):Str)=⟨#[32]⟩:=by decide +kernel
  rw[e]
  have j:=StrLaws.join_split x ⟨#[32]⟩
  have f:=StrLaws.split_free x 32
  have p:=PyProof.Rows.split_pos x ⟨#[32]⟩
  generalize Txt.split x ⟨#[32]⟩=ps at j f p
  cases ps with
  | nil=>simp at p
  | cons a r=>
    have h:=zcn ⟨#[32]⟩ (a::r)
    rw[show Txt.join ⟨#[32]⟩ (a::r)=Str.join ⟨#[32]⟩ (a::r) from StrLaws.glued_eq_join _ _,j] at h
    have h:co x=jc [32] ((a::r).map co):=h
    rw[h,zlw (by simp) (fun y hy=>by
      obtain⟨q,hq,rfl⟩:=List.mem_map.mp hy
      exact f q hq),List.length_map]
theorem zqk {ls:List Str}(h:2<=ls.length\/∃x,ls = [x]/\x≠""):Txt.join "\n" ls≠Str.ofString "":=by
  intro z
  have z:=congrArg co z
  rw[show Txt.join "\n" ls=Txt.join (Str.ofString "\n") ls from rfl,zcn,zkd,zv] at z
  have z0:co (Str.ofString "") = []:=by decide +kernel
  rw[z0] at z
  rcases h with h | ⟨x,rfl,hx⟩
  · match ls,h with
    | a::b::r,_=>
      have:jc [10] ((a::b::r).map co)=co a++[10]++jc [10] ((b::r).map co):=rfl
      rw[this] at z
      simp at z
  · apply hx
    apply zbp
    exact z
theorem TextOk.of {ls:List Str}(h:∀l∈ls,zb0 l) (hl:ls.length<=36) (h2:2<=ls.length\/∃x,ls = [x]/\x≠""):TextOk ls:=by
  refine⟨zqk h2,fun z=>?_,fun l hm=>(h l hm).feed,fun l hm=>(h l hm).len,fun l hm=>?_,hl⟩
  · rw[z] at h2
    rcases h2 with h2 | ⟨x,h2,_⟩
    · simp at h2
    · cases h2
  · rw[zc6]
    have:=(h l hm).cnt
    omega
theorem MatOk.lineOk {gs:List (List Str)}{qs:List SS}(M:MatOk gs qs) (h20:gs.flatten.length<=20) {l:Str}(hl:l∈lvT gs++qs.map zp):zb0 l:=by
  obtain⟨f,n⟩:=M.line (l:=l) hl
  refine⟨f,n,?_⟩
  have hw:=zc6 l
  rcases List.mem_append.mp hl with hl | hl
  · unfold lvT at hl
    obtain⟨i,hi,rfl⟩:=List.mem_map.mp hl
    have hi:=List.mem_range.mp hi
    obtain⟨hm,_⟩:=zc4 (rows:=gs) (i:=gs.length-1-i) (by omega)
    rw[zb8 _ (M.rne _ hm) (M.nm _ hm)] at hw
    have h6:=zbd hm
    rw[List.length_cons] at hw
    omega
  · obtain⟨p,hp,rfl⟩:=List.mem_map.mp hl
    obtain⟨n1,n2⟩:=M.qn hp
    rw[zb3 n1 n2] at hw
    have hw:3=(co (zp p)).count 32+1:=hw
    omega
theorem zab {a b a' b':Nat}{x y:Str}(h:LOk a b x) (h':LOk a' b' y) (hs:a+a'<=1000):x.length+y.length<=sizeLine:=zai (Nat.le_trans (Nat.add_le_add h.len h'.len) hs)
theorem zhn {a b:SS}(h:ltPP a b=true):ltPP b a=false:=by
  cases h':ltPP b a with
  | false=>rfl
  | true=>
    have:=zn6 h h'
    rw[zia] at this
    cases this
def zig (x:Str):Bool:=!(Builtin.Str.occurrences x (Str.ofString " > ") 0 x.length 1).isEmpty
theorem gt3:(Str.ofString " > " : Str).length=3/\(Str.ofString " > " : Str).cps.toList = [32,62,32]:=by decide +kernel
theorem zv4 {x:Str}(h:62 ∉ co x):zig x=false:=by
  cases e:zig x with
  | false=>rfl
  | true=>
    obtain⟨i,_,hi⟩:=(StrLaws.found_iff x (Str.ofString " > ")).mp e
    rw[StrLaws.subAt_eq,gt3.1,gt3.2,beq_iff_eq] at hi
    have:62∈((x.cps.toList.drop i).take 3):=by rw[hi];decide
    exact absurd (List.mem_of_mem_drop (List.mem_of_mem_take this)) h
theorem zvc (p:SS):zig (zp p)=true:=by
  have e:co (zp p)=co p.1++([32,62,32]++co p.2):=by
    unfold zp
    show co (Str.empty++p.1++Str.ofString " > " ++ p.2)=_
    rw[zeu,zag,zag,zu9,zv,List.append_assoc]
  refine (StrLaws.found_iff (zp p) (Str.ofString " > ")).mpr ⟨(co p.1).length,?_,?_⟩
  · rw[gt3.1,←zas,e,List.length_append,List.length_append]
    show _+3<=_+(3+_)
    omega
  · rw[StrLaws.subAt_eq,gt3.1,gt3.2]
    show ((co (zp p)).drop (co p.1).length).take 3 == [32,62,32]
    rw[e,List.drop_left]
    simp
theorem ztd (n:Nat) {names:List Str}(h:names≠[]) (hn:∀x∈names,zaj x=true):zig (rowT (n:Int) names)=false:=by
  refine zv4 fun z=>?_
  rw[zkn _ h,zv] at z
  rcases zlf z with z | ⟨x,hx,z⟩
  · revert z;decide
  · rcases List.mem_cons.mp hx with rfl | hx
    · rw[zjj,zbm] at z
      rcases List.mem_append.mp z with z | z
      · have:=zf2 n 62 z
        omega
      · revert z;decide
    · obtain⟨v,hv,rfl⟩:=List.mem_map.mp hx
      have:=hn v hv
      unfold zaj at this
      simp only [Bool.and_eq_true,decide_eq_true_eq] at this
      have:=of_decide_eq_true (List.all_eq_true.mp this.2 62 z)
      exact absurd this (by decide +kernel)
theorem zvd (word:Str) (o:Bool) (n:Nat):zy ZZ ∉ zd3 word o n:=fun h=>by
  obtain⟨k,_,e⟩:=List.mem_map.mp h
  have e:=congrArg co e
  rw[zv] at e
  have:45∈co (numT word o k):=by
    unfold numT
    cases o with
    | true=>
      rw[if_pos rfl,zag,zag,zew,zv]
      simp
    | false=>
      rw[if_neg (by decide),zag,zag,zew,zv]
      simp
  rw[e] at this
  revert this
  decide
structure Spoil (gs:List (List Str)) (ls:List Str) (r:Nat):Prop where
  line:∀l∈ls,zb0 l
  many:ls.length<=34
  two:2<=ls.length\/∃x,ls = [x]/\x≠""
  pos:1<=r
  ref:Ref ls r
  top:r<=ls.length+1
  last:r=ls.length+1->∃(m:Nat) (ps:List SS),ls=(lvT gs).take m++ps.map zp/\1<=m/\m<gs.length/\ps.Pairwise (fun a b=>ltPP a b=true)/\∀p∈ps,zaj p.1=true/\zaj p.2=true/\p.1∈(gs.reverse.take m).flatten/\p.2∈(gs.reverse.take m).flatten
theorem Spoil.text {gs:List (List Str)}{ls:List Str}{r:Nat}(h:Spoil gs ls r):TextOk ls:=.of h.line (by have:=h.many;omega) h.two
theorem Spoil.at {gs:List (List Str)}{pre post:List Str}{x:Str}{s:MS}(h:Run MS0 pre s) (hn:∀s',¬Take s x s') (hl:∀l∈pre++x::post,zb0 l) (hm:(pre++x::post).length<=34) (h2:2<=(pre++x::post).length\/x≠""):Spoil gs (pre++x::post) (pre.length+1):=by
  refine⟨hl,hm,?_,by omega,zgn h hn,?_,fun z=>?_⟩
  · rcases h2 with h2 | h2
    · exact .inl h2
    · by_cases c:2<=(pre++x::post).length
      · exact .inl c
      · rw[List.length_append,List.length_cons] at c
        obtain rfl:pre = []:=List.length_eq_zero_iff.mp (by omega)
        obtain rfl:post = []:=List.length_eq_zero_iff.mp (by omega)
        exact .inr ⟨x,rfl,h2⟩
  · rw[List.length_append,List.length_cons];omega
  · rw[List.length_append,List.length_cons] at z;omega
theorem zmr {gs:List (List Str)}{qs:List SS}(M:MatOk gs qs) {m:Nat}(hm:m<=gs.length) {pre:List SS}{a b:SS}(hl:(pre++[a,b]).Pairwise (fun a b=>ltPP a b=true)) (hp:∀p∈pre++[a,b],zaj p.1=true/\zaj p.2=true/\p.1∈(gs.reverse.take m).flatten/\p.2∈(gs.reverse.take m).flatten) :
    Ref ((lvT gs).take m++(pre++[b]).map zp++[zp a]) ((lvT gs).take m++(pre++[b]).map zp++[zp a]).length:=by
  have r1:=ze7 M m hm
  obtain⟨h1,h2,h3⟩:=List.pairwise_append.mp hl
  have hb:b∈pre++[a,b]:=by simp
  have ha:a∈pre++[a,b]:=by simp
  have r2:=zdk (ps:=pre++[b]) (s:=stL gs m) (fun p h=>hp p (by
    rcases List.mem_append.mp h with h | h
    · exact List.mem_append_left _ h
    · rw[List.mem_singleton.mp h];exact hb)) (by
    show ([]++(pre++[b])).Pairwise _
    rw[List.nil_append]
    refine List.pairwise_append.mpr ⟨h1,List.pairwise_singleton _ _,fun x hx y hy=>?_⟩
    rw[List.mem_singleton.mp hy]
    exact h3 x hx b (by simp))
  have lt:ltPP a b=true:=(List.pairwise_cons.mp h2).1 b (by simp)
  obtain⟨n1,n2,_,_⟩:=hp a ha
  have no:∀s',¬Take ⟨(stL gs m).nv,(stL gs m).rows,(stL gs m).ks,(stL gs m).qs++(pre++[b])⟩ (zp a) s':=by
    refine zif (zb3 n1 n2) (zds n1) fun y e ok=>?_
    obtain rfl:a.2=y:=(List.cons.inj (List.cons.inj e).2).1
    have z:ltPP b a=true:=ok.2.2 b (by show ([]++(pre++[b])).getLast? = some b;simp)
    rw[zhn lt] at z
    cases z
  have:=zgn (post:=[]) (r1.app r2) no
  rw[List.length_append]
  exact this
theorem zgp {α β:Type}{F:α->β->Prop}:∀{as:List α}{bs:List β},Paired F as bs->∀n,Paired F (as.drop n) (bs.drop n)
  | _,_,.nil,n=>by rw[List.drop_nil,List.drop_nil];exact .nil
  | _,_,.cons h t,0=>.cons h t
  | _,_,.cons h t,n+1=>zgp t n
theorem zih {n:Nat}{names:List Str}(hn:n<64) (h0:names≠[]) (h:∀x∈names,zaj x=true) (hl:names.length<=23):zb0 (rowT (n:Int) names):=by
  refine⟨zjl _ h0 h,?_,?_⟩
  · rw[zev _ h0]
    have h1:=zgb (xs:=names) (fun x hx=>(LOk.name (h x hx)).len) (Str.ofString (toString (n:Int))++Str.ofString ":")
    have h2:=zgc n hn
    have h3:(Str.ofString (toString (n:Int))++Str.ofString ":" : Str).length<=3:=by
      rw[zgo]
      have:(Str.ofString ":" : Str).length=1:=by decide +kernel
      omega
    exact Nat.le_trans h1 (by omega)
  · have hw:=zc6 (rowT (n:Int) names)
    rw[zb8 _ h0 h,List.length_cons] at hw
    omega
theorem zrj {s:MS}{n:Nat}{names:List Str}(h0:names≠[]) (h:∀x∈names,zaj x=true) (hd:¬(s.ks++names).Nodup):∀s',¬Take s (rowT (n:Int) names) s':=
  zgl (zb8 _ h0 h) (zln _) fun _ _ nk=>hd nk.2.2.2
end Dm
namespace L2
open PySem PySem.Spec PyProof.Rows
section
variable {prog:Program}{w:World}{A:Around}{E:Value->Shared->Prop}{s:Shared}{env:Env}{bm:List Value}
theorem zql {x:Str}{C:Addr}{vI:Value}{np cpos:Pos}{a:PySem.Expr}{as:List PySem.Expr}{Q:Value->Shared->Prop}(U:UnderV bm)
    (hst:starEach (a::as) env=(false,eval a env)::starEach as env) (hpl:(backTo cpos (starEach as env)).any (·.1)=false)
    (k:wpAny (model prog w) A (eval (.Name x np) env) (fun f s1=>f = .ref C/\wpAny (model prog w) A (spliced (backTo cpos (starEach (a::as) env)))
      (fun us s2=>us.length<=sizeLine/\XObj s2.heap C bm/\PySem.W.Looks (model prog w) s2.heap (typeLookup (.ref C) "__init__") (some (vI))/\(∀self,PySem.W.Looks (model prog w) s2.heap (bindSpecial (vI) self) (vI,[self]))/\
        ∀h' e,s2.heap.objs.size<=e->Heap.MadeExcOf s2.heap h' e (.ref C) us->wpAny (model prog w) (A.under (.builtin "type.__call__" ⟨.ref C::us,[]⟩)) (call (vI) (.ref e::us))
          (fun r s3=>r = .none/\Q (.ref e) s3) E { s2 with heap:=h' }) E s1) E s) :
    wpAny (model prog w) A (eval (.Call (.Name x np) (a::as) [] cpos) env) Q E s:=by
  refine wpAny_Call_ofName (wpAny_mono k (fun f s1 k1=>?_) fun _ _ z=>z)
  obtain⟨rfl,k1⟩:=k1
  unfold callWith
  have any:(backTo cpos (starEach (a::as) env)).any (·.1)=false:=by
    rw[hst]
    show (false||(backTo cpos (starEach as env)).any (·.1))=false
    rw[hpl];rfl
  rw[hst] at k1 ⊢
  refine wpAny_bind (wpAny_holding (Calls.evalArgs_plain (wpAny_mono k1 (fun us s2 k2=>wpAny_bind (wpAny_standAt ?_)) fun _ _ z=>z)))
  obtain⟨hz,xo,lk,bd,go⟩:=k2
  obtain⟨hp,g,d,tk,os⟩:=s2
  rw[hst] at any
  simp only [any]
  have xo':=xo
  obtain⟨a1,a2,a3,a4,a5,a6,a7,a8,a9,b1,b2,b3,b4,b5,b6,o⟩:=xo'
  refine wpAny_bind (wpAny_keeperOf_exc o ?_)
  refine wpAny_bind (zli U xo hz lk bd fun h' e hs hm=>wpAny_mono (go h' e hs hm) (fun r s3 q=>?_) fun _ _ z=>z)
  exact⟨q.1,wpAny_bind (wpAny_holding (wpAny_point (wpAny_pure q.2)))⟩
end
def zv5 (C:Addr) (sp:Sp) (t:TA):TE:=fun σ H Q=>t σ H fun vs H1=>∀e,H1 e=none->sp (.ref e::vs) (upd H1 e (excO e C none)) (fun v H2=>v = .non/\∃dc,H2 e=some (excO e C dc)/\Q (.ref e) H2) (fun _ _ _=>False)
section
variable {X:Cx}{k:Nat}{C:Addr}{ps:List Str}{sp:Sp}{x:Str}{p pos cpos:Pos}{e:Expr}{es:List Expr}{t:TA}
theorem zte (M:HasM X.prog X.w X.K X.mg X.base C "__init__" ps k sp) (xo:XOk X.K C) (hr:Room (k+1) X.A) (hg:Gl X x) (hm:X.mg x=some (.ref C)) (hps:ps.length<=1000) (ha:PA X (e::es) t)
    (hdb:(x == ("__debug__" : Str))=false:=by decide) (he:starEach (e::es) X.env=(false,eval e X.env)::starEach es X.env:=by rfl) (hpl:(backTo cpos (starEach es X.env)).any (·.1)=false:=by rfl) :
    PE X (.Call (.Name x p) (e::es) [] cpos) (zv5 C sp t):=by
  obtain⟨f,fd,m,b,F⟩:=M
  obtain⟨bm,xo,U⟩:=xo
  intro pins s σ H Q I h
  refine zql (vI:=.ref f) U he hpl (zdb I hg hm ⟨rfl,thn (ha cpos pins s σ H _ I h) fun us s2 hq0=>?_⟩ hdb)
  obtain⟨vs,H1,I1,r,q⟩:=hq0
  have fr:∀a,s2.heap.objs.size<=a->H1 a=none:=fun a h=>I1.hok.fresh h
  have q0:=q _ (fr _ (Nat.le_refl _))
  have l0:=F.len _ _ _ _ q0
  rw[List.length_cons] at l0
  have rl:=r.length
  refine⟨by rw[sizeLine_eq];omega,xo.in I1.kIn,PySem.W.looks_findIn I1.kIn m.at_,fun self=>PySem.W.bind_fn I1.kIn self (beq_iff_eq.mp m.fn),fun h' ex hs hmd=>?_⟩
  have hq:=q ex (fr ex hs)
  obtain⟨t0,h1,_,_⟩:=hmd.there
  have I2:=I1.laid (a:=ex) (o:=excO ex C none) (h':=h') (t':=s2.toks) hmd.keeps hs (zlk h1 rfl rfl rfl rfl rfl)
  have r2:Vals (V.ref ex::vs) (Value.ref ex::us):=.cons rfl r
  have hl:(Value.ref ex::us++[]).length=ps.length:=by
    have e:=r2.length
    rw[F.len _ _ _ _ hq] at e
    rw[List.append_nil]
    exact e.symm
  have bb:=(Binds.all b:Binds X.K fd ps []) _ (Value.ref ex::us) I2.kIn hl
  rw[List.append_nil] at bb
  refine wpAny_call (codeAny_mono (F.run _ X.stack _ _ ⟨Value.ref ex::us,[]⟩ (Value.ref ex::us) _ _ (fun _ _ _=>False) (hr.make C us []) (I2.env0.make C us []) bb r2 hq) fun r s' hq'=>?_)
  cases r with
  | error e=>exact False.elim hq'
  | ok fl=>
    cases fl with
    | ret u=>
      obtain⟨v,H',I3,rv,ev,dc,he',hE⟩:=I2.after hq'
      subst ev
      exact⟨rv,.ref ex,H',I3,rfl,hE⟩
    | next=>exact False.elim hq'
    | brk=>exact False.elim hq'
    | cont=>exact False.elim hq'
end
def zve (K:PySem.W.Frag) (ta:TE) (f:Str):TE:=fun σ H Q=>ta σ H fun x H1=>∃a C d fs v,x = .ref a/\H1 a=some (excO a C (some d))/\H1 d=some (.xd fs)/\XGet K C/\NoAttr K C f/\fs.lookup f=some v/\Q v H1
section
variable {X:Cx}{pins:List (Addr×Obj)}{σ:St}{H:Hp}{s:Shared}{a C d:Addr}{fs:List (Str×V)}{f:Str}{v:V}{A:Around}{E:Value->Shared->Prop}
theorem zjm {b:Bool}{Q:Value->Shared->Prop}(I:Inv X pins σ H s) (e:H a=some (excO a C (some d))) (ed:H d=some (.xd fs)) (c:XGet X.K C) (n:NoAttr X.K C f) (l:fs.lookup f=some v)
    (h:∀u s',Inv X pins σ H s'->RelV v u->Q u s'):wpAny (model X.prog X.w) A (getAttr (.ref a) f b) Q E s:=by
  obtain⟨⟨oe,vs,t0,h1,h2,h3,h4,_,_⟩,_,_⟩:=(show ObjOk X.prog X.w H s.heap a (excO a C (some d)) from I.hok a _ e)
  obtain⟨mA,ns,r⟩:=(show ObjOk X.prog X.w H s.heap d (.xd fs) from I.hok d _ ed)
  obtain⟨u,hu,ru⟩:=RelO.some_of (v:=v) (o:=mA f) (by rw[←l];exact r f)
  obtain⟨od,ho,hl⟩:=zd8 ns
  have J:PySem.W.InstAt s.heap a oe C (some od):=⟨h1,h2,by unfold PySem.W.notCls;rw[h4],by rw[h3];exact ho⟩
  exact zhj I.kIn J c (PySem.W.findObj_own c.hd n rfl (by rw[hl,hu])) (zft ru) (h u _ (I.tok _) ru)
end
theorem zqm {X:Cx}{e:Expr}{f:Str}{pos:Pos}{ta:TE}(K:PySem.W.Frag) (hK:X.K=K) (he:PE X e ta) (hb:attributeBase e f X.env (eval e X.env)=eval e X.env):PE X (.Attribute e f pos) (zve K ta f):=by
  subst hK
  intro pins s σ H Q I h
  refine zj1 hb (thn (he pins s σ H _ I h) fun u s1 hq0=>?_)
  obtain⟨x,H1,I1,rx,a,C,d,fs,v,ex,ea,ed,c,n,l,q⟩:=hq0
  subst ex
  obtain rfl:u=Value.ref a:=rx
  exact zjm I1 ea ed c n l fun u' s2 I2 ru=>⟨v,H1,I2,ru,q⟩
theorem Vals.times {xs:List V}{vs:List Value}(r:Vals xs vs):∀n:Nat,Vals (List.replicate n xs).flatten (List.replicate n vs).flatten
  | 0=>.nil
  | n+1=>by
    rw[List.replicate_succ,List.replicate_succ,List.flatten_cons,List.flatten_cons]
    exact r.append (Vals.times r n)
section
variable {X:Cx}
theorem ztf (K:PySem.W.Frag) (hK:X.K=K):OpR X (binaryOp .Mult) (fun x y H Q=>∃(l:Addr) (xs:List V) (n:Int),x = .ref l/\y = .int n/\SqL K H l xs/\0<=n/\n<=3/\xs.length<=80/\∀p,H p=none->Q (.ref p) (upd H p (.lst (List.replicate n.toNat xs).flatten))):=by
  subst hK
  intro pins s σ H x y v u Q I rx ry h
  obtain⟨l,xs,n,rfl,rfl,hH,h0,h3,hz,q⟩:=h
  cases rx
  obtain⟨t',rfl⟩:=ry
  obtain⟨its,rv,pl,hzz⟩:=I.list hH
  obtain⟨⟨cls,d,data,sl⟩,ho,hcl,k,hd⟩:=id pl.isList
  simp only at hcl hd
  subst hcl hd
  have hn:=rv.length
  have hn3:n.toNat<=3:=by omega
  have hs8:its.toArray.size<=80:=by rw[List.size_toArray];omega
  have hsz':its.toArray.size * n.toNat<=256:=Nat.le_trans (Nat.mul_le_mul hs8 hn3) (by decide)
  refine wpAny_binaryOp_repeat_ref (T:="list") (U:="int") (by decide) ⟨_,ho,rfl⟩ (fun s'=>typeIs_int s' n t') noFill_list_mul PySem.F.fills_int_mul PySem.F.slot_int_rmul repeat_list PySem.F.slot_int_index.lookup
    (PySem.call_meets PySem.F.slot_int_rmul (typeIs_int s n t') PySem.F.entry_int_rmul (PySem.F.args_int_rmul_2 _ _) (PySem.lm_int_rmul_list_any n t' l its.toArray k d sl)
      ⟨ho,rfl,⟨_,ho,rfl⟩,PySem.call_meets PySem.F.slot_list_mul ⟨_,ho,rfl⟩ PySem.F.entry_list_mul (PySem.F.args_list_mul_2 _ _)
        (PySem.lm_list_mul_any l its.toArray k d sl n t' (by simp[Builtin.List.listFitsIndex];omega) (by omega) (by have h9:its.toArray.size * n.toNat<=sizeLine:=Nat.le_trans hsz' (by decide);unfold Builtin.List.listTooLong;simp only [decide_eq_true_eq];omega))
        ⟨ho,?_⟩⟩)
  rw[PyProof.Rows.listMul_foldl_if]
  have hl:(List.replicate n.toNat its).flatten.length<=256:=by
    rw[List.length_flatten,List.map_replicate,List.sum_replicate_nat,Nat.mul_comm]
    simpa using hsz'
  have rr:=Vals.times rv n.toNat
  exact⟨.ref _,_,I.lnew (t':=s.toks) rr (by rw[rr.length];exact Nat.le_trans hl (by decide)),rfl,q _ I.fresh⟩
theorem zqn (c:Nat):OpR X (binaryOp .Mult) (fun x y H Q=>∃k:Int,x = .str ⟨#[c]⟩/\y = .int k/\0<=k/\k<=1000/\Q (.str ⟨(List.replicate k.toNat c).toArray⟩) H):=by
  intro pins s σ H x y v u Q I rx ry h
  obtain⟨k,rfl,rfl,h0,h1,q⟩:=h
  obtain⟨t,rfl⟩:=rx
  obtain⟨t',rfl⟩:=ry
  have el:(⟨#[c]⟩:Str).length=1:=rfl
  have hs:(1000:Nat)<=sizeLine:=by decide
  refine PySem.P.mul_str ?_ (fun _ _=>?_) (fun _ _=>?_) ?_
  · rw[decide_eq_false (by omega),decide_eq_false (by omega)];rfl
  · rw[el]
    have:(1:Int)<=(2 ^ 63-1) / k\/k<1:=by
      by_cases c:k<1
      · exact .inr c
      · exact .inl (by rw[Int.le_ediv_iff_mul_le (by omega)];omega)
    omega
  · rw[el]
    exact decide_eq_false (by omega)
  · by_cases c0:k<1
    · rw[if_pos c0]
      have:k.toNat=0:=by omega
      rw[this] at q
      exact⟨by show 0<=sizeLine;exact Nat.zero_le _,⟨.str Str.empty,H,I.tok _,⟨_,rfl⟩,q⟩⟩
    · rw[if_neg c0]
      by_cases c1:(k == 1||(⟨#[c]⟩:Str).length == 0)=true
      · rw[if_pos c1]
        have:k.toNat=1:=by
          rw[el] at c1
          simp at c1
          omega
        rw[this] at q
        exact⟨.str ⟨#[c]⟩,H,I,⟨_,rfl⟩,q⟩
      · rw[if_neg c1]
        have e2:(⟨List.foldl (fun x y=>x++y) #[] (List.replicate k.toNat (⟨#[c]⟩:Str).cps)⟩:Str)=⟨(List.replicate k.toNat c).toArray⟩:=by
          show (⟨List.foldl (fun x y=>x++y) #[] (List.replicate k.toNat #[c])⟩:Str)=_
          rw[zjd]
          simp
        rw[e2]
        refine⟨?_,⟨.str _,H,I.tok _,⟨_,rfl⟩,q⟩⟩
        show (List.replicate k.toNat c).toArray.size<=sizeLine
        rw[List.size_toArray,List.length_replicate]
        omega
end
end L2
namespace Dm
open PySem PySem.NumText L2
theorem zqo {K:PySem.W.Frag}{H:Hp}{n:Nat}{a b:Addr}{xs ys:List Str}(hx:SqL K H a (xs.map V.str)) (hy:SqL K H b (ys.map V.str)):DEq K H (n+1) (.ref a) (.ref b) (decide (xs=ys)):=by
  by_cases hl:xs.length=ys.length
  · have:=DEq.lst (n:=n) (fun i=>decide (xs[i]? = ys[i]?)) hx hy (by rw[List.length_map,List.length_map];exact hl) fun i x y e1 e2=>by
      rw[List.getElem?_map] at e1 e2
      cases ex:xs[i]? with
      | none=>rw[ex] at e1;cases e1
      | some x'=>
        cases ey:ys[i]? with
        | none=>rw[ey] at e2;cases e2
        | some y'=>
          rw[ex] at e1
          rw[ey] at e2
          cases e1
          cases e2
          have d:=DEq.flat (K:=K) (H:=H) (n:=n) (x:=.str x') (y:=.str y') rfl rfl
          have e:eqV (.str x') (.str y')=decide (some x'=some y'):=by
            rw[Bool.eq_iff_iff,decide_eq_true_iff]
            simp[eqV]
          rw[e] at d
          exact d
    have e:((List.range (xs.map V.str).length).all fun i=>decide (xs[i]? = ys[i]?))=decide (xs=ys):=by
      rw[Bool.eq_iff_iff,List.all_eq_true,decide_eq_true_iff]
      constructor
      · intro h
        apply List.ext_getElem?
        intro i
        by_cases hi:i<xs.length
        · exact of_decide_eq_true (h i (List.mem_range.mpr (by rw[List.length_map];exact hi)))
        · rw[List.getElem?_eq_none (by omega),List.getElem?_eq_none (by omega)]
      · intro h i _
        rw[h]
        exact decide_eq_true rfl
    rw[e] at this
    exact this
  · rw[decide_eq_false (fun e=>hl (by rw[e]))]
    exact DEq.lstN hx hy (by rw[List.length_map,List.length_map];exact hl)
abbrev Tr:=Tie×Addr
abbrev Rw:=Str->List (Str×Tr)
abbrev Chn:=Int×Str×List Tr
variable {R:Rw}{F G:Str->IS->Prop}{k:Str}{keys:List Str}
def nar (j:Int) (f:Fnd):Fnd:=⟨f.n,f.u,f.lo,if j=0 then f.hi else if j=1 then f.lo else f.lo+1⟩
end Dm
namespace L2
open PySem PySem.Spec PyProof.Rows
theorem zjn {c:TT}{t u:TS}{D:Ends}{σ:St}{H:Hp}(P:St->Hp->Prop) (b:Bool) (ht:∀Q':Bool->Hp->Prop,(∀H',Same H H'->Q' b H')->c σ H Q') (h1:b=true->∀H',Same H H'->(∀σ' H',P σ' H'->D.nx σ' H')->t D σ H') (h2:b=false->∀H',Same H H'->(∀σ' H',P σ' H'->D.nx σ' H')->u D σ H')
    (hn:∀σ' H',P σ' H'->D.nx σ' H'):tIfS c t u D σ H:=by
  refine za5 b ht fun H' s=>?_
  cases b with
  | true=>exact iteT (h1 rfl H' s hn)
  | false=>exact iteF (h2 rfl H' s hn)
end L2
namespace LK73
open PySem L2 Dm PySem.NumText
def top (i:Nat):Stmt:=PySem.Challenge.pw_digmatrix_k73_no_matrix.main.body.getD i (.Pass ⟨0,0,0,0⟩)
structure Tx (K:PySem.W.Frag) (mg:Str->Option Value) (w:World) (C_MatrixReading:Addr) (zq:Addr) (zo:Addr) (zad:Addr) (zal:Addr) (zu:Addr) (C_NoMatrix:Addr) (zae:Addr):Prop where
  zff:mg "MatrixReading" = some (.ref C_MatrixReading)
  zi:Cls K C_MatrixReading
  zfg:PySem.W.makesIn K C_MatrixReading=true
  zfh:PySem.W.keepIn K (.ref C_MatrixReading)=true
  zat:NoAttr K C_MatrixReading "number"
  zbe:NoAttr K C_MatrixReading "rows"
  zav:NoAttr K C_MatrixReading "known"
  zao:NoAttr K C_MatrixReading "pairs"
  zcz:DfM K C_MatrixReading "MatrixReading.__init__" "__init__" (zbw (top 17) 0) ["self"]
  zcj:DfM K C_MatrixReading "MatrixReading.takes_line" "takes_line" (zbw (top 17) 1) ["self","line"]
  zb2:DfM K C_MatrixReading "MatrixReading.takes_number" "takes_number" (zbw (top 17) 2) ["self","number"]
  zcc:DfM K C_MatrixReading "MatrixReading.takes_names" "takes_names" (zbw (top 17) 3) ["self","names"]
  zck:DfM K C_MatrixReading "MatrixReading.takes_pair" "takes_pair" (zbw (top 17) 4) ["self","pair"]
  zgs:mg "DigError" = some (.ref zq)
  zkr:XCatch K zq
  zks:XBase K zq
  zjt:mg "TextError" = some (.ref zo)
  zow:mg "BadRow" = some (.ref zad)
  zq3:mg "Round" = some (.ref zal)
  zkt:mg "NoDating" = some (.ref zu)
  zcd:mg "NoMatrix" = some (.ref C_NoMatrix)
  zku:XCls K C_NoMatrix
  zce:XOk K C_NoMatrix
  za9:XGet K C_NoMatrix
  zbk:XIsi K C_NoMatrix
  zd5:DfM K C_NoMatrix "NoMatrix.__init__" "__init__" (zbw (top 6) 0) ["self","row"]
  zcf:NoAttr K C_NoMatrix "row"
  zox:mg "NoDeed" = some (.ref zae)
  zdm:PySem.W.mroIn K C_NoMatrix (.ref zq)=some true
  zdw:PySem.W.kitOne K (.ref C_NoMatrix) (.ref C_NoMatrix)=some true
  zda:PySem.W.kitOne K (.ref C_NoMatrix) (.type "ValueError")=some true
  zdn:PySem.W.kitOne K (.ref C_NoMatrix) (.ref zo)=some false
  zem:PySem.W.kitOne K (.ref C_NoMatrix) (.ref zad)=some false
  zey:PySem.W.kitOne K (.ref C_NoMatrix) (.ref zal)=some false
  zdx:PySem.W.kitOne K (.ref C_NoMatrix) (.ref zu)=some false
  zen:PySem.W.kitOne K (.ref C_NoMatrix) (.ref zae)=some false
  zoy:Df K mg "is_name" (top 13) ["text"]
  ziq:Df K mg "read_number" (top 14) ["text"]
  zju:Df K mg "is_made_of" (top 15) ["text","signs"]
  zir:Df K mg "read_matrix" (top 18) ["text"]
  zg1:Df K mg "_law_cell_at" (top 20) ["_law_script","_law_k"]
  zkv:Df K mg "_law_part" (top 21) ["_law_cell","_law_k","_law_many"]
  zjv:Df K mg "_law_names" (top 22) ["_law_one","_law_other","_law_many"]
  zgt:Df K mg "_law_numbered" (top 23) ["_law_word","_law_cell","_law_k"]
  zis:Df K mg "_law_groups" (top 24) ["_law_word","_law_first","_law_cells"]
  zjw:Df K mg "_law_pairs" (top 25) ["_law_names_here","_law_cells"]
  zez:Df K mg "_law_level_line" (top 26) ["_law_number","_law_names_here"]
  zfi:Df K mg "_law_bad_lines" (top 27) ["_law_name","_law_number","_law_cell"]
  ze0:Df K mg "_law_pairs_left" (top 28) ["_law_pair_lines","_law_groups_here"]
  zg2:Df K mg "_law_spoiled" (top 29) ["_law_levels_lines","_law_pair_lines","_law_groups_here","_law_cell"]
  zg3:Df K mg "_law_refused" (top 30) ["_law_text"]
  ze1:Df K mg "_law_is_refused" (top 31) ["_law_text","_law_row"]
  zeo:Df K mg "_law_twice_wrong" (top 32) ["_law_lines","_law_row","_law_cell"]
  zv9:Df K mg "law" (top 33) ["_law_script"]
  zoz:∃u,mg "FIGURES" = some u/\RelV (.str "0123456789") u
  zjx:∃u,mg "NAME_SIGNS" = some u/\RelV (.str "abcdefghijklmnopqrstuvwxyz0123456789-") u
  zg4:∃u,mg "LONGEST_NAME" = some u/\RelV (.int 12) u
  zg5:∃u,mg "MOST_FIGURES" = some u/\RelV (.int 60) u
  int:mg "int" = none
  all:mg "all" = none
  enumerate:mg "enumerate" = none
  range:mg "range" = none
  sorted:mg "sorted" = none
  list:mg "list" = none
  isinstance:mg "isinstance" = none
  str:mg "str" = none
  len:mg "len" = none
  reversed:mg "reversed" = none
  ValueError:mg "ValueError" = none
theorem Tx.ex {K:PySem.W.Frag}{mg:Str->Option Value}{w:World}{C_MatrixReading:Addr}{zq:Addr}{zo:Addr}{zad:Addr}{zal:Addr}{zu:Addr}{C_NoMatrix:Addr}{zae:Addr}(T:Tx K mg w C_MatrixReading zq zo zad zal zu C_NoMatrix zae):∃C_MatrixReading,∃zq,∃zo,∃zad,∃zal,∃zu,∃C_NoMatrix,∃zae,Tx K mg w C_MatrixReading zq zo zad zal zu C_NoMatrix zae:=⟨_,_,_,_,_,_,_,_,T⟩
theorem zms:FnScope ["text"] ["text"] (zr (top 13)):=⟨rfl,rfl,rfl,by decide +kernel,rfl,by decide +kernel,by decide +kernel⟩
theorem sc_read_number:FnScope ["text","figures"] ["text"] (zr (top 14)):=⟨rfl,rfl,rfl,by decide +kernel,rfl,by decide +kernel,by decide +kernel⟩
theorem zii:FnScope ["text","signs"] ["text","signs"] (zr (top 15)):=⟨rfl,rfl,rfl,by decide +kernel,rfl,by decide +kernel,by decide +kernel⟩
theorem sc_read_matrix:FnScope ["text","reading","lines","row","line"] ["text"] (zr (top 18)):=⟨rfl,rfl,rfl,by decide +kernel,rfl,by decide +kernel,by decide +kernel⟩
theorem zgq:FnScope ["_law_script","_law_k"] ["_law_script","_law_k"] (zr (top 20)):=⟨rfl,rfl,rfl,by decide +kernel,rfl,by decide +kernel,by decide +kernel⟩
theorem zjo:FnScope ["_law_cell","_law_k","_law_many"] ["_law_cell","_law_k","_law_many"] (zr (top 21)):=⟨rfl,rfl,rfl,by decide +kernel,rfl,by decide +kernel,by decide +kernel⟩
theorem sc__law_names:FnScope ["_law_one","_law_other","_law_many","_law_signs","_law_size","_law_at","_law_names_here","_law_k","_law_name","_law_j","_law_number"] ["_law_one","_law_other","_law_many"] (zr (top 22)):=⟨rfl,rfl,rfl,by decide +kernel,rfl,by decide +kernel,by decide +kernel⟩
theorem zfd:FnScope ["_law_word","_law_cell","_law_k"] ["_law_word","_law_cell","_law_k"] (zr (top 23)):=⟨rfl,rfl,rfl,by decide +kernel,rfl,by decide +kernel,by decide +kernel⟩
theorem sc__law_groups:FnScope ["_law_word","_law_first","_law_cells","_law_groups_here","_law_k","_law_name"] ["_law_word","_law_first","_law_cells"] (zr (top 24)):=⟨rfl,rfl,rfl,by decide +kernel,rfl,by decide +kernel,by decide +kernel⟩
theorem sc__law_pairs:FnScope ["_law_names_here","_law_cells","_law_pairs_here","_law_cell","_law_pair"] ["_law_names_here","_law_cells"] (zr (top 25)):=⟨rfl,rfl,rfl,by decide +kernel,rfl,by decide +kernel,by decide +kernel⟩
theorem sc__law_level_line:FnScope ["_law_number","_law_names_here","_law_line","_law_name"] ["_law_number","_law_names_here"] (zr (top 26)):=⟨rfl,rfl,rfl,by decide +kernel,rfl,by decide +kernel,by decide +kernel⟩
theorem sc__law_bad_lines:FnScope ["_law_name","_law_number","_law_cell","_law_some"] ["_law_name","_law_number","_law_cell"] (zr (top 27)):=⟨rfl,rfl,rfl,by decide +kernel,rfl,by decide +kernel,by decide +kernel⟩
theorem sc__law_pairs_left:FnScope ["_law_pair_lines","_law_groups_here","_law_there","_law_group","_law_left","_law_line","_law_words"] ["_law_pair_lines","_law_groups_here"] (zr (top 28)):=⟨rfl,rfl,rfl,by decide +kernel,rfl,by decide +kernel,by decide +kernel⟩
theorem sc__law_spoiled:FnScope ["_law_levels_lines","_law_pair_lines","_law_groups_here","_law_cell","_law_way","_law_rest","_law_lines","_law_name","_law_at","_law_number","_law_bad","_law_k","_law_many","_law_left","_law_seen","_law_other"] ["_law_levels_lines","_law_pair_lines","_law_groups_here","_law_cell"] (zr (top 29)):=⟨rfl,rfl,rfl,by decide +kernel,rfl,by decide +kernel,by decide +kernel⟩
theorem sc__law_refused:FnScope ["_law_text","_law_told","e"] ["_law_text"] (zr (top 30)):=⟨rfl,rfl,rfl,by decide +kernel,rfl,by decide +kernel,by decide +kernel⟩
theorem zej:FnScope ["_law_text","_law_row"] ["_law_text","_law_row"] (zr (top 31)):=⟨rfl,rfl,rfl,by decide +kernel,rfl,by decide +kernel,by decide +kernel⟩
theorem sc__law_twice_wrong:FnScope ["_law_lines","_law_row","_law_cell","_law_at","_law_turned"] ["_law_lines","_law_row","_law_cell"] (zr (top 32)):=⟨rfl,rfl,rfl,by decide +kernel,rfl,by decide +kernel,by decide +kernel⟩
theorem sc_law:FnScope ["_law_script","_law_word","_law_cells","_law_groups_here","_law_names_here","_law_pairs_here","_law_levels_lines","_law_pair_lines","_law_k","_law_lines","_law_row","_law_good"] ["_law_script"] (zr (top 33)):=⟨rfl,rfl,rfl,by decide +kernel,rfl,by decide +kernel,by decide +kernel⟩
theorem zdv:FnScope ["self","row"] ["self","row"] (zr (zbw (top 6) 0)):=⟨rfl,rfl,rfl,by decide +kernel,rfl,by decide +kernel,by decide +kernel⟩
theorem zcr:FnScope ["self"] ["self"] (zr (zbw (top 17) 0)):=⟨rfl,rfl,rfl,by decide +kernel,rfl,by decide +kernel,by decide +kernel⟩
theorem sc_MatrixReading_takes_line:FnScope ["self","line","words"] ["self","line"] (zr (zbw (top 17) 1)):=⟨rfl,rfl,rfl,by decide +kernel,rfl,by decide +kernel,by decide +kernel⟩
theorem zbx:FnScope ["self","number"] ["self","number"] (zr (zbw (top 17) 2)):=⟨rfl,rfl,rfl,by decide +kernel,rfl,by decide +kernel,by decide +kernel⟩
theorem sc_MatrixReading_takes_names:FnScope ["self","names","name"] ["self","names"] (zr (zbw (top 17) 3)):=⟨rfl,rfl,rfl,by decide +kernel,rfl,by decide +kernel,by decide +kernel⟩
theorem zca:FnScope ["self","pair"] ["self","pair"] (zr (zbw (top 17) 4)):=⟨rfl,rfl,rfl,by decide +kernel,rfl,by decide +kernel,by decide +kernel⟩
section
variable {P:Program}{w:World}{K:PySem.W.Frag}{mg:Str->Option Value}{base:Heap}{C_MatrixReading:Addr}{zq:Addr}{zo:Addr}{zad:Addr}{zal:Addr}{zu:Addr}{C_NoMatrix:Addr}{zae:Addr}
local macro_rules | `(tactic| walk_at "rd")=>`(tactic| repeat (first | refine⟨_,rfl,?_⟩ | refine⟨_,_,rfl,rfl,?_⟩ | refine⟨_,_,_,rfl,?_⟩))
local macro_rules | `(tactic| walk_at "rd")=>`(tactic| repeat (first | refine⟨_,rfl,?_⟩ | refine⟨_,_,rfl,rfl,?_⟩ | refine⟨_,_,_,rfl,?_⟩))
def ztg:Sp:=fun vs H Q _=>∃(a:Addr) (ns:List Int) (i:Int),vs = [.ref a,.int i]/\SqL K H a (ns.map V.int)/\0<=i/\Q (.int (zbn ns i)) H
theorem za0 (T:Tx K mg w C_MatrixReading zq zo zad zal zu C_NoMatrix zae):Has P w K mg base "_law_cell_at" ["_law_script","_law_k"] 1 (ztg (K:=K)):=by
  refine T.zg1.has zgq (fun vs H Q E h=>?_) (fun f cdv A outer s H vs Q E hr h=>?_)
  · obtain⟨a,ns,i,rfl,_⟩:=h;rfl
  · obtain⟨a,ns,i,rfl,ha,h0,k⟩:=h
    refine⟨_,(zd (zbg (zah zrr (pv 1) (zw (zh K rfl) (by rfl) T.len boot_len (za (pv 0) zc)) (zau _)) (zm (zak (zbc (zaf K rfl) (pv 0) (pv 1) (fun _ _=>rfl)))) zan)
      (zm (zak zf))),?_⟩
    refine⟨_,rfl,_,rfl,a,_,rfl,.inl ha,_,_,rfl,rfl,_,rfl,?_⟩
    refine ite2 (fun c=>?_) (fun c=>?_)
    · have c:=of_decide_eq_true c
      rw[List.length_map] at c
      have hi:i.toNat<ns.length:=by omega
      refine⟨_,rfl,_,rfl,a,_,i,.int (zbn ns i),rfl,rfl,ha,?_,k⟩
      have e:zbn ns i=ns[i.toNat]:=by unfold zbn;rw[List.getD_eq_getElem?_getD,List.getElem?_eq_getElem hi];rfl
      have:=zbr (xs:=ns.map V.int) (j:=i.toNat) (v:=.int (zbn ns i)) (by rw[e];simp[hi])
      rw[Int.toNat_of_nonneg h0] at this
      exact this
    · have c:¬i<((ns.map V.int).length:Int):=fun z=>c (decide_eq_true z)
      rw[List.length_map] at c
      have e:zbn ns i=0:=by unfold zbn;rw[List.getD_eq_getElem?_getD,List.getElem?_eq_none (by omega)];rfl
      rw[e] at k
      exact k
def zth:Sp:=fun vs H Q _=>∃c k m:Int,vs = [.int c,.int k,.int m]/\0<m/\Q (.int (pt c k m)) H
theorem zbj (T:Tx K mg w C_MatrixReading zq zo zad zal zu C_NoMatrix zae):Has P w K mg base "_law_part" ["_law_cell","_law_k","_law_many"] 1 zth:=by
  refine T.zkv.has zjo (fun vs H Q E h=>?_) (fun f cdv A outer s H vs Q E hr h=>?_)
  · obtain⟨c,i,m,rfl,_⟩:=h;rfl
  · obtain⟨c,i,m,rfl,hm,k⟩:=h
    refine⟨_,(zm (zak (zg zbl (zg zbl (zg zm3 (zg zbl (zg zm3 (zg zay (zg zbl (pv 0) zf) zf) (zg zay zf (zg zm3 zf (pv 1)))) zf) (zg zay (pv 1) zf)) zf) (pv 2)))),?_⟩
    have b1:=Int.emod_nonneg c (show (99991:Int)≠0 by decide)
    have b2:=Int.emod_lt_of_pos c (show (0:Int)<99991 by decide)
    have b3:=Int.emod_nonneg ((c%99991+17) * (48271+7919 * i)) (show (65537:Int)≠0 by decide)
    have b4:=Int.emod_lt_of_pos ((c%99991+17) * (48271+7919 * i)) (show (0:Int)<65537 by decide)
    walk_at "rd"
    refine⟨(by decide:(0:Int)<99991),?_⟩
    walk_at "rd"
    refine⟨.inl ⟨by decide,by decide⟩,?_⟩
    walk_at "rd"
    refine⟨.inl ⟨by omega,by omega⟩,?_⟩
    walk_at "rd"
    refine⟨(by decide:(0:Int)<65537),?_⟩
    walk_at "rd"
    refine⟨.inl ⟨by omega,by omega⟩,?_⟩
    walk_at "rd"
    refine⟨(by decide:(0:Int)<8191),?_⟩
    walk_at "rd"
    exact⟨hm,k⟩
theorem at37 (z:Int) (one at':Int) (k j:Nat) (h:z=nmI one at' k j):atI NAMES.cps.toList (z%37)=some (nmN one at' k j):=by
  obtain⟨h0,h1⟩:=ix37 z
  subst h
  have:=zbr (xs:=co NAMES) (j:=(nmI one at' k j%37).toNat) (v:=nmN one at' k j) (by unfold nmN;rw[List.getD_eq_getElem?_getD,List.getElem?_eq_getElem h1];rfl)
  rw[Int.toNat_of_nonneg h0] at this
  exact this
def cutF (l:List Nat) (size:Int):V->V
  | .int z=>.str (Txt.slice (zy l) none (some (size-z)))
  | _=>.non
def zqp:Sp:=fun vs H Q _=>∃(one other:Int) (n:Nat),vs = [.int one,.int other,.int n]/\n<=37/\∀(p:Addr) (xs:List Str) (H':Hp),xs.length=n->xs.Nodup->(∀x∈xs,zaj x=true)->H p=none->H' p=some (.lst (xs.map V.str))->Same H H'->Q (.ref p) H'
set_option maxHeartbeats 4000000 in
theorem zjp (T:Tx K mg w C_MatrixReading zq zo zad zal zu C_NoMatrix zae):Has P w K mg base "_law_names" ["_law_one","_law_other","_law_many"] 2 zqp:=by
  refine T.zjv.has sc__law_names (fun vs H Q E h=>?_) (fun f cdv A outer s H vs Q E hr h=>?_)
  · obtain⟨one,other,n,rfl,_⟩:=h;rfl
  · obtain⟨one,other,n,rfl,hn37,k⟩:=h
    refine⟨_,(zd (zac (i:=3) sc__law_names.nd rfl (Or.inl rfl) zx)
      (zd (zac (i:=4) sc__law_names.nd rfl (Or.inr rfl) (zg zay zf (zba (zbj T) (hr.mono (by decide)) (by rfl) (za (pv 0) (za zf (za zf zc))))))
      (zd (zac (i:=5) sc__law_names.nd rfl (Or.inl rfl) (zba (zbj T) (hr.mono (by decide)) (by rfl) (za (pv 1) (za zf (za (pv 4) zc)))))
      (zd (zac (i:=6) sc__law_names.nd rfl (Or.inr rfl) (zaq zc))
      (zd (zdd PassesOwn.never rfl (zbs (by rfl) T.range (za (pv 2) zc)) (za3 (i:=7) sc__law_names.nd rfl (Or.inl rfl)) (zd (zac (i:=8) sc__law_names.nd rfl (Or.inl rfl) zx)
        (zd (zdd PassesOwn.never rfl (zbs (by rfl) T.range (za (pv 4) zc)) (za3 (i:=9) sc__law_names.nd rfl (Or.inl rfl)) (zd (zac (i:=10) sc__law_names.nd rfl (Or.inl rfl) (zba (zbj T) (hr.mono (by decide)) (by rfl) (za (pv 0) (za (zg zay (pv 9) zf) (za zf zc)))))
          (zd (zbg (zah zc9 (pv 9) (pv 5) (zau _)) (zm (zac (i:=10) sc__law_names.nd rfl (Or.inl rfl) (zg zay (pv 10) (pv 7)))) zan)
          (zm (zac (i:=8) sc__law_names.nd rfl (Or.inl rfl) (zg ze (pv 8) (zbc zub (pv 3) (zg zbl (pv 10) zf) (fun _ _=>rfl))))))))
        (zm (zc0 (zbu K rfl PySem.F.plainAttrs_list PySem.F.slot_list_append PySem.F.type_list_append zbt (pv 6) (za (pv 8) zc)))))))
      (zd (zbg (PW.pt (zdc (zah zvq (pv 4) (pv 2) (zau _)) (zb5 (zah zc9 (zg zbl (pv 1) zf) zf (zau _))))) (zm (zak (zh0 (own:=["_law_k"]) (cap:=["_law_names_here","_law_size"]) (ix:=[6,4]) (osc:=zr (top 22)) rfl ⟨rfl,by decide +kernel,by decide +kernel,by decide +kernel,by decide +kernel⟩ rfl (zbs (by rfl) T.range (za (pv 2) zc)) (fun _ _ _ _=>za3 (i:=0) (show List.Nodup (["_law_k","_law_names_here","_law_size"]:List Str) by decide +kernel) rfl (Or.inl rfl)) (fun _ _ _ _=>zer) (fun _ _ _ _=>(zar zk1 (zbc (zaf K rfl) (pv 1) zf (fun _ _=>rfl)) za4 (zax (zg zby (pv 2) (pv 0)))))))) zan)
      (zm (zak (pv 6))))))))),?_⟩
    walk_at "rd"
    refine⟨by decide,?_⟩
    walk_at "rd"
    obtain⟨s1,s2⟩:=zps one 0 12 (by decide)
    have hs:∃size:Nat,1+pt one 0 12=(size:Int)/\1<=size/\size<=12:=⟨(1+pt one 0 12).toNat,by omega,by omega,by omega⟩
    obtain⟨size,es,z1,z2⟩:=hs
    rw[es]
    refine⟨by omega,?_⟩
    obtain⟨a1,a2⟩:=zps other 1 (size:Int) (by omega)
    generalize pt other 1 (size:Int)=at' at a1 a2
    refine⟨by decide,fun p hp=>?_⟩
    refine⟨_,rfl,(n:Int),rfl,by omega,by omega,zde (lo:=0) (n:=n) (fun i σ H'=>∃v7 v8 v9 v10,σ = [some (.int one),some (.int other),some (.int n),some (.str NAMES),some (.int size),some (.int at'),some (.ref p),v7,v8,v9,v10]/\Same H H'/\
      H' p=some (.lst (((List.range i).map fun k=>zy (nmC one at' k size)).map V.str))) ⟨none,none,none,none,(by rw[←es];rfl),Same.new hp,zb⟩ ?_ ?_⟩
    · rintro i σ H1 hi ⟨v7,v8,v9,v10,rfl,q1,q2⟩
      simp only [Int.zero_add]
      refine⟨_,rfl,(size:Int),rfl,by omega,by omega,zde (lo:=0) (n:=size) (fun j σ H2=>∃v9 v10,σ = [some (.int one),some (.int other),some (.int n),some (.str NAMES),some (.int size),some (.int at'),some (.ref p),some (.int i),some (.str (zy ((List.range j).map (nmN one at' i)))),v9,v10]/\H2=H1)
        ⟨v9,v10,by rw[zuq];rfl,rfl⟩ ?_ ?_⟩
      · rintro j σ H2 hj ⟨v9,v10,rfl,rfl⟩
        simp only [Int.zero_add]
        walk_at "rd"
        refine⟨by decide,?_⟩
        refine⟨_,rfl,_,rfl,rfl,_,rfl,?_⟩
        refine ite2 (fun c=>?_) (fun c=>?_)
        all_goals
          walk_at "rd"
          refine⟨(by decide:(0:Int)<37),NAMES,_,nmN one at' i j,rfl,rfl,by decide,?_,?_⟩
        · refine at37 _ one at' i j ?_
          have c:=of_decide_eq_true c
          have c:(j:Int)=at':=V.int.inj c
          unfold nmI
          rw[if_pos c]
        · refine⟨_,_,rfl,rfl,?_,some (.int j),some (.int (pt one ((j:Int)+2) 37+i)),?_,rfl⟩
          · rw[zcu,List.length_map,List.length_range]
            exact Nat.le_trans (show j+1<=100 by omega) (by decide)
          · rw[show (⟨#[nmN one at' i j]⟩:Str)=zy [nmN one at' i j] from rfl,zje,List.range_succ,List.map_append]
            rfl
        · refine at37 _ one at' i j ?_
          have c:¬(j:Int)=at':=fun z=>c (decide_eq_true (congrArg V.int z))
          unfold nmI
          rw[if_neg c]
        · refine⟨_,_,rfl,rfl,?_,some (.int j),some (.int (pt one ((j:Int)+2) 37)),?_,rfl⟩
          · rw[zcu,List.length_map,List.length_range]
            exact Nat.le_trans (show j+1<=100 by omega) (by decide)
          · rw[show (⟨#[nmN one at' i j]⟩:Str)=zy [nmN one at' i j] from rfl,zje,List.range_succ,List.map_append]
            rfl
      · rintro σ H2 ⟨v9,v10,rfl,rfl⟩
        refine⟨_,rfl,.inl ⟨rfl,_,SqL.of q2⟩,_,rfl,p,_,_,rfl,rfl,q2,?_,?_⟩
        · rw[List.length_map,List.length_map,List.length_range]
          exact zbo (by omega)
        · refine⟨_,_,_,_,rfl,q1.upd hp,?_⟩
          rw[zb,List.range_succ,List.map_append,List.map_append]
          rfl
    · rintro σ H1 ⟨v7,v8,v9,v10,rfl,q1,q2⟩
      obtain⟨n1,n2,n3⟩:=zmf (n:=n) hn37 (one:=one) a1 a2 z1 z2
      have fin:Q (.ref p) H1:=k p _ H1 n3 n1 n2 hp q2 q1
      refine⟨_,rfl,_,rfl,_,_,rfl,rfl,_,rfl,?_⟩
      refine ite2 (fun c=>?_) (fun c=>?_)
      · have c:=of_decide_eq_true c
        walk_at "rd"
        refine⟨(by decide:(0:Int)<2),?_⟩
        refine⟨rfl,_,rfl,?_⟩
        refine ite2 (fun c2=>?_) (fun c2=>?_)
        · obtain⟨m1,m2,m3⟩:=zmg (n:=n) (one:=one) (at':=at') (size:=size) (by omega) z2
          refine⟨_,rfl,(n:Int),rfl,by omega,by omega,fun D hD=>?_⟩
          have npD:p≠D:=zk q2 hD
          refine zdf (zj6 (lo:=0) (n:=n)) (fun _=>true) (cutF (nmC one at' 0 size) size) (fun _=>trivial) (by rw[List.length_map,List.length_range];exact zai (by omega)) (fun v hv ys Q' q=>q) (fun v hv _ ys Q' q=>?_) ?_
          · obtain⟨z,hz,rfl⟩:=List.mem_map.mp hv
            refine⟨_,rfl,p,_,0,.str (zy (nmC one at' 0 size)),rfl,rfl,SqL.of (by rw[zj npD];exact q2),(by have hz:=List.mem_range.mp hz;exact zbr (j:=0) (by rw[List.getElem?_map,List.getElem?_map,List.getElem?_range (by omega)];rfl)),?_⟩
            refine⟨_,rfl,_,rfl,_,_,rfl,rfl,_,rfl,_,rfl,?_,q⟩
            rw[zcu,zd2]
            exact Nat.le_trans z2 (by decide)
          · refine k D _ _ m3 m1 m2 (q1.free hD) ?_ (q1.trans (Same.new hD))
            rw[zb]
            congr 2
            unfold zga
            rw[List.filter_eq_self.mpr (fun _ _=>rfl),List.map_map,List.map_map]
            apply List.map_congr_left
            intro i hi
            have hi:=List.mem_range.mp hi
            show V.str (Txt.slice (zy (nmC one at' 0 size)) none (some ((size:Int)-(0+(i:Int)))))=V.str (zy ((nmC one at' 0 size).take (size-i)))
            rw[zmc _ _ (by omega) (by rw[zd2];omega)]
            congr 3
            omega
        · exact⟨_,rfl,fin⟩
      · exact iteF ⟨_,rfl,fin⟩
theorem zmt {l:List Nat}{f:Nat->Bool}:(l.map f).all id=l.all f:=by rw[List.all_map];rfl
def inF (sg:Str):V->V
  | .str z=>.bl (!(Builtin.Str.occurrences sg z 0 sg.length 1).isEmpty)
  | _=>.non
theorem zv6 (l:List V):l.filter (fun _=>true)=l:=List.filter_eq_self.mpr fun _ _=>rfl
theorem zqq (x sg:Str):(((co x).map L2.sg).filter fun _=>true).map (inF sg)=((co x).map fun c=>decide (c∈co sg)).map V.bl:=by
  rw[zv6,List.map_map,List.map_map]
  apply List.map_congr_left
  intro c _
  show V.bl (!(Builtin.Str.occurrences sg ⟨#[c]⟩ 0 sg.length 1).isEmpty)=V.bl (decide (c∈sg.cps.toList))
  rw[StrLaws.found_one]
def zti:Sp:=fun vs H Q _=>∃x sg,vs = [.str x,.str sg]/\x.length<=1000/\∀H',Same H H'->Q (.bl (zh6 (co x) sg)) H'
theorem ze8 (T:Tx K mg w C_MatrixReading zq zo zad zal zu C_NoMatrix zae):Has P w K mg base "is_made_of" ["text","signs"] 1 zti:=by
  refine T.zju.has zii (fun vs H Q E h=>?_) (fun f cdv A outer s H vs Q E hr h=>?_)
  · obtain⟨x,sg,rfl,_⟩:=h;rfl
  · obtain⟨x,sg,rfl,hl,k⟩:=h
    refine⟨_,(zm (zak (zw (zl8 K rfl rfl) (by rfl) T.all PyProof.Rows.boot_all (za (zh0 (own:=["sign"]) (cap:=["signs"]) (ix:=[1]) (osc:=zr (top 15)) rfl ⟨rfl,by decide +kernel,by decide +kernel,by decide +kernel,by decide +kernel⟩ rfl (zuj (pv 0)) (fun _ _ _ _=>za3 (i:=0) (show List.Nodup (["sign","signs"]:List Str) by decide +kernel) rfl (Or.inl rfl)) (fun _ _ _ _=>zer) (fun _ _ _ _=>(zfq zix (pv 0) (pv 1) (by with_unfolding_all rfl)))) zc)))),?_⟩
    refine⟨_,rfl,x,rfl,fun D hD=>?_⟩
    refine zdf (zsc (x:=x)) (fun _=>true) (inF sg) (fun _=>trivial) (by rw[List.length_map,zas];exact zai hl) (fun v hv ys Q' q=>q) (fun v hv _ ys Q' q=>?_) ?_
    · obtain⟨c,_,rfl⟩:=List.mem_map.mp hv
      exact⟨_,rfl,_,rfl,_,_,rfl,rfl,q⟩
    · refine⟨D,(co x).map fun c=>decide (c∈co sg),rfl,.inl (.inl ?_),?_⟩
      · rw[zb,zqq]
      · rw[zmt]
        exact k _ (Same.new hD)
def ztj:Sp:=fun vs H Q _=>∃x,vs = [.str x]/\x.length<=1000/\∀H',Same H H'->Q (.bl (zaj x)) H'
theorem zos (T:Tx K mg w C_MatrixReading zq zo zad zal zu C_NoMatrix zae):Has P w K mg base "is_name" ["text"] 2 ztj:=by
  refine T.zoy.has zms (fun vs H Q E h=>?_) (fun f cdv A outer s H vs Q E hr h=>?_)
  · obtain⟨x,rfl,_⟩:=h;rfl
  · obtain⟨x,rfl,hl,k⟩:=h
    obtain⟨u_NAME_SIGNS,h_NAME_SIGNS,r_NAME_SIGNS⟩:=T.zjx
    obtain⟨u_LONGEST_NAME,h_LONGEST_NAME,r_LONGEST_NAME⟩:=T.zg4
    refine⟨_,(zm (zak (zkw (zo5 zm7 zm7 zf (zw ze3 (by rfl) T.len boot_len (za (pv 0) zc)) (zcp (v:=.int 12) (by rfl) h_LONGEST_NAME r_LONGEST_NAME)) (zm0 (zba (ze8 T) (hr.mono (by decide)) (by rfl) (za (pv 0) (za (zcp (v:=.str "abcdefghijklmnopqrstuvwxyz0123456789-") (by rfl) h_NAME_SIGNS r_NAME_SIGNS) zc))))))),?_⟩
    refine⟨_,rfl,x,rfl,zai hl,_,_,rfl,rfl,_,rfl,?_⟩
    by_cases c1:1<=x.length
    · rw[decide_eq_true (show (1:Int)<=(x.length:Int) by omega)]
      refine iteT ⟨_,_,rfl,rfl,_,rfl,?_⟩
      by_cases c2:x.length<=12
      · rw[decide_eq_true (show (x.length:Int)<=12 by omega)]
        refine iteT ⟨_,rfl,x,NAMES,rfl,hl,fun H' s'=>?_⟩
        have:=k H' s'
        unfold zaj at this
        rw[decide_eq_true c1,decide_eq_true c2] at this
        exact this
      · rw[decide_eq_false (show ¬(x.length:Int)<=12 by omega)]
        refine iteF ?_
        have:=k H (Same.refl H)
        unfold zaj at this
        rw[decide_eq_false c2,Bool.and_false,Bool.false_and] at this
        exact this
    · rw[decide_eq_false (show ¬(1:Int)<=(x.length:Int) by omega)]
      refine iteF ⟨_,rfl,iteF ?_⟩
      have:=k H (Same.refl H)
      unfold zaj at this
      rw[decide_eq_false c1,Bool.false_and,Bool.false_and] at this
      exact this
def numV (x:Str):V:=if zcg x=true then .int (numI x) else .non
def zvf:Sp:=fun vs H Q _=>∃x,vs = [.str x]/\x.length<=1000/\∀H',Same H H'->Q (numV x) H'
theorem zot {x:Str}(h:zcg x=false):numV x = .non:=by unfold numV;rw[h];exact if_neg Bool.false_ne_true
theorem zlx {x:Str}(h:zcg x=true):numV x = .int (numI x):=if_pos h
theorem zqr:(Str.ofString "-" : Str)=⟨#[45]⟩:=by decide +kernel
theorem zero_is:(Str.ofString "0" : Str)=⟨#[48]⟩:=by decide +kernel
theorem zij {x:Str}(h:(co x).head? = some 45):figs (co x)=(co x).drop 1:=by
  cases e:co x with
  | nil=>rw[e] at h;cases h
  | cons c r=>
    rw[e] at h
    have h:c=45:=Option.some.inj h
    subst h
    rw[zec];rfl
theorem zik {x:Str}(h:¬(co x).head? = some 45):figs (co x)=co x:=by
  cases e:co x with
  | nil=>rfl
  | cons c r=>
    rw[e] at h
    exact zc1 r fun z=>h (by rw[z];rfl)
theorem ztk (l:List Nat):(figs l).length<=l.length:=by
  cases l with
  | nil=>exact Nat.le_refl _
  | cons c r=>
    by_cases h:c=45
    · subst h;rw[zec];exact Nat.le_succ _
    · rw[zc1 r h];exact Nat.le_refl _
theorem zjq {x:Str}(h:¬(1<=(figs (co x)).length/\(figs (co x)).length<=60)):zcg x=false:=by
  unfold zcg
  by_cases h1:1<=(figs (co x)).length
  · rw[decide_eq_false (fun z=>h ⟨h1,z⟩),Bool.and_false,Bool.false_and,Bool.false_and]
  · rw[decide_eq_false h1,Bool.false_and,Bool.false_and,Bool.false_and]
theorem zmu {x:Str}(h:zh6 (figs (co x)) FIGS=false):zcg x=false:=by
  unfold zcg
  rw[h,Bool.and_false,Bool.false_and]
theorem zou {x:Str}(h1:1<=(figs (co x)).length) (h2:(figs (co x)).length<=60) (h3:zh6 (figs (co x)) FIGS=true):zcg x = !(decide ((figs (co x)).head? = some 48) && !decide (x=ZERO)):=by
  unfold zcg
  rw[decide_eq_true h1,decide_eq_true h2,h3];rfl
theorem zil (T:Tx K mg w C_MatrixReading zq zo zad zal zu C_NoMatrix zae):Has P w K mg base "read_number" ["text"] 2 zvf:=by
  refine T.ziq.has sc_read_number (fun vs H Q E h=>?_) (fun f cdv A outer s H vs Q E hr h=>?_)
  · obtain⟨x,rfl,_⟩:=h;rfl
  · obtain⟨x,rfl,hl,k⟩:=h
    obtain⟨u_FIGURES,h_FIGURES,r_FIGURES⟩:=T.zoz
    obtain⟨u_MOST_FIGURES,h_MOST_FIGURES,r_MOST_FIGURES⟩:=T.zg5
    refine⟨_,(zd (zac (i:=1) sc_read_number.nd rfl (Or.inl rfl) (zo2 (zc7 (zbu K rfl PySem.F.plainAttrs_str PySem.F.slot_str_startswith PySem.F.type_str_startswith zjb (pv 0) (za zx zc))) (zar zk1 (pv 0) (zax zf) za4) (pv 0)))
      (zd (zbg (zdy (zo6 zm7 zm7 zf (zw ze3 (by rfl) T.len boot_len (za (pv 1) zc)) (zcp (v:=.int 60) (by rfl) h_MOST_FIGURES r_MOST_FIGURES))) (zm (zak ziu)) zan)
      (zd (zbg (zdy (zc7 (zba (ze8 T) (hr.mono (by decide)) (by rfl) (za (pv 1) (za (zcp (v:=.str "0123456789") (by rfl) h_FIGURES r_FIGURES) zc))))) (zm (zak ziu)) zan)
      (zd (zbg (PW.pt (zdc (zc7 (zbu K rfl PySem.F.plainAttrs_str PySem.F.slot_str_startswith PySem.F.type_str_startswith zjb (pv 1) (za zx zc))) (zb5 (zah zo4 (pv 0) zx (zau _))))) (zm (zak ziu)) zan)
      (zm (zak (zam zni (by rfl) T.int PyProof.Rows.boot_int (za (pv 0) zc)))))))),?_⟩
    refine⟨_,rfl,rfl,x,_,rfl,rfl,_,rfl,?_⟩
    have key:∀R:V->Hp->Prop,(∀y,co y=figs (co x)->R (.str y) H)->(if Txt.startswith x (Str.ofString "-")=true then tSl rSlS (tVar 0) (zpc (tC (.int 1))) zhu (start ["text","figures"] [.str x]) H R else tVar 0 (start ["text","figures"] [.str x]) H R):=fun R hR=>by
      rw[zqr,zhb]
      by_cases c:(co x).head? = some 45
      · rw[decide_eq_true c]
        exact iteT ⟨_,rfl,_,rfl,x,rfl,zai hl,hR _ (by rw[zkc,zij c])⟩
      · rw[decide_eq_false c]
        exact iteF ⟨_,rfl,hR x (zik c).symm⟩
    refine key _ fun y hy=>?_
    have hyl:y.length=(figs (co x)).length:=by rw[←zas,hy]
    have hyl2:y.length<=1000:=by rw[hyl];exact Nat.le_trans (ztk _) (by rw[zas];exact hl)
    have no:zcg x=false->∀H',Same H H'->Q .non H':=fun z H' s'=>by
      have:=k H' s'
      rw[zot z] at this
      exact this
    refine⟨_,rfl,y,rfl,zai hyl2,_,_,rfl,rfl,_,rfl,?_⟩
    by_cases c1:1<=y.length
    · rw[decide_eq_true (show (1:Int)<=(y.length:Int) by omega)]
      refine iteT ⟨_,_,rfl,rfl,_,rfl,?_⟩
      by_cases c2:y.length<=60
      · rw[decide_eq_true (show (y.length:Int)<=60 by omega)]
        refine iteF ⟨_,rfl,y,FIGS,rfl,hyl2,fun H1 s1=>⟨_,rfl,?_⟩⟩
        rw[hy]
        cases c3:zh6 (figs (co x)) FIGS with
        | false=>exact iteT (no (zmu c3) H1 s1)
        | true=>
          refine iteF ⟨_,rfl,rfl,y,_,rfl,rfl,_,rfl,?_⟩
          have ok:=zou (by omega) (by omega) c3
          rw[zero_is,zhb,hy]
          have fin:zcg x=true->∀H',Same H H'->tRet (tCB (fun xs H Q=>∃x n,xs = [V.str x]/\PySem.intText? x=some n/\x.length<=640/\Q (.int n) H) (zl6 (tVar 0) tNil)) { nx:=fun _ H'=>Q .non H',rt:=Q } [some (.str x),some (.str y)] H':=fun z H' s'=>by
            obtain⟨e1,e2⟩:=zpr z
            refine⟨_,rfl,x,numI x,rfl,e1,Nat.le_trans e2 (by decide),?_⟩
            have:=k H' s'
            rw[zlx z] at this
            exact this
          by_cases c4:(figs (co x)).head? = some 48
          · rw[decide_eq_true c4] at ok ⊢
            refine iteT ⟨_,rfl,rfl,_,rfl,?_⟩
            by_cases c5:x=ZERO
            · rw[decide_eq_true c5] at ok
              rw[decide_eq_true (show V.str x=V.str (⟨#[48]⟩:Str) by rw[c5];exact congrArg V.str zero_is)]
              exact iteF (fin ok H1 s1)
            · rw[decide_eq_false c5] at ok
              rw[decide_eq_false (show ¬V.str x=V.str (⟨#[48]⟩:Str) from fun z=>c5 ((V.str.inj z).trans zero_is.symm))]
              exact iteT (no ok H1 s1)
          · rw[decide_eq_false c4] at ok ⊢
            exact iteF (iteF (fin ok H1 s1))
      · rw[decide_eq_false (show ¬(y.length:Int)<=60 by omega)]
        exact iteT (no (zjq (by omega)) H (Same.refl H))
    · rw[decide_eq_false (show ¬(1:Int)<=(y.length:Int) by omega)]
      exact iteF ⟨_,rfl,iteT (no (zjq (by omega)) H (Same.refl H))⟩
def zqs:Sp:=fun vs H Q _=>∃(p dx:Addr),vs = [.ref p]/\H p=some (.ins C_MatrixReading dx [])/\∀(pr dk pp:Addr) (H':Hp),H pr=none->H dk=none->H pp=none->MrAt C_MatrixReading H' p pr dk pp .non [] [] [] [] []->(∀b o,H b=some o->b≠p->H' b=some o)->Q .non H'
theorem zcw (T:Tx K mg w C_MatrixReading zq zo zad zal zu C_NoMatrix zae):HasM P w K mg base C_MatrixReading "__init__" ["self"] 1 (zqs (C_MatrixReading:=C_MatrixReading)):=by
  refine T.zcz.has zcr (fun vs H Q E h=>?_) (fun f cdv A outer s H vs Q E hr h=>?_)
  · obtain⟨p,dx,rfl,_⟩:=h;rfl
  · obtain⟨p,dx,rfl,hp,k⟩:=h
    refine⟨_,(zd (ziz (pv 0) ziu rfl)
      (zd (ziz (pv 0) (zaq zc) rfl)
      (zd (ziz (pv 0) zpg rfl)
      (zm (ziz (pv 0) (zaq zc) rfl))))),?_⟩
    refine⟨_,rfl,p,C_MatrixReading,dx,[],rfl,hp,T.zi,T.zat,(by show 0<1000;decide),?_⟩
    have e1:upd H p (.ins C_MatrixReading dx (putF "number" .non [])) p=some (.ins C_MatrixReading dx (putF "number" .non [])):=zb
    have k1:∀b o,H b=some o->b≠p->upd H p (.ins C_MatrixReading dx (putF "number" .non [])) b=some o:=fun b o e hb=>by rw[zj hb];exact e
    have f1:∀b,upd H p (.ins C_MatrixReading dx (putF "number" .non [])) b=none->H b=none:=fun b e=>by
      by_cases c:b=p
      · subst c;rw[zb] at e;cases e
      · rwa [zj c] at e
    generalize upd H p (.ins C_MatrixReading dx (putF "number" .non []))=G1 at e1 k1 f1
    try dsimp only [zap]
    refine⟨by decide,fun pr hpr=>?_⟩
    obtain⟨a1,a2,a3,a4,a5⟩:=zie (o1:=.lst []) (o2:=.ins C_MatrixReading dx (putF "rows" (.ref pr) (putF "number" .non []))) e1 hpr
    refine⟨_,rfl,p,C_MatrixReading,dx,_,rfl,by rw[zj a5];exact e1,T.zi,T.zbe,(by show 1<1000;decide),?_⟩
    generalize upd (upd G1 pr (.lst [])) p (.ins C_MatrixReading dx (putF "rows" (.ref pr) (putF "number" .non [])))=G2 at a1 a2 a3 a4
    try dsimp only [zap]
    refine fun dk hdk=>?_
    obtain⟨b1,b2,b3,b4,b5⟩:=zie (o1:=.dK []) (o2:=.ins C_MatrixReading dx (putF "known" (.ref dk) (putF "rows" (.ref pr) (putF "number" .non [])))) a1 hdk
    refine⟨_,rfl,p,C_MatrixReading,dx,_,rfl,by rw[zj b5];exact a1,T.zi,T.zav,?_,?_⟩
    · exact Nat.lt_of_le_of_lt (zb6 _ _ _) (by show 1+1<1000;decide)
    generalize upd (upd G2 dk (.dK [])) p (.ins C_MatrixReading dx (putF "known" (.ref dk) (putF "rows" (.ref pr) (putF "number" .non []))))=G3 at b1 b2 b3 b4
    try dsimp only [zap]
    refine⟨by decide,fun pp hpp=>?_⟩
    obtain⟨c1,c2,c3,c4,c5⟩:=zie (o1:=.lst []) (o2:=.ins C_MatrixReading dx (putF "pairs" (.ref pp) (putF "known" (.ref dk) (putF "rows" (.ref pr) (putF "number" .non []))))) b1 hpp
    refine⟨_,rfl,p,C_MatrixReading,dx,_,rfl,by rw[zj c5];exact b1,T.zi,T.zao,?_,?_⟩
    · exact Nat.lt_of_le_of_lt (zb6 _ _ _) (Nat.lt_of_le_of_lt (Nat.succ_le_succ (zb6 _ _ _)) (by show 1+1+1<1000;decide))
    generalize upd (upd G3 pp (.lst [])) p (.ins C_MatrixReading dx (putF "pairs" (.ref pp) (putF "known" (.ref dk) (putF "rows" (.ref pr) (putF "number" .non [])))))=G4 at c1 c2 c3 c4
    have a2':=b3 _ _ a2 a5.symm
    have npr:pr≠pp:=zk a2' hpp
    have ndk:dk≠pp:=zk b2 hpp
    refine k pr dk pp _ (f1 _ hpr) (f1 _ (a4 _ hdk).1) (f1 _ (a4 _ (b4 _ hpp).1).1) ⟨⟨dx,?_⟩,c3 _ _ a2' a5.symm,.nil,c3 _ _ b2 b5.symm,c2,.nil,npr,(fun h=>nomatch h),(fun h=>nomatch h)⟩ fun b o e hb=>c3 _ _ (b3 _ _ (a3 _ _ (k1 b o e hb) hb) hb) hb
    rw[c1,zs8]
theorem zcx {x:Str}(h:zaj x=true):x.length<=12:=by
  unfold zaj at h
  simp only [Bool.and_eq_true,decide_eq_true_eq] at h
  omega
abbrev MsAt (C:Addr) (H:Hp) (p pr dk pp:Addr) (cs bs:List Addr) (s:MS):Prop:=MrAt C H p pr dk pp (nvV s.nv) cs s.rows s.ks bs s.qs
def ztl:Sp:=fun vs H Q _=>∃(p pr dk pp:Addr) (s:MS) (cs bs:List Addr) (on:Option Int),vs = [.ref p,nvV on]/\MsAt C_MatrixReading H p pr dk pp cs bs s/\
  (∀n,on=some n->zmq s n->∀H',MrAt C_MatrixReading H' p pr dk pp (.int n) cs s.rows s.ks bs s.qs->Kp4 H H' p pr dk pp->Q (.bl true) H')/\((∀n,on=some n->¬zmq s n)->∀H',Same H H'->Q (.bl false) H')
set_option maxHeartbeats 2000000 in
theorem zb1 (T:Tx K mg w C_MatrixReading zq zo zad zal zu C_NoMatrix zae):HasM P w K mg base C_MatrixReading "takes_number" ["self","number"] 1 (ztl (C_MatrixReading:=C_MatrixReading)):=by
  refine T.zb2.has zbx (fun vs H Q E h=>?_) (fun f cdv A outer s H vs Q E hr h=>?_)
  · obtain⟨p,pr,dk,pp,s,cs,bs,on,rfl,_⟩:=h;rfl
  · obtain⟨p,pr,dk,pp,ms,cs,bs,on,rfl,R,k1,k2⟩:=h
    refine⟨_,(zd (zbg (PW.pt (zhs (ziv (zty (pv 1))) (zhs (zah zrr (pv 1) zf (zau _)) (ze2 (zah (zfz K rfl (hu10 hr)) (zcl (pv 0) rfl) (zaq zc) (zau _)))))) (zm (zak zb4)) zan)
      (zd (zbg (PW.pt (zdc (ziv (zro (zcl (pv 0) rfl))) (zb5 (zah zo4 (pv 1) (zg zby (zcl (pv 0) rfl) zf) (zau _))))) (zm (zak zb4)) zan)
      (zd (ziz (pv 0) (pv 1) rfl)
      (zm (zak zb4))))),?_⟩
    obtain⟨dx,h1⟩:=R.ob
    have lb:bs.length=ms.qs.length:=Paired.length R.qq
    cases on with
    | none=>
      refine za5 true (fun Q' hQ=>?_) (fun H1 s1=>iteT (k2 (fun n e=>nomatch e) _ s1))
      refine⟨_,rfl,_,rfl,?_⟩
      rw[decide_eq_true (show nvV none=V.non from rfl)]
      exact iteT (hQ _ (Same.refl _))
    | some n=>
      refine za5 (decide (n<0) || !decide (ms.qs = [])) (fun Q' hQ=>?_) (fun H1 s1=>?_)
      · refine⟨_,rfl,_,rfl,?_⟩
        rw[decide_eq_false (fun z=>nomatch z)]
        refine iteF ⟨_,rfl,_,_,rfl,rfl,_,rfl,?_⟩
        by_cases c1:n<0
        · rw[decide_eq_true c1] at hQ ⊢
          exact iteT (hQ _ (Same.refl _))
        rw[decide_eq_false c1,Bool.false_or] at hQ
        rw[decide_eq_false c1]
        refine iteF ⟨_,rfl,p,C_MatrixReading,dx,_,_,rfl,h1,T.zi,T.zao,rM_p _ _ _ _,by decide,fun e he=>?_⟩
        have t1:=Same.new (o:=.lst []) he
        refine⟨pp,e,_,rfl,rfl,DEq.nilL (SqL.of (t1 _ _ R.q)) (SqL.of zb),_,rfl,?_⟩
        have eb:decide (bs.map V.ref = [])=decide (ms.qs = []):=decide_eq_decide.mpr ⟨fun z=>List.length_eq_zero_iff.mp (by rw[←lb,←List.length_map (f:=V.ref),z];rfl),fun z=>List.length_eq_zero_iff.mp (by rw[List.length_map,lb,z];rfl)⟩
        rw[eb]
        exact hQ _ t1
      refine ite2 (fun c=>?_) (fun c=>?_)
      · rw[Bool.or_eq_true,decide_eq_true_eq,Bool.not_eq_true',decide_eq_false_iff_not] at c
        refine k2 (fun m e h=>?_) _ s1
        cases e
        rcases c with c | c
        · have:=h.1
          omega
        · exact c h.2.1
      have c1:¬n<0:=fun z=>c (by rw[decide_eq_true z];rfl)
      have c2:ms.qs = []:=by
        by_cases z:ms.qs = []
        · exact z
        · exact absurd (by rw[decide_eq_false z];simp) c
      have R1:=R.same s1
      obtain⟨dx,h1⟩:=R1.ob
      try unfold zbf;try dsimp only
      refine za5 (decide (∃m,ms.nv=some m/\n≠m-1)) (fun Q' hQ=>?_) (fun H2 s2=>?_)
      · refine⟨_,rfl,p,C_MatrixReading,dx,_,_,rfl,h1,T.zi,T.zat,rM_n _ _ _ _,_,rfl,?_⟩
        cases hn:ms.nv with
        | none=>
          rw[hn,decide_eq_false (fun ⟨m,e,_⟩=>nomatch e)] at hQ
          rw[decide_eq_true (show nvV none=V.non from rfl)]
          exact iteF (hQ _ (Same.refl _))
        | some m=>
          rw[hn] at hQ h1
          rw[decide_eq_false (fun z=>nomatch z)]
          refine iteT ⟨_,rfl,_,rfl,p,C_MatrixReading,dx,_,_,rfl,h1,T.zi,T.zat,rM_n _ _ _ _,_,_,rfl,rfl,rfl,_,rfl,?_⟩
          have e:(!decide (V.int n=V.int (m-1)))=decide (∃m',some m=some m'/\n≠m'-1):=by
            by_cases z:n=m-1
            · rw[decide_eq_true (congrArg V.int z),decide_eq_false]
              · rfl
              · rintro ⟨m',e,h⟩
                cases e
                exact h z
            · rw[decide_eq_false (fun h=>z (V.int.inj h)),decide_eq_true ⟨m,rfl,z⟩]
              rfl
          show Q' (!decide (V.int n=V.int (m-1))) H1
          rw[e]
          exact hQ _ (Same.refl _)
      refine ite2 (fun c3=>?_) (fun c3=>?_)
      · obtain⟨m,e,h⟩:=of_decide_eq_true c3
        refine k2 (fun n' e' h'=>?_) _ (s1.trans s2)
        cases e'
        rcases h'.2.2 with z | z
        · rw[e] at z;cases z
        · rw[e] at z
          have:=Option.some.inj z
          omega
      have ok:zmq ms n:=⟨by omega,c2,by
        cases hn:ms.nv with
        | none=>exact .inl rfl
        | some m=>
          refine .inr (congrArg some ?_)
          have:¬(∃m,ms.nv=some m/\n≠m-1):=fun z=>c3 (decide_eq_true z)
          by_cases z:n=m-1
          · omega
          · exact absurd ⟨m,hn,z⟩ this⟩
      have R2:=R1.same s2
      obtain⟨dx,h2⟩:=R2.ob
      try unfold zbf;try dsimp only
      refine⟨_,rfl,_,rfl,p,C_MatrixReading,dx,_,rfl,h2,T.zi,T.zat,(by show 4<1000;decide),?_⟩
      rw[zva]
      have np:∀{b:Addr}{o:HO},H2 b=some o->(∀d l,o≠.ins C_MatrixReading d l)->b≠p:=fun e hh z=>by rw[z,h2] at e;exact hh _ _ (Option.some.inj e).symm
      refine k1 n rfl ok _ ⟨⟨dx,zb⟩,?_,?_,?_,?_,?_,R2.n1,R2.n2,R2.n3⟩ fun b o e b1 _ _ _=>?_
      · rw[zj (np R2.r (fun _ _ z=>nomatch z))];exact R2.r
      · exact Paired.mapP R2.rr fun a b e=>by rw[zj (np e (fun _ _ z=>nomatch z))];exact e
      · rw[zj (np R2.d (fun _ _ z=>nomatch z))];exact R2.d
      · rw[zj (np R2.q (fun _ _ z=>nomatch z))];exact R2.q
      · exact Paired.mapP R2.qq fun a b e=>by rw[zj (np e (fun _ _ z=>nomatch z))];exact e
      · rw[zj b1];exact s2 _ _ (s1 _ _ e)
def ztm:Sp:=fun vs H Q _=>∃(p pr dk pp a:Addr) (nv:V) (cs:List Addr) (rows:List (List Str)) (ks:List Str) (bs:List Addr) (qs:List SS) (names:List Str),vs = [.ref p,.ref a]/\MrAt C_MatrixReading H p pr dk pp nv cs rows ks bs qs/\H a=some (.lst (names.map V.str))/\a≠pr/\a≠pp/\ks.Nodup/\(∀x∈names,x.length<=1000)/\names.length<=63/\ks.length+names.length<=990/\cs.length<=900/\
  (zd4 ks names->∀H',MrAt C_MatrixReading H' p pr dk pp nv (cs++[a]) (rows++[names]) (ks++names) bs qs->Kp4 H H' p pr dk pp->Q (.bl true) H')/\(¬zd4 ks names->∀H',Kp4 H H' p pr dk pp->Q (.bl false) H')
set_option maxHeartbeats 2000000 in
theorem zcb (T:Tx K mg w C_MatrixReading zq zo zad zal zu C_NoMatrix zae):HasM P w K mg base C_MatrixReading "takes_names" ["self","names"] 3 (ztm (C_MatrixReading:=C_MatrixReading)):=by
  refine T.zcc.has sc_MatrixReading_takes_names (fun vs H Q E h=>?_) (fun f cdv A outer s H vs Q E hr h=>?_)
  · obtain⟨p,pr,dk,pp,a,nv,cs,rows,ks,bs,qs,names,rfl,_⟩:=h;rfl
  · obtain⟨p,pr,dk,pp,a,nv,cs,rows,ks,bs,qs,names,rfl,R,ha,nar,nap,knd,hx1,h63,hl,hcs,k1,k2⟩:=h
    have hu:=zuh hr
    refine⟨_,(zd (zbg (PW.pt (zhs (zah (zh3 K rfl (hu10 hr)) (pv 1) (zaq zc) (zau _)) (ze2 (zah (zfz K rfl (hu10 hr)) (pv 1) (zw (zdh (K:=K) rfl) (by rfl) T.sorted PyProof.Rows.boot_sorted (za (pv 1) zc)) (zau _))))) (zm (zak zb4)) zan)
      (zd (zdd PassesOwn.never rfl (zcm K rfl (pv 1)) (za3 (i:=2) sc_MatrixReading_takes_names.nd rfl (Or.inl rfl)) (zd (zbg (PW.pt (zhs (zdy (zc7 (zba (zos T) (hr.mono (by decide)) (by rfl) (za (pv 2) zc)))) (ze2 (ziv (zuf hu (pv 2) (zcl (pv 0) rfl)))))) (zm (zak zb4)) zan)
        (zm (zr8 hu (zcl (pv 0) rfl) (pv 2) zb4 rfl))))
      (zd (zc0 (zbu K rfl PySem.F.plainAttrs_list PySem.F.slot_list_append PySem.F.type_list_append zbt (zcl (pv 0) rfl) (za (pv 1) zc)))
      (zm (zak zb4))))),?_⟩
    refine za5 (decide (names = []) || !decide (names=srt names)) (fun Q' hQ=>?_) (fun H1 s1=>?_)
    · refine⟨_,rfl,by decide,fun e he=>?_⟩
      have t1:=Same.new (o:=.lst []) he
      refine⟨a,e,_,rfl,rfl,DEq.nilL (SqL.of (t1 _ _ ha)) (SqL.of zb),_,rfl,?_⟩
      rw[show decide (names.map V.str = [])=decide (names = []) from decide_eq_decide.mpr List.map_eq_nil_iff]
      cases hn:decide (names = []) with
      | true=>
        rw[hn] at hQ
        exact iteT (hQ _ t1)
      | false=>
        rw[hn,Bool.false_or] at hQ
        refine iteF ⟨_,rfl,_,rfl,a,names,rfl,SqL.of (t1 _ _ ha),by omega,fun e2 ms he2 pm rs=>?_⟩
        obtain rfl:=zlc pm rs
        have t2:=Same.new (o:=.lst ((srt names).map V.str)) he2
        exact⟨a,e2,_,rfl,rfl,zqo (SqL.of (t2 _ _ (t1 _ _ ha))) (SqL.of zb),_,rfl,hQ _ (t1.trans t2)⟩
    refine ite2 (fun c=>?_) (fun c=>?_)
    · rw[Bool.or_eq_true,decide_eq_true_eq,Bool.not_eq_true',decide_eq_false_iff_not] at c
      refine k2 (fun h=>?_) _ (Kp4.of s1)
      rcases c with c | c
      · exact h.1 c
      · exact c (zlc (.refl _) h.2.1)
    have hne:names≠[]:=fun z=>c (by rw[decide_eq_true z];rfl)
    have hri:zgv names:=by
      by_cases z:names=srt names
      · rw[z];exact zef names
      · exact absurd (by rw[decide_eq_false z];simp) c
    have R1:=R.same s1
    have ha1:=s1 _ _ ha
    try unfold zbf;try dsimp only
    refine⟨_,rfl,a,rfl,⟨_,SqL.of ha1⟩,?_⟩
    refine zd6 (K:=K) (a:=a) (xs:=names.map V.str) (fun i σ H'=>∃(v2:Option V),σ = [some (.ref p),some (.ref a),v2]/\MrAt C_MatrixReading H' p pr dk pp nv cs rows (ks++names.take i) bs qs/\Kp4 H H' p pr dk pp/\H' a=some (.lst (names.map V.str))/\(∀x∈names.take i,zaj x=true)/\(ks++names.take i).Nodup)
      ⟨none,rfl,by rw[List.take_zero,List.append_nil];exact R1,Kp4.of s1,ha1,(fun _ h=>by rw[List.take_zero] at h;cases h),by rw[List.take_zero,List.append_nil];exact knd⟩ (fun i σ H' _ h=>by obtain⟨_,_,_,_,h,_⟩:=h;exact SqL.of h) ?_ ?_
    · rintro i v σ H2 hx ⟨v2,rfl,R2,kp,ha2,hnm,hnd⟩
      have hi:=ze4 hx
      rw[List.length_map] at hi
      rw[List.getElem?_map,List.getElem?_eq_getElem hi] at hx
      cases hx
      have hx12:=hx1 names[i] (List.getElem_mem _)
      have et:names.take (i+1)=names.take i++[names[i]]:=by rw[List.take_add_one,List.getElem?_eq_getElem hi];rfl
      have whole:(ks++names).Nodup->names[i] ∉ ks++names.take i:=fun hnd z=>by
        have h1:(ks++names.take i++names[i]::names.drop (i+1)).Nodup:=by rw[List.append_assoc,←List.drop_eq_getElem_cons hi,List.take_append_drop];exact hnd
        exact (List.nodup_append.mp h1).2.2 _ z _ (List.mem_cons_self ..) rfl
      try dsimp only [zap]
      refine za5 (!zaj names[i]||decide (names[i]∈ks++names.take i)) (fun Q' hQ=>?_) (fun H3 s3=>?_)
      · refine⟨_,rfl,_,rfl,by omega,fun H3 s3=>⟨_,rfl,?_⟩⟩
        cases hb:zaj names[i] with
        | false=>
          rw[hb] at hQ
          exact iteT (hQ _ s3)
        | true=>
          rw[hb] at hQ
          obtain⟨dx,h3⟩:=(R2.same s3).ob
          refine iteF ⟨_,rfl,_,rfl,p,C_MatrixReading,dx,_,_,rfl,h3,T.zi,T.zav,rM_k _ _ _ _,dk,_,rfl,DGet.k (k:=Sum.inr names[i]) (R2.same s3).d,_,rfl,?_⟩
          by_cases z:names[i]∈ks++names.take i
          · rw[decide_eq_true z] at hQ
            rw[zet (dU_mem.mpr z)]
            exact hQ _ s3
          · rw[decide_eq_false z] at hQ
            rw[zdr (fun h=>z (dU_mem.mp h))]
            exact hQ _ s3
      refine ite2 (fun c=>?_) (fun c=>?_)
      · rw[Bool.or_eq_true,decide_eq_true_eq,Bool.not_eq_true'] at c
        refine k2 (fun h=>?_) _ (kp.trans (Kp4.of s3))
        rcases c with c | c
        · rw[h.2.2.1 _ (List.getElem_mem _)] at c
          cases c
        · exact whole h.2.2.2 c
      have hxn:zaj names[i]=true:=by
        cases hb:zaj names[i] with
        | true=>rfl
        | false=>rw[hb] at c;exact absurd rfl c
      have hnk:names[i] ∉ ks++names.take i:=fun z=>c (by rw[decide_eq_true z,Bool.or_true])
      have R3:=R2.same s3
      obtain⟨dx,h3⟩:=R3.ob
      try unfold zbf;try dsimp only
      refine⟨_,rfl,p,C_MatrixReading,dx,_,_,rfl,h3,T.zi,T.zav,rM_k _ _ _ _,_,rfl,dk,_,rfl,DPut.k (k:=Sum.inr names[i]) R3.d ?_,?_⟩
      · unfold dU
        rw[List.length_map,List.length_append,List.length_take]
        exact zbo (by omega)
      rw[zsv hnk,List.append_assoc,←et]
      have nd:∀{b:Addr}{o:HO},H3 b=some o->(∀l,o≠.dK l)->b≠dk:=fun e hh z=>by rw[z,R3.d] at e;exact hh _ (Option.some.inj e).symm
      refine⟨_,rfl,⟨⟨dx,?_⟩,?_,?_,zb,?_,?_,R3.n1,R3.n2,R3.n3⟩,fun b o e b1 b2 b3 b4=>?_,?_,?_,?_⟩
      · rw[zj (nd h3 (fun _ z=>nomatch z))];exact h3
      · rw[zj (nd R3.r (fun _ z=>nomatch z))];exact R3.r
      · exact Paired.mapP R3.rr fun a b e=>by rw[zj (nd e (fun _ z=>nomatch z))];exact e
      · rw[zj (nd R3.q (fun _ z=>nomatch z))];exact R3.q
      · exact Paired.mapP R3.qq fun a b e=>by rw[zj (nd e (fun _ z=>nomatch z))];exact e
      · rw[zj b3];exact s3 _ _ (kp b o e b1 b2 b3 b4)
      · rw[zj (nd (s3 _ _ ha2) (fun _ z=>nomatch z))];exact s3 _ _ ha2
      · intro x hx
        rw[et] at hx
        rcases List.mem_append.mp hx with hx | hx
        · exact hnm x hx
        · rw[List.mem_singleton.mp hx];exact hxn
      · rw[et,←List.append_assoc]
        refine List.nodup_append.mpr ⟨hnd,by simp,fun u hu w hw z=>?_⟩
        rw[List.mem_singleton.mp hw] at z
        exact hnk (z▸hu)
    rintro σ H2 ⟨v2,rfl,R2,kp,ha2,hnm,hnd⟩
    rw[List.length_map,List.take_length] at R2 hnm hnd
    obtain⟨dx,h2⟩:=R2.ob
    have lc:(cs.map V.ref).length<=900:=by rw[List.length_map];exact hcs
    try unfold zbf;try dsimp only
    refine⟨_,rfl,p,C_MatrixReading,dx,_,_,rfl,h2,T.zi,T.zbe,rM_r _ _ _ _,.inl ⟨rfl,_,SqL.of R2.r⟩,_,rfl,pr,_,_,rfl,rfl,R2.r,zbo (by omega),?_⟩
    refine k1 ⟨hne,hri,hnm,hnd⟩ _ ⟨⟨dx,?_⟩,?_,?_,?_,?_,?_,R2.n1,?_,?_⟩ fun b o e b1 b2 b3 b4=>?_
    · rw[zj (zhq h2 R2.r (fun z=>nomatch z))];exact h2
    · rw[zb,List.map_append];rfl
    · refine zgi ?_ (zdt R2.rr fun c hc r e=>?_)
      · rw[zj nar];exact ha2
      · rw[zj (fun (z:c=pr)=>R2.n2 (z▸hc))];exact e
    · rw[zj (zhq R2.d R2.r (fun z=>nomatch z))];exact R2.d
    · rw[zj R2.n1.symm];exact R2.q
    · exact Paired.mapP R2.qq fun a b e=>by rw[zj (zhq e R2.r (fun z=>nomatch z))];exact e
    · intro z
      rcases List.mem_append.mp z with z | z
      · exact R2.n2 z
      · exact nar (List.mem_singleton.mp z).symm
    · intro z
      rcases List.mem_append.mp z with z | z
      · exact R2.n3 z
      · exact nap (List.mem_singleton.mp z).symm
    · rw[zj b2];exact kp b o e b1 b2 b3 b4
def zvg:Sp:=fun vs H Q _=>∃(p pr dk pp a:Addr) (s:MS) (cs bs:List Addr) (x y:Str),vs = [.ref p,.ref a]/\MsAt C_MatrixReading H p pr dk pp cs bs s/\H a=some (.tup [.str x,.str y])/\s.qs.length<=900/\
  (zgk s (x,y)->∀H',MrAt C_MatrixReading H' p pr dk pp (nvV s.nv) cs s.rows s.ks (bs++[a]) (s.qs++[(x,y)])->Kp4 H H' p pr dk pp->Q (.bl true) H')/\(¬zgk s (x,y)->∀H',Same H H'->Q (.bl false) H')
set_option maxHeartbeats 2000000 in
theorem zch (T:Tx K mg w C_MatrixReading zq zo zad zal zu C_NoMatrix zae):HasM P w K mg base C_MatrixReading "takes_pair" ["self","pair"] 1 (zvg (C_MatrixReading:=C_MatrixReading)):=by
  refine T.zck.has zca (fun vs H Q E h=>?_) (fun f cdv A outer s H vs Q E hr h=>?_)
  · obtain⟨p,pr,dk,pp,a,s,cs,bs,x,y,rfl,_⟩:=h;rfl
  · obtain⟨p,pr,dk,pp,a,ms,cs,bs,x,y,rfl,R,ha,hl,k1,k2⟩:=h
    have hu:=zuh hr
    refine⟨_,(zd (zbg (PW.pt (zhs (ziv (zi7 hu (zbc (znn K rfl) (pv 1) zf (fun _ _=>rfl)) (zcl (pv 0) rfl))) (ze2 (ziv (zi7 hu (zbc (znn K rfl) (pv 1) zf (fun _ _=>rfl)) (zcl (pv 0) rfl)))))) (zm (zak zb4)) zan)
      (zd (zbg (PW.pt (zdc (zah (zfz K rfl (hu10 hr)) (zcl (pv 0) rfl) (zaq zc) (zau _)) (zb5 (zah (zs5 K rfl (Nat.lt_trans (Nat.add_lt_add_left (by decide:1<9) _) (hu10 hr))) (pv 1) (zbc (zaf K rfl) (zcl (pv 0) rfl) (zl1 zg6 zf) (fun _ _=>rfl)) (zau _))))) (zm (zak zb4)) zan)
      (zd (zc0 (zbu K rfl PySem.F.plainAttrs_list PySem.F.slot_list_append PySem.F.type_list_append zbt (zcl (pv 0) rfl) (za (pv 1) zc)))
      (zm (zak zb4))))),?_⟩
    obtain⟨dx,h1⟩:=R.ob
    have lb:bs.length=ms.qs.length:=Paired.length R.qq
    refine⟨_,rfl,a,_,_,_,rfl,rfl,SqT.of ha,rfl,_,rfl,p,C_MatrixReading,dx,_,_,rfl,h1,T.zi,T.zav,rM_k _ _ _ _,dk,_,rfl,DGet.k (k:=Sum.inr x) R.d,_,rfl,?_⟩
    by_cases hx:x∈ms.ks
    · rw[zet (dU_mem.mpr hx)]
      refine iteF ⟨_,rfl,a,_,_,_,rfl,rfl,SqT.of ha,rfl,_,rfl,p,C_MatrixReading,dx,_,_,rfl,h1,T.zi,T.zav,rM_k _ _ _ _,dk,_,rfl,DGet.k (k:=Sum.inr y) R.d,_,rfl,?_⟩
      by_cases hy:y∈ms.ks
      · rw[zet (dU_mem.mpr hy)]
        refine iteF ?_
        try unfold zbf;try dsimp only
        refine za5 (decide (∃l,ms.qs.getLast? = some l/\ltPP l (x,y)=false)) (fun Q' hQ=>?_) (fun H1 s1=>?_)
        · refine⟨_,rfl,p,C_MatrixReading,dx,_,_,rfl,h1,T.zi,T.zao,rM_p _ _ _ _,by decide,fun e he=>?_⟩
          have t1:=Same.new (o:=.lst []) he
          refine⟨pp,e,_,rfl,rfl,DEq.nilL (SqL.of (t1 _ _ R.q)) (SqL.of zb),_,rfl,?_⟩
          rcases List.eq_nil_or_concat bs with rfl | ⟨bs',b,rfl⟩
          · rw[show decide (List.map V.ref ([]:List Addr) = [])=true from rfl]
            have q0:ms.qs = []:=List.length_eq_zero_iff.mp lb.symm
            rw[q0,decide_eq_false (by rintro ⟨l,e,_⟩;cases e)] at hQ
            exact iteF (hQ _ t1)
          · rw[List.concat_eq_append] at lb ⊢
            have R1:=R.same t1
            unfold MsAt at R1
            rw[List.concat_eq_append] at R1
            have eb:(bs'++[b])[bs'.length]? = some b:=by simp
            obtain⟨l,hl',hb⟩:=Paired.get' R1.qq eb
            have el:ms.qs.getLast? = some l:=by
              rw[List.getLast?_eq_getElem?,←lb,List.length_append]
              exact hl'
            rw[decide_eq_false (by simp)]
            refine iteT ⟨_,rfl,_,rfl,p,C_MatrixReading,dx,_,_,rfl,t1 _ _ h1,T.zi,T.zao,rM_p _ _ _ _,_,rfl,pp,_,_,_,rfl,rfl,SqL.of R1.q,(by rw[List.map_append];exact zhv _ _),?_⟩
            refine⟨a,b,(x,y),l,rfl,rfl,SqT.of (t1 _ _ ha),SqT.of hb,_,rfl,?_⟩
            cases hlt:ltPP l (x,y) with
            | true=>
              rw[decide_eq_false (by rintro ⟨l',e,h⟩;rw[el] at e;cases e;rw[hlt] at h;cases h)] at hQ
              exact hQ _ t1
            | false=>
              rw[decide_eq_true ⟨l,el,hlt⟩] at hQ
              exact hQ _ t1
        refine ite2 (fun c=>?_) (fun c=>?_)
        · obtain⟨l,el,hlt⟩:=of_decide_eq_true c
          refine k2 (fun h=>?_) _ s1
          rw[h.2.2 l el] at hlt
          cases hlt
        have ok:zgk ms (x,y):=⟨hx,hy,fun l el=>by
          cases hlt:ltPP l (x,y) with
          | true=>rfl
          | false=>exact absurd (decide_eq_true ⟨l,el,hlt⟩) c⟩
        have R1:=R.same s1
        obtain⟨dx,h1⟩:=R1.ob
        try unfold zbf;try dsimp only
        refine⟨_,rfl,p,C_MatrixReading,dx,_,_,rfl,h1,T.zi,T.zao,rM_p _ _ _ _,.inl ⟨rfl,_,SqL.of R1.q⟩,_,rfl,pp,_,_,rfl,rfl,R1.q,zbo (by rw[List.length_map];omega),?_⟩
        refine k1 ok _ ⟨⟨dx,?_⟩,?_,?_,?_,?_,?_,R1.n1,R1.n2,R1.n3⟩ fun b o e b1 b2 b3 b4=>?_
        · rw[zj (zhq h1 R1.q (fun z=>nomatch z))];exact h1
        · rw[zj R1.n1];exact R1.r
        · refine zdt R1.rr fun c hc r e=>?_
          rw[zj (fun (z:c=pp)=>R1.n3 (z▸hc))];exact e
        · rw[zj (zhq R1.d R1.q (fun z=>nomatch z))];exact R1.d
        · rw[zb,List.map_append];rfl
        · refine zgi ?_ (Paired.mapP R1.qq fun c r e=>?_)
          · show upd H1 pp _ a=some (.tup [.str x,.str y])
            rw[zj (zhq (s1 _ _ ha) R1.q (fun z=>nomatch z))];exact s1 _ _ ha
          · rw[zj (zhq e R1.q (fun z=>nomatch z))];exact e
        · rw[zj b4];exact s1 _ _ e
      · rw[zdr (fun h=>hy (dU_mem.mp h))]
        exact iteT (k2 (fun h=>hy h.2.1) _ (Same.refl _))
    · rw[zdr (fun h=>hx (dU_mem.mp h))]
      exact iteT (k2 (fun h=>hx h.1) _ (Same.refl _))
def zqt:Sp:=fun vs H Q _=>∃(p pr dk pp:Addr) (s:MS) (cs bs:List Addr) (x:Str),vs = [.ref p,.str x]/\MsAt C_MatrixReading H p pr dk pp cs bs s/\s.ks.Nodup/\x.length<=900/\(Txt.split x " ").length<=25/\s.ks.length<=940/\s.rows.length<=900/\s.qs.length<=900/\
  (∀s',Take s x s'->∀(cs' bs':List Addr) (H':Hp),MsAt C_MatrixReading H' p pr dk pp cs' bs' s'->(∀c∈cs',c∈cs\/H c=none)->Kp4 H H' p pr dk pp->Q (.bl true) H')/\((∀s',¬Take s x s')->∀H',Kp4 H H' p pr dk pp->Q (.bl false) H')
theorem zho {x:Str}(h:x.length<=1000) (y:Str):(Txt.split x y).length<=sizeLine:=by
  have:=(PyProof.Rows.fact_split x y).2
  exact Nat.le_trans this (Nat.le_trans (show x.length+2<=1002 by omega) (by decide))
theorem zqu (x:Str):∃on,numV x=nvV on/\(∀n,on=some n↔zcg x=true/\numI x=n):=by
  cases h:zcg x with
  | true=>exact⟨some (numI x),zlx h,fun n=>⟨fun e=>⟨rfl,Option.some.inj e⟩,fun e=>congrArg some e.2⟩⟩
  | false=>exact⟨none,zot h,fun n=>⟨(fun e=>nomatch e),(fun e=>nomatch e.1)⟩⟩
set_option maxHeartbeats 4000000 in
theorem zci (T:Tx K mg w C_MatrixReading zq zo zad zal zu C_NoMatrix zae):HasM P w K mg base C_MatrixReading "takes_line" ["self","line"] 5 (zqt (C_MatrixReading:=C_MatrixReading)):=by
  refine T.zcj.has sc_MatrixReading_takes_line (fun vs H Q E h=>?_) (fun f cdv A outer s H vs Q E hr h=>?_)
  · obtain⟨p,pr,dk,pp,s,cs,bs,x,rfl,_⟩:=h;rfl
  · obtain⟨p,pr,dk,pp,ms,cs,bs,x,rfl,R,knd,hlen,hw,lk,lr,lq,k1,k2⟩:=h
    refine⟨_,(zd (zac (i:=2) sc_MatrixReading_takes_line.nd rfl (Or.inl rfl) (zbu K rfl PySem.F.plainAttrs_str PySem.F.slot_str_split PySem.F.type_str_split zh4 (pv 1) (za zx zc)))
      (zd (zbg (zc7 (zbu K rfl PySem.F.plainAttrs_str PySem.F.slot_str_endswith PySem.F.type_str_endswith zs4 (zbc (zaf K rfl) (pv 2) zf (fun _ _=>rfl)) (za zx zc))) (zm (zak (zkw (zk5 (zb1 T) T.zi (hr.mono (by decide)) (pv 0) (za (zba (zil T) (hr.mono (by decide)) (by rfl) (za (zar zk1 (zbc (zaf K rfl) (pv 2) zf (fun _ _=>rfl)) za4 (zax (zl1 zg6 zf))) zc)) zc)) (zm0 (zk5 (zcb T) T.zi (hr.mono (by decide)) (pv 0) (za (zar (zaz K rfl) (pv 2) (zax zf) za4) zc)))))) zan)
      (zm (zak (zkw (zfq zc9 (zw (zh K rfl) (by rfl) T.len boot_len (za (pv 2) zc)) zf (zau _)) (zkw (zfq zc9 (zbc (zaf K rfl) (pv 2) zf (fun _ _=>rfl)) zx (zau _)) (zm0 (zk5 (zch T) T.zi (hr.mono (by decide)) (pv 0) (za (zbz (za (zbc (zaf K rfl) (pv 2) zf (fun _ _=>rfl)) (za (zbc (zaf K rfl) (pv 2) zf (fun _ _=>rfl)) zc))) zc))))))))),?_⟩
    have lcs:cs.length=ms.rows.length:=Paired.length R.rr
    refine⟨_,rfl,rfl,_,_,rfl,rfl,by decide +kernel,zai (by omega),zho (by omega) _,fun q hq=>?_⟩
    have hparts:=zkp x
    have hw:(Txt.split x (Str.ofString " ")).length<=25:=hw
    obtain⟨w,r,hsp⟩:∃w r,Txt.split x (Str.ofString " ")=w::r:=by
      have:=PyProof.Rows.split_pos x (Str.ofString " ")
      cases h:Txt.split x (Str.ofString " ") with
      | nil=>rw[h] at this;simp at this
      | cons w r=>exact⟨w,r,rfl⟩
    rw[hsp] at hw hparts
    simp only [List.length_cons] at hw
    rw[hsp]
    have t1:=Same.new (o:=.lst ((w::r).map V.str)) hq
    have eq1:upd H q (.lst ((w::r).map V.str)) q=some (.lst ((w::r).map V.str)):=zb
    generalize upd H q (.lst ((w::r).map V.str))=H1 at t1 eq1
    try dsimp only [zap]
    have hwl:w.length<=900:=Nat.le_trans (hparts w (List.mem_cons_self ..)) hlen
    obtain⟨nq1,nq2,nq3,nq4⟩:=R.new hq
    have R1:MsAt C_MatrixReading H1 p pr dk pp cs bs ms:=R.same t1
    refine⟨_,rfl,q,_,_,_,rfl,rfl,SqL.of eq1,zjc,rfl,_,_,rfl,rfl,_,rfl,?_⟩
    cases hend:Txt.endswith w (Str.ofString ":") with
    | true=>
      refine iteT ?_
      obtain⟨dx,h1⟩:=R1.ob
      have hcl:(cutW w).length<=900:=zqh hwl
      refine⟨_,rfl,p,dx,_,rfl,h1,zqf _ _ _ _ (by decide +kernel),_,rfl,q,_,_,_,rfl,rfl,SqL.of eq1,zjc,_,rfl,_,rfl,_,rfl,zai (by omega),?_⟩
      refine⟨cutW w,rfl,by omega,fun H2 s2=>?_⟩
      obtain⟨on,eon,hon⟩:=zqu (cutW w)
      rw[eon]
      have R2:=R1.same s2
      refine⟨p,pr,dk,pp,ms,cs,bs,on,rfl,R2,fun n en ok H3 R3 k3=>?_,fun no H3 s3=>?_⟩
      · refine⟨_,rfl,?_⟩
        rw[if_pos rfl]
        obtain⟨o1,o2⟩:=(hon n).mp en
        subst o2
        have eq3:=k3 _ _ (s2 _ _ eq1) nq1 nq2 nq3 nq4
        obtain⟨dx3,h3⟩:=R3.ob
        refine⟨_,rfl,p,dx3,_,rfl,h3,zqf _ _ _ _ (by decide +kernel),_,rfl,_,rfl,q,_,rfl,SqL.of eq3,fun a ha=>?_⟩
        rw[show cutV ((w::r).map V.str) (some 1) none=r.map V.str from zl9]
        have t4:=Same.new (o:=.lst (r.map V.str)) ha
        have kp:Kp4 H H3 p pr dk pp:=(Kp4.of (t1.trans s2)).trans k3
        refine⟨p,pr,dk,pp,a,_,cs,_,_,bs,_,r,rfl,R3.same t4,zb,(zk R3.r ha).symm,(zk R3.q ha).symm,knd,fun y hy=>?_,by omega,by omega,by omega,fun nok H5 R5 k5=>?_,fun nok H5 k5=>?_⟩
        · have:=hparts y (List.mem_cons_of_mem _ hy)
          omega
        · have q0:=ok.2.1
          rw[q0] at R5
          refine k1 _ (.row hsp hend o1 ok nok) (cs++[a]) bs H5 R5 (fun c hc=>?_) (kp.trans ((Kp4.of t4).trans k5))
          rcases List.mem_append.mp hc with hc | hc
          · exact .inl hc
          · rw[List.mem_singleton.mp hc];exact .inr (R3.free kp ha)
        · refine k2 (fun s' h=>?_) _ (kp.trans ((Kp4.of t4).trans k5))
          cases h with
          | row h=>
            obtain⟨_,rfl⟩:=List.cons.inj (hsp.symm.trans h)
            exact nok ‹_›
          | pair h e=>
            obtain⟨rfl,_⟩:=List.cons.inj (hsp.symm.trans h)
            exact absurd (hend.symm.trans e) (by decide)
      · refine⟨_,rfl,?_⟩
        rw[if_neg (by decide)]
        refine k2 (fun s' h=>?_) _ (Kp4.of (t1.trans (s2.trans s3)))
        cases h with
        | row h e o n k=>
          obtain⟨rfl,rfl⟩:=List.cons.inj (hsp.symm.trans h)
          exact no _ ((hon _).mpr ⟨o,rfl⟩) n
        | pair h e=>
          obtain⟨rfl,_⟩:=List.cons.inj (hsp.symm.trans h)
          exact absurd (hend.symm.trans e) (by decide)
    | false=>
      refine iteF ?_
      try unfold zbf;try dsimp only
      obtain⟨dx,h1⟩:=R1.ob
      have no:(∀b,r≠[Str.ofString ">",b])->∀s',¬Take ms x s':=fun hr s' h=>by
        cases h with
        | row h e=>
          obtain⟨rfl,_⟩:=List.cons.inj (hsp.symm.trans h)
          exact absurd (hend.symm.trans e) (by decide)
        | pair h e=>
          obtain⟨rfl,h2⟩:=List.cons.inj (hsp.symm.trans h)
          exact hr _ h2
      refine⟨_,rfl,q,_,rfl,.inl (SqL.of eq1),rfl,_,rfl,?_⟩
      by_cases c3:r.length=2
      · rw[if_pos (decide_eq_true (by rw[List.length_map,List.length_cons,c3];rfl))]
        match r,c3 with
        | [g,y],_=>
          refine⟨_,rfl,q,_,_,_,rfl,rfl,SqL.of eq1,rfl,rfl,_,rfl,?_⟩
          by_cases cg:g=Str.ofString ">"
          · subst cg
            rw[if_pos (decide_eq_true (by rfl))]
            refine⟨_,rfl,p,dx,_,rfl,h1,zqf _ _ _ _ (by decide +kernel),_,rfl,q,_,_,_,rfl,rfl,SqL.of eq1,rfl,_,rfl,q,_,_,_,rfl,rfl,SqL.of eq1,rfl,(by show 2<=sizeLine;decide),fun a ha=>?_⟩
            have t2:=Same.new (o:=.tup [.str w,.str y]) ha
            refine⟨p,pr,dk,pp,a,ms,cs,bs,w,y,rfl,R1.same t2,zb,lq,fun ok H3 R3 k3=>?_,fun nok H3 s3=>?_⟩
            · exact k1 _ (.pair hsp hend ok) cs (bs++[a]) H3 R3 (fun c hc=>.inl hc) ((Kp4.of (t1.trans t2)).trans k3)
            · refine k2 (fun s' h=>?_) _ (Kp4.of (t1.trans (t2.trans s3)))
              cases h with
              | row h e=>
                obtain⟨rfl,_⟩:=List.cons.inj (hsp.symm.trans h)
                exact absurd (hend.symm.trans e) (by decide)
              | pair h e o=>
                have q2:=hsp.symm.trans h
                obtain rfl:=(List.cons.inj q2).1
                obtain rfl:=(List.cons.inj (List.cons.inj (List.cons.inj q2).2).2).1
                exact nok o
          · rw[if_neg (by rw[decide_eq_false (fun z=>cg (V.str.inj z))];decide)]
            exact k2 (no fun b z=>cg (List.cons.inj z).1) _ (Kp4.of t1)
      · rw[if_neg (by
          rw[decide_eq_false (fun z=>by
            have:=V.int.inj z
            rw[List.length_map,List.length_cons] at this
            omega)]
          decide)]
        exact k2 (no fun b z=>c3 (by rw[z];rfl)) _ (Kp4.of t1)
def zly (C:Addr):Sp:=fun vs H Q _=>∃(e:Addr) (n:Nat),vs = [.ref e,.int n]/\H e=some (excO e C none)/\n<1000/\∀d,d≠e->H d=none->Q .non (upd (upd H d (.xd [("row",.int n)])) e (excO e C (some d)))
theorem zqv:∀i:Nat,i<1000->(Str.ofString (toString (i:Int)):Str).length<=3:=fun i hi=>by
  rw[←zas,zbm]
  exact znt (by decide) (by omega)
set_option maxHeartbeats 8000000 in
theorem za8 (T:Tx K mg w C_MatrixReading zq zo zad zal zu C_NoMatrix zae):HasM P w K mg base C_NoMatrix "__init__" ["self","row"] 1 (zly C_NoMatrix):=by
  refine T.zd5.has zdv (fun vs H Q E h=>?_) (fun f cdv A outer s H vs Q E hr h=>?_)
  · obtain⟨e,n,rfl,_⟩:=h;rfl
  · obtain⟨e,n,rfl,he,hn,k⟩:=h
    refine⟨_,(zd (zc0 (zp6 (by rfl) T.zgs T.zks (za (pv 0) (za (zoj (zu7 zx (zu8 (pv 1) zu6))) zc))))
      (zm (zsy (pv 0) (pv 1) rfl))),?_⟩
    obtain⟨bm,xo,U⟩:=T.zce
    have hl:=zqv n hn
    have e1:(Str.empty++Str.ofString "no matrix: line " : Str).length=16:=by decide +kernel
    refine⟨_,rfl,_,rfl,zai (by rw[e1];decide),_,rfl,_,.inr ⟨_,rfl,Nat.lt_of_le_of_lt (Nat.log2_le_self _) (by omega),rfl⟩,zai (by exact Nat.le_trans hl (by decide)),?_⟩
    have e2:(Str.empty++Str.ofString "no matrix: line " ++ Str.ofString (toString (n:Int)):Str).length<=19:=by
      rw[zgo,e1]
      omega
    refine⟨zai (by exact Nat.le_trans e2 (by decide)),zai (by exact Nat.le_trans e2 (by decide)),?_⟩
    refine⟨e,C_NoMatrix,none,bm,_,rfl,he,xo,U,(by show 1<=sizeLine;decide),?_⟩
    refine⟨_,rfl,_,rfl,e,C_NoMatrix,rfl,he,T.zku,T.zcf,fun d hd=>?_⟩
    exact k d (fun z=>by rw[z,he] at hd;cases hd) hd
theorem zqw {H H':Hp}{e:Addr}(he:H e=none) (s:∀b o,b≠e->H b=some o->H' b=some o):Same H (del H' e):=fun b o h=>by
  have n:=zk h he
  unfold del
  rw[if_neg n]
  exact s b o n h
def RowE (C:Addr) (H:Hp) (E:XK) (r:Nat):Prop:=∀d H',Same H H'->H' d=some (.xd [("row",.int r)])->E (.ref C) (some d) H'
theorem zgr {C:Addr}{G H:Hp}{E E1:XK}(r:Nat) (hr:r<1000) (s:Same H G) (k:RowE C H E r):∀e,G e=none->zly C [.ref e,.int r] (upd G e (excO e C none)) (fun v H2=>v = .non/\∃dc,H2 e=some (excO e C dc)/\E (.ref C) dc (del H2 e)) E1:=fun o ho=>by
  refine⟨o,r,rfl,zb,hr,fun d nd hd=>⟨rfl,some d,zb,k d _ (s.trans (zqw ho fun b o' n h=>?_)) ?_⟩⟩
  · rw[zj nd] at hd
    rw[zj n,zj (zk h hd),zj n]
    exact h
  · unfold del
    rw[if_neg nd,zj nd,zb]
def MatQ (H:Hp) (Q:VK) (s:MS):Prop:=∀(t a b:Addr) (cs bs:List Addr) (H':Hp),Same H H'->H' t=some (.tup [.ref a,.ref b])->H' a=some (.lst (cs.map V.ref))->Paired (fun c row=>H' c=some (.lst (row.map V.str))) cs s.rows.reverse->H' b=some (.lst (bs.map V.ref))->Paired (fun a (p:SS)=>H' a=some (.tup [.str p.1,.str p.2])) bs s.qs->Q (.ref t) H'
def zrk:Sp:=fun vs H Q E=>∃v,vs = [v]/\((∃ls,v = .str (Txt.join "\n" ls)/\TextOk ls/\((∃s,Run MS0 ls s/\s.nv=some 0/\MatQ H Q s)\/(∃r,Ref ls r/\RowE C_NoMatrix H E r)))\/(∃t,TyOf K H v t/\PySem.W.kitOne K t (.type "str")=some false/\RowE C_NoMatrix H E 0))
theorem zmv (x:Str) (h:x.length<=1000000) (y:Str):(Txt.split x y).length<=sizeLine:=by
  have:=(PyProof.Rows.fact_split x y).2
  exact Nat.le_trans this (Nat.le_trans (show x.length+2<=1000002 by omega) (by decide))
set_option maxHeartbeats 8000000 in
theorem zek (T:Tx K mg w C_MatrixReading zq zo zad zal zu C_NoMatrix zae):HasX P w K mg base "read_matrix" ["text"] 6 (zrk (K:=K) (C_NoMatrix:=C_NoMatrix)):=by
  refine T.zir.hasX sc_read_matrix (fun vs H Q E h=>?_) (fun f cdv A outer s H vs Q E hr h=>?_)
  · obtain⟨v,rfl,_⟩:=h;rfl
  · obtain⟨v,rfl,h⟩:=h
    refine⟨_,(zd (zbg (zdy (zc7 (zw (zno K rfl) (by rfl) T.isinstance PyProof.Rows.boot_isinstance (za (pv 0) (za (zmz (v:=.ty "str") (by rfl) T.str PyProof.Rows.boot_str rfl) zc))))) (zm (zgh (za8 T) T.zce (hr.mono (by decide)) xeIs_of (by rfl) T.zcd (by decide) (za zf zc))) zan)
      (zd (zbg (zah zc9 (pv 0) zx (zau _)) (zm (zak (zbz (za (zaq zc) (za (zaq zc) zc))))) zan)
      (zd (zac (i:=1) sc_read_matrix.nd rfl (Or.inl rfl) (zsf (zcw T) T.zfg T.zfh (hr.mono (by decide)) (by rfl) T.zff))
      (zd (zac (i:=2) sc_read_matrix.nd rfl (Or.inl rfl) (zbu K rfl PySem.F.plainAttrs_str PySem.F.slot_str_split PySem.F.type_str_split zh4 (pv 0) (za zx zc)))
      (zd (zdd xeIs_of.own rfl (zpo K rfl 1 (by decide) (by rfl) T.enumerate (pv 2)) (zj8 K rfl rfl (zdo (za3 (i:=3) sc_read_matrix.nd rfl (Or.inl rfl)) (zdo (za3 (i:=4) sc_read_matrix.nd rfl (Or.inl rfl)) zj0))) (zm (zbg (zdy (zc7 (zk5 (zci T) T.zi (hr.mono (by decide)) (pv 1) (za (pv 4) zc)))) (zm (zgh (za8 T) T.zce (hr.mono (by decide)) xeIs_of (by rfl) T.zcd (by decide) (za (pv 3) zc))) zan)))
      (zd (zbg (zah zo4 (zcl (pv 1) rfl) zf (zau _)) (zm (zgh (za8 T) T.zce (hr.mono (by decide)) xeIs_of (by rfl) T.zcd (by decide) (za (zg zay (zw (zh K rfl) (by rfl) T.len boot_len (za (pv 2) zc)) zf) zc))) zan)
      (zm (zak (zbz (za (zmn K rfl rfl (by rfl) T.list (by rfl) T.reversed (zcl (pv 1) rfl)) (za (zcl (pv 1) rfl) zc))))))))))),?_⟩
    rcases h with ⟨ls,rfl,M,h⟩ | ⟨t,ht,hk,kE⟩
    rotate_left
    · refine⟨_,rfl,_,_,_,false,rfl,ht,hk,_,rfl,iteT ?_⟩
      exact zgr 0 (by decide) (Same.refl _) kE
    refine⟨_,rfl,_,_,_,true,rfl,.str _,rfl,_,rfl,iteF ?_⟩
    try unfold zbf;try dsimp only
    obtain⟨hsp,hlen⟩:=M.text
    have hN:=M.many
    refine⟨_,rfl,rfl,_,rfl,?_⟩
    rw[decide_eq_false (fun z=>M.ne (V.str.inj z))]
    refine iteF ?_
    try unfold zbf;try dsimp only
    intro r dx hr0 hdx nrx
    have s0:Same H (upd (upd H dx (.own r)) r (.ins C_MatrixReading dx [])):=fun b o e=>by
      rw[zj (zk e hr0),zj (zk e hdx)];exact e
    refine⟨r,dx,rfl,zb,fun pr dk pp H1 f1 f2 f3 R1 kp=>⟨rfl,?_⟩⟩
    have s1:Same H H1:=fun b o e=>kp b o (s0 b o e) (zk e hr0)
    have fr:=s0.free f1
    have fk:=s0.free f2
    have fp:=s0.free f3
    try unfold zbf;try dsimp only
    refine⟨_,rfl,rfl,_,_,rfl,rfl,by decide +kernel,Nat.le_trans hlen (by decide),zmv _ hlen _,fun l hpl=>?_⟩
    rw[show Txt.split (Txt.join (Str.ofString "\n") ls) (Str.ofString "\n")=ls from hsp]
    have s2:=Same.new (o:=.lst (ls.map V.str)) hpl
    obtain⟨nl1,nl2,nl3,nl4⟩:=R1.new hpl
    have el0:upd H1 l (.lst (ls.map V.str)) l=some (.lst (ls.map V.str)):=zb
    have R2:=R1.same s2
    generalize upd H1 l (.lst (ls.map V.str))=H2 at s2 el0 R2
    have s02:=s1.trans s2
    clear kp R1
    try unfold zbf;try dsimp only
    have kfin:∀{G G':Hp},Same H G->Kp4 G G' r pr dk pp->Same H G':=fun sG kG b o e=>kG b o (sG b o e) (zk e hr0) (zk e fr) (zk e fk) (zk e fp)
    refine⟨_,rfl,l,_,rfl,SqL.of el0,zpp (xs:=ls.map V.str) (fun i σ H'=>∃(v3 v4:Option V) (cs bs:List Addr) (s:MS),σ = [some (.str (Txt.join "\n" ls)),some (.ref r),some (.ref l),v3,v4]/\MsAt C_MatrixReading H' r pr dk pp cs bs s/\Run MS0 (ls.take i) s/\Same H H'/\H' l=some (.lst (ls.map V.str)))
      ⟨none,none,[],[],MS0,rfl,R2,.nil,s02,el0⟩ (fun i σ H' _ h=>by obtain⟨_,_,_,_,_,_,_,_,_,e⟩:=h;exact SqL.of e) ?_ ?_⟩
    · rintro i v σ H3 Tp hv ⟨v3,v4,cs,bs,ms,rfl,R,rn,q,el⟩ hTp
      have hi:=ze4 hv
      rw[List.length_map] at hi
      rw[List.getElem?_map,List.getElem?_eq_getElem hi] at hv
      cases hv
      have hls:ls[i]? = some ls[i]:=List.getElem?_eq_getElem hi
      have hm:ls[i]∈ls:=List.getElem_mem _
      have sT:=Same.new (o:=.tup [.int ((1+i:Nat):Int),.str ls[i]]) hTp
      refine⟨Tp,_,rfl,SqT.of zb,rfl,_,_,rfl,_,_,rfl,rfl,?_⟩
      try unfold zbf;try dsimp only
      have R3:=R.same sT
      obtain⟨dx3,h3⟩:=R3.ob
      obtain⟨z1,z2,z3⟩:=rn.sizes fun x hx=>M.words x (List.mem_of_mem_take hx)
      rw[List.length_take] at z1 z2 z3
      have e0:MS0.ks.length=0/\MS0.rows.length=0/\MS0.qs.length=0:=⟨rfl,rfl,rfl⟩
      refine⟨_,rfl,r,dx3,_,rfl,h3,zqf _ _ _ _ (by decide +kernel),_,rfl,r,pr,dk,pp,ms,cs,bs,ls[i],rfl,R3,rn.nodup List.nodup_nil,M.len _ hm,M.words _ hm,by omega,by omega,by omega,fun s' tk cs' bs' H4 R4 _ k4=>?_,fun no H4 k4=>?_⟩
      · refine⟨_,rfl,iteF ?_⟩
        exact⟨_,_,cs',bs',s',rfl,R4,rn.snoc hls tk,kfin (q.trans sT) k4,k4 _ _ (sT _ _ el) nl1 nl2 nl3 nl4⟩
      · refine⟨_,rfl,iteT ?_⟩
        rcases h with ⟨s,hR,_⟩ | ⟨rr,hR,kE⟩
        · obtain⟨a,c,h1,h2⟩:=hR.at hls
          cases rn.det h1
          exact absurd h2 (no c)
        · obtain rfl:rr=1+i:=by
            rcases hR with ⟨j,s,l',hl',hrun,hst,rfl⟩ | ⟨s,hrun,_,rfl⟩
            · rcases Nat.lt_trichotomy i j with c | c | c
              · have h':(ls.take j)[i]? = some ls[i]:=by rw[List.getElem?_take_of_lt c];exact hls
                obtain⟨a,b,h1,h2⟩:=hrun.at h'
                rw[List.take_take,Nat.min_eq_left (Nat.le_of_lt c)] at h1
                cases rn.det h1
                exact absurd h2 (no b)
              · omega
              · have h':(ls.take i)[j]? = some l':=by rw[List.getElem?_take_of_lt c];exact hl'
                obtain⟨a,b,h1,h2⟩:=rn.at h'
                rw[List.take_take,Nat.min_eq_left (Nat.le_of_lt c)] at h1
                cases hrun.det h1
                exact absurd h2 (hst b)
            · obtain⟨a,b,h1,h2⟩:=hrun.at hls
              cases rn.det h1
              exact absurd h2 (no b)
          exact⟨_,rfl,zgr (1+i) (by omega) (kfin (q.trans sT) k4) kE⟩
    rintro σ H3 ⟨v3,v4,cs,bs,ms,rfl,R,rn,q,el⟩
    rw[List.length_map,List.take_length] at rn
    obtain⟨dx3,h3⟩:=R.ob
    try unfold zbf;try dsimp only
    refine⟨_,rfl,r,C_MatrixReading,dx3,_,_,rfl,h3,T.zi,T.zat,rM_n _ _ _ _,(by cases ms.nv<;>rfl),_,rfl,?_⟩
    by_cases c0:ms.nv=some 0
    · rw[c0]
      rw[show decide (nvV (some 0)=V.int 0)=true from decide_eq_true rfl]
      refine iteF ?_
      rcases h with ⟨s,hR,_,k⟩ | ⟨rr,hR,kE⟩
      · cases rn.det hR
        try unfold zbf;try dsimp only
        refine⟨_,rfl,r,C_MatrixReading,dx3,_,_,rfl,h3,T.zi,T.zbe,rM_r _ _ _ _,pr,_,rfl,SqL.of R.r,fun a ha=>?_⟩
        rw[←List.map_reverse]
        have t4:=Same.new (o:=.lst (cs.reverse.map V.ref)) ha
        refine⟨_,rfl,r,C_MatrixReading,dx3,_,_,rfl,t4 _ _ h3,T.zi,T.zao,rM_p _ _ _ _,by show 2<=sizeLine;decide,fun t ht=>?_⟩
        have t5:=Same.new (o:=.tup [.ref a,.ref pp]) ht
        have q5:=t4.trans t5
        have R5:=R.same q5
        exact k t a pp cs.reverse bs _ (q.trans q5) zb (t5 _ _ zb) (zlq R5.rr) R5.q R5.qq
      · rcases hR with ⟨j,s,l',hl',hrun,hst,rfl⟩ | ⟨s,hrun,hz,rfl⟩
        · obtain⟨a,b,h1,h2⟩:=rn.at hl'
          cases hrun.det h1
          exact absurd h2 (hst b)
        · cases rn.det hrun
          exact absurd c0 hz
    · rw[decide_eq_false (fun z=>c0 (by
        cases hn:ms.nv with
        | none=>rw[hn] at z;cases z
        | some m=>rw[hn] at z;exact congrArg some (V.int.inj z)))]
      refine iteT ?_
      rcases h with ⟨s,hR,hz,k⟩ | ⟨rr,hR,kE⟩
      · cases rn.det hR
        exact absurd hz c0
      · rcases hR with ⟨j,s,l',hl',hrun,hst,rfl⟩ | ⟨s,hrun,hz,rfl⟩
        · obtain⟨a,b,h1,h2⟩:=rn.at hl'
          cases hrun.det h1
          exact absurd h2 (hst b)
        · refine⟨_,rfl,l,_,rfl,.inl (SqL.of el),_,_,rfl,rfl,?_⟩
          rw[List.length_map]
          exact zgr (ls.length+1) (by omega) q kE
def ztn:Sp:=fun vs H Q _=>∃(word:Str) (c:Int) (k:Nat),vs = [.str word,.int c,.int k]/\word.length<=12/\k<64/\Q (.str (numT word (decide (c%2=1)) k)) H
theorem zdl (T:Tx K mg w C_MatrixReading zq zo zad zal zu C_NoMatrix zae):Has P w K mg base "_law_numbered" ["_law_word","_law_cell","_law_k"] 1 ztn:=by
  refine T.zgt.has zfd (fun vs H Q E h=>?_) (fun f cdv A outer s H vs Q E hr h=>?_)
  · obtain⟨word,c,i,rfl,_⟩:=h;rfl
  · obtain⟨word,c,i,rfl,hw,hi,k⟩:=h
    refine⟨_,(zd (zbg (zah zc9 (zg zbl (pv 1) zf) zf (zau _)) (zm (zak (zg ze (zg ze (zam zaa (by rfl) T.str PyProof.Rows.boot_str (za (pv 2) zc)) zx) (pv 0)))) zan)
      (zm (zak (zg ze (zg ze (pv 0) zx) (zam zaa (by rfl) T.str PyProof.Rows.boot_str (za (pv 2) zc)))))),?_⟩
    have hn:=zgc i hi
    have e1:(Str.ofString "-" : Str).length=1:=by decide +kernel
    refine⟨_,rfl,_,_,rfl,rfl,(by decide:(0:Int)<2),rfl,_,rfl,?_⟩
    unfold numT at k
    by_cases h:c%2=1
    · rw[decide_eq_true h,if_pos rfl] at k
      rw[decide_eq_true (congrArg V.int h)]
      refine iteT ?_
      refine⟨_,rfl,(i:Int),rfl,Nat.lt_of_le_of_lt (Nat.log2_le_self _) (by omega),_,_,rfl,rfl,zai (by omega),_,rfl,_,_,rfl,rfl,zai ?_,k⟩
      rw[←zas,zag,List.length_append,zas,zas]
      omega
    · rw[decide_eq_false h,if_neg (by decide)] at k
      rw[decide_eq_false (fun z=>h (V.int.inj z))]
      refine iteF ?_
      try unfold zbf;try dsimp only
      refine⟨_,rfl,_,_,rfl,rfl,zai (by omega),_,rfl,(i:Int),rfl,Nat.lt_of_le_of_lt (Nat.log2_le_self _) (by omega),_,_,rfl,rfl,zai ?_,k⟩
      rw[←zas,zag,List.length_append,zas,zas]
      omega
def zto:Sp:=fun vs H Q _=>∃(word:Str) (c:Int) (pc:Addr) (cells:List Int),vs = [.str word,.int c,.ref pc]/\word.length<=12/\SqL K H pc (cells.map V.int)/\cells.length<=60/\
  ∀(q:Addr) (cs:List Addr) (gs:List (List Str)) (H':Hp),Same H H'->H q=none->H' q=some (.lst (cs.map V.ref))->(∀c∈cs,H c=none)->Paired (fun c g=>H' c=some (.lst (g.map V.str))) cs gs->(∀g∈gs,g≠[])->(∀g∈gs,zgv g)->gs.flatten.Perm (zd3 word (decide (c%2=1)) cells.length)->Q (.ref q) H'
set_option maxHeartbeats 8000000 in
theorem zim (T:Tx K mg w C_MatrixReading zq zo zad zal zu C_NoMatrix zae):Has P w K mg base "_law_groups" ["_law_word","_law_first","_law_cells"] 2 (zto (K:=K)):=by
  refine T.zis.has sc__law_groups (fun vs H Q E h=>?_) (fun f cdv A outer s H vs Q E hr h=>?_)
  · obtain⟨word,c,pc,cells,rfl,_⟩:=h;rfl
  · obtain⟨word,c,pc,cells,rfl,hw,hc,hl,k⟩:=h
    refine⟨_,(zd (zac (i:=3) sc__law_groups.nd rfl (Or.inl rfl) (zaq zc))
      (zd (zdd PassesOwn.never rfl (zbs (by rfl) T.range (za (zw (zh K rfl) (by rfl) T.len boot_len (za (pv 2) zc)) zc)) (za3 (i:=4) sc__law_groups.nd rfl (Or.inl rfl)) (zd (zac (i:=5) sc__law_groups.nd rfl (Or.inl rfl) (zba (zdl T) (hr.mono (by decide)) (by rfl) (za (pv 0) (za (pv 1) (za (pv 4) zc)))))
        (zm (zbg (PW.pt (zhs (zah (zh3 K rfl (hu10 hr)) (pv 3) (zaq zc) (zau _)) (ze2 (zah zc9 (zba (zbj T) (hr.mono (by decide)) (by rfl) (za (zbc (zaf K rfl) (pv 2) (pv 4) (fun _ _=>rfl)) (za zf (za zf zc)))) zf (zau _))))) (zm (zc0 (zbu K rfl PySem.F.plainAttrs_list PySem.F.slot_list_append PySem.F.type_list_append zbt (pv 3) (za (zaq (za (pv 5) zc)) zc)))) (zm (zc0 (zbu K rfl PySem.F.plainAttrs_list PySem.F.slot_list_append PySem.F.type_list_append zbt (zbc (zaf K rfl) (pv 3) (zba (zbj T) (hr.mono (by decide)) (by rfl) (za (zbc (zaf K rfl) (pv 2) (pv 4) (fun _ _=>rfl)) (za zf (za (zw (zh K rfl) (by rfl) T.len boot_len (za (pv 3) zc)) zc)))) (fun _ _=>rfl)) (za (pv 5) zc))))))))
      (zm (zak (zh0 (own:=["_law_group"]) (cap:=[]) (ix:=[]) (osc:=zr (top 24)) rfl ⟨rfl,by decide +kernel,by decide +kernel,by decide +kernel,by decide +kernel⟩ rfl (zcm K rfl (pv 3)) (fun _ _ _ _=>za3 (i:=0) (show List.Nodup (["_law_group"]:List Str) by decide +kernel) rfl (Or.inl rfl)) (fun _ _ _ _=>zer) (fun _ _ _ _=>(zw (zdh (K:=K) rfl) (by rfl) T.sorted PyProof.Rows.boot_sorted (za (pv 0) zc)))))))),?_⟩
    refine⟨by decide,fun D hD=>?_⟩
    have t1:=Same.new (o:=.lst []) hD
    have e1:upd H D (.lst []) D=some (.lst []):=zb
    generalize upd H D (.lst [])=H1 at t1 e1
    try dsimp only [zap]
    refine⟨_,rfl,pc,_,rfl,.inl (t1.seq hc),(cells.length:Int),by rw[List.length_map],by omega,by omega,?_⟩
    refine zde (lo:=0) (n:=cells.length) (fun i σ H'=>∃(v4 v5:Option V) (cs:List Addr) (gs:List (List Str)),σ = [some (.str word),some (.int c),some (.ref pc),some (.ref D),v4,v5]/\Same H H'/\H' D=some (.lst (cs.map V.ref))/\Paired (fun c g=>H' c=some (.lst (g.map V.str))) cs gs/\D ∉ cs/\cs.Nodup/\(∀c∈cs,H c=none)/\(∀g∈gs,g≠[])/\gs.flatten.Perm (zd3 word (decide (c%2=1)) i)/\gs.length<=i)
      ⟨none,none,[],[],rfl,t1,e1,.nil,(fun h=>nomatch h),List.nodup_nil,(fun _ h=>nomatch h),(fun _ h=>nomatch h),.refl _,Nat.le_refl _⟩ ?_ ?_
    · rintro i σ H2 hi ⟨v4,v5,cs,gs,rfl,q,hD2,pr,nD,nd,fc,ne,pm,lg⟩
      have hc2:=q.seq hc
      have lcs:=Paired.length pr
      have ez:(0:Int)+(i:Int)=(i:Int):=Int.zero_add _
      try dsimp only [zap]
      refine⟨_,rfl,_,rfl,_,rfl,word,c,i,by rw[ez];rfl,hw,by omega,?_⟩
      try dsimp only [zap]
      have pm':(zd3 word (decide (c%2=1)) (i+1))=zd3 word (decide (c%2=1)) i++[numT word (decide (c%2=1)) i]:=by
        unfold zd3
        rw[List.range_succ,List.map_append]
        rfl
      have xa:atI (cells.map V.int) (0+(i:Int))=some (.int (cells.getD i 0)):=by
        rw[ez]
        exact zbr (by rw[List.getElem?_map,List.getElem?_eq_getElem hi,List.getD_eq_getElem?_getD,List.getElem?_eq_getElem hi];rfl)
      generalize numT word (decide (c%2=1)) i=nm at pm'
      refine za5 (decide (gs = [])||decide (pt (cells.getD i 0) 1 3=0)) (fun Q' hQ=>?_) (fun H3 s3=>?_)
      · refine⟨_,rfl,by decide,fun e he=>?_⟩
        have t3:=Same.new (o:=.lst []) he
        refine⟨D,e,_,rfl,rfl,DEq.nilL (SqL.of (t3 _ _ hD2)) (SqL.of zb),_,rfl,?_⟩
        have eg:decide (cs.map V.ref = [])=decide (gs = []):=decide_eq_decide.mpr ⟨fun z=>List.length_eq_zero_iff.mp (by rw[←lcs,←List.length_map (f:=V.ref),z];rfl),fun z=>List.length_eq_zero_iff.mp (by rw[List.length_map,lcs,z];rfl)⟩
        rw[eg]
        cases hg:decide (gs = []) with
        | true=>
          rw[hg] at hQ
          exact iteT (hQ _ t3)
        | false=>
          rw[hg,Bool.false_or] at hQ
          refine iteF ⟨_,rfl,_,rfl,pc,_,_,_,rfl,rfl,t3.seq hc2,xa,_,_,_,rfl,by decide,rfl,_,rfl,?_⟩
          rw[show decide (V.int (pt (cells.getD i 0) 1 3)=V.int 0)=decide (pt (cells.getD i 0) 1 3=0) from decide_eq_decide.mpr ⟨fun z=>V.int.inj z,fun z=>congrArg V.int z⟩]
          exact hQ _ t3
      have q3:=q.trans s3
      have hD3:=s3 _ _ hD2
      have pr3:Paired (fun c g=>H3 c=some (.lst (g.map V.str))) cs gs:=Paired.mapP pr fun _ _ h=>s3 _ _ h
      have hc3:=q3.seq hc
      refine ite2 (fun cc=>?_) (fun cc=>?_)
      · refine⟨_,rfl,.inl ⟨rfl,_,SqL.of hD3⟩,_,rfl,by show 1<=sizeLine;decide,fun a ha=>?_⟩
        have t4:=Same.new (o:=.lst [.str nm]) ha
        have nDa:D≠a:=zk hD3 ha
        refine⟨D,_,_,rfl,rfl,t4 _ _ hD3,by rw[List.length_map];exact zbo (by omega),?_⟩
        have q4:=q3.trans t4
        refine⟨_,_,cs++[a],gs++[[nm]],rfl,q4.upd hD,by rw[zb,List.map_append];rfl,?_,?_,?_,?_,?_,?_,?_⟩
        · refine Paired.snoc (zdt pr3 fun d hd g h=>?_) ?_
          · have n:d≠D:=fun z=>nD (z▸hd)
            rw[zj n]
            exact t4 _ _ h
          · rw[zj nDa.symm,zb];rfl
        · intro z
          rcases List.mem_append.mp z with z | z
          · exact nD z
          · exact nDa (List.mem_singleton.mp z)
        · refine List.nodup_append.mpr ⟨nd,by simp,fun x hx y hy z=>?_⟩
          have hy:=List.mem_singleton.mp hy
          subst z hy
          obtain⟨j,hj⟩:=List.mem_iff_getElem?.mp hx
          obtain⟨g,_,h⟩:=Paired.get' pr3 hj
          rw[ha] at h
          cases h
        · intro d hd
          rcases List.mem_append.mp hd with hd | hd
          · exact fc d hd
          · rw[List.mem_singleton.mp hd];exact q3.free ha
        · intro g hg
          rcases List.mem_append.mp hg with hg | hg
          · exact ne g hg
          · rw[List.mem_singleton.mp hg];exact List.cons_ne_nil _ _
        · rw[List.flatten_append,List.flatten_cons,List.flatten_nil,List.append_nil,pm']
          exact pm.append_right _
        · rw[List.length_append]
          show gs.length+1<=_
          omega
      · have cc:¬gs = []:=fun z=>cc (by rw[decide_eq_true z];rfl)
        have l0:0<gs.length:=List.length_pos_iff.mpr cc
        obtain⟨p1,p2⟩:=zps (cells.getD i 0) 2 (gs.length:Int) (by omega)
        obtain⟨j,ej⟩:∃j:Nat,pt (cells.getD i 0) 2 (gs.length:Int)=(j:Int):=⟨(pt (cells.getD i 0) 2 (gs.length:Int)).toNat,by omega⟩
        have hj:j<gs.length:=by omega
        have hjc:j<cs.length:=by omega
        obtain⟨d,ed⟩:∃d,cs[j]? = some d:=⟨_,List.getElem?_eq_getElem hjc⟩
        obtain⟨g,eg,hg⟩:=Paired.get' pr3 ed
        have nDd:d≠D:=fun z=>nD (z▸List.mem_of_getElem? ed)
        have lgg:g.length<=gs.flatten.length:=zbd (List.mem_of_getElem? eg)
        rw[pm.length_eq,zgj] at lgg
        refine⟨_,rfl,_,rfl,_,rfl,pc,_,_,_,rfl,rfl,hc3,xa,_,rfl,D,_,rfl,.inl (SqL.of hD3),_,_,((cs.map V.ref).length:Int),rfl,by rw[List.length_map];omega,D,_,(j:Int),.ref d,rfl,?_,SqL.of hD3,zbr (by rw[List.getElem?_map,ed];rfl),.inl ⟨rfl,_,SqL.of hg⟩,?_⟩
        · rw[List.length_map,lcs,ej]
        refine⟨_,rfl,d,_,_,rfl,rfl,hg,by rw[List.length_map];exact zbo (by omega),?_⟩
        refine⟨_,_,cs,gs.set j (g++[nm]),rfl,q3.upd (fc d (List.mem_of_getElem? ed)),by rw[zj nDd.symm];exact hD3,?_,nD,nd,fc,?_,?_,by rw[List.length_set];omega⟩
        · have:=zls (g':=g++[nm]) pr3 nd ed
          rw[List.map_append] at this
          exact this
        · intro g' hg'
          rcases List.mem_or_eq_of_mem_set hg' with h | h
          · exact ne g' h
          · rw[h];simp
        · rw[pm']
          exact (zlr eg).trans (pm.append_right _)
    rintro σ H2 ⟨v4,v5,cs,gs,rfl,q,hD2,pr,nD,nd,fc,ne,pm,lg⟩
    have lcs:=Paired.length pr
    try unfold zbf;try dsimp only
    refine⟨_,rfl,D,rfl,⟨_,SqL.of hD2⟩,fun E' hE=>?_⟩
    refine zk6 (zh1 (K:=K) (a:=D) (xs:=cs.map V.ref)) (fun i σ' ys H'=>∃(w0:Option V) (ds:List Addr),σ' = [w0]/\ys=ds.map V.ref/\Same H2 H'/\H' E'=some (.lst ys)/\(∀d∈ds,H2 d=none/\d≠E')/\Paired (fun c g=>H' c=some (.lst (g.map V.str))) ds ((gs.take i).map srt))
      ⟨none,[],rfl,rfl,Same.new hE,zb,(fun _ h=>nomatch h),.nil⟩ (fun i σ' ys H' h=>?_) (by rw[List.length_map];exact zai (by omega)) ?_ ?_
    · obtain⟨_,ds,_,rfl,q',hd,_,pd⟩:=h
      refine⟨SqL.of (q' _ _ hD2),hd,?_⟩
      have:=Paired.length pd
      rw[List.length_map,List.length_take] at this
      rw[List.length_map]
      omega
    · rintro i v σ' ys H3 hx ⟨w0,ds,rfl,rfl,q',hd,fd,pd⟩
      have hix:=ze4 hx
      rw[List.length_map] at hix
      rw[List.getElem?_map,List.getElem?_eq_getElem hix] at hx
      cases hx
      obtain⟨g,eg,hg⟩:=Paired.get' pr (List.getElem?_eq_getElem hix)
      have hg3:=q' _ _ hg
      have lgg:g.length<=gs.flatten.length:=zbd (List.mem_of_getElem? eg)
      rw[pm.length_eq,zgj] at lgg
      try dsimp only [zap]
      unfold tYes
      dsimp only
      rw[if_pos rfl]
      refine⟨_,rfl,_,g,rfl,SqL.of hg3,by omega,fun d ms hd' pm' rs=>?_⟩
      have em:=zlc pm' rs
      subst em
      have t1:=Same.new (o:=.lst ((srt g).map V.str)) hd'
      have nd':E'≠d:=zk hd hd'
      refine⟨t1 _ _ hd,zuo (by rw[List.length_map];exact hix) ⟨_,ds++[d],rfl,by rw[List.map_append];rfl,(q'.trans t1).upd hE,by rw[zb],fun b hb=>?_,?_⟩⟩
      · rcases List.mem_append.mp hb with hb | hb
        · exact fd b hb
        · rw[List.mem_singleton.mp hb];exact⟨q'.free hd',nd'.symm⟩
      · rw[List.take_add_one,eg,List.map_append]
        refine Paired.snoc (zdt pd fun b hb g' h=>?_) ?_
        · rw[zj (fd b hb).2]
          exact t1 _ _ h
        · rw[zj nd'.symm,zb]
    rintro σ' ys H3 ⟨w0,ds,rfl,rfl,q',hd,fd,pd⟩
    rw[List.length_map,lcs,List.take_length] at pd
    refine k E' ds (gs.map srt) H3 (q.trans q') (q.free hE) hd (fun d hd=>q.free (fd d hd).1) pd (fun g hg=>?_) (fun g hg=>?_) ?_
    · obtain⟨g0,h0,rfl⟩:=List.mem_map.mp hg
      intro z
      apply ne g0 h0
      have:=zsn g0
      rw[z] at this
      exact List.length_eq_zero_iff.mp this.symm
    · obtain⟨g0,h0,rfl⟩:=List.mem_map.mp hg
      exact zef g0
    · refine List.Perm.trans ?_ pm
      clear pm pd pr ne lg lcs
      induction gs with
      | nil=>exact .refl _
      | cons g gs ih=>exact List.Perm.append (zee g) ih
def zvh:Sp:=fun vs H Q _=>∃(pn pc:Addr) (names:List Str) (cells:List Int),vs = [.ref pn,.ref pc]/\SqL K H pn (names.map V.str)/\SqL K H pc (cells.map V.int)/\names.length<=60/\names≠[]/\cells.length<=60/\
  ∀(D:Addr) (bs:List Addr) (qs:List SS) (H':Hp),Same H H'->H D=none->H' D=some (.lst (bs.map V.ref))->Paired (fun a (p:SS)=>SqT K H' a [.str p.1,.str p.2]) bs qs->qs.Pairwise (fun a b=>ltPP a b=true)->qs.length<=cells.length->(∀p∈qs,p.1∈names/\p.2∈names)->Q (.ref D) H'
set_option maxHeartbeats 8000000 in
theorem zjr (T:Tx K mg w C_MatrixReading zq zo zad zal zu C_NoMatrix zae):Has P w K mg base "_law_pairs" ["_law_names_here","_law_cells"] 2 (zvh (K:=K)):=by
  refine T.zjw.has sc__law_pairs (fun vs H Q E h=>?_) (fun f cdv A outer s H vs Q E hr h=>?_)
  · obtain⟨pn,pc,names,cells,rfl,_⟩:=h;rfl
  · obtain⟨pn,pc,names,cells,rfl,hn,hc,ln,nne,lc,k⟩:=h
    refine⟨_,(zd (zac (i:=2) sc__law_pairs.nd rfl (Or.inl rfl) (zaq zc))
      (zd (zdd PassesOwn.never rfl (zcm K rfl (pv 1)) (za3 (i:=3) sc__law_pairs.nd rfl (Or.inl rfl)) (zd (zac (i:=4) sc__law_pairs.nd rfl (Or.inl rfl) (zbz (za (zbc (zaf K rfl) (pv 0) (zba (zbj T) (hr.mono (by decide)) (by rfl) (za (pv 3) (za zf (za (zw (zh K rfl) (by rfl) T.len boot_len (za (pv 0) zc)) zc)))) (fun _ _=>rfl)) (za (zbc (zaf K rfl) (pv 0) (zba (zbj T) (hr.mono (by decide)) (by rfl) (za (pv 3) (za zf (za (zw (zh K rfl) (by rfl) T.len boot_len (za (pv 0) zc)) zc)))) (fun _ _=>rfl)) zc))))
        (zm (zbg (zah (zl7 K rfl (hu11 hr)) (pv 4) (pv 2) (by with_unfolding_all rfl)) (zm (zc0 (zbu K rfl PySem.F.plainAttrs_list PySem.F.slot_list_append PySem.F.type_list_append zbt (pv 2) (za (pv 4) zc)))) zan))))
      (zm (zak (zw (zjf (K:=K) rfl) (by rfl) T.sorted PyProof.Rows.boot_sorted (za (pv 2) zc)))))),?_⟩
    refine⟨by decide,fun D hD=>?_⟩
    have t1:=Same.new (o:=.lst []) hD
    have e1:upd H D (.lst []) D=some (.lst []):=zb
    generalize upd H D (.lst [])=H1 at t1 e1
    try dsimp only [zap]
    refine⟨_,rfl,pc,rfl,⟨_,t1.seq hc⟩,?_⟩
    refine zd6 (K:=K) (a:=pc) (xs:=cells.map V.int) (fun i σ H'=>∃(v3 v4:Option V) (as:List Addr) (ps:List SS),σ = [some (.ref pn),some (.ref pc),some (.ref D),v3,v4]/\Same H H'/\H' D=some (.lst (as.map V.ref))/\TupsS H' as ps/\ps.Nodup/\ps.length<=i/\∀p∈ps,p.1∈names/\p.2∈names)
      ⟨none,none,[],[],rfl,t1,e1,.nil,List.nodup_nil,Nat.le_refl _,(fun _ h=>nomatch h)⟩ (fun i σ H' _ h=>by obtain⟨_,_,_,_,_,q,_⟩:=h;exact q.seq hc) ?_ ?_
    · rintro i v σ H3 hx ⟨v3,v4,as,ps,rfl,q3,hD3,ta3,pn',pl,pm⟩
      have hi:=ze4 hx
      rw[List.length_map] at hi
      rw[List.getElem?_map,List.getElem?_eq_getElem hi] at hx
      cases hx
      have la:=Paired.length ta3
      have hn3:=q3.seq hn
      try dsimp only [zap]
      have l0:0<names.length:=List.length_pos_iff.mpr nne
      have ix:∀j:Int,∃x:Str,x∈names/\atI (names.map V.str) (pt cells[i] j ((names.map V.str).length:Int))=some (.str x):=fun j=>by
        rw[List.length_map]
        obtain⟨p1,p2⟩:=zps cells[i] j (names.length:Int) (by omega)
        obtain⟨m,em⟩:∃m:Nat,pt cells[i] j (names.length:Int)=(m:Int):=⟨(pt cells[i] j (names.length:Int)).toNat,by omega⟩
        have hm:m<names.length:=by omega
        rw[em]
        exact⟨names[m],List.getElem_mem _,zbr (by rw[List.getElem?_map,List.getElem?_eq_getElem hm];rfl)⟩
      obtain⟨x,hx,ax⟩:=ix 1
      obtain⟨y,hy,ay⟩:=ix 2
      have lm:(0:Int)<((names.map V.str).length:Int):=by rw[List.length_map];omega
      refine⟨_,rfl,_,rfl,_,rfl,pn,_,rfl,.inl hn3,_,_,_,rfl,lm,pn,_,_,_,rfl,rfl,hn3,ax,?_⟩
      refine⟨_,rfl,_,rfl,_,rfl,pn,_,rfl,.inl hn3,_,_,_,rfl,lm,pn,_,_,_,rfl,rfl,hn3,ay,by show 2<=sizeLine;decide,fun b0 hb0=>?_⟩
      have t4:=Same.new (o:=.tup [.str x,.str y]) hb0
      have hb4:upd H3 b0 (.tup [.str x,.str y]) b0=some (.tup (ssV (x,y))):=zb
      have q4:=q3.trans t4
      have hD4:=t4 _ _ hD3
      have ta4:TupsS (upd H3 b0 (.tup [.str x,.str y])) as ps:=Paired.mapP ta3 fun _ _ h=>t4 _ _ h
      generalize upd H3 b0 (.tup [.str x,.str y])=H4 at t4 hb4 q4 hD4 ta4
      try dsimp only [zap]
      refine⟨_,rfl,_,rfl,D,_,_,rfl,.inl (SqL.of hD4),ta4.deq (n:=7) hb4,_,rfl,?_⟩
      rw[if_pos rfl,ta4.any]
      refine ite2 (fun c2=>?_) (fun c2=>?_)
      · have c2:¬(x,y)∈ps:=by simpa using c2
        refine⟨_,rfl,.inl ⟨rfl,_,SqL.of hD4⟩,_,rfl,D,_,_,rfl,rfl,hD4,by rw[List.length_map];exact zbo (by omega),?_⟩
        refine⟨_,_,as++[b0],ps++[(x,y)],rfl,q4.upd hD,by rw[zb,List.map_append];rfl,Paired.snoc (Paired.mapP ta4 fun c q e=>zla hD4 _ _ e) (zla hD4 _ _ hb4),?_,by rw[List.length_append];exact Nat.succ_le_succ pl,fun p hp=>?_⟩
        · refine List.nodup_append.mpr ⟨pn',by simp,fun u hu w hw z=>?_⟩
          rw[List.mem_singleton.mp hw] at z
          exact c2 (z▸hu)
        · rcases List.mem_append.mp hp with hp | hp
          · exact pm p hp
          · rw[List.mem_singleton.mp hp];exact⟨hx,hy⟩
      · exact⟨_,_,as,ps,rfl,q4,hD4,ta4,pn',by omega,pm⟩
    rintro σ H2 ⟨v3,v4,as,ps,rfl,q,hD2,ta,pn',pl,pm⟩
    rw[List.length_map] at pl
    try unfold zbf;try dsimp only
    refine⟨_,rfl,D,as,ps,rfl,SqL.of hD2,Paired.mapP ta fun _ _ h=>SqT.of h,pn',by omega,fun E' bs qs hE pb pq rs=>?_⟩
    have t3:=Same.new (o:=.lst (bs.map V.ref)) hE
    exact k E' bs qs _ (q.trans t3) (q.free hE) zb (Paired.mapP pb fun _ _ h=>t3.tup h) rs (by rw[pq.length_eq];exact pl) fun p hp=>pm p (pq.mem_iff.mp hp)
theorem zhp (l0:Str) (xs:List Str) (x:Str):zfc l0 (xs++[x])=zfc l0 xs++Str.ofString " " ++ x:=by unfold zfc;rw[List.foldl_append];rfl
def zv7:Sp:=fun vs H Q _=>∃(n:Nat) (d:Addr) (names:List Str),vs = [.int n,.ref d]/\SqL K H d (names.map V.str)/\n<64/\names≠[]/\(∀x∈names,zaj x=true)/\names.length<=63/\Q (.str (rowT n names)) H
set_option maxHeartbeats 8000000 in
theorem zcy (T:Tx K mg w C_MatrixReading zq zo zad zal zu C_NoMatrix zae):Has P w K mg base "_law_level_line" ["_law_number","_law_names_here"] 1 (zv7 (K:=K)):=by
  refine T.zez.has sc__law_level_line (fun vs H Q E h=>?_) (fun f cdv A outer s H vs Q E hr h=>?_)
  · obtain⟨n,d,names,rfl,_⟩:=h;rfl
  · obtain⟨n,d,names,rfl,hd,hn,hne,hnm,l6,k⟩:=h
    refine⟨_,(zd (zac (i:=2) sc__law_level_line.nd rfl (Or.inl rfl) (zg ze (zam zaa (by rfl) T.str PyProof.Rows.boot_str (za (pv 0) zc)) zx))
      (zd (zdd PassesOwn.never rfl (zcm K rfl (pv 1)) (za3 (i:=3) sc__law_level_line.nd rfl (Or.inl rfl)) (zm (zac (i:=2) sc__law_level_line.nd rfl (Or.inl rfl) (zg ze (zg ze (pv 2) zx) (pv 3)))))
      (zm (zak (pv 2))))),?_⟩
    have hnl:=zgc n hn
    have e1:(Str.ofString ":" : Str).length=1:=by decide +kernel
    have e32:(Str.ofString " " : Str).length=1:=by decide +kernel
    have er:=zev (n:Int) hne
    have h12:∀x∈names,x.length<=12:=fun x hx=>zcx (hnm x hx)
    obtain⟨l0,el0⟩:∃l0:Str,l0=(Str.ofString (toString (n:Int))++Str.ofString ":" : Str):=⟨_,rfl⟩
    have ll0:l0.length<=3:=by
      rw[el0,zgo]
      omega
    have er:rowT (n:Int) names=zfc l0 names:=by rw[el0];exact er
    rw[er] at k
    refine⟨_,rfl,_,rfl,Nat.lt_of_le_of_lt (Nat.log2_le_self _) (by omega),_,_,rfl,rfl,zai (by rw[e1];exact Nat.le_trans (Nat.add_le_add_right hnl 1) (by decide)),?_⟩
    try dsimp only [zap]
    refine⟨_,rfl,d,rfl,⟨_,hd⟩,?_⟩
    refine zd6 (K:=K) (a:=d) (xs:=names.map V.str) (fun j σ H'=>∃(v3:Option V),σ = [some (.int n),some (.ref d),some (.str (zfc l0 (names.take j))),v3]/\H'=H)
      ⟨none,by rw[el0];rfl,rfl⟩ (fun j σ H' _ h=>by obtain⟨_,_,rfl⟩:=h;exact hd) ?_ ?_
    · rintro j v σ H3 hx ⟨v3,rfl,rfl⟩
      have hj:=ze4 hx
      rw[List.length_map] at hj
      rw[List.getElem?_map,List.getElem?_eq_getElem hj] at hx
      cases hx
      have l1:=zgb (xs:=names.take j) (fun x hx=>h12 x (List.mem_of_mem_take hx)) l0
      rw[List.length_take] at l1
      have l2:=h12 names[j] (List.getElem_mem _)
      try dsimp only [zap]
      refine⟨_,rfl,_,_,rfl,rfl,zai (by omega),_,rfl,_,_,rfl,rfl,zai ?_,some (.str names[j]),?_,rfl⟩
      · rw[zgo]
        omega
      · rw[List.take_add_one,List.getElem?_eq_getElem hj,Option.toList_some,zhp]
        rfl
    rintro σ H3 ⟨v3,rfl,rfl⟩
    rw[List.length_map,List.take_length]
    try unfold zbf;try dsimp only
    exact⟨_,rfl,k⟩
def zvi:Sp:=fun vs H Q _=>∃(name:Str) (n:Nat) (c:Int),vs = [.str name,.int n,.int c]/\zaj name=true/\n<64/\∀(x:Str) (H':Hp),Same H H'->(badT name (n:Int))[(c%31).toNat]? = some x->Q (.str x) H'
set_option maxHeartbeats 16000000 in
theorem zfe (T:Tx K mg w C_MatrixReading zq zo zad zal zu C_NoMatrix zae):Has P w K mg base "_law_bad_lines" ["_law_name","_law_number","_law_cell"] 1 (zvi):=by
  refine T.zfi.has sc__law_bad_lines (fun vs H Q E h=>?_) (fun f cdv A outer s H vs Q E hr h=>?_)
  · obtain⟨name,n,c,rfl,_⟩:=h;rfl
  · obtain⟨name,n,c,rfl,hn,hk,k⟩:=h
    refine⟨_,(zd (zac (i:=3) sc__law_bad_lines.nd rfl (Or.inl rfl) (zaq (za zx (za zx (za zx (za (pv 0) (za (zg ze (pv 0) zx) (za (zg ze zx (pv 0)) (za (zg ze (zg ze (zg ze (zg ze (pv 0) zx) (pv 0)) zx) (pv 0)) (za (zg ze (zg ze (pv 0) zx) (pv 0)) zc))))))))))
      (zd (zac (i:=3) sc__law_bad_lines.nd rfl (Or.inl rfl) (zg (zaw K rfl) (pv 3) (zaq (za (zg ze (zam zaa (by rfl) T.str PyProof.Rows.boot_str (za (pv 1) zc)) zx) (za (zg ze (zam zaa (by rfl) T.str PyProof.Rows.boot_str (za (pv 1) zc)) zx) (za (zg ze (zam zaa (by rfl) T.str PyProof.Rows.boot_str (za (pv 1) zc)) zx) (za (zg ze (zg ze zx (zam zaa (by rfl) T.str PyProof.Rows.boot_str (za (pv 1) zc))) zx) zc)))))))
      (zd (zac (i:=3) sc__law_bad_lines.nd rfl (Or.inl rfl) (zg (zaw K rfl) (pv 3) (zaq (za zx (za zx zc)))))
      (zd (zac (i:=3) sc__law_bad_lines.nd rfl (Or.inl rfl) (zg (zaw K rfl) (pv 3) (zaq (za (zg ze (zg ze zx (zam zaa (by rfl) T.str PyProof.Rows.boot_str (za (pv 1) zc))) zx) (za (zg ze (zam zaa (by rfl) T.str PyProof.Rows.boot_str (za (pv 1) zc)) zx) (za (zg ze (zam zaa (by rfl) T.str PyProof.Rows.boot_str (za (pv 1) zc)) zx) (za (zg ze (zam zaa (by rfl) T.str PyProof.Rows.boot_str (za (pv 1) zc)) zx) zc)))))))
      (zd (zac (i:=3) sc__law_bad_lines.nd rfl (Or.inl rfl) (zg (zaw K rfl) (pv 3) (zaq (za (zg ze (zam zaa (by rfl) T.str PyProof.Rows.boot_str (za (pv 1) zc)) zx) (za (zg ze (zam zaa (by rfl) T.str PyProof.Rows.boot_str (za (pv 1) zc)) zx) (za (zg ze (zam zaa (by rfl) T.str PyProof.Rows.boot_str (za (pv 1) zc)) zx) zc))))))
      (zd (zac (i:=3) sc__law_bad_lines.nd rfl (Or.inl rfl) (zg (zaw K rfl) (pv 3) (zaq (za (zg ze (zam zaa (by rfl) T.str PyProof.Rows.boot_str (za (pv 1) zc)) zx) zc))))
      (zd (zac (i:=3) sc__law_bad_lines.nd rfl (Or.inl rfl) (zg (zaw K rfl) (pv 3) (zaq (za (zg ze (zg ze (pv 0) zx) (pv 0)) (za (zg ze (zg ze (zg ze (pv 0) zx) (pv 0)) zx) (za (zg ze (zg ze (zg ze zx (pv 0)) zx) (pv 0)) (za (zg ze (pv 0) zx) zc)))))))
      (zd (zac (i:=3) sc__law_bad_lines.nd rfl (Or.inl rfl) (zg (zaw K rfl) (pv 3) (zaq (za (zg ze zx (pv 0)) zc))))
      (zd (zac (i:=3) sc__law_bad_lines.nd rfl (Or.inl rfl) (zg (zaw K rfl) (pv 3) (zaq (za (zg ze (zam zaa (by rfl) T.str PyProof.Rows.boot_str (za (pv 1) zc)) zx) (za (zg ze (zam zaa (by rfl) T.str PyProof.Rows.boot_str (za (zg zay (pv 1) zf) zc)) zx) (za (zg ze (zam zaa (by rfl) T.str PyProof.Rows.boot_str (za (zg zby (pv 1) zf) zc)) zx) zc))))))
      (zd (zac (i:=3) sc__law_bad_lines.nd rfl (Or.inl rfl) (zg (zaw K rfl) (pv 3) (zaq (za (zg ze (zg ze zx (zam zaa (by rfl) T.str PyProof.Rows.boot_str (za (pv 1) zc))) zx) zc))))
      (zm (zak (zbc (zaf K rfl) (pv 3) (zg zbl (pv 2) (zw (zh K rfl) (by rfl) T.len boot_len (za (pv 3) zc))) (fun _ _=>rfl)))))))))))))),?_⟩
    have h1:=LOk.name hn
    have h2:LOk 61 0 (Str.ofString (toString (n:Int))):=LOk.num (by omega)
    have h3:LOk 61 0 (Str.ofString (toString ((n:Int)+1))):=LOk.num (by omega)
    have h4:LOk 61 0 (Str.ofString (toString ((n:Int)-2))):=LOk.num (by omega)
    have g2:(n:Int).natAbs.log2<1920:=Nat.lt_of_le_of_lt (Nat.log2_le_self _) (by omega)
    have g3:((n:Int)+1).natAbs.log2<1920:=Nat.lt_of_le_of_lt (Nat.log2_le_self _) (by omega)
    have g4:((n:Int)-2).natAbs.log2<1920:=Nat.lt_of_le_of_lt (Nat.log2_le_self _) (by omega)
    refine⟨_,rfl,_,rfl,_,_,rfl,rfl,zab h1 (LOk.lit (x:=Str.ofString " >") (by decide +kernel)) (by decide),_,rfl,_,_,rfl,rfl,zab (LOk.lit (x:=Str.ofString "> ") (by decide +kernel)) h1 (by decide),_,rfl,_,_,rfl,rfl,zab h1 (LOk.lit (x:=Str.ofString " > ") (by decide +kernel)) (by decide),_,rfl,_,_,rfl,rfl,zab (h1.app (LOk.lit (x:=Str.ofString " > ") (by decide +kernel))) h1 (by decide),_,_,rfl,rfl,zab ((h1.app (LOk.lit (x:=Str.ofString " > ") (by decide +kernel))).app h1) (LOk.lit (x:=Str.ofString " > ") (by decide +kernel)) (by decide),_,rfl,_,_,rfl,rfl,zab (((h1.app (LOk.lit (x:=Str.ofString " > ") (by decide +kernel))).app h1).app (LOk.lit (x:=Str.ofString " > ") (by decide +kernel))) h1 (by decide),_,rfl,_,_,rfl,rfl,zab h1 (LOk.lit (x:=Str.ofString " < ") (by decide +kernel)) (by decide),_,rfl,_,_,rfl,rfl,zab (h1.app (LOk.lit (x:=Str.ofString " < ") (by decide +kernel))) h1 (by decide),by show 8<=sizeLine;decide,fun b0 hb0=>?_⟩
    obtain⟨l0,el0⟩:∃l0,l0=([Str.ofString "",Str.ofString " ",Str.ofString "x",name,name++Str.ofString " >",Str.ofString "> " ++ name,name++Str.ofString " > " ++ name++Str.ofString " > " ++ name,name++Str.ofString " < " ++ name]:List Str):=⟨_,rfl⟩
    have s0:=Same.new (o:=.lst (l0.map V.str)) hb0
    have z0:l0.length=8:=by rw[el0];rfl
    have x0:upd H b0 (.lst (l0.map V.str)) b0=some (.lst (l0.map V.str)):=zb
    rw[show upd H b0 (.lst _)=upd H b0 (.lst (l0.map V.str)) from by rw[el0];rfl]
    generalize upd H b0 (.lst (l0.map V.str))=G0 at s0 x0 ⊢
    try dsimp only [zap]
    refine⟨_,rfl,_,rfl,_,rfl,g2,_,_,rfl,rfl,zab h2 (LOk.lit (x:=Str.ofString ":") (by decide +kernel)) (by decide),_,rfl,_,rfl,g2,_,_,rfl,rfl,zab h2 (LOk.lit (x:=Str.ofString ": ") (by decide +kernel)) (by decide),_,rfl,_,rfl,g2,_,_,rfl,rfl,zab h2 (LOk.lit (x:=Str.ofString ":zz") (by decide +kernel)) (by decide),_,rfl,_,rfl,g2,_,_,rfl,rfl,zab (LOk.lit (x:=Str.ofString "0") (by decide +kernel)) h2 (by decide),_,_,rfl,rfl,zab ((LOk.lit (x:=Str.ofString "0") (by decide +kernel)).app h2) (LOk.lit (x:=Str.ofString ": zz") (by decide +kernel)) (by decide),by show 4<=sizeLine;decide,fun b1 hb1=>?_⟩
    obtain⟨m1,em1⟩:∃l0,l0=([Str.ofString (toString (n:Int))++Str.ofString ":",Str.ofString (toString (n:Int))++Str.ofString ": ",Str.ofString (toString (n:Int))++Str.ofString ":zz",Str.ofString "0" ++ Str.ofString (toString (n:Int))++Str.ofString ": zz"]:List Str):=⟨_,rfl⟩
    have t1:=Same.new (o:=.lst (m1.map V.str)) hb1
    have y1:upd G0 b1 (.lst (m1.map V.str)) b1=some (.lst (m1.map V.str)):=zb
    have w1:=t1 _ _ x0
    have v1:m1.length=4:=by rw[em1];rfl
    rw[show upd G0 b1 (.lst _)=upd G0 b1 (.lst (m1.map V.str)) from by rw[em1];rfl]
    generalize upd G0 b1 (.lst (m1.map V.str))=F1 at t1 y1 w1 ⊢
    refine⟨b0,b1,_,_,rfl,rfl,SqL.of w1,SqL.of y1,by rw[List.length_map,List.length_map,z0,v1];decide,fun c1 hc1=>?_⟩
    rw[←List.map_append]
    obtain⟨l1,el1⟩:∃lx,lx=l0++m1:=⟨_,rfl⟩
    rw[←el1]
    have u1:=Same.new (o:=.lst (l1.map V.str)) hc1
    have x1:upd F1 c1 (.lst (l1.map V.str)) c1=some (.lst (l1.map V.str)):=zb
    have z1:l1.length=12:=by rw[el1,List.length_append,z0,v1]
    have s1:=s0.trans (t1.trans u1)
    generalize upd F1 c1 (.lst (l1.map V.str))=G1 at s1 x1 u1 ⊢
    clear t1 u1 w1 y1
    try dsimp only [zap]
    refine⟨_,rfl,by show 2<=sizeLine;decide,fun b2 hb2=>?_⟩
    obtain⟨m2,em2⟩:∃l0,l0=([Str.ofString "x: zz",Str.ofString "-1: zz"]:List Str):=⟨_,rfl⟩
    have t2:=Same.new (o:=.lst (m2.map V.str)) hb2
    have y2:upd G1 b2 (.lst (m2.map V.str)) b2=some (.lst (m2.map V.str)):=zb
    have w2:=t2 _ _ x1
    have v2:m2.length=2:=by rw[em2];rfl
    rw[show upd G1 b2 (.lst _)=upd G1 b2 (.lst (m2.map V.str)) from by rw[em2];rfl]
    generalize upd G1 b2 (.lst (m2.map V.str))=F2 at t2 y2 w2 ⊢
    refine⟨c1,b2,_,_,rfl,rfl,SqL.of w2,SqL.of y2,by rw[List.length_map,List.length_map,z1,v2];decide,fun c2 hc2=>?_⟩
    rw[←List.map_append]
    obtain⟨l2,el2⟩:∃lx,lx=l1++m2:=⟨_,rfl⟩
    rw[←el2]
    have u2:=Same.new (o:=.lst (l2.map V.str)) hc2
    have x2:upd F2 c2 (.lst (l2.map V.str)) c2=some (.lst (l2.map V.str)):=zb
    have z2:l2.length=14:=by rw[el2,List.length_append,z1,v2]
    have s2:=s1.trans (t2.trans u2)
    generalize upd F2 c2 (.lst (l2.map V.str))=G2 at s2 x2 u2 ⊢
    clear t2 u2 w2 y2
    try dsimp only [zap]
    refine⟨_,rfl,_,rfl,_,rfl,g2,_,_,rfl,rfl,zab (LOk.lit (x:=Str.ofString " ") (by decide +kernel)) h2 (by decide),_,_,rfl,rfl,zab ((LOk.lit (x:=Str.ofString " ") (by decide +kernel)).app h2) (LOk.lit (x:=Str.ofString ": zz") (by decide +kernel)) (by decide),_,rfl,_,rfl,g2,_,_,rfl,rfl,zab h2 (LOk.lit (x:=Str.ofString " : zz") (by decide +kernel)) (by decide),_,rfl,_,rfl,g2,_,_,rfl,rfl,zab h2 (LOk.lit (x:=Str.ofString ": zz ") (by decide +kernel)) (by decide),_,rfl,_,rfl,g2,_,_,rfl,rfl,zab h2 (LOk.lit (x:=Str.ofString ":  zz") (by decide +kernel)) (by decide),by show 4<=sizeLine;decide,fun b3 hb3=>?_⟩
    obtain⟨m3,em3⟩:∃l0,l0=([Str.ofString " " ++ Str.ofString (toString (n:Int))++Str.ofString ": zz",Str.ofString (toString (n:Int))++Str.ofString " : zz",Str.ofString (toString (n:Int))++Str.ofString ": zz ",Str.ofString (toString (n:Int))++Str.ofString ":  zz"]:List Str):=⟨_,rfl⟩
    have t3:=Same.new (o:=.lst (m3.map V.str)) hb3
    have y3:upd G2 b3 (.lst (m3.map V.str)) b3=some (.lst (m3.map V.str)):=zb
    have w3:=t3 _ _ x2
    have v3:m3.length=4:=by rw[em3];rfl
    rw[show upd G2 b3 (.lst _)=upd G2 b3 (.lst (m3.map V.str)) from by rw[em3];rfl]
    generalize upd G2 b3 (.lst (m3.map V.str))=F3 at t3 y3 w3 ⊢
    refine⟨c2,b3,_,_,rfl,rfl,SqL.of w3,SqL.of y3,by rw[List.length_map,List.length_map,z2,v3];decide,fun c3 hc3=>?_⟩
    rw[←List.map_append]
    obtain⟨l3,el3⟩:∃lx,lx=l2++m3:=⟨_,rfl⟩
    rw[←el3]
    have u3:=Same.new (o:=.lst (l3.map V.str)) hc3
    have x3:upd F3 c3 (.lst (l3.map V.str)) c3=some (.lst (l3.map V.str)):=zb
    have z3:l3.length=18:=by rw[el3,List.length_append,z2,v3]
    have s3:=s2.trans (t3.trans u3)
    generalize upd F3 c3 (.lst (l3.map V.str))=G3 at s3 x3 u3 ⊢
    clear t3 u3 w3 y3
    try dsimp only [zap]
    refine⟨_,rfl,_,rfl,_,rfl,g2,_,_,rfl,rfl,zab h2 (LOk.lit (x:=Str.ofString ": Zz") (by decide +kernel)) (by decide),_,rfl,_,rfl,g2,_,_,rfl,rfl,zab h2 (LOk.lit (x:=Str.ofString ": z_z") (by decide +kernel)) (by decide),_,rfl,_,rfl,g2,_,_,rfl,rfl,zab h2 (LOk.lit (x:=Str.ofString ": abcdefghijklm") (by decide +kernel)) (by decide),by show 3<=sizeLine;decide,fun b4 hb4=>?_⟩
    obtain⟨m4,em4⟩:∃l0,l0=([Str.ofString (toString (n:Int))++Str.ofString ": Zz",Str.ofString (toString (n:Int))++Str.ofString ": z_z",Str.ofString (toString (n:Int))++Str.ofString ": abcdefghijklm"]:List Str):=⟨_,rfl⟩
    have t4:=Same.new (o:=.lst (m4.map V.str)) hb4
    have y4:upd G3 b4 (.lst (m4.map V.str)) b4=some (.lst (m4.map V.str)):=zb
    have w4:=t4 _ _ x3
    have v4:m4.length=3:=by rw[em4];rfl
    rw[show upd G3 b4 (.lst _)=upd G3 b4 (.lst (m4.map V.str)) from by rw[em4];rfl]
    generalize upd G3 b4 (.lst (m4.map V.str))=F4 at t4 y4 w4 ⊢
    refine⟨c3,b4,_,_,rfl,rfl,SqL.of w4,SqL.of y4,by rw[List.length_map,List.length_map,z3,v4];decide,fun c4 hc4=>?_⟩
    rw[←List.map_append]
    obtain⟨l4,el4⟩:∃lx,lx=l3++m4:=⟨_,rfl⟩
    rw[←el4]
    have u4:=Same.new (o:=.lst (l4.map V.str)) hc4
    have x4:upd F4 c4 (.lst (l4.map V.str)) c4=some (.lst (l4.map V.str)):=zb
    have z4:l4.length=21:=by rw[el4,List.length_append,z3,v4]
    have s4:=s3.trans (t4.trans u4)
    generalize upd F4 c4 (.lst (l4.map V.str))=G4 at s4 x4 u4 ⊢
    clear t4 u4 w4 y4
    try dsimp only [zap]
    refine⟨_,rfl,_,rfl,_,rfl,g2,_,_,rfl,rfl,zab h2 (LOk.lit (x:=Str.ofString ": zz a") (by decide +kernel)) (by decide),by show 1<=sizeLine;decide,fun b5 hb5=>?_⟩
    obtain⟨m5,em5⟩:∃l0,l0=([Str.ofString (toString (n:Int))++Str.ofString ": zz a"]:List Str):=⟨_,rfl⟩
    have t5:=Same.new (o:=.lst (m5.map V.str)) hb5
    have y5:upd G4 b5 (.lst (m5.map V.str)) b5=some (.lst (m5.map V.str)):=zb
    have w5:=t5 _ _ x4
    have v5:m5.length=1:=by rw[em5];rfl
    rw[show upd G4 b5 (.lst _)=upd G4 b5 (.lst (m5.map V.str)) from by rw[em5];rfl]
    generalize upd G4 b5 (.lst (m5.map V.str))=F5 at t5 y5 w5 ⊢
    refine⟨c4,b5,_,_,rfl,rfl,SqL.of w5,SqL.of y5,by rw[List.length_map,List.length_map,z4,v5];decide,fun c5 hc5=>?_⟩
    rw[←List.map_append]
    obtain⟨l5,el5⟩:∃lx,lx=l4++m5:=⟨_,rfl⟩
    rw[←el5]
    have u5:=Same.new (o:=.lst (l5.map V.str)) hc5
    have x5:upd F5 c5 (.lst (l5.map V.str)) c5=some (.lst (l5.map V.str)):=zb
    have z5:l5.length=22:=by rw[el5,List.length_append,z4,v5]
    have s5:=s4.trans (t5.trans u5)
    generalize upd F5 c5 (.lst (l5.map V.str))=G5 at s5 x5 u5 ⊢
    clear t5 u5 w5 y5
    try dsimp only [zap]
    refine⟨_,rfl,_,rfl,_,_,rfl,rfl,zab h1 (LOk.lit (x:=Str.ofString "  > ") (by decide +kernel)) (by decide),_,rfl,_,_,rfl,rfl,zab (h1.app (LOk.lit (x:=Str.ofString "  > ") (by decide +kernel))) h1 (by decide),_,rfl,_,_,rfl,rfl,zab h1 (LOk.lit (x:=Str.ofString " > ") (by decide +kernel)) (by decide),_,rfl,_,_,rfl,rfl,zab (h1.app (LOk.lit (x:=Str.ofString " > ") (by decide +kernel))) h1 (by decide),_,_,rfl,rfl,zab ((h1.app (LOk.lit (x:=Str.ofString " > ") (by decide +kernel))).app h1) (LOk.lit (x:=Str.ofString " ") (by decide +kernel)) (by decide),_,rfl,_,_,rfl,rfl,zab (LOk.lit (x:=Str.ofString " ") (by decide +kernel)) h1 (by decide),_,_,rfl,rfl,zab ((LOk.lit (x:=Str.ofString " ") (by decide +kernel)).app h1) (LOk.lit (x:=Str.ofString " > ") (by decide +kernel)) (by decide),_,rfl,_,_,rfl,rfl,zab (((LOk.lit (x:=Str.ofString " ") (by decide +kernel)).app h1).app (LOk.lit (x:=Str.ofString " > ") (by decide +kernel))) h1 (by decide),_,rfl,_,_,rfl,rfl,zab h1 (LOk.lit (x:=Str.ofString " > zz") (by decide +kernel)) (by decide),by show 4<=sizeLine;decide,fun b6 hb6=>?_⟩
    obtain⟨m6,em6⟩:∃l0,l0=([name++Str.ofString "  > " ++ name,name++Str.ofString " > " ++ name++Str.ofString " ",Str.ofString " " ++ name++Str.ofString " > " ++ name,name++Str.ofString " > zz"]:List Str):=⟨_,rfl⟩
    have t6:=Same.new (o:=.lst (m6.map V.str)) hb6
    have y6:upd G5 b6 (.lst (m6.map V.str)) b6=some (.lst (m6.map V.str)):=zb
    have w6:=t6 _ _ x5
    have v6:m6.length=4:=by rw[em6];rfl
    rw[show upd G5 b6 (.lst _)=upd G5 b6 (.lst (m6.map V.str)) from by rw[em6];rfl]
    generalize upd G5 b6 (.lst (m6.map V.str))=F6 at t6 y6 w6 ⊢
    refine⟨c5,b6,_,_,rfl,rfl,SqL.of w6,SqL.of y6,by rw[List.length_map,List.length_map,z5,v6];decide,fun c6 hc6=>?_⟩
    rw[←List.map_append]
    obtain⟨l6,el6⟩:∃lx,lx=l5++m6:=⟨_,rfl⟩
    rw[←el6]
    have u6:=Same.new (o:=.lst (l6.map V.str)) hc6
    have x6:upd F6 c6 (.lst (l6.map V.str)) c6=some (.lst (l6.map V.str)):=zb
    have z6:l6.length=26:=by rw[el6,List.length_append,z5,v6]
    have s6:=s5.trans (t6.trans u6)
    generalize upd F6 c6 (.lst (l6.map V.str))=G6 at s6 x6 u6 ⊢
    clear t6 u6 w6 y6
    try dsimp only [zap]
    refine⟨_,rfl,_,rfl,_,_,rfl,rfl,zab (LOk.lit (x:=Str.ofString "zz > ") (by decide +kernel)) h1 (by decide),by show 1<=sizeLine;decide,fun b7 hb7=>?_⟩
    obtain⟨m7,em7⟩:∃l0,l0=([Str.ofString "zz > " ++ name]:List Str):=⟨_,rfl⟩
    have t7:=Same.new (o:=.lst (m7.map V.str)) hb7
    have y7:upd G6 b7 (.lst (m7.map V.str)) b7=some (.lst (m7.map V.str)):=zb
    have w7:=t7 _ _ x6
    have v7:m7.length=1:=by rw[em7];rfl
    rw[show upd G6 b7 (.lst _)=upd G6 b7 (.lst (m7.map V.str)) from by rw[em7];rfl]
    generalize upd G6 b7 (.lst (m7.map V.str))=F7 at t7 y7 w7 ⊢
    refine⟨c6,b7,_,_,rfl,rfl,SqL.of w7,SqL.of y7,by rw[List.length_map,List.length_map,z6,v7];decide,fun c7 hc7=>?_⟩
    rw[←List.map_append]
    obtain⟨l7,el7⟩:∃lx,lx=l6++m7:=⟨_,rfl⟩
    rw[←el7]
    have u7:=Same.new (o:=.lst (l7.map V.str)) hc7
    have x7:upd F7 c7 (.lst (l7.map V.str)) c7=some (.lst (l7.map V.str)):=zb
    have z7:l7.length=27:=by rw[el7,List.length_append,z6,v7]
    have s7:=s6.trans (t7.trans u7)
    generalize upd F7 c7 (.lst (l7.map V.str))=G7 at s7 x7 u7 ⊢
    clear t7 u7 w7 y7
    try dsimp only [zap]
    refine⟨_,rfl,_,rfl,_,rfl,g2,_,_,rfl,rfl,zab h2 (LOk.lit (x:=Str.ofString ": zz zz") (by decide +kernel)) (by decide),_,rfl,_,_,rfl,rfl,_,rfl,g3,_,_,rfl,rfl,zab h3 (LOk.lit (x:=Str.ofString ": zz") (by decide +kernel)) (by decide),_,rfl,_,_,rfl,rfl,_,rfl,g4,_,_,rfl,rfl,zab h4 (LOk.lit (x:=Str.ofString ": zz") (by decide +kernel)) (by decide),by show 3<=sizeLine;decide,fun b8 hb8=>?_⟩
    obtain⟨m8,em8⟩:∃l0,l0=([Str.ofString (toString (n:Int))++Str.ofString ": zz zz",Str.ofString (toString ((n:Int)+1))++Str.ofString ": zz",Str.ofString (toString ((n:Int)-2))++Str.ofString ": zz"]:List Str):=⟨_,rfl⟩
    have t8:=Same.new (o:=.lst (m8.map V.str)) hb8
    have y8:upd G7 b8 (.lst (m8.map V.str)) b8=some (.lst (m8.map V.str)):=zb
    have w8:=t8 _ _ x7
    have v8:m8.length=3:=by rw[em8];rfl
    rw[show upd G7 b8 (.lst _)=upd G7 b8 (.lst (m8.map V.str)) from by rw[em8];rfl]
    generalize upd G7 b8 (.lst (m8.map V.str))=F8 at t8 y8 w8 ⊢
    refine⟨c7,b8,_,_,rfl,rfl,SqL.of w8,SqL.of y8,by rw[List.length_map,List.length_map,z7,v8];decide,fun c8 hc8=>?_⟩
    rw[←List.map_append]
    obtain⟨l8,el8⟩:∃lx,lx=l7++m8:=⟨_,rfl⟩
    rw[←el8]
    have u8:=Same.new (o:=.lst (l8.map V.str)) hc8
    have x8:upd F8 c8 (.lst (l8.map V.str)) c8=some (.lst (l8.map V.str)):=zb
    have z8:l8.length=30:=by rw[el8,List.length_append,z7,v8]
    have s8:=s7.trans (t8.trans u8)
    generalize upd F8 c8 (.lst (l8.map V.str))=G8 at s8 x8 u8 ⊢
    clear t8 u8 w8 y8
    try dsimp only [zap]
    refine⟨_,rfl,_,rfl,_,rfl,g2,_,_,rfl,rfl,zab (LOk.lit (x:=Str.ofString "+") (by decide +kernel)) h2 (by decide),_,_,rfl,rfl,zab ((LOk.lit (x:=Str.ofString "+") (by decide +kernel)).app h2) (LOk.lit (x:=Str.ofString ": zz") (by decide +kernel)) (by decide),by show 1<=sizeLine;decide,fun b9 hb9=>?_⟩
    obtain⟨m9,em9⟩:∃l0,l0=([Str.ofString "+" ++ Str.ofString (toString (n:Int))++Str.ofString ": zz"]:List Str):=⟨_,rfl⟩
    have t9:=Same.new (o:=.lst (m9.map V.str)) hb9
    have y9:upd G8 b9 (.lst (m9.map V.str)) b9=some (.lst (m9.map V.str)):=zb
    have w9:=t9 _ _ x8
    have v9:m9.length=1:=by rw[em9];rfl
    rw[show upd G8 b9 (.lst _)=upd G8 b9 (.lst (m9.map V.str)) from by rw[em9];rfl]
    generalize upd G8 b9 (.lst (m9.map V.str))=F9 at t9 y9 w9 ⊢
    refine⟨c8,b9,_,_,rfl,rfl,SqL.of w9,SqL.of y9,by rw[List.length_map,List.length_map,z8,v9];decide,fun c9 hc9=>?_⟩
    rw[←List.map_append]
    obtain⟨l9,el9⟩:∃lx,lx=l8++m9:=⟨_,rfl⟩
    rw[←el9]
    have u9:=Same.new (o:=.lst (l9.map V.str)) hc9
    have x9:upd F9 c9 (.lst (l9.map V.str)) c9=some (.lst (l9.map V.str)):=zb
    have z9:l9.length=31:=by rw[el9,List.length_append,z8,v9]
    have s9:=s8.trans (t9.trans u9)
    generalize upd F9 c9 (.lst (l9.map V.str))=G9 at s9 x9 u9 ⊢
    clear t9 u9 w9 y9
    try dsimp only [zap]
    have eb:l9=badT name (n:Int):=by
      rw[el9,em9,el8,em8,el7,em7,el6,em6,el5,em5,el4,em4,el3,em3,el2,em2,el1,em1,el0]
      rfl
    have hc0:=Int.emod_nonneg c (show (31:Int)≠0 by decide)
    have hc1:=Int.emod_lt_of_pos c (show (0:Int)<31 by decide)
    obtain⟨x,hx⟩:∃x,l9[(c%31).toNat]? = some x:=⟨_,List.getElem?_eq_getElem (by omega)⟩
    have hm:(c%(((l9.map V.str).length:Nat):Int))=(((c%31).toNat:Nat):Int):=by rw[List.length_map,z9];omega
    refine⟨_,rfl,_,rfl,_,rfl,c9,_,rfl,.inl (SqL.of x9),_,_,rfl,rfl,(show (0:Int)<(((l9.map V.str).length:Nat):Int) by rw[List.length_map,z9];decide),c9,_,_,.str x,rfl,rfl,SqL.of x9,?_,k x _ s9 (by rw[←eb];exact hx)⟩
    rw[hm]
    exact zbr (by rw[List.getElem?_map,hx];rfl)
def RefV (H:Hp) (v:V) (r:Nat):Prop:=(∃ls,v = .str (Txt.join "\n" ls)/\TextOk ls/\Ref ls r)\/(∃t,(∀H',Same H H'->TyOf K H' v t)/\PySem.W.kitOne K t (.type "str")=some false/\r=0)
def ztp:Sp:=fun vs H Q _=>∃(v:V) (r:Nat),vs = [v]/\RefV (K:=K) H v r/\∀(q:Addr) (H':Hp),Same H H'->H' q=some (.tup [.bl true,.bl true,.bl false,.bl false,.bl false,.bl false,.bl false,.int r])->Q (.ref q) H'
set_option maxHeartbeats 8000000 in
theorem zgz (T:Tx K mg w C_MatrixReading zq zo zad zal zu C_NoMatrix zae):Has P w K mg base "_law_refused" ["_law_text"] 7 (ztp (K:=K)):=by
  refine T.zg3.has sc__law_refused (fun vs H Q E h=>?_) (fun f cdv A outer s H vs Q E hr h=>?_)
  · obtain⟨v,r,rfl,_⟩:=h;rfl
  · obtain⟨v,r,rfl,h,k⟩:=h
    refine⟨_,(zd (zac (i:=1) sc__law_refused.nd rfl (Or.inl rfl) (zbz zc))
      (zd (zu1 ⟨rfl,rfl,rfl⟩ (fun pn xe Es pt=>(zm (zc0 (zu0 (zek T) pt (hr.mono (by decide)) (by rfl) (za (pv 0) zc))))) (zv1 (i:=2) ⟨rfl,rfl,rfl⟩ (by rfl) T.zgs T.zkr sc__law_refused.nd rfl rfl (fun _ _=>(zd (zac (i:=1) sc__law_refused.nd rfl (Or.inl rfl) (zbz (za (zw (zcv K rfl) (by rfl) T.isinstance PyProof.Rows.boot_isinstance (za (pv 2) (za (zcp (v:=.ref C_NoMatrix) (by rfl) T.zcd rfl) zc))) (za (zw (zmk K rfl) (by rfl) T.isinstance PyProof.Rows.boot_isinstance (za (pv 2) (za (zmz (v:=.ty "ValueError") (by rfl) T.ValueError L2.boot_ValueError rfl) zc))) (za (zw (zcv K rfl) (by rfl) T.isinstance PyProof.Rows.boot_isinstance (za (pv 2) (za (zcp (v:=.ref zo) (by rfl) T.zjt rfl) zc))) (za (zw (zcv K rfl) (by rfl) T.isinstance PyProof.Rows.boot_isinstance (za (pv 2) (za (zcp (v:=.ref zad) (by rfl) T.zow rfl) zc))) zc))))))
        (zm (zac (i:=1) sc__law_refused.nd rfl (Or.inl rfl) (zg (zpm K rfl) (pv 1) (zbz (za (zw (zcv K rfl) (by rfl) T.isinstance PyProof.Rows.boot_isinstance (za (pv 2) (za (zcp (v:=.ref zal) (by rfl) T.zq3 rfl) zc))) (za (zw (zcv K rfl) (by rfl) T.isinstance PyProof.Rows.boot_isinstance (za (pv 2) (za (zcp (v:=.ref zu) (by rfl) T.zkt rfl) zc))) (za (zw (zcv K rfl) (by rfl) T.isinstance PyProof.Rows.boot_isinstance (za (pv 2) (za (zcp (v:=.ref zae) (by rfl) T.zox rfl) zc))) (za (zp9 K rfl (pv 2) rfl) zc)))))))))) zu2))
      (zm (zak (pv 1))))),?_⟩
    refine⟨by show 0<=sizeLine;decide,fun b0 hb0=>?_⟩
    have t0:=Same.new (o:=.tup []) hb0
    have e0:upd H b0 (.tup []) b0=some (.tup []):=zb
    generalize upd H b0 (.tup [])=H0 at t0 e0
    have fin:∀d H1,Same H0 H1->H1 d=some (.xd [("row",.int r)])->∃C,V.ref C_NoMatrix=V.ref C/\True:=fun d H1 _ _=>⟨_,rfl,trivial⟩
    have hv:∀{E:XK}{Q:VK},RowE C_NoMatrix H0 E r->zrk (K:=K) (C_NoMatrix:=C_NoMatrix) [v] H0 Q E:=fun kE=>by
      rcases h with ⟨ls,rfl,M,hR⟩ | ⟨t,ht,hk,rfl⟩
      · exact⟨_,rfl,.inl ⟨ls,rfl,M,.inr ⟨r,hR,kE⟩⟩⟩
      · exact⟨v,rfl,.inr ⟨t,ht _ t0,hk,kE⟩⟩
    refine⟨_,rfl,hv fun d H1 s1 hd=>?_⟩
    refine⟨C_NoMatrix,rfl,true,T.zdm,?_⟩
    rw[if_pos rfl]
    intro e he
    have t2:=Same.new (o:=excH e C_NoMatrix (some d)) he
    have he:upd H1 e (excH e C_NoMatrix (some d)) e=some (excH e C_NoMatrix (some d)):=zb
    have hd:=t2 _ _ hd
    generalize upd H1 e (excH e C_NoMatrix (some d))=H2 at t2 he hd
    refine⟨_,rfl,e,C_NoMatrix,d,_,_,_,rfl,he,hd,T.za9,T.zbk,T.zdw,?_⟩
    refine⟨_,rfl,e,C_NoMatrix,d,_,_,_,rfl,he,hd,T.za9,T.zbk,T.zda,?_⟩
    refine⟨_,rfl,e,C_NoMatrix,d,_,_,_,rfl,he,hd,T.za9,T.zbk,T.zdn,?_⟩
    refine⟨_,rfl,e,C_NoMatrix,d,_,_,_,rfl,he,hd,T.za9,T.zbk,T.zem,by show 4<=sizeLine;decide,fun b1 hb1=>?_⟩
    have t3:=Same.new (o:=.tup [.bl true,.bl true,.bl false,.bl false]) hb1
    have he:=t3 _ _ he
    have hd:=t3 _ _ hd
    refine⟨_,rfl,_,rfl,e,C_NoMatrix,d,_,_,_,rfl,he,hd,T.za9,T.zbk,T.zey,?_⟩
    refine⟨_,rfl,e,C_NoMatrix,d,_,_,_,rfl,he,hd,T.za9,T.zbk,T.zdx,?_⟩
    refine⟨_,rfl,e,C_NoMatrix,d,_,_,_,rfl,he,hd,T.za9,T.zbk,T.zen,?_⟩
    refine⟨_,rfl,e,C_NoMatrix,d,_,_,rfl,he,hd,T.za9,T.zcf,rfl,by show 4<=sizeLine;decide,fun b2 hb2=>?_⟩
    have t4:=Same.new (o:=.tup [.bl false,.bl false,.bl false,.int r]) hb2
    refine⟨b1,b2,_,_,rfl,rfl,SqT.of (t4 _ _ zb),SqT.of zb,(fun z=>nomatch z),(by show 8<=sizeLine;decide),(fun z=>nomatch z),fun _ b3 hb3=>?_⟩
    have t5:=Same.new (o:=.tup [.bl true,.bl true,.bl false,.bl false,.bl false,.bl false,.bl false,.int r]) hb3
    exact⟨_,rfl,k b3 _ (t0.trans (s1.trans (t2.trans (t3.trans (t4.trans t5))))) zb⟩
def zqx:Sp:=fun vs H Q _=>∃(v:V) (r:Nat),vs = [v,.int r]/\RefV (K:=K) H v r/\∀H',Same H H'->Q (.bl true) H'
theorem za1 (T:Tx K mg w C_MatrixReading zq zo zad zal zu C_NoMatrix zae):Has P w K mg base "_law_is_refused" ["_law_text","_law_row"] 8 (zqx (K:=K)):=by
  refine T.ze1.has zej (fun vs H Q E h=>?_) (fun f cdv A outer s H vs Q E hr h=>?_)
  · obtain⟨v,r,rfl,_⟩:=h;rfl
  · obtain⟨v,r,rfl,h,k⟩:=h
    refine⟨_,(zm (zak (zfq (zh3 K rfl (hu10 hr)) (zba (zgz T) (hr.mono (by decide)) (by rfl) (za (pv 0) zc)) (zbz (za zb4 (za zb4 (za zb4 (za zb4 (za zb4 (za zb4 (za zb4 (za (pv 1) zc))))))))) (zau _)))),?_⟩
    refine⟨_,rfl,v,r,rfl,h,fun q H1 s1 hq=>?_⟩
    refine⟨_,rfl,by show 8<=sizeLine;decide,fun b hb=>?_⟩
    have t2:=Same.new (o:=.tup [.bl true,.bl true,.bl false,.bl false,.bl false,.bl false,.bl false,.int r]) hb
    have e:=DEq.flatT (n:=7) (K:=K) (SqT.of (t2 _ _ hq)) (SqT.of (zb (H:=H1) (a:=b) (o:=.tup [.bl true,.bl true,.bl false,.bl false,.bl false,.bl false,.bl false,.int r]))) (by simp[zcs]) (by simp[zcs])
    rw[zh2 (by simp[zcs])] at e
    exact⟨q,b,true,rfl,rfl,e,k _ (s1.trans t2)⟩
def zqy:Sp:=fun vs H Q _=>∃(p:Addr) (gs:List (List Str)) (qs:List SS) (ls:List Str) (r:Nat) (c:Int),vs = [.ref p,.int r,.int c]/\SqL K H p (ls.map V.str)/\MatOk gs qs/\Spoil gs ls r/\∀H',Same H H'->Q (.bl true) H'
theorem zkq {α:Type}(f:α->V) (xs:List α) (n:Nat) (h:n<=xs.length):cutV (xs.map f) none (some (n:Int))=(xs.take n).map f:=by
  unfold cutV HT.sIx
  dsimp only
  rw[if_neg (by omega),List.length_map,List.drop_zero,List.map_take]
  congr 1
  omega
theorem zin {α:Type}(f:α->V) (xs:List α) (n:Nat):cutV (xs.map f) (some (n:Int)) none=(xs.drop n).map f:=by
  unfold cutV HT.sIx
  dsimp only
  rw[if_neg (by omega),List.length_map,←List.map_drop]
  by_cases h:n<=xs.length
  · rw[show min (n:Int).toNat xs.length=n by omega,List.take_of_length_le (by rw[List.length_map,List.length_drop];omega)]
  · rw[show min (n:Int).toNat xs.length=xs.length by omega,List.drop_of_length_le (by omega:xs.length<=n),List.drop_length,Nat.sub_self,List.take_zero,List.map_nil]
theorem zqz {α:Type}(f:α->V) (xs:List α) (h:2<=xs.length):cutV (xs.map f) none (some (-2))=(xs.take (xs.length-2)).map f:=by
  unfold cutV HT.sIx
  dsimp only
  rw[if_pos (by decide),List.length_map,List.drop_zero,List.map_take]
  congr 1
  omega
set_option maxHeartbeats 16000000 in
theorem zel (T:Tx K mg w C_MatrixReading zq zo zad zal zu C_NoMatrix zae):Has P w K mg base "_law_twice_wrong" ["_law_lines","_law_row","_law_cell"] 9 (zqy (K:=K)):=by
  refine T.zeo.has sc__law_twice_wrong (fun vs H Q E h=>?_) (fun f cdv A outer s H vs Q E hr h=>?_)
  · obtain⟨p,gs,qs,ls,r,c,rfl,_⟩:=h;rfl
  · obtain⟨p,gs,qs,ls,r,c,rfl,hp,M,S,k⟩:=h
    refine⟨_,(zd (zbg (zah zm7 (pv 1) (zw (zh K rfl) (by rfl) T.len boot_len (za (pv 0) zc)) (zau _)) (zd (zac (i:=3) sc__law_twice_wrong.nd rfl (Or.inl rfl) (zg zay (pv 1) (zg zbl (pv 2) (zg zay (zg zby (zw (zh K rfl) (by rfl) T.len boot_len (za (pv 0) zc)) (pv 1)) zf))))
        (zm (zak (zba (za1 T) (hr.mono (by decide)) (by rfl) (za (zbu K rfl PySem.F.plainAttrs_str PySem.F.slot_str_join PySem.F.type_str_join (zfl K rfl) zx (za (zg znb (zg znb (zar (zaz K rfl) (pv 0) za4 (zax (pv 3))) (zaq (za zx zc))) (zar (zaz K rfl) (pv 0) (zax (pv 3)) za4)) zc)) (za (pv 1) zc)))))) zan)
      (zd (zbg (zah zrr (zw (zh K rfl) (by rfl) T.len boot_len (za (zh0 (own:=["_law_line"]) (cap:=[]) (ix:=[]) (osc:=zr (top 32)) rfl ⟨rfl,by decide +kernel,by decide +kernel,by decide +kernel,by decide +kernel⟩ rfl (zcm K rfl (pv 0)) (fun _ _ _ _=>za3 (i:=0) (show List.Nodup (["_law_line"]:List Str) by decide +kernel) rfl (Or.inl rfl)) (fun _ _ _ _=>zsb (zah zix zx (pv 0) (by with_unfolding_all rfl))) (fun _ _ _ _=>(pv 0))) zc)) zf (zau _)) (zm (zak zb4)) zan)
      (zd (zac (i:=4) sc__law_twice_wrong.nd rfl (Or.inl rfl) (zg znb (zar (zaz K rfl) (pv 0) za4 (zax (zl1 zg6 zf))) (zaq (za (zbc (zaf K rfl) (pv 0) (zl1 zg6 zf) (fun _ _=>rfl)) (za (zbc (zaf K rfl) (pv 0) (zl1 zg6 zf) (fun _ _=>rfl)) zc)))))
      (zm (zak (zba (za1 T) (hr.mono (by decide)) (by rfl) (za (zbu K rfl PySem.F.plainAttrs_str PySem.F.slot_str_join PySem.F.type_str_join (zfl K rfl) zx (za (pv 4) zc)) (za (zw (zh K rfl) (by rfl) T.len boot_len (za (pv 4) zc)) zc)))))))),?_⟩
    have hm:=S.many
    have hr:=S.pos
    have lx:(ls.map V.str).length=ls.length:=List.length_map _
    refine⟨_,rfl,_,rfl,p,_,rfl,.inl hp,_,_,rfl,rfl,_,rfl,?_⟩
    rw[lx]
    by_cases c1:r<=ls.length
    · rw[decide_eq_true (show (r:Int)<=(ls.length:Int) by omega)]
      refine iteT ?_
      obtain⟨at',hat,ha1,ha2⟩:∃at':Nat,(r:Int)+c%(((ls.map V.str).length:Int)-(r:Int)+1)=(at':Int)/\r<=at'/\at'<=ls.length:=by
        rw[lx]
        have h0:=Int.emod_nonneg c (show (ls.length:Int)-(r:Int)+1≠0 by omega)
        have h1:=Int.emod_lt_of_pos c (show (0:Int)<(ls.length:Int)-(r:Int)+1 by omega)
        exact⟨((r:Int)+c%((ls.length:Int)-(r:Int)+1)).toNat,by omega,by omega,by omega⟩
      refine⟨_,rfl,_,rfl,_,rfl,p,_,rfl,.inl hp,_,rfl,_,_,rfl,rfl,_,_,rfl,rfl,_,_,rfl,rfl,(show (0:Int)<((ls.map V.str).length:Int)-(r:Int)+1 by rw[lx];omega),_,_,rfl,rfl,?_⟩
      try dsimp only [zap]
      rw[hat]
      refine⟨rfl,_,rfl,_,rfl,_,rfl,p,_,rfl,hp,fun u1 hu1=>?_⟩
      rw[zkq V.str ls at' ha2]
      have t1:=Same.new (o:=.lst ((ls.take at').map V.str)) hu1
      have e1:upd H u1 (.lst ((ls.take at').map V.str)) u1=some (.lst ((ls.take at').map V.str)):=zb
      generalize upd H u1 (.lst ((ls.take at').map V.str))=H1 at t1 e1
      refine⟨by show 1<=sizeLine;decide,fun u2 hu2=>?_⟩
      have t2:=Same.new (o:=.lst [.str (Str.ofString "x")]) hu2
      refine⟨u1,u2,_,_,rfl,rfl,t2 _ _ e1,zb,by rw[List.length_map,List.length_take];exact zai (by show min at' ls.length+1<=1000;omega),fun u3 hu3=>?_⟩
      have t3:=Same.new (o:=.lst ((ls.take at').map V.str++[.str (Str.ofString "x")])) hu3
      have q3:=t1.trans (t2.trans t3)
      have e3:upd (upd H1 u2 (.lst [.str (Str.ofString "x")])) u3 (.lst ((ls.take at').map V.str++[.str (Str.ofString "x")])) u3=some (.lst ((ls.take at'++[Str.ofString "x"]).map V.str)):=by rw[zb,List.map_append];rfl
      generalize upd (upd H1 u2 (.lst [.str (Str.ofString "x")])) u3 (.lst ((ls.take at').map V.str++[.str (Str.ofString "x")]))=H3 at t3 q3 e3
      refine⟨_,rfl,_,rfl,_,rfl,p,_,rfl,q3.seq hp,fun u4 hu4=>?_⟩
      rw[zin V.str ls at']
      have t4:=Same.new (o:=.lst ((ls.drop at').map V.str)) hu4
      refine⟨u3,u4,_,_,rfl,rfl,t4 _ _ e3,zb,by rw[List.length_map,List.length_map,List.length_append,List.length_take,List.length_drop];exact zai (by show min at' ls.length+1+(ls.length-at')<=1000;omega),fun u5 hu5=>?_⟩
      rw[←List.map_append]
      have t5:=Same.new (o:=.lst ((ls.take at'++[Str.ofString "x"]++ls.drop at').map V.str)) hu5
      have hlines:∀l∈ls.take at'++[Str.ofString "x"]++ls.drop at',zb0 l:=fun l h=>by
        rcases List.mem_append.mp h with h | h
        · rcases List.mem_append.mp h with h | h
          · exact S.line l (List.mem_of_mem_take h)
          · rw[List.mem_singleton.mp h]
            exact (LOk.lit (x:=Str.ofString "x") (by decide +kernel)).mono (by decide) (by decide)
        · exact S.line l (List.mem_of_mem_drop h)
      have hlen:(ls.take at'++[Str.ofString "x"]++ls.drop at').length=ls.length+1:=by
        rw[List.length_append,List.length_append,List.length_take,List.length_drop]
        show min at' ls.length+1+(ls.length-at')=_
        omega
      have hT:TextOk (ls.take at'++[Str.ofString "x"]++ls.drop at'):=.of hlines (by omega) (.inl (by omega))
      refine⟨_,u5,_,rfl,rfl,SqL.of zb,(zdi (by omega) fun l h=>(hlines l h).len).2,_,rfl,_,r,rfl,.inl ⟨_,rfl,hT,zqi S.ref c1 ha1⟩,fun H' s'=>k _ (q3.trans (t4.trans (t5.trans s')))⟩
    · rw[decide_eq_false (show ¬(r:Int)<=(ls.length:Int) by omega)]
      refine iteF ?_
      try unfold zbf;try dsimp only
      have hr2:r=ls.length+1:=by have:=S.top;omega
      obtain⟨m,ps,els,m1,m2,hpl,hps⟩:=S.last hr2
      have hcnt:(ls.map V.str).filter (fun v=>match v with | .str x=>zig x | _=>false)=(ps.map zp).map V.str:=by
        rw[els,List.map_append,List.filter_append]
        have h1:(((lvT gs).take m).map V.str).filter (fun v=>match v with | .str x=>zig x | _=>false) = []:=by
          refine List.filter_eq_nil_iff.mpr fun v hv=>?_
          obtain⟨x,hx,rfl⟩:=List.mem_map.mp hv
          have hx:=List.mem_of_mem_take hx
          obtain⟨i,hi,rfl⟩:=List.mem_map.mp hx
          have hi:=List.mem_range.mp hi
          obtain⟨hm',_⟩:=zc4 (rows:=gs) (i:=gs.length-1-i) (by omega)
          show ¬zig (rowT ((gs.length-1-i:Nat):Int) (gs.getD (gs.length-1-i) []))=true
          rw[ztd _ (M.rne _ hm') (M.nm _ hm')]
          decide
        have h2:((ps.map zp).map V.str).filter (fun v=>match v with | .str x=>zig x | _=>false)=(ps.map zp).map V.str:=by
          refine List.filter_eq_self.mpr fun v hv=>?_
          obtain⟨x,hx,rfl⟩:=List.mem_map.mp hv
          obtain⟨q,_,rfl⟩:=List.mem_map.mp hx
          exact zvc q
        rw[h1,h2,List.nil_append]
      have ln:ls.length=min m (lvT gs).length+ps.length:=by rw[els,List.length_append,List.length_take,List.length_map]
      refine⟨_,rfl,p,rfl,⟨_,hp⟩,fun D hD=>?_⟩
      refine zdf (zh1 (K:=K) (a:=p) (xs:=ls.map V.str)) (fun v=>match v with | .str x=>zig x | _=>false) (fun v=>v) (fun ys=>(Same.new hD).seq hp) (by rw[lx];exact zai (by omega)) (fun v hv ys Q' q=>?_) (fun v hv _ ys Q' q=>?_) ?_
      · obtain⟨x,_,rfl⟩:=List.mem_map.mp hv
        exact⟨_,rfl,_,_,rfl,rfl,_,rfl,q⟩
      · exact⟨_,rfl,q⟩
      rw[hcnt,List.map_id']
      have t1:=Same.new (o:=.lst ((ps.map zp).map V.str)) hD
      refine⟨D,_,rfl,.inl (SqL.of zb),_,_,rfl,rfl,_,rfl,?_⟩
      rw[List.length_map,List.length_map]
      by_cases c2:ps.length<2
      · rw[decide_eq_true (show (ps.length:Int)<2 by omega)]
        exact iteT (k _ t1)
      rw[decide_eq_false (show ¬(ps.length:Int)<2 by omega)]
      refine iteF ?_
      try unfold zbf;try dsimp only
      have l2:2<=ls.length:=by omega
      have hp1:=t1.seq hp
      obtain⟨pre,pa,pb,rfl⟩:∃pre pa pb,ps=pre++[pa,pb]:=by
        rcases List.eq_nil_or_concat ps with rfl | ⟨ps1,pb,rfl⟩
        · exact absurd (show 0<2 by decide) c2
        · rcases List.eq_nil_or_concat ps1 with rfl | ⟨ps2,pa,rfl⟩
          · exact absurd (show 1<2 by decide) c2
          · exact⟨ps2,pa,pb,by simp⟩
      have els2:ls=((lvT gs).take m++pre.map zp)++[zp pa,zp pb]:=by rw[els,List.map_append,List.append_assoc];rfl
      have ln2:ls.length-2=((lvT gs).take m++pre.map zp).length:=by rw[els2,List.length_append];rfl
      have et:ls.take (ls.length-2)=(lvT gs).take m++pre.map zp:=by rw[ln2,els2,List.take_left]
      have e3:ls.map V.str=((lvT gs).take m++pre.map zp).map V.str++[.str (zp pa),.str (zp pb)]:=by rw[els2];simp
      have ea1:atI (ls.map V.str) (-1)=some (.str (zp pb)):=by rw[e3];exact zoa _ _ _
      have ea2:atI (ls.map V.str) (-2)=some (.str (zp pa)):=by rw[e3];exact zn9 _ _ _
      refine⟨_,rfl,_,rfl,_,rfl,p,_,rfl,hp1,fun u1 hu1=>?_⟩
      rw[show cutV (ls.map V.str) none (some (-2))=(ls.take (ls.length-2)).map V.str from zqz V.str ls l2,et]
      have t2:=Same.new (o:=.lst (((lvT gs).take m++pre.map zp).map V.str)) hu1
      have hp2:=t2.seq hp1
      refine⟨_,rfl,_,rfl,p,_,_,_,rfl,rfl,hp2,ea1,_,rfl,_,rfl,p,_,_,_,rfl,rfl,hp2,ea2,by show 2<=sizeLine;decide,fun u2 hu2=>?_⟩
      have t3:=Same.new (o:=.lst [.str (zp pb),.str (zp pa)]) hu2
      have lz:((lvT gs).take m++pre.map zp).length+2=ls.length:=by omega
      refine⟨u1,u2,_,_,rfl,rfl,t3 _ _ zb,zb,by rw[List.length_map];exact zai (by show ((lvT gs).take m++pre.map zp).length+2<=1000;omega),fun u3 hu3=>?_⟩
      have ez:((lvT gs).take m++pre.map zp).map V.str++[.str (zp pb),.str (zp pa)]=((lvT gs).take m++(pre++[pb]).map zp++[zp pa]).map V.str:=by simp
      rw[ez]
      have t4:=Same.new (o:=.lst (((lvT gs).take m++(pre++[pb]).map zp++[zp pa]).map V.str)) hu3
      have hlines:∀l∈(lvT gs).take m++(pre++[pb]).map zp++[zp pa],zb0 l:=fun l h=>S.line l (by
        rw[els2]
        simp only [List.mem_append,List.mem_map,List.mem_cons,List.not_mem_nil,or_false,List.map_append,List.map_cons,List.map_nil] at h ⊢
        rcases h with (h | h | h) | h
        · exact .inl (.inl h)
        · exact .inl (.inr h)
        · exact .inr (.inr h)
        · exact .inr (.inl h))
      have hlen:((lvT gs).take m++(pre++[pb]).map zp++[zp pa]).length=ls.length:=by
        rw[←lz]
        simp only [List.length_append,List.length_map,List.length_cons,List.length_nil]
        omega
      have hT:TextOk ((lvT gs).take m++(pre++[pb]).map zp++[zp pa]):=.of hlines (by omega) (.inl (by omega))
      have hR:=zmr M (m:=m) (by omega) hpl hps
      try dsimp only [zap]
      refine⟨rfl,_,rfl,_,u3,_,rfl,rfl,SqL.of zb,(zdi (by omega) fun l h=>(hlines l h).len).2,_,rfl,u3,_,rfl,.inl (SqL.of zb),?_⟩
      rw[List.length_map]
      exact⟨_,_,rfl,.inl ⟨_,rfl,hT,hR⟩,fun H' s'=>k _ (t1.trans (t2.trans (t3.trans (t4.trans s'))))⟩
def zq0:Sp:=fun vs H Q _=>∃(pp pg:Addr) (cs:List Addr) (gs:List (List Str)) (qs:List SS),vs = [.ref pp,.ref pg]/\SqL K H pp ((qs.map zp).map V.str)/\SqL K H pg (cs.map V.ref)/\Paired (fun c g=>H c=some (.lst (g.map V.str))) cs gs/\qs.length<=60/\gs.flatten.length<=200/\(∀p∈qs,zaj p.1=true/\zaj p.2=true)/\
  ∀(D:Addr) (H':Hp),Same H H'->H D=none->H' D=some (.lst (((qs.filter fun p=>decide (p.1∈gs.flatten)&&decide (p.2∈gs.flatten)).map zp).map V.str))->Q (.ref D) H'
set_option maxHeartbeats 8000000 in
theorem zex (T:Tx K mg w C_MatrixReading zq zo zad zal zu C_NoMatrix zae):Has P w K mg base "_law_pairs_left" ["_law_pair_lines","_law_groups_here"] 1 (zq0 (K:=K)):=by
  refine T.ze0.has sc__law_pairs_left (fun vs H Q E h=>?_) (fun f cdv A outer s H vs Q E hr h=>?_)
  · obtain⟨pp,pg,cs,gs,qs,rfl,_⟩:=h;rfl
  · obtain⟨pp,pg,cs,gs,qs,rfl,hp,hg,pr,lq,lg,nm,k⟩:=h
    refine⟨_,(zd (zac (i:=2) sc__law_pairs_left.nd rfl (Or.inl rfl) (zaq zc))
      (zd (zdd PassesOwn.never rfl (zcm K rfl (pv 1)) (za3 (i:=3) sc__law_pairs_left.nd rfl (Or.inl rfl)) (zm (zac (i:=2) sc__law_pairs_left.nd rfl (Or.inl rfl) (zg (zaw K rfl) (pv 2) (pv 3)))))
      (zd (zac (i:=4) sc__law_pairs_left.nd rfl (Or.inl rfl) (zaq zc))
      (zd (zdd PassesOwn.never rfl (zcm K rfl (pv 0)) (za3 (i:=5) sc__law_pairs_left.nd rfl (Or.inl rfl)) (zd (zac (i:=6) sc__law_pairs_left.nd rfl (Or.inl rfl) (zbu K rfl PySem.F.plainAttrs_str PySem.F.slot_str_split PySem.F.type_str_split zh4 (pv 5) (za zx zc)))
        (zm (zbg (PW.pt (zdc (zah (zha K rfl) (zbc (zaf K rfl) (pv 6) zf (fun _ _=>rfl)) (pv 2) (by with_unfolding_all rfl)) (zb5 (zah (zha K rfl) (zbc (zaf K rfl) (pv 6) zf (fun _ _=>rfl)) (pv 2) (by with_unfolding_all rfl))))) (zm (zc0 (zbu K rfl PySem.F.plainAttrs_list PySem.F.slot_list_append PySem.F.type_list_append zbt (pv 4) (za (pv 5) zc)))) zan))))
      (zm (zak (pv 4))))))),?_⟩
    refine⟨by decide,fun T0 hT0=>?_⟩
    have t1:=Same.new (o:=.lst []) hT0
    have e1:upd H T0 (.lst []) T0=some (.lst []):=zb
    generalize upd H T0 (.lst [])=H1 at t1 e1
    try dsimp only [zap]
    refine⟨_,rfl,pg,rfl,⟨_,t1.seq hg⟩,?_⟩
    refine zd6 (K:=K) (a:=pg) (xs:=cs.map V.ref) (fun i σ H'=>∃(v3:Option V) (th:Addr),σ = [some (.ref pp),some (.ref pg),some (.ref th),v3,none,none,none]/\Same H H'/\H' th=some (.lst ((gs.take i).flatten.map V.str)))
      ⟨none,T0,rfl,t1,e1⟩ (fun i σ H' _ h=>by obtain⟨_,_,_,q,_⟩:=h;exact q.seq hg) ?_ ?_
    · rintro i v σ H2 hx ⟨v3,th,rfl,q,hth⟩
      have hi:=ze4 hx
      rw[List.length_map] at hi
      rw[List.getElem?_map,List.getElem?_eq_getElem hi] at hx
      cases hx
      obtain⟨g,eg,hgv⟩:=Paired.get' pr (List.getElem?_eq_getElem hi)
      have l1:=(zc5 gs i).length_le
      have l2:=zbd (List.mem_of_getElem? eg)
      try dsimp only [zap]
      refine⟨_,rfl,_,rfl,th,cs[i],_,_,rfl,rfl,SqL.of hth,SqL.of (q _ _ hgv),by rw[List.length_map,List.length_map];exact zai (by omega),fun th' hth'=>?_⟩
      have t3:=Same.new (o:=.lst ((gs.take i).flatten.map V.str++g.map V.str)) hth'
      refine⟨_,th',rfl,q.trans t3,?_⟩
      rw[zb,List.take_add_one,eg,List.flatten_append,List.map_append]
      simp
    rintro σ H2 ⟨v3,th,rfl,q,hth⟩
    rw[List.length_map,Paired.length pr,List.take_length] at hth
    try unfold zbf;try dsimp only
    refine⟨by decide,fun D hD=>?_⟩
    have t2:=Same.new (o:=.lst []) hD
    have eD:upd H2 D (.lst []) D=some (.lst []):=zb
    have hth2:=t2 _ _ hth
    have nth:th≠D:=zk hth hD
    generalize upd H2 D (.lst [])=H3 at t2 eD hth2
    have q3:=q.trans t2
    try dsimp only [zap]
    refine⟨_,rfl,pp,rfl,⟨_,q3.seq hp⟩,?_⟩
    refine zd6 (K:=K) (a:=pp) (xs:=(qs.map zp).map V.str) (fun i σ H'=>∃(v5 v6:Option V),σ = [some (.ref pp),some (.ref pg),some (.ref th),v3,some (.ref D),v5,v6]/\Same H H'/\H' th=some (.lst (gs.flatten.map V.str))/\H' D=some (.lst ((((qs.take i).filter fun p=>decide (p.1∈gs.flatten)&&decide (p.2∈gs.flatten)).map zp).map V.str)))
      ⟨none,none,rfl,q3,hth2,eD⟩ (fun i σ H' _ h=>by obtain⟨_,_,_,q,_⟩:=h;exact q.seq hp) ?_ ?_
    · rintro i v σ H4 hx ⟨v5,v6,rfl,q4,hth4,hD4⟩
      have hi:=ze4 hx
      rw[List.length_map,List.length_map] at hi
      rw[List.getElem?_map,List.getElem?_map,List.getElem?_eq_getElem hi] at hx
      cases hx
      obtain⟨⟨a,b⟩,epq⟩:∃pq,pq=qs[i]:=⟨_,rfl⟩
      have hpm:(a,b)∈qs:=by rw[epq];exact List.getElem_mem _
      obtain⟨n1,n2⟩:=nm _ hpm
      have et:qs.take (i+1)=qs.take i++[(a,b)]:=by rw[List.take_add_one,List.getElem?_eq_getElem hi,epq];rfl
      rw[←epq]
      have hl:=zgd (p:=(a,b)) (zcx n1) (zcx n2)
      try dsimp only [zap]
      refine⟨_,rfl,rfl,_,_,rfl,rfl,by decide +kernel,zai (by omega),zho (by omega) _,fun w hw=>?_⟩
      rw[show Txt.split (zp (a,b)) (Str.ofString " ") = [a,Str.ofString ">",b] from zb3 (p:=(a,b)) n1 n2]
      have t5:=Same.new (o:=.lst ([a,Str.ofString ">",b].map V.str)) hw
      have ew:upd H4 w (.lst ([a,Str.ofString ">",b].map V.str)) w=some (.lst ([a,Str.ofString ">",b].map V.str)):=zb
      have q5:=q4.trans t5
      have hth5:=t5 _ _ hth4
      have hD5:=t5 _ _ hD4
      generalize upd H4 w (.lst ([a,Str.ofString ">",b].map V.str))=H5 at t5 ew q5 hth5 hD5
      try dsimp only [zap]
      have fl:(gs.flatten.map V.str).all zcs=true:=List.all_eq_true.mpr fun v hv=>by obtain⟨x,_,rfl⟩:=List.mem_map.mp hv;rfl
      refine za5 (decide (a∈gs.flatten)&&decide (b∈gs.flatten)) (fun Q' hQ=>?_) (fun H6 s6=>?_)
      · refine⟨_,rfl,w,_,_,_,rfl,rfl,SqL.of ew,zjc,_,rfl,th,_,rfl,.inl (SqL.of hth5),rfl,fl,_,rfl,?_⟩
        rw[if_neg (by decide),zlg]
        refine ite2 (fun c1=>?_) (fun c1=>?_)
        · rw[c1,Bool.true_and] at hQ
          refine⟨_,rfl,w,_,_,_,rfl,rfl,SqL.of ew,rfl,_,rfl,th,_,rfl,.inl (SqL.of hth5),rfl,fl,_,rfl,?_⟩
          rw[if_neg (by decide),zlg]
          exact hQ _ (Same.refl _)
        · have c1:decide (a∈gs.flatten)=false:=by simpa using c1
          rw[c1,Bool.false_and] at hQ
          exact hQ _ (Same.refl _)
      have q6:=q5.trans s6
      have hth6:=s6 _ _ hth5
      have hD6:=s6 _ _ hD5
      refine ite2 (fun c1=>?_) (fun c1=>?_)
      · refine⟨_,rfl,.inl ⟨rfl,_,SqL.of hD6⟩,_,rfl,D,_,_,rfl,rfl,hD6,?_,?_⟩
        · rw[List.length_map,List.length_map]
          have:=List.length_filter_le (fun p=>decide (p.1∈gs.flatten)&&decide (p.2∈gs.flatten)) (qs.take i)
          rw[List.length_take] at this
          exact zbo (by omega)
        refine⟨_,_,rfl,q6.upd (q.free hD),by rw[zj nth];exact hth6,?_⟩
        rw[zb,et,List.filter_append,List.filter_cons_of_pos (by exact c1),List.filter_nil,List.map_append,List.map_append]
        rfl
      · refine⟨_,_,rfl,q6,hth6,?_⟩
        rw[et,List.filter_append,List.filter_cons_of_neg (by exact c1),List.filter_nil,List.append_nil]
        exact hD6
    rintro σ H4 ⟨v5,v6,rfl,q4,hth4,hD4⟩
    rw[List.length_map,List.length_map,List.take_length] at hD4
    try unfold zbf;try dsimp only
    exact⟨_,rfl,k D H4 q4 (q.free hD) hD4⟩
def zq1:Sp:=fun vs H Q _=>∃(pl pp pg:Addr) (cs:List Addr) (gs:List (List Str)) (qs:List SS) (c:Nat),vs = [.ref pl,.ref pp,.ref pg,.int c]/\H pl=some (.lst ((lvT gs).map V.str))/\H pp=some (.lst ((qs.map zp).map V.str))/\H pg=some (.lst (cs.map V.ref))/\Paired (fun c g=>H c=some (.lst (g.map V.str))) cs gs/\MatOk gs qs/\gs≠[]/\gs.flatten.length<=20/\qs.length<=12/\zy ZZ ∉ gs.flatten/\
  ∀(t a:Addr) (ls:List Str) (r:Nat) (H':Hp),Same H H'->H' t=some (.tup [.ref a,.int r])->H' a=some (.lst (ls.map V.str))->Spoil gs ls r->Q (.ref t) H'
theorem zv8 {gs:List (List Str)}(h:zy ZZ ∉ gs.flatten) (i:Nat):zy ZZ ∉ (gs.reverse.take i).flatten:=fun z=>h (flat_rev_mem.mp ((zc5 gs.reverse i).subset z))
abbrev catR (K:PySem.W.Frag):R2:=fun x y H Q=>∃l b xs zs,x=V.ref l/\y=V.ref b/\SqL K H l xs/\SqL K H b zs/\xs.length+zs.length<=sizeLine/\∀p,H p=none->Q (.ref p) (upd H p (.lst (xs++zs)))
theorem zjs {σ:St}{G:Hp}{Q:VK}{L:Addr}{lines:List Str}{at' lo:Nat}{x:Str}{tb tl:TE}(hv:σ[6]? = some (some (.ref L))) (ha:σ[8]? = some (some (.int (at':Nat)))) (hL:G L=some (.lst (lines.map V.str))) (hle:at'<=lines.length) (hlen:lines.length<=40)
    (hb:∀(G':Hp) (Q':VK),Same G G'->(∀G2,Same G' G2->Q' (.str x) G2)->tb σ G' Q') (hl:∀(G':Hp) (Q':VK),Q' (.int (lo:Nat)) G'->tl σ G' Q')
    (k:∀t a G',Same G G'->G' t=some (.tup [.ref a,.int ((at'+1:Nat):Int)])->G' a=some (.lst ((lines.take at'++x::lines.drop lo).map V.str))->Q (.ref t) G') :
    tTup (zl6 (tOp (catR K) (tOp (catR K) (tSl (rSlL K) (tVar 6) zhu (zpc (tVar 8))) (tLst (zl6 tb tNil))) (tSl (rSlL K) (tVar 6) (zpc tl) zhu)) (zl6 (tOp (rI0 fun i j=>V.int (i+j)) (tVar 8) (tC (V.int 1))) tNil)) σ G Q:=by
  refine⟨_,hv,_,ha,_,rfl,L,_,rfl,SqL.of hL,fun u1 hu1=>?_⟩
  rw[zkq V.str lines at' hle]
  have t1:=Same.new (o:=.lst ((lines.take at').map V.str)) hu1
  have e1:upd G u1 (.lst ((lines.take at').map V.str)) u1=some (.lst ((lines.take at').map V.str)):=zb
  generalize upd G u1 (.lst ((lines.take at').map V.str))=G1 at t1 e1
  refine hb _ _ t1 fun G2 s2=>?_
  refine⟨by show 1<=sizeLine;decide,fun u2 hu2=>?_⟩
  have t3:=Same.new (o:=.lst [.str x]) hu2
  refine⟨u1,u2,_,_,rfl,rfl,SqL.of (t3 _ _ (s2 _ _ e1)),SqL.of zb,by rw[List.length_map,List.length_take];exact zai (by show min at' lines.length+1<=1000;omega),fun u3 hu3=>?_⟩
  have t4:=Same.new (o:=.lst ((lines.take at').map V.str++[.str x])) hu3
  have q4:=t1.trans (s2.trans (t3.trans t4))
  have e4:upd (upd G2 u2 (.lst [.str x])) u3 (.lst ((lines.take at').map V.str++[.str x])) u3=some (.lst ((lines.take at').map V.str++[.str x])):=zb
  generalize upd (upd G2 u2 (.lst [.str x])) u3 (.lst ((lines.take at').map V.str++[.str x]))=G4 at t4 q4 e4
  refine⟨_,hv,?_⟩
  refine hl _ _ ⟨_,rfl,L,_,rfl,SqL.of (q4 _ _ hL),fun u5 hu5=>?_⟩
  rw[zin V.str lines lo]
  have t5:=Same.new (o:=.lst ((lines.drop lo).map V.str)) hu5
  refine⟨u3,u5,_,_,rfl,rfl,SqL.of (t5 _ _ e4),SqL.of zb,by rw[List.length_append,List.length_map,List.length_map,List.length_take,List.length_drop];exact zai (by show min at' lines.length+1+(lines.length-lo)<=1000;omega),fun u6 hu6=>?_⟩
  have t6:=Same.new (o:=.lst ((lines.take at').map V.str++[.str x]++(lines.drop lo).map V.str)) hu6
  refine⟨_,ha,_,_,rfl,rfl,by show 2<=sizeLine;decide,fun t ht=>?_⟩
  have t7:=Same.new (o:=.tup [.ref u6,.int ((at':Nat)+1)]) ht
  refine k t u6 _ (q4.trans (t5.trans (t6.trans t7))) zb ?_
  rw[t7 _ _ zb,List.map_append,List.append_assoc]
  rfl
set_option maxHeartbeats 16000000 in
theorem zg0 (T:Tx K mg w C_MatrixReading zq zo zad zal zu C_NoMatrix zae):Has P w K mg base "_law_spoiled" ["_law_levels_lines","_law_pair_lines","_law_groups_here","_law_cell"] 3 (zq1):=by
  refine T.zg2.has sc__law_spoiled (fun vs H Q E h=>?_) (fun f cdv A outer s H vs Q E hr h=>?_)
  · obtain⟨pl,pp,pg,cs,gs,qs,c,rfl,_⟩:=h;rfl
  · obtain⟨pl,pp,pg,cs,gs,qs,c,rfl,hl,hp,hg,pr,M,gne,l20,l12,zz,k⟩:=h
    refine⟨_,(zd (zac (i:=4) sc__law_spoiled.nd rfl (Or.inl rfl) (zg zbl (pv 3) zf))
      (zd (zac (i:=5) sc__law_spoiled.nd rfl (Or.inl rfl) (zg zep (pv 3) zf))
      (zd (zac (i:=6) sc__law_spoiled.nd rfl (Or.inl rfl) (zg (zaw K rfl) (pv 0) (pv 1)))
      (zd (zac (i:=7) sc__law_spoiled.nd rfl (Or.inl rfl) (zbc (zaf K rfl) (zbc (zaf K rfl) (pv 2) (zl1 zg6 zf) (fun _ _=>rfl)) zf (fun _ _=>rfl)))
      (zd (zac (i:=8) sc__law_spoiled.nd rfl (Or.inl rfl) (zg zbl (pv 5) (zw (zh K rfl) (by rfl) T.len boot_len (za (pv 0) zc))))
      (zd (zbg (zah zc9 (pv 4) zf (zau _)) (zd (zac (i:=9) sc__law_spoiled.nd rfl (Or.inl rfl) (zg zby (zg zby (zw (zh K rfl) (by rfl) T.len boot_len (za (pv 2) zc)) zf) (pv 8)))
        (zd (zac (i:=10) sc__law_spoiled.nd rfl (Or.inl rfl) (zba (zfe T) (hr.mono (by decide)) (by rfl) (za (pv 7) (za (pv 9) (za (zg zep (pv 5) zf) zc)))))
        (zd (zbg (PW.pt (zhs (PW.pt (zdc (zah zc9 (pv 8) zf (zau _)) (zb5 (zah zc9 (pv 10) (zg ze (zam zaa (by rfl) T.str PyProof.Rows.boot_str (za (zg zay (pv 9) zf) zc)) zx) (zau _))))) (ze2 (PW.pt (zdc (zah zc9 (pv 8) zf (zau _)) (zb5 (zah zc9 (pv 10) (zg ze (zam zaa (by rfl) T.str PyProof.Rows.boot_str (za (zg zby (pv 9) zf) zc)) zx) (zau _)))))))) (zm (zac (i:=10) sc__law_spoiled.nd rfl (Or.inl rfl) zx)) zan)
        (zd (zbg (PW.pt (zdc (zah zc9 (pv 10) zx (zau _)) (zb5 (zah zc9 (zw (zh K rfl) (by rfl) T.len boot_len (za (pv 6) zc)) zf (zau _))))) (zm (zac (i:=10) sc__law_spoiled.nd rfl (Or.inl rfl) zx)) zan)
        (zm (zak (zbz (za (zg (zaw K rfl) (zg (zaw K rfl) (zar (zaz K rfl) (pv 6) za4 (zax (pv 8))) (zaq (za (pv 10) zc))) (zar (zaz K rfl) (pv 6) (zax (zg zay (pv 8) zf)) za4)) (za (zg zay (pv 8) zf) zc))))))))) zan)
      (zd (zbg (PW.pt (zdc (zah zc9 (pv 4) zf (zau _)) (zb5 (zah (zfz K rfl (hu10 hr)) (pv 1) (zaq zc) (zau _))))) (zd (zac (i:=11) sc__law_spoiled.nd rfl (Or.inl rfl) (zg zbl (pv 5) (zw (zh K rfl) (by rfl) T.len boot_len (za (pv 1) zc))))
        (zd (zac (i:=8) sc__law_spoiled.nd rfl (Or.inl rfl) (zg zay (zg zay (zw (zh K rfl) (by rfl) T.len boot_len (za (pv 0) zc)) (pv 11)) zf))
        (zm (zak (zbz (za (zg (zaw K rfl) (zg (zaw K rfl) (zar (zaz K rfl) (pv 6) za4 (zax (pv 8))) (zaq (za (zbc (zaf K rfl) (pv 1) (zg zbl (zg zep (pv 5) zf) (zg zay (pv 11) zf)) (fun _ _=>rfl)) zc))) (zar (zaz K rfl) (pv 6) (zax (pv 8)) za4)) (za (zg zay (pv 8) zf) zc))))))) zan)
      (zd (zbg (PW.pt (zdc (zah zc9 (pv 4) zf (zau _)) (zb5 (zah (zfz K rfl (hu10 hr)) (pv 1) (zaq zc) (zau _))))) (zd (zac (i:=8) sc__law_spoiled.nd rfl (Or.inl rfl) (zg zay (zg zay (zw (zh K rfl) (by rfl) T.len boot_len (za (pv 0) zc)) zf) (zg zbl (pv 5) (zw (zh K rfl) (by rfl) T.len boot_len (za (pv 1) zc)))))
        (zm (zak (zbz (za (zg (zaw K rfl) (zg (zaw K rfl) (zar (zaz K rfl) (pv 6) za4 (zax (pv 8))) (zaq (za (zbc (zaf K rfl) (zaq (za zx (za zx (za zx zc)))) (zg zbl (zg zep (pv 5) zf) zf) (fun _ _=>rfl)) zc))) (zar (zaz K rfl) (pv 6) (zax (pv 8)) za4)) (za (zg zay (pv 8) zf) zc)))))) zan)
      (zd (zbg (PW.pt (zdc (zah zc9 (pv 4) zf (zau _)) (zb5 (zah zvp (zw (zh K rfl) (by rfl) T.len boot_len (za (pv 0) zc)) zf (zau _))))) (zd (zac (i:=12) sc__law_spoiled.nd rfl (Or.inl rfl) (zg zay zf (zg zbl (pv 5) (zg zby (zw (zh K rfl) (by rfl) T.len boot_len (za (pv 0) zc)) zf))))
        (zd (zac (i:=13) sc__law_spoiled.nd rfl (Or.inl rfl) (zg (ztf K rfl) (zba (zex T) (hr.mono (by decide)) (by rfl) (za (pv 1) (za (zar (zaz K rfl) (pv 2) (zax (zg zby (zw (zh K rfl) (by rfl) T.len boot_len (za (pv 2) zc)) (pv 12))) za4) zc))) (zg zbl (zg zep (pv 5) zf) zf)))
        (zm (zak (zbz (za (zg (zaw K rfl) (zar (zaz K rfl) (pv 0) za4 (zax (pv 12))) (pv 13)) (za (zg zay (zg zay (pv 12) (zw (zh K rfl) (by rfl) T.len boot_len (za (pv 13) zc))) zf) zc))))))) zan)
      (zd (zac (i:=9) sc__law_spoiled.nd rfl (Or.inl rfl) (zg zby (zg zby (zw (zh K rfl) (by rfl) T.len boot_len (za (pv 2) zc)) zf) (pv 8)))
      (zd (zac (i:=14) sc__law_spoiled.nd rfl (Or.inl rfl) (zg (zaw K rfl) (zar (zaz K rfl) (pv 2) (zax (zg zay (pv 9) zf)) za4) (zaq (za (zbc (zaf K rfl) (pv 2) (pv 9) (fun _ _=>rfl)) zc))))
      (zd (zac (i:=15) sc__law_spoiled.nd rfl (Or.inl rfl) (zbc (zaf K rfl) (zbc (zaf K rfl) (pv 14) (zg zbl (zg zep (pv 5) zf) (zw (zh K rfl) (by rfl) T.len boot_len (za (pv 14) zc))) (fun _ _=>rfl)) zf (fun _ _=>rfl)))
      (zd (zbg (zah zc9 (pv 15) (zbc (zaf K rfl) (zbc (zaf K rfl) (pv 2) (pv 9) (fun _ _=>rfl)) zf (fun _ _=>rfl)) (zau _)) (zm (zak (zbz (za (zg (zaw K rfl) (zg (zaw K rfl) (zar (zaz K rfl) (pv 6) za4 (zax (pv 8))) (zaq (za (zg ze (zg ze (zbc (zaf K rfl) (pv 6) (pv 8) (fun _ _=>rfl)) zx) (pv 15)) zc))) (zar (zaz K rfl) (pv 6) (zax (zg zay (pv 8) zf)) za4)) (za (zg zay (pv 8) zf) zc))))) zan)
      (zm (zak (zbz (za (zg (zaw K rfl) (zg (zaw K rfl) (zar (zaz K rfl) (pv 6) za4 (zax (pv 8))) (zaq (za (zba (zcy T) (hr.mono (by decide)) (by rfl) (za (pv 9) (za (zw (zdh (K:=K) rfl) (by rfl) T.sorted PyProof.Rows.boot_sorted (za (zg (zaw K rfl) (zaq (za (pv 15) zc)) (zbc (zaf K rfl) (pv 2) (pv 9) (fun _ _=>rfl))) zc)) zc))) zc))) (zar (zaz K rfl) (pv 6) (zax (zg zay (pv 8) zf)) za4)) (za (zg zay (pv 8) zf) zc)))))))))))))))))),?_⟩
    have hN:0<gs.length:=List.length_pos_iff.mpr gne
    have hN20:gs.length<=20:=Nat.le_trans (zfn M.rne) l20
    have lcs:cs.length=gs.length:=Paired.length pr
    have ll:=zoq gs
    have llm:((lvT gs).map V.str).length=gs.length:=by rw[List.length_map,ll]
    have lpm:((qs.map zp).map V.str).length=qs.length:=by rw[List.length_map,List.length_map]
    have lcm:(cs.map V.ref).length=gs.length:=by rw[List.length_map,lcs]
    refine⟨_,rfl,_,_,rfl,rfl,(by decide:(0:Int)<5),?_⟩
    try dsimp only [zap]
    refine⟨_,rfl,_,_,rfl,rfl,⟨by decide,by decide⟩,?_⟩
    try dsimp only [zap]
    rw[show (c:Int)%5=((c%5:Nat):Int) from by omega,show (c:Int) / 5=((c / 5:Nat):Int) from by omega]
    generalize c%5=way
    generalize c / 5=rest
    try dsimp only [zap]
    refine⟨_,rfl,_,rfl,pl,pp,_,_,rfl,rfl,SqL.of hl,SqL.of hp,by rw[llm,lpm];exact zai (by omega),fun L hL=>?_⟩
    rw[←List.map_append]
    have t1:=Same.new (o:=.lst ((lvT gs++qs.map zp).map V.str)) hL
    have eL:upd H L (.lst ((lvT gs++qs.map zp).map V.str)) L=some (.lst ((lvT gs++qs.map zp).map V.str)):=zb
    generalize upd H L (.lst ((lvT gs++qs.map zp).map V.str))=H1 at t1 eL
    obtain⟨dl,nm,g',a1,hdl,hgl⟩:∃(dl:Addr) (nm:Str) (g':List Str),atI (cs.map V.ref) (-1)=some (.ref dl)/\H dl=some (.lst ((nm::g').map V.str))/\(nm::g')∈gs:=by
      rcases List.eq_nil_or_concat cs with rfl | ⟨cs',d,rfl⟩
      · exact absurd lcs (by simp;omega)
      · rw[List.concat_eq_append] at pr ⊢
        obtain⟨g,eg,hd⟩:=Paired.get' (i:=cs'.length) (a:=d) pr (by simp)
        have hgm:=List.mem_of_getElem? eg
        cases g with
        | nil=>exact absurd rfl (M.rne _ hgm)
        | cons x g=>exact⟨d,x,g,by rw[List.map_append];exact zhv _ _,hd,hgm⟩
    have hnm:=M.nm _ hgl nm (List.mem_cons_self ..)
    try dsimp only [zap]
    refine⟨_,rfl,_,rfl,pg,_,_,_,rfl,rfl,SqL.of (t1 _ _ hg),a1,dl,_,_,_,rfl,rfl,SqL.of (t1 _ _ hdl),zjc,?_⟩
    try dsimp only [zap]
    refine⟨_,rfl,_,rfl,pl,_,rfl,.inl (SqL.of (t1 _ _ hl)),_,_,rfl,rfl,(show (0:Int)<(((lvT gs).map V.str).length:Int) by rw[llm];omega),?_⟩
    try dsimp only [zap]
    rw[llm,show (rest:Int)%(gs.length:Int)=((rest%gs.length:Nat):Int) from by omega]
    have hat:rest%gs.length<gs.length:=Nat.mod_lt _ hN
    generalize rest%gs.length=at' at hat
    try dsimp only [zap]
    refine⟨_,rfl,rfl,_,rfl,?_⟩
    have c64:gs.length-1-at'<64:=by omega
    have en:(((cs.map V.ref).length:Nat):Int)-1-(at':Int)=((gs.length-1-at':Nat):Int):=by rw[lcm];omega
    by_cases w0:way=0
    · rw[decide_eq_true (by rw[w0];rfl)]
      refine iteT ?_
      try dsimp only
      refine⟨_,rfl,pg,_,rfl,.inl (SqL.of (t1 _ _ hg)),_,_,rfl,rfl,_,rfl,_,_,rfl,rfl,?_⟩
      try dsimp only [zap]
      rw[en]
      generalize hn:gs.length-1-at'=n at c64
      refine⟨_,rfl,_,rfl,_,rfl,_,_,rfl,rfl,⟨by decide,by decide⟩,nm,n,_,rfl,hnm,c64,fun x H2 s2 hx=>?_⟩
      try dsimp only [zap]
      have b28:(badT nm (n:Int))[28]? = some (Str.ofString (toString ((n:Int)+1))++Str.ofString ": zz"):=rfl
      have b29:(badT nm (n:Int))[29]? = some (Str.ofString (toString ((n:Int)-2))++Str.ofString ": zz"):=rfl
      have f3:LOk 61 0 (Str.ofString (toString ((n:Int)+1))):=LOk.num (by omega)
      have f4:LOk 61 0 (Str.ofString (toString ((n:Int)-2))):=LOk.num (by omega)
      have fz:=LOk.lit (x:=Str.ofString ": zz") (by decide +kernel)
      refine zjn (fun σ' H'=>∃(j:Nat) (x:Str),σ' = [some (.ref pl),some (.ref pp),some (.ref pg),some (.int c),some (.int way),some (.int rest),some (.ref L),some (.str nm),some (.int at'),some (.int n),some (.str x),none,none,none,none,none]/\Same H1 H'/\(badT nm (n:Int))[j]? = some x/\(at'=0->j≠28/\j≠29))
        (decide (at'=0)&&(decide (x=Str.ofString (toString ((n:Int)+1))++Str.ofString ": zz")||decide (x=Str.ofString (toString ((n:Int)-2))++Str.ofString ": zz"))) (fun Q' hQ=>?_) (fun _ H' s' hn'=>?_) (fun hb H' s' hn'=>?_) ?_
      · refine⟨_,rfl,rfl,_,rfl,?_⟩
        by_cases a0:at'=0
        · rw[decide_eq_true a0,Bool.true_and] at hQ
          rw[decide_eq_true (show V.int (at':Int)=V.int 0 by rw[a0];rfl)]
          refine iteT ⟨_,rfl,_,rfl,_,_,rfl,rfl,_,rfl,Nat.lt_of_le_of_lt (Nat.log2_le_self _) (by omega),_,_,rfl,rfl,zab f3 fz (by decide),rfl,_,rfl,?_⟩
          by_cases c8:x=Str.ofString (toString ((n:Int)+1))++Str.ofString ": zz"
          · rw[decide_eq_true c8] at hQ
            rw[decide_eq_true (congrArg V.str c8)]
            exact iteT (hQ _ (Same.refl _))
          · rw[decide_eq_false c8,Bool.false_or] at hQ
            rw[decide_eq_false (fun z=>c8 (V.str.inj z))]
            refine iteF ⟨_,rfl,rfl,_,rfl,?_⟩
            rw[decide_eq_true (show V.int (at':Int)=V.int 0 by rw[a0];rfl)]
            refine iteT ⟨_,rfl,_,rfl,_,_,rfl,rfl,_,rfl,Nat.lt_of_le_of_lt (Nat.log2_le_self _) (by omega),_,_,rfl,rfl,zab f4 fz (by decide),rfl,_,rfl,?_⟩
            rw[show decide (V.str x=V.str (Str.ofString (toString ((n:Int)-2))++Str.ofString ": zz"))=decide (x=Str.ofString (toString ((n:Int)-2))++Str.ofString ": zz") from decide_eq_decide.mpr ⟨fun z=>V.str.inj z,fun z=>congrArg V.str z⟩]
            exact hQ _ (Same.refl _)
        · rw[decide_eq_false a0,Bool.false_and] at hQ
          have na:¬V.int (at':Int)=V.int 0:=fun z=>a0 (by have:=V.int.inj z;omega)
          rw[decide_eq_false na]
          refine iteF (iteF ⟨_,rfl,rfl,_,rfl,?_⟩)
          rw[decide_eq_false na]
          exact iteF (hQ _ (Same.refl _))
      · exact hn' _ _ ⟨2,Str.ofString "x",rfl,s2.trans s',rfl,fun _=>⟨by decide,by decide⟩⟩
      · refine hn' _ _ ⟨_,x,rfl,s2.trans s',hx,fun a0=>?_⟩
        rw[decide_eq_true a0,Bool.true_and,Bool.or_eq_false_iff,decide_eq_false_iff_not,decide_eq_false_iff_not] at hb
        refine⟨fun z=>hb.1 ?_,fun z=>hb.2 ?_⟩
        · rw[z,b28] at hx
          exact (Option.some.inj hx).symm
        · rw[z,b29] at hx
          exact (Option.some.inj hx).symm
      clear hx s2 x
      rintro σ' H2 ⟨j,x,rfl,s2,hx,hj⟩
      have lL:(lvT gs++qs.map zp).length=gs.length+qs.length:=by rw[List.length_append,ll,List.length_map]
      try unfold zbf;try dsimp only
      refine zjn (fun σ' H'=>∃(j:Nat) (x:Str),σ' = [some (.ref pl),some (.ref pp),some (.ref pg),some (.int c),some (.int way),some (.int rest),some (.ref L),some (.str nm),some (.int at'),some (.int n),some (.str x),none,none,none,none,none]/\Same H1 H'/\(badT nm (n:Int))[j]? = some x/\(at'=0->j≠28/\j≠29)/\((lvT gs++qs.map zp).length=1->x≠""))
        (decide (x = "")&&decide ((lvT gs++qs.map zp).length=1)) (fun Q' hQ=>?_) (fun _ H' s' hn'=>?_) (fun hb H' s' hn'=>?_) ?_
      · refine⟨_,rfl,rfl,_,rfl,?_⟩
        rw[show decide (V.str x=V.str (Str.ofString ""))=decide (x = "") from decide_eq_decide.mpr ⟨fun z=>V.str.inj z,fun z=>congrArg V.str z⟩]
        refine ite2 (fun c1=>?_) (fun c1=>?_)
        · rw[c1,Bool.true_and] at hQ
          refine⟨_,rfl,L,_,rfl,.inl (SqL.of (s2 _ _ eL)),rfl,_,rfl,?_⟩
          rw[show decide (V.int ((((lvT gs++qs.map zp).map V.str).length:Nat):Int)=V.int 1)=decide ((lvT gs++qs.map zp).length=1) from decide_eq_decide.mpr ⟨fun z=>by have:=V.int.inj z;rw[List.length_map] at this;omega,fun z=>by rw[List.length_map,z];rfl⟩]
          exact hQ _ (Same.refl _)
        · have c1:decide (x = "")=false:=by simpa using c1
          rw[c1,Bool.false_and] at hQ
          exact hQ _ (Same.refl _)
      · exact hn' _ _ ⟨1,Str.ofString " ",rfl,s2.trans s',rfl,fun _=>⟨by decide,by decide⟩,fun _=>by decide +kernel⟩
      · refine hn' _ _ ⟨j,x,rfl,s2.trans s',hx,hj,fun l1 z=>?_⟩
        rw[decide_eq_true z,decide_eq_true l1] at hb
        cases hb
      clear hx s2 hj x j H2
      rintro σ' H2 ⟨j,x,rfl,s2,hx,hj,hne⟩
      try unfold zbf;try dsimp only
      refine zjs (L:=L) (lines:=lvT gs++qs.map zp) (at':=at') (lo:=at'+1) (x:=x) rfl rfl (s2 _ _ eL) (by omega) (by omega) (fun G' Q' _ q=>⟨_,rfl,q _ (Same.refl _)⟩) (fun G' Q' q=>⟨_,rfl,_,_,rfl,rfl,q⟩) fun t a G' s3 ht ha=>k t a _ _ _ (t1.trans (s2.trans s3)) ht ha ?_
      have ep:(lvT gs++qs.map zp).take at'=(lvT gs).take at':=List.take_append_of_le_length (by omega)
      rw[ep]
      have lpre:((lvT gs).take at').length=at':=by rw[List.length_take];omega
      have hsp:=Spoil.at (gs:=gs) (pre:=(lvT gs).take at') (post:=(lvT gs++qs.map zp).drop (at'+1)) (x:=x) (ze7 M at' (by omega)) (zvb (j:=j) c64 hnm rfl (by
        unfold stL
        by_cases z:at'=0
        · exact .inl (if_pos z)
        · refine .inr ((if_neg z).trans (congrArg some ?_))
          omega) (zv8 zz at') (fun z=>hj (by
        unfold stL at z
        by_cases z0:at'=0
        · exact z0
        · rw[if_neg z0] at z;cases z)) hx) (fun l hl'=>by
        rcases List.mem_append.mp hl' with h | h
        · exact M.lineOk l20 (List.mem_append_left _ (List.mem_of_mem_take h))
        · rcases List.mem_cons.mp h with rfl | h
          · exact zqj hnm c64 _ (List.mem_of_getElem? hx)
          · exact M.lineOk l20 (List.mem_of_mem_drop h)) (by rw[List.length_append,List.length_cons,lpre,List.length_drop];omega) (by
        by_cases z:(lvT gs++qs.map zp).length=1
        · exact .inr (hne z)
        · refine .inl ?_
          rw[List.length_append,List.length_cons,lpre,List.length_drop]
          omega)
      rw[lpre] at hsp
      exact hsp
    · rw[decide_eq_false (fun z=>w0 (by have:=V.int.inj z;omega))]
      refine iteF ?_
      try unfold zbf;try dsimp only
      have lL:(lvT gs++qs.map zp).length=gs.length+qs.length:=by rw[List.length_append,ll,List.length_map]
      have lvN:(lvT gs).take gs.length=lvT gs:=List.take_of_length_le (by omega)
      have stN:(stL gs gs.length).ks=gs.reverse.flatten:=by
        unfold stL
        rw[List.take_of_length_le (by rw[List.length_reverse];omega)]
      have rN:=ze7 M gs.length (Nat.le_refl _)
      rw[lvN] at rN
      have qin:∀p∈qs,zaj p.1=true/\zaj p.2=true/\p.1∈(stL gs gs.length).ks/\p.2∈(stL gs gs.length).ks:=fun p hp=>by
        obtain⟨n1,n2⟩:=M.qn hp
        obtain⟨m1,m2⟩:=M.qm p hp
        rw[stN]
        exact⟨n1,n2,flat_rev_mem.mpr m1,flat_rev_mem.mpr m2⟩
      have runP:∀j,j<=qs.length->(lvT gs++qs.map zp).take (gs.length+j)=lvT gs++(qs.take j).map zp/\Run MS0 (lvT gs++(qs.take j).map zp) ⟨(stL gs gs.length).nv,(stL gs gs.length).rows,(stL gs gs.length).ks,(stL gs gs.length).qs++qs.take j⟩:=fun j hj=>by
        constructor
        · rw[←ll,List.take_append,List.take_of_length_le (by omega),Nat.add_sub_cancel_left,List.map_take]
        · refine rN.app (zdk (fun p hp=>qin p (List.mem_of_mem_take hp)) ?_)
          show ([]++qs.take j).Pairwise _
          rw[List.nil_append]
          exact M.ql.sublist (List.take_sublist _ _)
      have pst:∀j,(lvT gs++qs.map zp).drop j=(lvT gs++qs.map zp).drop j:=fun _=>rfl
      have lineG:∀(pre:List Str) (x:Str) (lo:Nat),(∀l∈pre,l∈lvT gs++qs.map zp)->zb0 x->∀l∈pre++x::(lvT gs++qs.map zp).drop lo,zb0 l:=fun pre x lo h1 h2 l hl'=>by
        rcases List.mem_append.mp hl' with h | h
        · exact M.lineOk l20 (h1 l h)
        · rcases List.mem_cons.mp h with rfl | h
          · exact h2
          · exact M.lineOk l20 (List.mem_of_mem_drop h)
      refine za5 (decide (way=1) && !decide (qs = [])) (fun Q' hQ=>?_) (fun H2 s2=>?_)
      · refine⟨_,rfl,rfl,_,rfl,?_⟩
        rw[show decide (V.int (way:Int)=V.int 1)=decide (way=1) from decide_eq_decide.mpr ⟨fun z=>by have:=V.int.inj z;omega,fun z=>by rw[z];rfl⟩]
        refine ite2 (fun c1=>?_) (fun c1=>?_)
        · rw[c1,Bool.true_and] at hQ
          refine⟨_,rfl,by decide,fun e he=>?_⟩
          have t3:=Same.new (o:=.lst []) he
          refine⟨pp,e,_,rfl,rfl,DEq.nilL (SqL.of (t3 _ _ (t1 _ _ hp))) (SqL.of zb),_,rfl,?_⟩
          rw[show decide ((qs.map zp).map V.str = [])=decide (qs = []) from decide_eq_decide.mpr (by simp)]
          exact hQ _ t3
        · have c1:decide (way=1)=false:=by simpa using c1
          rw[c1,Bool.false_and] at hQ
          exact hQ _ (Same.refl _)
      have q2:=t1.trans s2
      refine ite2 (fun c1=>?_) (fun c1=>?_)
      · rw[Bool.and_eq_true,decide_eq_true_eq,Bool.not_eq_true',decide_eq_false_iff_not] at c1
        have hq0:0<qs.length:=List.length_pos_iff.mpr c1.2
        refine⟨_,rfl,_,rfl,pp,_,rfl,.inl (SqL.of (q2 _ _ hp)),_,_,rfl,rfl,(show (0:Int)<(((qs.map zp).map V.str).length:Int) by rw[lpm];omega),?_⟩
        try dsimp only [zap]
        rw[lpm,show (rest:Int)%(qs.length:Int)=((rest%qs.length:Nat):Int) from by omega]
        have hkk:rest%qs.length<qs.length:=Nat.mod_lt _ hq0
        generalize rest%qs.length=kk at hkk
        refine⟨_,rfl,pl,_,rfl,.inl (SqL.of (q2 _ _ hl)),_,rfl,_,_,rfl,rfl,_,_,rfl,rfl,?_⟩
        try dsimp only [zap]
        rw[llm,show (gs.length:Int)+(kk:Int)+1=((gs.length+kk+1:Nat):Int) from by omega]
        have hjj:rest / 20%(kk+1)<kk+1:=Nat.mod_lt _ (by omega)
        have ejj:(rest:Int) / 20%((kk:Int)+1)=((rest / 20%(kk+1):Nat):Int):=by rw[Int.natCast_emod,Int.natCast_ediv];rfl
        generalize rest / 20%(kk+1)=jj at hjj ejj
        have hjq:jj<qs.length:=by omega
        refine zjs (L:=L) (lines:=lvT gs++qs.map zp) (at':=gs.length+kk+1) (lo:=gs.length+kk+1) (x:=zp qs[jj]) rfl rfl (s2 _ _ eL) (by omega) (by omega) (fun G' Q' sG q=>?_) (fun G' Q' q=>⟨_,rfl,q⟩) fun t a G' s3 ht ha=>k t a _ _ _ (q2.trans s3) ht ha ?_
        · refine⟨_,rfl,_,rfl,_,_,rfl,rfl,⟨by decide,by decide⟩,_,rfl,_,_,rfl,rfl,_,_,rfl,rfl,(show (0:Int)<(kk:Int)+1 by omega),pp,_,_,_,rfl,rfl,SqL.of (sG _ _ (q2 _ _ hp)),?_,q _ (Same.refl _)⟩
          rw[ejj]
          exact zbr (by rw[List.getElem?_map,List.getElem?_map,List.getElem?_eq_getElem hjq];rfl)
        obtain⟨et,hrun⟩:=runP (kk+1) (by omega)
        rw[show gs.length+kk+1=gs.length+(kk+1) by omega,et]
        have hqj:=List.getElem_mem hjq
        obtain⟨n1,n2⟩:=M.qn hqj
        have elast:(qs.take (kk+1)).getLast? = some qs[kk]:=by
          rw[List.take_add_one,List.getElem?_eq_getElem hkk,Option.toList_some,List.getLast?_concat]
        have lpre:(lvT gs++(qs.take (kk+1)).map zp).length=gs.length+(kk+1):=by
          rw[List.length_append,ll,List.length_map,List.length_take];omega
        have hsp:=Spoil.at (gs:=gs) (pre:=lvT gs++(qs.take (kk+1)).map zp) (post:=(lvT gs++qs.map zp).drop (gs.length+(kk+1))) (x:=zp qs[jj]) hrun (zif (zb3 n1 n2) (zds n1) fun y e ok=>by
          obtain rfl:qs[jj].2=y:=(List.cons.inj (List.cons.inj e).2).1
          have z:ltPP qs[kk] qs[jj]=true:=ok.2.2 qs[kk] (by show ([]++qs.take (kk+1)).getLast? = _;rw[List.nil_append];exact elast)
          rcases Nat.lt_or_ge jj kk with c | c
          · have:=List.pairwise_iff_getElem.mp M.ql jj kk hjq hkk c
            rw[zhn this] at z
            cases z
          · obtain rfl:jj=kk:=by omega
            rw[zia] at z
            cases z) (lineG _ _ _ (fun l h=>by rw[←et] at h;exact List.mem_of_mem_take h) (M.lineOk l20 (List.mem_append_right _ (List.mem_map.mpr ⟨_,hqj,rfl⟩)))) (by rw[List.length_append,List.length_cons,lpre,List.length_drop];omega) (.inl (by rw[List.length_append,List.length_cons,lpre];omega))
        rw[lpre] at hsp
        exact hsp
      dsimp only
      refine za5 (decide (way=2) && !decide (qs = [])) (fun Q' hQ=>?_) (fun H3 s3=>?_)
      · refine⟨_,rfl,rfl,_,rfl,?_⟩
        rw[show decide (V.int (way:Int)=V.int 2)=decide (way=2) from decide_eq_decide.mpr ⟨fun z=>by have:=V.int.inj z;omega,fun z=>by rw[z];rfl⟩]
        refine ite2 (fun c1=>?_) (fun c1=>?_)
        · rw[c1,Bool.true_and] at hQ
          refine⟨_,rfl,by decide,fun e he=>?_⟩
          have t3:=Same.new (o:=.lst []) he
          refine⟨pp,e,_,rfl,rfl,DEq.nilL (SqL.of (t3 _ _ (q2 _ _ hp))) (SqL.of zb),_,rfl,?_⟩
          rw[show decide ((qs.map zp).map V.str = [])=decide (qs = []) from decide_eq_decide.mpr (by simp)]
          exact hQ _ t3
        · have c1:decide (way=2)=false:=by simpa using c1
          rw[c1,Bool.false_and] at hQ
          exact hQ _ (Same.refl _)
      have q3:=q2.trans s3
      refine ite2 (fun c2=>?_) (fun c2=>?_)
      · rw[Bool.and_eq_true,decide_eq_true_eq,Bool.not_eq_true',decide_eq_false_iff_not] at c2
        have hq0:0<qs.length:=List.length_pos_iff.mpr c2.2
        refine⟨_,rfl,pl,_,rfl,.inl (SqL.of (q3 _ _ hl)),_,_,rfl,rfl,_,rfl,_,rfl,pp,_,rfl,.inl (SqL.of (q3 _ _ hp)),_,_,rfl,rfl,(show (0:Int)<(((qs.map zp).map V.str).length:Int) by rw[lpm];omega),_,_,rfl,rfl,?_⟩
        try dsimp only [zap]
        have hkk:rest%qs.length<qs.length:=Nat.mod_lt _ hq0
        rw[llm,lpm,show (gs.length:Int)+1+(rest:Int)%(qs.length:Int)=((gs.length+(rest%qs.length+1):Nat):Int) from by omega]
        generalize rest%qs.length=kk at hkk
        obtain⟨x,hx,hx3⟩:∃x:Str,atI [V.str (Str.ofString "0: zz"),V.str (Str.ofString "1: zz"),V.str (Str.ofString "7: zz zzz")] ((rest:Int) / 20%3)=some (.str x)/\x∈([Str.ofString "0: zz",Str.ofString "1: zz",Str.ofString "7: zz zzz"]:List Str):=by
          have:(rest:Int) / 20%3=0\/(rest:Int) / 20%3=1\/(rest:Int) / 20%3=2:=by omega
          rcases this with z | z | z<;>rw[z]
          · exact⟨_,rfl,by simp⟩
          · exact⟨_,rfl,by simp⟩
          · exact⟨_,rfl,by simp⟩
        refine zjs (L:=L) (lines:=lvT gs++qs.map zp) (at':=gs.length+(kk+1)) (lo:=gs.length+(kk+1)) (x:=x) rfl rfl (s3 _ _ (s2 _ _ eL)) (by omega) (by omega) (fun G' Q' sG q=>?_) (fun G' Q' q=>⟨_,rfl,q⟩) fun t a G' s4 ht ha=>k t a _ _ _ (q3.trans s4) ht ha ?_
        · refine⟨by show 3<=sizeLine;decide,fun b3 hb3=>?_⟩
          refine⟨_,rfl,_,_,rfl,rfl,⟨by decide,by decide⟩,_,_,rfl,rfl,(by decide:(0:Int)<3),b3,_,_,_,rfl,rfl,SqL.of zb,hx,q _ (Same.new hb3)⟩
        obtain⟨et,hrun⟩:=runP (kk+1) (by omega)
        rw[et]
        have lpre:(lvT gs++(qs.take (kk+1)).map zp).length=gs.length+(kk+1):=by
          rw[List.length_append,ll,List.length_map,List.length_take];omega
        have no:∀s',¬Take ⟨(stL gs gs.length).nv,(stL gs gs.length).rows,(stL gs gs.length).ks,(stL gs gs.length).qs++qs.take (kk+1)⟩ x s':=by
          have nz:¬([]++qs.take (kk+1)=([]:List SS)):=fun z=>by
            have:=congrArg List.length z
            rw[List.nil_append,List.length_take] at this
            have:min (kk+1) qs.length=0:=this
            omega
          simp only [List.mem_cons,List.not_mem_nil,or_false] at hx3
          rcases hx3 with rfl | rfl | rfl
          · exact zgl (w:="0:") (r:=["zz"]) (by decide +kernel) (by decide +kernel) fun _ n=>absurd n.2.1 nz
          · exact zgl (w:="1:") (r:=["zz"]) (by decide +kernel) (by decide +kernel) fun _ n=>absurd n.2.1 nz
          · exact zgl (w:="7:") (r:=["zz","zzz"]) (by decide +kernel) (by decide +kernel) fun _ n=>absurd n.2.1 nz
        have lx:zb0 x:=by
          simp only [List.mem_cons,List.not_mem_nil,or_false] at hx3
          rcases hx3 with rfl | rfl | rfl
          · exact (LOk.lit (x:="0: zz") (by decide +kernel)).mono (by decide) (by decide)
          · exact (LOk.lit (x:="1: zz") (by decide +kernel)).mono (by decide) (by decide)
          · exact (LOk.lit (x:="7: zz zzz") (by decide +kernel)).mono (by decide) (by decide)
        have hsp:=Spoil.at (gs:=gs) (pre:=lvT gs++(qs.take (kk+1)).map zp) (post:=(lvT gs++qs.map zp).drop (gs.length+(kk+1))) (x:=x) hrun no (lineG _ _ _ (fun l h=>by rw[←et] at h;exact List.mem_of_mem_take h) lx) (by rw[List.length_append,List.length_cons,lpre,List.length_drop];omega) (.inl (by rw[List.length_append,List.length_cons,lpre];omega))
        rw[lpre] at hsp
        exact hsp
      try unfold zbf
      dsimp only
      refine za5 (decide (way=3)&&decide (1<gs.length)) (fun Q' hQ=>?_) (fun H4 s4=>?_)
      · refine⟨_,rfl,rfl,_,rfl,?_⟩
        rw[show decide (V.int (way:Int)=V.int 3)=decide (way=3) from decide_eq_decide.mpr ⟨fun z=>by have:=V.int.inj z;omega,fun z=>by rw[z];rfl⟩]
        refine ite2 (fun c1=>?_) (fun c1=>?_)
        · rw[c1,Bool.true_and] at hQ
          refine⟨_,rfl,pl,_,rfl,.inl (SqL.of (q3 _ _ hl)),_,_,rfl,rfl,_,rfl,?_⟩
          rw[llm,show decide ((1:Int)<(gs.length:Int))=decide (1<gs.length) from decide_eq_decide.mpr (by omega)]
          exact hQ _ (Same.refl _)
        · have c1:decide (way=3)=false:=by simpa using c1
          rw[c1,Bool.false_and] at hQ
          exact hQ _ (Same.refl _)
      have q4:=q3.trans s4
      have pr4:Paired (fun c g=>H4 c=some (.lst (g.map V.str))) cs gs:=Paired.mapP pr fun _ _ h=>q4 _ _ h
      refine ite2 (fun c3=>?_) (fun c3=>?_)
      · rw[Bool.and_eq_true,decide_eq_true_eq,decide_eq_true_eq] at c3
        have hN1:=c3.2
        refine⟨_,rfl,_,rfl,pl,_,rfl,.inl (SqL.of (q4 _ _ hl)),_,_,rfl,rfl,_,_,rfl,rfl,(show (0:Int)<(((lvT gs).map V.str).length:Int)-1 by rw[llm];omega),_,_,rfl,rfl,?_⟩
        try dsimp only [zap]
        have hmm:rest%(gs.length-1)<gs.length-1:=Nat.mod_lt _ (by omega)
        have em:(1:Int)+(rest:Int)%((gs.length:Int)-1)=((1+rest%(gs.length-1):Nat):Int):=by
          have:(gs.length:Int)-1=((gs.length-1:Nat):Int):=by omega
          rw[this]
          omega
        rw[llm,em]
        obtain⟨many,hmany⟩:∃many,many=1+rest%(gs.length-1):=⟨_,rfl⟩
        rw[←hmany]
        have hm1:1<=many:=by omega
        have hm2:many<gs.length:=by omega
        clear em hmm hmany
        refine⟨_,rfl,_,rfl,_,rfl,pg,_,rfl,.inl (SqL.of (q4 _ _ hg)),_,rfl,_,_,rfl,rfl,_,rfl,pg,_,rfl,SqL.of (q4 _ _ hg),fun u hu=>?_⟩
        rw[lcm,show (gs.length:Int)-(many:Int)=((gs.length-many:Nat):Int) from by omega,zin V.ref cs (gs.length-many)]
        have t5:=Same.new (o:=.lst ((cs.drop (gs.length-many)).map V.ref)) hu
        have q5:=q4.trans t5
        have prD:Paired (fun c g=>upd H4 u (.lst ((cs.drop (gs.length-many)).map V.ref)) c=some (.lst (g.map V.str))) (cs.drop (gs.length-many)) (gs.drop (gs.length-many)):=zgp (Paired.mapP pr4 fun _ _ h=>t5 _ _ h) _
        have sub:(gs.drop (gs.length-many)).flatten.length<=20:=by
          have h:=congrArg (fun l=>(List.flatten l).length) (List.take_append_drop (gs.length-many) gs)
          simp only [List.flatten_append,List.length_append] at h
          omega
        refine⟨pp,u,_,_,qs,rfl,SqL.of (q5 _ _ hp),SqL.of zb,prD,by omega,by omega,fun p hp=>M.qn hp,fun D H6 s6 fD hD=>?_⟩
        obtain⟨ps,eps⟩:∃ps,ps=qs.filter fun p=>decide (p.1∈(gs.drop (gs.length-many)).flatten)&&decide (p.2∈(gs.drop (gs.length-many)).flatten):=⟨_,rfl⟩
        rw[←eps] at hD
        have lps:ps.length<=12:=by rw[eps];exact Nat.le_trans (List.length_filter_le _ _) l12
        have fmem:∀x:Str,x∈(gs.drop (gs.length-many)).flatten->x∈(gs.reverse.take many).flatten:=fun x hx=>by
          have e:gs.reverse.take many=(gs.drop (gs.length-many)).reverse:=by rw[List.take_reverse]
          rw[e]
          exact flat_rev_mem.mpr hx
        have hps:ps.Pairwise (fun a b=>ltPP a b=true)/\∀p∈ps,zaj p.1=true/\zaj p.2=true/\p.1∈(gs.reverse.take many).flatten/\p.2∈(gs.reverse.take many).flatten:=by
          constructor
          · rw[eps]
            exact M.ql.filter _
          · intro p hp
            rw[eps] at hp
            obtain⟨h1,h2⟩:=List.mem_filter.mp hp
            rw[Bool.and_eq_true,decide_eq_true_eq,decide_eq_true_eq] at h2
            obtain⟨n1,n2⟩:=M.qn h1
            exact⟨n1,n2,fmem _ h2.1,fmem _ h2.2⟩
        clear eps
        refine⟨_,rfl,_,_,rfl,rfl,⟨by decide,by decide⟩,_,_,rfl,rfl,(by decide:(0:Int)<2),D,_,_,rfl,rfl,SqL.of hD,by omega,by omega,by rw[List.length_map,List.length_map];omega,fun v hv=>?_⟩
        obtain⟨ps',eps',hps',lps'⟩:∃ps':List SS,(List.replicate ((rest:Int) / 20%2).toNat ((ps.map zp).map V.str)).flatten=(ps'.map zp).map V.str/\(ps'.Pairwise (fun a b=>ltPP a b=true)/\∀p∈ps',zaj p.1=true/\zaj p.2=true/\p.1∈(gs.reverse.take many).flatten/\p.2∈(gs.reverse.take many).flatten)/\ps'.length<=12:=by
          have:(rest:Int) / 20%2=0\/(rest:Int) / 20%2=1:=by omega
          rcases this with z | z<;>rw[z]
          · exact⟨[],rfl,⟨.nil,(fun _ h=>nomatch h)⟩,by decide⟩
          · exact⟨ps,by simp,hps,lps⟩
        rw[eps']
        have t7:=Same.new (o:=.lst ((ps'.map zp).map V.str)) hv
        have q7:=q5.trans (s6.trans t7)
        have e7:upd H6 v (.lst ((ps'.map zp).map V.str)) v=some (.lst ((ps'.map zp).map V.str)):=zb
        generalize upd H6 v (.lst ((ps'.map zp).map V.str))=H7 at t7 q7 e7
        try dsimp only [zap]
        refine⟨_,rfl,_,rfl,_,rfl,pl,_,rfl,SqL.of (q7 _ _ hl),fun u8 hu8=>?_⟩
        rw[zkq V.str (lvT gs) many (by omega)]
        have t8:=Same.new (o:=.lst (((lvT gs).take many).map V.str)) hu8
        refine⟨_,rfl,u8,v,_,_,rfl,rfl,SqL.of zb,SqL.of (t8 _ _ e7),by rw[List.length_map,List.length_map,List.length_map,List.length_take];exact zai (by omega),fun u9 hu9=>?_⟩
        rw[←List.map_append]
        have t9:=Same.new (o:=.lst (((lvT gs).take many++ps'.map zp).map V.str)) hu9
        refine⟨_,rfl,_,rfl,v,_,rfl,.inl (SqL.of (t9 _ _ (t8 _ _ e7))),_,_,rfl,rfl,_,_,rfl,rfl,by show 2<=sizeLine;decide,fun t ht=>?_⟩
        try dsimp only
        rw[List.length_map,List.length_map,show (many:Int)+(ps'.length:Int)+1=((many+ps'.length+1:Nat):Int) from by omega]
        have t10:=Same.new (o:=.tup [.ref u9,.int ((many+ps'.length+1:Nat):Int)]) ht
        refine k t u9 ((lvT gs).take many++ps'.map zp) (many+ps'.length+1) _ (q7.trans (t8.trans (t9.trans t10))) zb (t10 _ _ zb) ?_
        have llen:((lvT gs).take many++ps'.map zp).length=many+ps'.length:=by rw[List.length_append,List.length_take,List.length_map];omega
        have rM:=ze7 M many (by omega)
        have rP:=zdk (ps:=ps') (s:=stL gs many) hps'.2 (by show ([]++ps').Pairwise _;rw[List.nil_append];exact hps'.1)
        have l1:∀l∈(lvT gs).take many++ps'.map zp,zb0 l:=fun l h=>by
          rcases List.mem_append.mp h with h | h
          · exact M.lineOk l20 (List.mem_append_left _ (List.mem_of_mem_take h))
          · obtain⟨p,hp,rfl⟩:=List.mem_map.mp h
            obtain⟨n1,n2,_,_⟩:=hps'.2 p hp
            have hw:=zc6 (zp p)
            rw[zb3 n1 n2] at hw
            have hw:3=(co (zp p)).count 32+1:=hw
            exact⟨zhk n1 n2,Nat.le_trans (zgd (zcx n1) (zcx n2)) (by decide),by omega⟩
        refine⟨l1,by omega,?_,by omega,.inr ⟨_,rM.app rP,?_,by rw[llen]⟩,by omega,fun _=>⟨many,ps',rfl,hm1,hm2,hps'.1,hps'.2⟩⟩
        · by_cases c:2<=((lvT gs).take many++ps'.map zp).length
          · exact .inl c
          · have h1:many=1:=by omega
            have h2:ps' = []:=List.length_eq_zero_iff.mp (by omega)
            refine .inr ⟨rowT ((gs.length-1-0:Nat):Int) (gs.getD (gs.length-1-0) []),?_,?_⟩
            · rw[h1,h2,List.map_nil,List.append_nil,List.take_add_one,List.take_zero,zlv hN]
              rfl
            · intro z
              obtain⟨hm',_⟩:=zc4 (rows:=gs) (i:=gs.length-1-0) (by omega)
              have sp:=zb8 ((gs.length-1-0:Nat):Int) (M.rne _ hm') (M.nm _ hm')
              rw[z] at sp
              have:=congrArg List.length sp
              have e1:(Txt.split ("" : Str) " ").length=1:=by decide +kernel
              rw[e1,List.length_cons] at this
              exact M.rne _ hm' (List.length_eq_zero_iff.mp (by omega))
        · unfold stL
          dsimp only
          rw[if_neg (by omega)]
          intro z
          have:=Option.some.inj z
          omega
      try unfold zbf
      dsimp only
      refine⟨_,rfl,pg,_,rfl,.inl (SqL.of (q4 _ _ hg)),_,_,rfl,rfl,_,rfl,_,_,rfl,rfl,?_⟩
      try dsimp only [zap]
      rw[en]
      obtain⟨n,hn⟩:∃n,n=gs.length-1-at':=⟨_,rfl⟩
      rw[←hn] at c64 ⊢
      have hnN:n<gs.length:=by omega
      have hnc:n<cs.length:=by omega
      obtain⟨own,eo,hown⟩:=Paired.get' pr4 (List.getElem?_eq_getElem hnc)
      have hom:=List.mem_of_getElem? eo
      have an:atI (cs.map V.ref) (n:Int)=some (.ref cs[n]):=zbr (by rw[List.getElem?_map,List.getElem?_eq_getElem hnc];rfl)
      refine⟨_,rfl,_,rfl,_,_,rfl,rfl,_,rfl,pg,_,rfl,SqL.of (q4 _ _ hg),fun u hu=>?_⟩
      try dsimp only
      rw[show (n:Int)+1=((n+1:Nat):Int) from rfl,zin V.ref cs (n+1)]
      have t5:=Same.new (o:=.lst ((cs.drop (n+1)).map V.ref)) hu
      refine⟨_,rfl,_,rfl,pg,_,_,_,rfl,rfl,SqL.of (t5 _ _ (q4 _ _ hg)),an,by show 1<=sizeLine;decide,fun b hb=>?_⟩
      have t6:=Same.new (o:=.lst [.ref cs[n]]) hb
      refine⟨u,b,_,_,rfl,rfl,SqL.of (t6 _ _ zb),SqL.of zb,by rw[List.length_map,List.length_drop];exact zai (by show cs.length-(n+1)+1<=1000;omega),fun sn hsn=>?_⟩
      rw[show (cs.drop (n+1)).map V.ref++[.ref cs[n]]=(cs.drop (n+1)++[cs[n]]).map V.ref from by rw[List.map_append];rfl]
      have t7:=Same.new (o:=.lst ((cs.drop (n+1)++[cs[n]]).map V.ref)) hsn
      have s7:=t5.trans (t6.trans t7)
      have q7:=q4.trans s7
      have e7:upd (upd (upd H4 u (.lst ((cs.drop (n+1)).map V.ref))) b (.lst [.ref cs[n]])) sn (.lst ((cs.drop (n+1)++[cs[n]]).map V.ref)) sn=some (.lst ((cs.drop (n+1)++[cs[n]]).map V.ref)):=zb
      generalize upd (upd (upd H4 u (.lst ((cs.drop (n+1)).map V.ref))) b (.lst [.ref cs[n]])) sn (.lst ((cs.drop (n+1)++[cs[n]]).map V.ref))=H7 at s7 q7 e7
      have eL7:=s7 _ _ (s4 _ _ (s3 _ _ (s2 _ _ eL)))
      have hg7:=q7 _ _ hg
      have hown7:=s7 _ _ hown
      have prS:Paired (fun c g=>H7 c=some (.lst (g.map V.str))) (cs.drop (n+1)++[cs[n]]) (gs.drop (n+1)++[own]):=Paired.snoc (Paired.mapP (zgp pr4 (n+1)) fun _ _ h=>s7 _ _ h) hown7
      have lsn:(cs.drop (n+1)++[cs[n]]).length=at'+1:=by
        rw[List.length_append,List.length_drop]
        show cs.length-(n+1)+1=_
        omega
      have hjj:rest / 20%(at'+1)<at'+1:=Nat.mod_lt _ (by omega)
      have ejj:(rest:Int) / 20%(((at'+1:Nat):Int))=((rest / 20%(at'+1):Nat):Int):=by rw[Int.natCast_emod,Int.natCast_ediv];rfl
      generalize rest / 20%(at'+1)=jj at hjj ejj
      obtain⟨dj,edj⟩:∃dj,(cs.drop (n+1)++[cs[n]])[jj]? = some dj:=⟨(cs.drop (n+1)++[cs[n]])[jj]'(by omega),List.getElem?_eq_getElem _⟩
      obtain⟨gj,egj,hgj⟩:=Paired.get' prS edj
      have gjm:=List.mem_of_getElem? egj
      have gjg:gj∈gs:=by
        rcases List.mem_append.mp gjm with h | h
        · exact List.mem_of_mem_drop h
        · rw[List.mem_singleton.mp h];exact hom
      obtain⟨y,gt,rfl⟩:∃y gt,gj=y::gt:=by
        cases gj with
        | nil=>exact absurd rfl (M.rne _ gjg)
        | cons y gt=>exact⟨y,gt,rfl⟩
      obtain⟨g0,gr,rfl⟩:∃g0 gr,own=g0::gr:=by
        cases own with
        | nil=>exact absurd rfl (M.rne _ hom)
        | cons y gt=>exact⟨y,gt,rfl⟩
      have ny:=M.nm _ gjg y (List.mem_cons_self ..)
      try dsimp only [zap]
      refine⟨_,rfl,_,rfl,_,_,rfl,rfl,⟨by decide,by decide⟩,_,rfl,sn,_,rfl,.inl (SqL.of e7),_,_,rfl,rfl,(show (0:Int)<(((cs.drop (n+1)++[cs[n]]).map V.ref).length:Int) by rw[List.length_map,lsn];omega),sn,_,_,.ref dj,rfl,rfl,SqL.of e7,?_,dj,_,_,_,rfl,rfl,SqL.of hgj,zjc,?_⟩
      · rw[List.length_map,lsn,ejj]
        exact zbr (by rw[List.getElem?_map,edj];rfl)
      try dsimp only [zap]
      refine⟨_,rfl,_,rfl,_,rfl,pg,_,_,_,rfl,rfl,SqL.of hg7,an,cs[n],_,_,_,rfl,rfl,SqL.of hown7,zjc,rfl,_,rfl,?_⟩
      have ep:(lvT gs++qs.map zp).take at'=(lvT gs).take at':=List.take_append_of_le_length (by omega)
      have lpre:((lvT gs).take at').length=at':=by rw[List.length_take];omega
      have gD:gs.getD n []=g0::gr:=by rw[List.getD_eq_getElem?_getD,eo];rfl
      have el:(lvT gs++qs.map zp)[at']? = some (rowT (n:Int) (g0::gr)):=by
        rw[List.getElem?_append_left (by omega),zlv hat,←hn,gD]
      have lo20:(g0::gr).length<=20:=Nat.le_trans (zbd hom) l20
      have no:=M.nm _ hom
      have lineG':∀(x:Str),zb0 x->∀l∈(lvT gs).take at'++x::(lvT gs++qs.map zp).drop (at'+1),zb0 l:=fun x hx=>lineG _ _ _ (fun l h=>List.mem_append_left _ (List.mem_of_mem_take h)) hx
      have rne:∀names:List Str,names≠[]->(∀x∈names,zaj x=true)->rowT (n:Int) names≠"":=fun names h0 h z=>by
        have sp:=zb8 (n:Int) h0 h
        rw[z] at sp
        have:=congrArg List.length sp
        have e1:(Txt.split ("" : Str) " ").length=1:=by decide +kernel
        rw[e1,List.length_cons] at this
        exact h0 (List.length_eq_zero_iff.mp (by omega))
      have many34:∀x:Str,((lvT gs).take at'++x::(lvT gs++qs.map zp).drop (at'+1)).length<=34:=fun x=>by rw[List.length_append,List.length_cons,lpre,List.length_drop];omega
      by_cases cy:y=g0
      · rw[decide_eq_true (congrArg V.str cy)]
        refine iteT ?_
        have exr:rowT (n:Int) (g0::gr)++Str.ofString " " ++ y=rowT (n:Int) ((g0::gr)++[y]):=by
          rw[zev _ (List.cons_ne_nil _ _),zev _ (by simp),zhp]
        have nn:∀x∈(g0::gr)++[y],zaj x=true:=fun x hx=>by
          rcases List.mem_append.mp hx with hx | hx
          · exact no x hx
          · rw[List.mem_singleton.mp hx];exact ny
        have lk:=zih c64 (List.cons_ne_nil _ _) no (by omega)
        have lb:=LOk.lit (x:=Str.ofString " ") (by decide +kernel)
        refine zjs (L:=L) (lines:=lvT gs++qs.map zp) (at':=at') (lo:=at'+1) (x:=rowT (n:Int) ((g0::gr)++[y])) rfl rfl eL7 (by omega) (by omega) (fun G' Q' sG q=>?_) (fun G' Q' q=>⟨_,rfl,_,_,rfl,rfl,q⟩) fun t a G' s9 ht ha=>k t a _ _ _ (q7.trans s9) ht ha ?_
        · refine⟨_,rfl,_,rfl,L,_,_,_,rfl,rfl,SqL.of (sG _ _ eL7),zbr (by rw[List.getElem?_map,el];rfl),_,_,rfl,rfl,zab lk lb (by decide),_,rfl,_,_,rfl,rfl,zab (lk.app lb) (LOk.name ny) (by decide),?_⟩
          rw[exr]
          exact q _ (Same.refl _)
        rw[ep]
        have hsp:=Spoil.at (gs:=gs) (pre:=(lvT gs).take at') (post:=(lvT gs++qs.map zp).drop (at'+1)) (x:=rowT (n:Int) ((g0::gr)++[y])) (ze7 M at' (by omega)) (zrj (by simp) nn fun z=>by
          have z:=(List.nodup_append.mp z).2.1
          rw[cy] at z
          exact absurd (List.nodup_append.mp z).2.2 (fun h=>h g0 (List.mem_cons_self ..) g0 (by simp) rfl)) (lineG' _ (zih c64 (by simp) nn (by rw[List.length_append];show (g0::gr).length+1<=23;omega))) (many34 _) (.inr (rne _ (by simp) nn))
        rw[lpre] at hsp
        exact hsp
      · rw[decide_eq_false (fun z=>cy (V.str.inj z))]
        refine iteF ?_
        try unfold zbf
        dsimp only
        have yks:y∈(gs.reverse.take at').flatten:=by
          have e:gs.reverse.take at'=(gs.drop (n+1)).reverse:=by rw[List.take_reverse,show gs.length-at'=n+1 by omega]
          rw[e]
          refine flat_rev_mem.mpr ?_
          rcases List.mem_append.mp gjm with h | h
          · exact List.mem_flatten.mpr ⟨_,h,List.mem_cons_self ..⟩
          · have:=List.mem_singleton.mp h
            exact absurd (List.cons.inj this).1 cy
        have pmN:=zee (y::g0::gr)
        have nn:∀x∈srt (y::g0::gr),zaj x=true:=fun x hx=>by
          rcases List.mem_cons.mp (pmN.mem_iff.mp hx) with rfl | hx
          · exact ny
          · exact no x hx
        have lN:(srt (y::g0::gr)).length=(g0::gr).length+1:=pmN.length_eq
        have sne:srt (y::g0::gr)≠[]:=fun z=>by rw[z] at lN;simp at lN
        refine zjs (L:=L) (lines:=lvT gs++qs.map zp) (at':=at') (lo:=at'+1) (x:=rowT (n:Int) (srt (y::g0::gr))) rfl rfl eL7 (by omega) (by omega) (fun G' Q' sG q=>?_) (fun G' Q' q=>⟨_,rfl,_,_,rfl,rfl,q⟩) fun t a G' s9 ht ha=>k t a _ _ _ (q7.trans s9) ht ha ?_
        · refine⟨_,rfl,_,rfl,by show 1<=sizeLine;decide,fun b1 hb1=>?_⟩
          have v1:=Same.new (o:=.lst [.str y]) hb1
          refine⟨_,rfl,_,rfl,pg,_,_,_,rfl,rfl,SqL.of (v1 _ _ (sG _ _ hg7)),an,b1,cs[n],_,_,rfl,rfl,SqL.of zb,SqL.of (v1 _ _ (sG _ _ hown7)),by rw[List.length_map];exact zai (by show 1+(g0::gr).length<=1000;omega),fun b2 hb2=>?_⟩
          have v2:=Same.new (o:=.lst ([.str y]++(g0::gr).map V.str)) hb2
          refine⟨b2,y::g0::gr,rfl,SqL.of zb,by show (g0::gr).length+1<64;omega,fun b3 ms hb3 pm rs=>?_⟩
          obtain rfl:=zlc pm rs
          have v3:=Same.new (o:=.lst ((srt (y::g0::gr)).map V.str)) hb3
          exact⟨n,b3,_,rfl,SqL.of zb,c64,sne,nn,by omega,q _ (v1.trans (v2.trans v3))⟩
        rw[ep]
        have hsp:=Spoil.at (gs:=gs) (pre:=(lvT gs).take at') (post:=(lvT gs++qs.map zp).drop (at'+1)) (x:=rowT (n:Int) (srt (y::g0::gr))) (ze7 M at' (by omega)) (zrj sne nn fun z=>(List.nodup_append.mp z).2.2 y yks y (pmN.mem_iff.mpr (List.mem_cons_self ..)) rfl) (lineG' _ (zih c64 sne nn (by omega))) (many34 _) (.inr (rne _ sne nn))
        rw[lpre] at hsp
        exact hsp
def kLaw:Nat:=12
def sp_law:Sp:=fun vs H Q _=>∃(a:Addr) (ns:List Int),vs = [.ref a]/\SqL K H a (ns.map V.int)/\ns.length<=63/\∀H',Q (.bl true) H'
def numF (word:Str) (c:Int):V->V
  | .int z=>.str (numT word (decide (c%2=1)) z.toNat)
  | _=>.non
theorem zio (T:Tx K mg w C_MatrixReading zq zo zad zal zu C_NoMatrix zae):Has P w K mg base "read_matrix" ["text"] 6 (fun vs H Q _=>∃(ls:List Str) (s:MS),vs = [.str (Txt.join "\n" ls)]/\TextOk ls/\Run MS0 ls s/\s.nv=some 0/\MatQ H Q s):=
by
  refine (zek T).good ?_
  intro vs H Q E h
  obtain⟨ls,s,rfl,M,r,z,k⟩:=h
  exact⟨_,rfl,.inl ⟨ls,rfl,M,.inl ⟨s,r,z,k⟩⟩⟩
theorem zov {ls:List Str}(h:ls≠[]):Txt.join "\n" ls++Str.ofString "\n" = Txt.join "\n" (ls++[Str.ofString ""]):=by
  apply zbp
  rw[zag,show Txt.join "\n" ls=Txt.join (Str.ofString "\n") ls from rfl,show Txt.join "\n" (ls++[Str.ofString ""])=Txt.join (Str.ofString "\n") (ls++[Str.ofString ""]) from rfl,zcn,zcn]
  cases ls with
  | nil=>exact absurd rfl h
  | cons x r=>
    rw[List.map_append,List.map_cons]
    have:=zn0 (co (Str.ofString "\n")) (co (Str.ofString "")) (co x) (r.map co)
    refine Eq.trans ?_ this.symm
    rw[show co (Str.ofString "") = [] from by decide +kernel,List.append_nil]
def bigT (k:Nat) (name:Str):Str:=Str.ofString "1" ++ ⟨(List.replicate (59+k) 48).toArray⟩++Str.ofString ": " ++ name
theorem ztq:Str.ofString (toString ((10 ^ 59:Nat):Int))=Str.ofString "1" ++ (⟨(List.replicate 59 48).toArray⟩:Str):=by decide +kernel
theorem ztr {name:Str}:bigT 0 name=rowT ((10 ^ 59:Nat):Int) [name]:=by
  unfold bigT rowT
  show _=Str.empty++Str.ofString (toString ((10 ^ 59:Nat):Int))++Str.ofString ": " ++ name
  rw[zeu,ztq]
theorem zq2 {k:Nat}(hk:k<2) {name:Str}(h:zaj name=true):zb0 (bigT k name):=by
  have h1:=LOk.lit (x:=Str.ofString "1") (by decide +kernel)
  have h2:=LOk.lit (x:=Str.ofString ": ") (by decide +kernel)
  have h3:LOk 61 0 (⟨(List.replicate (59+k) 48).toArray⟩:Str):=by
    have:k=0\/k=1:=by omega
    rcases this with rfl | rfl
    · exact⟨by decide +kernel,by decide +kernel,by decide +kernel⟩
    · exact⟨by decide +kernel,by decide +kernel,by decide +kernel⟩
  exact (((h1.app h3).app h2).app (LOk.name h)).mono (by decide) (by decide)
theorem zts {k:Nat}(hk:k<2) {name:Str}(h:zaj name=true):TextOk [bigT k name]/\Ref [bigT k name] (2-k):=by
  have lk:=zq2 hk h
  have ne:bigT k name≠"":=fun z=>by
    have z:=congrArg (fun x=>(co x).head?) z
    unfold bigT at z
    simp only [zag] at z
    have e:co (Str.ofString "1") = [49]:=by decide +kernel
    rw[e] at z
    have e0:co ("" : Str) = []:=rfl
    rw[e0] at z
    cases z
  refine⟨.of (fun l hl=>by rw[List.mem_singleton.mp hl];exact lk) (by show 1<=36;decide) (.inr ⟨_,rfl,ne⟩),?_⟩
  have:k=0\/k=1:=by omega
  rcases this with rfl | rfl
  · rw[ztr]
    have t:=zlu (s:=MS0) (n:=10 ^ 59) (names:=[name]) (by decide +kernel) rfl (.inl rfl) ⟨by simp,List.pairwise_singleton ..,fun x hx=>by rw[List.mem_singleton.mp hx];exact h,by show [name].Nodup;simp⟩
    exact .inr ⟨_,.cons t .nil,by intro z;exact absurd (Option.some.inj z) (by decide +kernel),rfl⟩
  · refine .inl ⟨0,MS0,_,rfl,.nil,?_,rfl⟩
    have ec:bigT 1 name=zy (jc [32] [(49::List.replicate 60 48)++[58],co name]):=by
      apply zbp
      unfold bigT
      rw[zag,zag,zag,zv]
      have e1:co (Str.ofString "1") = [49]:=by decide +kernel
      have e2:co (Str.ofString ": ") = [58,32]:=by decide +kernel
      have e3:co (⟨(List.replicate (59+1) 48).toArray⟩:Str)=List.replicate 60 48:=zv _
      rw[e1,e2,e3]
      show _=(49::List.replicate 60 48)++[58]++[32]++co name
      simp
    rw[ec]
    exact za6 (l:=49::List.replicate 60 48) (by decide +kernel) (fun x hx z=>by rw[List.mem_singleton.mp hx] at z;exact ((zbh h).1 32 z).1 rfl) fun o=>absurd o (by decide +kernel)
set_option maxHeartbeats 16000000 in
theorem h_law (T:Tx K mg w C_MatrixReading zq zo zad zal zu C_NoMatrix zae):Has P w K mg base "law" ["_law_script"] kLaw (sp_law (K:=K)):=by
  refine T.zv9.has sc_law (fun vs H Q E h=>?_) (fun f cdv A outer s H vs Q E hr h=>?_)
  · obtain⟨a,ns,rfl,_⟩:=h;rfl
  · obtain⟨a,ns,rfl,ha,hl,k⟩:=h
    refine⟨_,(zd (zac (i:=1) sc_law.nd rfl (Or.inr rfl) (zar zk1 (zbc (zaf K rfl) (zba (zjp T) (hr.mono (by decide)) (by rfl) (za (zba (za0 T) (hr.mono (by decide)) (by rfl) (za (pv 0) (za zf zc))) (za (zba (za0 T) (hr.mono (by decide)) (by rfl) (za (pv 0) (za zf zc))) (za zf zc)))) zf (fun _ _=>rfl)) za4 (zax zf)))
      (zd (zac (i:=2) sc_law.nd rfl (Or.inl rfl) (zg (zaw K rfl) (zaq (za (zba (za0 T) (hr.mono (by decide)) (by rfl) (za (pv 0) (za zf zc))) zc)) (zar (zaz K rfl) (pv 0) (zax zf) (zax zf))))
      (zd (zac (i:=3) sc_law.nd rfl (Or.inr rfl) (zba (zim T) (hr.mono (by decide)) (by rfl) (za (pv 1) (za (zba (za0 T) (hr.mono (by decide)) (by rfl) (za (pv 0) (za zf zc))) (za (pv 2) zc)))))
      (zd (zj5 (i:=4) (own:=["_law_k"]) (cap:=["_law_word","_law_script"]) (ix:=[1,0]) (osc:=zr (top 33)) rfl sc_law.nd rfl rfl rfl ⟨rfl,by decide +kernel,by decide +kernel,by decide +kernel,by decide +kernel⟩ rfl (zbs (by rfl) T.range (za (zw (zh K rfl) (by rfl) T.len boot_len (za (pv 2) zc)) zc)) (fun _ _ _ _=>za3 (i:=0) (show List.Nodup (["_law_k","_law_word","_law_script"]:List Str) by decide +kernel) rfl (Or.inl rfl)) (fun _ _ _ _=>zer) (fun _ _ _ _=>(zba (zdl T) (hr.mono (by decide)) (by rfl) (za (pv 1) (za (zba (za0 T) (hr.mono (by decide)) (by rfl) (za (pv 2) (za zf zc))) (za (pv 0) zc))))))
      (zd (zac (i:=5) sc_law.nd rfl (Or.inl rfl) (zba (zjr T) (hr.mono (by decide)) (by rfl) (za (pv 4) (za (zar (zaz K rfl) (pv 0) (zax zf) (zax zf)) zc))))
      (zd (zj5 (i:=6) (own:=["_law_k"]) (cap:=["_law_groups_here"]) (ix:=[3]) (osc:=zr (top 33)) rfl sc_law.nd rfl rfl rfl ⟨rfl,by decide +kernel,by decide +kernel,by decide +kernel,by decide +kernel⟩ rfl (zbs (by rfl) T.range (za (zw (zh K rfl) (by rfl) T.len boot_len (za (pv 3) zc)) zc)) (fun _ _ _ _=>za3 (i:=0) (show List.Nodup (["_law_k","_law_groups_here"]:List Str) by decide +kernel) rfl (Or.inl rfl)) (fun _ _ _ _=>zer) (fun _ _ _ _=>(zba (zcy T) (hr.mono (by decide)) (by rfl) (za (zg zby (zg zby (zw (zh K rfl) (by rfl) T.len boot_len (za (pv 1) zc)) zf) (pv 0)) (za (zbc (zaf K rfl) (pv 1) (zg zby (zg zby (zw (zh K rfl) (by rfl) T.len boot_len (za (pv 1) zc)) zf) (pv 0)) (fun _ _=>rfl)) zc)))))
      (zd (zj5 (i:=7) (own:=["_law_one","_law_other"]) (cap:=[]) (ix:=[]) (osc:=zr (top 33)) rfl sc_law.nd rfl rfl rfl ⟨rfl,by decide +kernel,by decide +kernel,by decide +kernel,by decide +kernel⟩ rfl (zcm K rfl (pv 5)) (fun _ _ _ _=>zj8 (n:=2) K rfl rfl (zdo (za3 (i:=0) (show List.Nodup (["_law_one","_law_other"]:List Str) by decide +kernel) rfl (Or.inl rfl)) (zdo (za3 (i:=1) (show List.Nodup (["_law_one","_law_other"]:List Str) by decide +kernel) rfl (Or.inl rfl)) zj0))) (fun _ _ _ _=>zer) (fun _ _ _ _=>(zg ze (zg ze (pv 0) zx) (pv 1))))
      (zd (zdd PassesOwn.never rfl (zbs (by rfl) T.range (za zf zc)) (za3 (i:=8) sc_law.nd rfl (Or.inl rfl)) (zd (zt0 (zba (zg0 T) (hr.mono (by decide)) (by rfl) (za (pv 6) (za (pv 7) (za (pv 3) (za (zg zay (zg zbl (zba (za0 T) (hr.mono (by decide)) (by rfl) (za (pv 0) (za zf zc))) (zg zt2 zf zf)) (pv 8)) zc))))) (zj8 K rfl rfl (zdo (za3 (i:=9) sc_law.nd rfl (Or.inl rfl)) (zdo (za3 (i:=10) sc_law.nd rfl (Or.inl rfl)) zj0))))
        (zm (zbg (PW.pt (zhs (zdy (zc7 (zba (za1 T) (hr.mono (by decide)) (by rfl) (za (zbu K rfl PySem.F.plainAttrs_str PySem.F.slot_str_join PySem.F.type_str_join (zfl K rfl) zx (za (pv 9) zc)) (za (pv 10) zc))))) (ze2 (zdy (zc7 (zba (zel T) (hr.mono (by decide)) (by rfl) (za (pv 9) (za (pv 10) (za (zg zay (zba (za0 T) (hr.mono (by decide)) (by rfl) (za (pv 0) (za zf zc))) (pv 8)) zc))))))))) (zm (zak zb4)) zan))))
      (zd (zac (i:=11) sc_law.nd rfl (Or.inl rfl) (zbu K rfl PySem.F.plainAttrs_str PySem.F.slot_str_join PySem.F.type_str_join (zfl K rfl) zx (za (zg (zaw K rfl) (pv 6) (pv 7)) zc)))
      (zd (zbg (zdy (zc7 (zba (za1 T) (hr.mono (by decide)) (by rfl) (za (zg ze (pv 11) zx) (za (zg zay (zg zay (zw (zh K rfl) (by rfl) T.len boot_len (za (pv 6) zc)) (zw (zh K rfl) (by rfl) T.len boot_len (za (pv 7) zc))) zf) zc))))) (zm (zak zb4)) zan)
      (zd (zbg (PW.pt (zhs (zdy (zc7 (zba (za1 T) (hr.mono (by decide)) (by rfl) (za (zbc (zaf K rfl) (zaq (za ziu (za zf (za (zaq (za zx zc)) (za (zbz zc) (za zb4 zc)))))) (zg zbl (zba (za0 T) (hr.mono (by decide)) (by rfl) (za (pv 0) (za zf zc))) zf) (fun _ _=>rfl)) (za zf zc))))) (ze2 (zah zo4 (zqm K rfl (zte (za8 T) T.zce (hr.mono (by decide)) (by rfl) T.zcd (by decide) (za zf zc)) rfl) zf (zau _))))) (zm (zak zb4)) zan)
      (zd (zdd PassesOwn.never rfl (zbs (by rfl) T.range (za zf zc)) (za3 (i:=8) sc_law.nd rfl (Or.inl rfl)) (zm (zbg (zdy (zc7 (zba (za1 T) (hr.mono (by decide)) (by rfl) (za (zg ze (zg ze (zg ze zx (zg (zqn 48) zx (zg zay zf (pv 8)))) zx) (zbc (zaf K rfl) (pv 4) zf (fun _ _=>rfl))) (za (zg zby zf (pv 8)) zc))))) (zm (zak zb4)) zan)))
      (zm (zak (zfq (zh3 K rfl (hu10 hr)) (zba (zio T) (hr.mono (by decide)) (by rfl) (za (pv 11) zc)) (zbz (za (pv 3) (za (pv 5) zc))) (zau _)))))))))))))))),?_⟩
    refine⟨_,rfl,a,ns,_,rfl,ha,by decide,_,rfl,a,ns,_,rfl,ha,by decide,_,_,1,rfl,by decide,fun pn xs H1 x1 x2 x3 fpn hn s1=>?_⟩
    obtain⟨x,rfl⟩:∃x,xs = [x]:=List.length_eq_one_iff.mp x1
    obtain⟨w1,w2⟩:=zv3 (x3 x (List.mem_cons_self ..))
    have lx:=zcx (x3 x (List.mem_cons_self ..))
    refine⟨pn,_,_,_,rfl,rfl,SqL.of hn,zjc,_,rfl,x,rfl,zai (by omega),?_⟩
    generalize Txt.slice x none (some 8)=word at w1 w2
    try dsimp only [zap]
    obtain⟨cells0,ec0,lc0⟩:=zlt (ns:=ns) (a:=5) (b:=24)
    refine⟨_,rfl,a,ns,_,rfl,s1.seq ha,by decide,by show 1<=sizeLine;decide,fun p1 hp1=>?_⟩
    have t2:=Same.new (o:=.lst [.int (zbn ns 4)]) hp1
    have q2:=s1.trans t2
    refine⟨_,rfl,_,rfl,_,rfl,a,_,rfl,q2.seq ha,fun p2 hp2=>?_⟩
    rw[show cutV (ns.map V.int) (some 5) (some 24)=cells0.map V.int from ec0]
    have t3:=Same.new (o:=.lst (cells0.map V.int)) hp2
    refine⟨p1,p2,_,_,rfl,rfl,SqL.of (t3 _ _ zb),SqL.of zb,by rw[List.length_map];exact zai (by show 1+cells0.length<=1000;omega),fun pc hpc=>?_⟩
    obtain⟨cells,ecl⟩:∃cells,cells=zbn ns 4::cells0:=⟨_,rfl⟩
    rw[show [V.int (zbn ns 4)]++cells0.map V.int=cells.map V.int from by rw[ecl];rfl]
    have lc:cells.length<=20:=by rw[ecl,List.length_cons];omega
    have lc1:1<=cells.length:=by rw[ecl,List.length_cons];omega
    have t4:=Same.new (o:=.lst (cells.map V.int)) hpc
    have q4:=q2.trans (t3.trans t4)
    have e4:upd (upd (upd H1 p1 (.lst [.int (zbn ns 4)])) p2 (.lst (cells0.map V.int))) pc (.lst (cells.map V.int)) pc=some (.lst (cells.map V.int)):=zb
    generalize upd (upd (upd H1 p1 (.lst [.int (zbn ns 4)])) p2 (.lst (cells0.map V.int))) pc (.lst (cells.map V.int))=H4 at t4 q4 e4
    clear t3 t4 t2 q2 s1 hp1 hp2 hpc ecl
    try dsimp only [zap]
    refine⟨_,rfl,_,rfl,a,ns,_,rfl,q4.seq ha,by decide,_,rfl,word,zbn ns 2,pc,cells,rfl,by omega,SqL.of e4,by omega,fun pg cs gs H5 s5 fpg hg fcs pr gne gri gpm=>?_⟩
    have q5:=q4.trans s5
    have e5:=s5 _ _ e4
    clear s5 e4 q4 fpg fcs
    try dsimp only [zap]
    have ha5:=q5.seq ha
    refine⟨_,rfl,pc,_,rfl,.inl (SqL.of e5),(cells.length:Int),by rw[List.length_map],by omega,by omega,fun D hD=>?_⟩
    refine zdf (zj6 (lo:=0) (n:=cells.length)) (fun _=>true) (numF word (zbn ns 2)) (fun _=>trivial) (by rw[List.length_map,List.length_range];exact zai (by omega)) (fun v hv ys Q' q=>q) (fun v hv _ ys Q' q'=>?_) ?_
    · obtain⟨j,hj,rfl⟩:=List.mem_map.mp hv
      have hj:=List.mem_range.mp hj
      have ez:(0:Int)+(j:Int)=(j:Int):=Int.zero_add _
      rw[ez] at q' ⊢
      exact⟨_,rfl,_,rfl,a,ns,_,rfl,(Same.new hD).seq ha5,by decide,_,rfl,word,zbn ns 2,j,rfl,by omega,by omega,q'⟩
    have el:(((List.range cells.length).map fun i=>V.int ((0:Int)+(i:Nat))).filter fun _=>true).map (numF word (zbn ns 2))=(zd3 word (decide (zbn ns 2%2=1)) cells.length).map V.str:=by
      rw[List.filter_eq_self.mpr (fun _ _=>rfl)]
      unfold zd3
      rw[List.map_map,List.map_map]
      refine List.map_congr_left fun i hi=>?_
      show V.str (numT word _ ((0:Int)+(i:Nat)).toNat)=_
      rw[show ((0:Int)+(i:Nat)).toNat=i by omega]
      rfl
    rw[el]
    have nl:(zd3 word (decide (zbn ns 2%2=1)) cells.length).length=cells.length:=zgj ..
    have nn:=zmo w1 w2 (o:=decide (zbn ns 2%2=1)) (n:=cells.length) (by omega)
    have nd:=zko (word:=word) (o:=decide (zbn ns 2%2=1)) (n:=cells.length) (by omega)
    have nz:=zvd word (decide (zbn ns 2%2=1)) cells.length
    generalize zd3 word (decide (zbn ns 2%2=1)) cells.length=names at gpm nl nn nd nz
    clear el
    have t6:=Same.new (o:=.lst (names.map V.str)) hD
    have e6:upd H5 D (.lst (names.map V.str)) D=some (.lst (names.map V.str)):=zb
    have hg6:=t6 _ _ hg
    have pr6:Paired (fun c g=>upd H5 D (.lst (names.map V.str)) c=some (.lst (g.map V.str))) cs gs:=Paired.mapP pr fun _ _ h=>t6 _ _ h
    have q6:=q5.trans t6
    generalize upd H5 D (.lst (names.map V.str))=H6 at t6 e6 hg6 pr6 q6
    clear hg pr t6 q5 hD e5 ha5
    have nne:names≠[]:=fun z=>by rw[z] at nl;simp at nl;omega
    try dsimp only [zap]
    obtain⟨cells2,ec2,lc2⟩:=zlt (ns:=ns) (a:=24) (b:=36)
    refine⟨_,rfl,_,rfl,_,rfl,_,rfl,a,_,rfl,q6.seq ha,fun pc3 hpc3=>?_⟩
    rw[show cutV (ns.map V.int) (some 24) (some 36)=cells2.map V.int from ec2]
    have t7:=Same.new (o:=.lst (cells2.map V.int)) hpc3
    refine⟨D,pc3,names,cells2,rfl,SqL.of (t7 _ _ e6),SqL.of zb,by omega,nne,by omega,fun pp bs qs H7 s7 fpp hp pq ql lq qm=>?_⟩
    have s67:=t7.trans s7
    have hg7:=s67 _ _ hg6
    have e7:=s67 _ _ e6
    have pr7:Paired (fun c g=>H7 c=some (.lst (g.map V.str))) cs gs:=Paired.mapP pr6 fun _ _ h=>s67 _ _ h
    have q7:=q6.trans s67
    have M:MatOk gs qs:=⟨gne,gri,fun g hg x hx=>nn x (gpm.mem_iff.mp (List.mem_flatten.mpr ⟨g,hg,hx⟩)),gpm.nodup_iff.mpr nd,ql,fun p hp=>⟨gpm.mem_iff.mpr (qm p hp).1,gpm.mem_iff.mpr (qm p hp).2⟩,by rw[gpm.length_eq];omega,by omega⟩
    have l20:gs.flatten.length<=20:=by rw[gpm.length_eq];omega
    have l12:qs.length<=12:=by omega
    have zz:zy ZZ ∉ gs.flatten:=fun z=>nz (gpm.mem_iff.mp z)
    have gne0:gs≠[]:=fun z=>by
      rw[z] at gpm
      have:=gpm.length_eq
      simp at this
      omega
    have hN:0<gs.length:=List.length_pos_iff.mpr gne0
    have hN20:gs.length<=20:=Nat.le_trans (zfn M.rne) l20
    have lcs:cs.length=gs.length:=Paired.length pr7
    have lcm:(cs.map V.ref).length=gs.length:=by rw[List.length_map,lcs]
    have lbs:bs.length=qs.length:=Paired.length pq
    clear hg6 pr6 q6 s67 t7 s7 hpc3 e6
    try dsimp only [zap]
    refine⟨_,rfl,pg,_,rfl,.inl (SqL.of hg7),(gs.length:Int),by rw[lcm],by omega,by omega,fun E' hE=>?_⟩
    refine zdf (zj6 (lo:=0) (n:=gs.length)) (fun _=>true) (fun v=>match v with | .int z=>.str (rowT ((gs.length-1-z.toNat:Nat):Int) (gs.getD (gs.length-1-z.toNat) [])) | _=>.non) (fun _=>trivial) (by rw[List.length_map,List.length_range];exact zai (by omega)) (fun v hv ys Q' q=>q) (fun v hv _ ys Q' q'=>?_) ?_
    · obtain⟨j,hj,rfl⟩:=List.mem_map.mp hv
      have hj:=List.mem_range.mp hj
      have ez:(0:Int)+(j:Int)=(j:Int):=Int.zero_add _
      rw[ez] at q' ⊢
      have t8:Same H7 (upd H7 E' (.lst ys)):=Same.new hE
      have hjc:gs.length-1-j<cs.length:=by omega
      obtain⟨g,eg,hgv⟩:=Paired.get' pr7 (List.getElem?_eq_getElem hjc)
      have gD:gs.getD (gs.length-1-j) []=g:=by rw[List.getD_eq_getElem?_getD,eg];rfl
      have en:(((cs.map V.ref).length:Nat):Int)-1-(j:Int)=((gs.length-1-j:Nat):Int):=by rw[lcm];omega
      have at1:atI (cs.map V.ref) ((gs.length-1-j:Nat):Int)=some (.ref cs[gs.length-1-j]):=zbr (by rw[List.getElem?_map,List.getElem?_eq_getElem hjc];rfl)
      have hgm:=List.mem_of_getElem? eg
      refine⟨_,rfl,pg,_,rfl,.inl (SqL.of (t8 _ _ hg7)),_,_,rfl,rfl,_,rfl,_,_,rfl,rfl,_,rfl,_,rfl,pg,_,rfl,.inl (SqL.of (t8 _ _ hg7)),_,_,rfl,rfl,_,rfl,_,_,rfl,rfl,?_⟩
      try dsimp only
      rw[en]
      refine⟨pg,_,_,_,rfl,rfl,SqL.of (t8 _ _ hg7),at1,gs.length-1-j,cs[gs.length-1-j],g,rfl,SqL.of (t8 _ _ hgv),by omega,M.rne _ hgm,M.nm _ hgm,M.rw63 hgm,?_⟩
      rw[←gD]
      exact q'
    have el:(((List.range gs.length).map fun i=>V.int ((0:Int)+(i:Nat))).filter fun _=>true).map (fun v=>match v with | .int z=>.str (rowT ((gs.length-1-z.toNat:Nat):Int) (gs.getD (gs.length-1-z.toNat) [])) | _=>.non)=(lvT gs).map V.str:=by
      rw[List.filter_eq_self.mpr (fun _ _=>rfl)]
      unfold lvT
      rw[List.map_map,List.map_map]
      refine List.map_congr_left fun i hi=>?_
      show V.str (rowT ((gs.length-1-((0:Int)+(i:Nat)).toNat:Nat):Int) (gs.getD (gs.length-1-((0:Int)+(i:Nat)).toNat) []))=_
      rw[show ((0:Int)+(i:Nat)).toNat=i by omega]
      rfl
    rw[el]
    have t8:=Same.new (o:=.lst ((lvT gs).map V.str)) hE
    have e8:upd H7 E' (.lst ((lvT gs).map V.str)) E'=some (.lst ((lvT gs).map V.str)):=zb
    have hg8:=t8 _ _ hg7
    have hp8:=t8 _ _ hp
    have e78:=t8 _ _ e7
    have pr8:Paired (fun c g=>upd H7 E' (.lst ((lvT gs).map V.str)) c=some (.lst (g.map V.str))) cs gs:=Paired.mapP pr7 fun _ _ h=>t8 _ _ h
    have pq8:Paired (fun a (p:SS)=>SqT K (upd H7 E' (.lst ((lvT gs).map V.str))) a [.str p.1,.str p.2]) bs qs:=Paired.mapP pq fun _ _ h=>t8.tup h
    have q8:=q7.trans t8
    generalize upd H7 E' (.lst ((lvT gs).map V.str))=H8 at t8 e8 hg8 hp8 e78 pr8 pq8 q8
    clear hg7 hp e7 pr7 pq t8 q7 hE el
    try dsimp only [zap]
    refine⟨_,rfl,pp,rfl,⟨_,SqL.of hp8⟩,fun F hF=>?_⟩
    refine zk6 (zh1 (K:=K) (a:=pp) (xs:=bs.map V.ref)) (fun i σ' ys H'=>∃w0 w1,σ' = [w0,w1]/\ys=((qs.take i).map zp).map V.str/\Same H8 H'/\H' F=some (.lst ys))
      ⟨none,none,rfl,by simp,Same.new hF,zb⟩ (fun i σ' ys H' h=>?_) (by rw[List.length_map];exact zai (by omega)) ?_ ?_
    · obtain⟨_,_,_,rfl,q,hd⟩:=h
      refine⟨SqL.of (q _ _ hp8),hd,?_⟩
      rw[List.length_map,List.length_map,List.length_take]
      omega
    · rintro i v σ' ys H' hx' ⟨w0,w1',rfl,rfl,q,hd⟩
      have hix:=ze4 hx'
      rw[List.length_map] at hix
      rw[List.getElem?_map,List.getElem?_eq_getElem hix] at hx'
      cases hx'
      obtain⟨⟨u,l⟩,hpl,hb⟩:=Paired.get' pq8 (List.getElem?_eq_getElem hix)
      obtain⟨n1,n2⟩:=M.qn (List.mem_of_getElem? hpl)
      have k1:=LOk.name n1
      have k2:=LOk.name n2
      have k3:=LOk.lit (x:=Str.ofString " > ") (by decide +kernel)
      refine⟨_,_,rfl,q.tup hb,rfl,_,_,rfl,_,_,rfl,rfl,?_⟩
      try dsimp only [zap]
      unfold tYes
      dsimp only
      rw[if_pos rfl]
      refine⟨_,rfl,_,_,rfl,rfl,zab k1 k3 (by decide),_,rfl,_,_,rfl,rfl,zab (k1.app k3) k2 (by decide),hd,zuo (by rw[List.length_map];exact hix) ⟨_,_,rfl,?_,q.upd hF,zb⟩⟩
      have ep:zp (u,l)=u++Str.ofString " > " ++ l:=by
        show Str.empty++u++Str.ofString " > " ++ l=_
        rw[zeu]
      rw[List.take_add_one,hpl,List.map_append,List.map_append]
      show _=_++[V.str (zp (u,l))]
      rw[ep]
    rintro σ' ys H9 ⟨w0,w1',rfl,rfl,s9,e9⟩
    rw[List.length_map,lbs,List.take_length] at e9
    have hg9:=s9 _ _ hg8
    have hp9:=s9 _ _ hp8
    have e89:=s9 _ _ e8
    have e79:=s9 _ _ e78
    have pr9:Paired (fun c g=>H9 c=some (.lst (g.map V.str))) cs gs:=Paired.mapP pr8 fun _ _ h=>s9 _ _ h
    have pq9:Paired (fun a (p:SS)=>SqT K H9 a [.str p.1,.str p.2]) bs qs:=Paired.mapP pq8 fun _ _ h=>s9.tup h
    have q9:=q8.trans s9
    clear hg8 hp8 e8 e78 pr8 pq8 q8 s9 hF
    try dsimp only [zap]
    refine⟨(5:Int),rfl,by decide,by decide,?_⟩
    refine zde (lo:=0) (n:=5) (fun i σ H'=>∃(v8 v9 v10:Option V),σ = [some (.ref a),some (.str word),some (.ref pc),some (.ref pg),some (.ref D),some (.ref pp),some (.ref E'),some (.ref F),v8,v9,v10,none]/\Same H9 H')
      ⟨none,none,none,rfl,Same.refl _⟩ ?_ ?_
    · rintro i σ H10 hi ⟨v8,v9,v10,rfl,s10⟩
      have q10:=q9.trans s10
      obtain⟨c,hc⟩:∃c:Nat,zbn ns 3%10 ^ (9:Int).toNat+(0+(i:Int))=(c:Int):=by
        have:=Int.emod_nonneg (zbn ns 3) (show ((10:Int) ^ (9:Int).toNat)≠0 by decide)
        exact⟨_,(Int.toNat_of_nonneg (by omega)).symm⟩
      refine⟨_,rfl,_,rfl,_,rfl,_,rfl,a,ns,_,rfl,q10.seq ha,by decide,_,_,rfl,rfl,⟨by decide,by decide,by decide⟩,_,_,rfl,rfl,(by decide:(0:Int)<10 ^ (9:Int).toNat),_,rfl,_,_,rfl,rfl,?_⟩
      try dsimp only
      rw[hc]
      refine⟨E',F,pg,cs,gs,qs,c,rfl,s10 _ _ e89,s10 _ _ e9,s10 _ _ hg9,Paired.mapP pr9 (fun _ _ h=>s10 _ _ h),M,gne0,l20,l12,zz,fun t a1 ls r H11 s11 ht ha1 S=>?_⟩
      refine⟨t,_,rfl,SqT.of ht,rfl,_,_,rfl,_,_,rfl,rfl,?_⟩
      try dsimp only [zap]
      refine za5 false (fun Q' hQ=>?_) (fun H12 s12=>iteF ⟨_,_,_,rfl,s10.trans (s11.trans s12)⟩)
      refine⟨rfl,_,rfl,_,a1,_,rfl,rfl,SqL.of ha1,(zdi (by have:=S.many;omega) fun l h=>(S.line l h).len).2,_,rfl,_,r,rfl,.inl ⟨ls,rfl,S.text,S.ref⟩,fun H12 s12=>⟨_,rfl,iteF ?_⟩⟩
      exact⟨_,rfl,_,rfl,_,rfl,a,ns,_,rfl,(q10.trans (s11.trans s12)).seq ha,by decide,_,rfl,_,_,rfl,rfl,a1,gs,qs,ls,r,_,rfl,SqL.of (s12 _ _ ha1),M,S,fun H13 s13=>⟨_,rfl,hQ _ (s12.trans s13)⟩⟩
    rintro σ H10 ⟨v8,v9,v10,rfl,s10⟩
    have lvl:=zoq gs
    have lL:(lvT gs++qs.map zp).length=gs.length+qs.length:=by rw[List.length_append,lvl,List.length_map]
    have lines:∀l∈lvT gs++qs.map zp,zb0 l:=fun l h=>M.lineOk l20 h
    obtain⟨bd1,bd2⟩:=zdi (ls:=lvT gs++qs.map zp) (by omega) fun l h=>(lines l h).len
    try unfold zbf
    try dsimp only
    refine⟨rfl,_,rfl,_,rfl,E',F,_,_,rfl,rfl,SqL.of (s10 _ _ e89),SqL.of (s10 _ _ e9),by rw[List.length_map,List.length_map,List.length_map];exact zai (by omega),fun u hu=>?_⟩
    rw[←List.map_append]
    have t11:=Same.new (o:=.lst ((lvT gs++qs.map zp).map V.str)) hu
    refine⟨_,u,_,rfl,rfl,SqL.of zb,bd2,?_⟩
    have s11:=s10.trans t11
    generalize upd H10 u (.lst ((lvT gs++qs.map zp).map V.str))=H11 at s11
    clear t11 hu s10
    try dsimp only [zap]
    have lvN:(lvT gs).take gs.length=lvT gs:=List.take_of_length_le (by omega)
    have rN:=ze7 M gs.length (Nat.le_refl _)
    rw[lvN] at rN
    have stN:(stL gs gs.length).ks=gs.reverse.flatten:=by
      unfold stL
      rw[List.take_of_length_le (by rw[List.length_reverse];omega)]
    have rA:=rN.app (zdk (ps:=qs) (fun p hp=>by
      obtain⟨n1,n2⟩:=M.qn hp
      obtain⟨m1,m2⟩:=M.qm p hp
      rw[stN]
      exact⟨n1,n2,flat_rev_mem.mpr m1,flat_rev_mem.mpr m2⟩) (by show ([]++qs).Pairwise _;rw[List.nil_append];exact M.ql))
    have Lne:lvT gs++qs.map zp≠[]:=fun z=>by rw[z] at lL;simp at lL;omega
    refine za5 false (fun Q' hQ=>?_) (fun H12 s12=>iteF ?_)
    · refine⟨_,rfl,_,_,rfl,rfl,Nat.le_trans (Nat.add_le_add bd1 (by decide +kernel:(Str.ofString "\n" : Str).length<=1)) (by decide),_,rfl,E',_,rfl,.inl (SqL.of (s11 _ _ e89)),_,rfl,F,_,rfl,.inl (SqL.of (s11 _ _ e9)),_,_,rfl,rfl,_,_,rfl,rfl,?_⟩
      try dsimp only
      rw[List.length_map,List.length_map,List.length_map,lvl,show (gs.length:Int)+(qs.length:Int)+1=((gs.length+qs.length+1:Nat):Int) from by omega,show Txt.join (Str.ofString "\n") (lvT gs++qs.map zp)++Str.ofString "\n" = Txt.join "\n" (lvT gs++qs.map zp++[Str.ofString ""]) from zov Lne]
      refine⟨_,_,rfl,.inl ⟨_,rfl,.of (fun l h=>?_) (by rw[List.length_append];show _+1<=36;omega) (.inl (by rw[List.length_append];show 2<=_+1;omega)),?_⟩,fun H12 s12=>⟨_,rfl,hQ _ s12⟩⟩
      · rcases List.mem_append.mp h with h | h
        · exact lines l h
        · rw[List.mem_singleton.mp h]
          exact (LOk.lit (x:=Str.ofString "") (by decide +kernel)).mono (by decide) (by decide)
      · have:=zgn (post:=[]) (x:=Str.ofString "") rA (zif (w:=Str.ofString "") (r:=[]) (by decide +kernel) (by decide +kernel) fun b e=>nomatch e)
        rw[lL] at this
        exact this
    have s12':=s11.trans s12
    clear s11 s12
    try unfold zbf
    try dsimp only
    refine za5 false (fun Q' hQ=>?_) (fun H13 s13=>iteF ?_)
    · refine⟨by show 1<=sizeLine;decide,fun l1 hl1=>?_⟩
      have t13:=Same.new (o:=.lst [.str (Str.ofString "0: a")]) hl1
      refine⟨by show 0<=sizeLine;decide,fun l2 hl2=>?_⟩
      have t14:=Same.new (o:=.tup []) hl2
      refine⟨by show 5<=sizeLine;decide,fun l5 hl5=>?_⟩
      have t15:=Same.new (o:=.lst [.non,.int 5,.ref l1,.ref l2,.bl true]) hl5
      have s15:=t13.trans (t14.trans t15)
      have e1:=t15 _ _ (t14 _ _ (zb (H:=H12) (a:=l1) (o:=.lst [.str (Str.ofString "0: a")])))
      have e2:=t15 _ _ (zb (H:=upd H12 l1 (.lst [.str (Str.ofString "0: a")])) (a:=l2) (o:=.tup []))
      have e5:upd (upd (upd H12 l1 (.lst [.str (Str.ofString "0: a")])) l2 (.tup [])) l5 (.lst [.non,.int 5,.ref l1,.ref l2,.bl true]) l5=some (.lst [.non,.int 5,.ref l1,.ref l2,.bl true]):=zb
      generalize upd (upd (upd H12 l1 (.lst [.str (Str.ofString "0: a")])) l2 (.tup [])) l5 (.lst [.non,.int 5,.ref l1,.ref l2,.bl true])=H15 at s15 e1 e2 e5
      obtain⟨v,ev,hv⟩:∃v,atI [V.non,.int 5,.ref l1,.ref l2,.bl true] (zbn ns 2%5)=some v/\RefV (K:=K) H15 v 0:=by
        have:zbn ns 2%5=0\/zbn ns 2%5=1\/zbn ns 2%5=2\/zbn ns 2%5=3\/zbn ns 2%5=4:=by omega
        rcases this with z | z | z | z | z<;>rw[z]
        · exact⟨_,rfl,.inr ⟨_,fun H' s'=>.non,rfl,rfl⟩⟩
        · exact⟨_,rfl,.inr ⟨_,fun H' s'=>.int _,rfl,rfl⟩⟩
        · exact⟨_,rfl,.inr ⟨_,fun H' s'=>.lst (s' _ _ e1),rfl,rfl⟩⟩
        · exact⟨_,rfl,.inr ⟨_,fun H' s'=>.tup (s' _ _ e2),rfl,rfl⟩⟩
        · exact⟨_,rfl,.inr ⟨_,fun H' s'=>.bl _,rfl,rfl⟩⟩
      refine⟨_,rfl,a,ns,_,rfl,((q9.trans s12').trans s15).seq ha,by decide,_,_,rfl,rfl,(by decide:(0:Int)<5),l5,_,_,v,rfl,rfl,SqL.of e5,ev,v,0,rfl,hv,fun H16 s16=>⟨_,rfl,iteF ?_⟩⟩
      intro e he
      have t17:=Same.new (o:=excO e C_NoMatrix none) he
      refine⟨e,7,rfl,zb,by decide,fun d nd hd=>⟨rfl,some d,zb,?_⟩⟩
      refine⟨e,C_NoMatrix,d,_,_,rfl,zb,by rw[zj nd,zb],T.za9,T.zcf,rfl,rfl,_,rfl,?_⟩
      refine hQ _ (s15.trans (s16.trans fun b o hb=>?_))
      have n1:=zk hb he
      rw[zj nd] at hd
      rw[zj n1,zj (zk hb hd),zj n1]
      exact hb
    have s13':=s12'.trans s13
    clear s12' s13
    try unfold zbf
    try dsimp only
    refine⟨(2:Int),rfl,by decide,by decide,?_⟩
    obtain⟨nm0,rn,enm⟩:∃nm0 rn,names=nm0::rn:=by
      cases names with
      | nil=>exact absurd rfl nne
      | cons x r=>exact⟨x,r,rfl⟩
    have hn0:zaj nm0=true:=nn _ (by rw[enm];exact List.mem_cons_self ..)
    refine zde (lo:=0) (n:=2) (fun i σ H'=>∃(v8:Option V),σ = [some (.ref a),some (.str word),some (.ref pc),some (.ref pg),some (.ref D),some (.ref pp),some (.ref E'),some (.ref F),v8,v9,v10,some (.str (Txt.join "\n" (lvT gs++qs.map zp)))]/\Same H9 H')
      ⟨v8,rfl,s13'⟩ ?_ ?_
    · rintro i σ H14 hi ⟨v8,rfl,s14⟩
      try dsimp only [zap]
      have h1:=LOk.lit (x:=Str.ofString "1") (by decide +kernel)
      have h2:=LOk.lit (x:=Str.ofString ": ") (by decide +kernel)
      have ez:(0:Int)+(i:Int)=(i:Int):=Int.zero_add _
      have h3:LOk 61 0 (⟨(List.replicate (59+i) 48).toArray⟩:Str):=by
        have:i=0\/i=1:=by omega
        rcases this with rfl | rfl
        · exact⟨by decide +kernel,by decide +kernel,by decide +kernel⟩
        · exact⟨by decide +kernel,by decide +kernel,by decide +kernel⟩
      have en:((59:Int)+(0+(i:Int))).toNat=59+i:=by omega
      have h3':=h3
      rw[←en] at h3'
      refine za5 false (fun Q' hQ=>?_) (fun H15 s15=>iteF ⟨_,rfl,s14.trans s15⟩)
      refine⟨_,rfl,_,_,rfl,rfl,(59:Int)+(0+(i:Int)),(by decide +kernel),rfl,by omega,by omega,_,_,rfl,rfl,zab h1 h3' (by decide),_,_,rfl,rfl,zab (h1.app h3') h2 (by decide),_,rfl,D,_,_,_,rfl,rfl,SqL.of (s14 _ _ e79),by rw[enm];exact zjc,_,_,rfl,rfl,zab ((h1.app h3').app h2) (LOk.name hn0) (by decide),_,rfl,_,_,rfl,rfl,?_⟩
      try dsimp only
      rw[en,ez,show (2:Int)-(i:Int)=((2-i:Nat):Int) from by omega]
      obtain⟨hT,hR⟩:=zts hi hn0
      exact⟨_,_,rfl,.inl ⟨[bigT i nm0],rfl,hT,hR⟩,fun H15 s15=>⟨_,rfl,hQ _ s15⟩⟩
    rintro σ H14 ⟨v8',rfl,s14⟩
    try unfold zbf
    try dsimp only
    have hTx:TextOk (lvT gs++qs.map zp):=.of lines (by omega) (by
      by_cases c:2<=(lvT gs++qs.map zp).length
      · exact .inl c
      · have h1:gs.length=1:=by omega
        have h2:qs = []:=List.length_eq_zero_iff.mp (by omega)
        obtain⟨hm',_⟩:=zc4 (rows:=gs) (i:=gs.length-1-0) (by omega)
        refine .inr ⟨rowT ((gs.length-1-0:Nat):Int) (gs.getD (gs.length-1-0) []),?_,fun z=>?_⟩
        · have:lvT gs=(lvT gs).take 1:=(List.take_of_length_le (by omega)).symm
          rw[h2,List.map_nil,List.append_nil,this,List.take_add_one,List.take_zero,zlv hN]
          rfl
        · have sp:=zb8 ((gs.length-1-0:Nat):Int) (M.rne _ hm') (M.nm _ hm')
          rw[z] at sp
          have:=congrArg List.length sp
          have e1:(Txt.split ("" : Str) " ").length=1:=by decide +kernel
          rw[e1,List.length_cons] at this
          exact M.rne _ hm' (List.length_eq_zero_iff.mp (by omega)))
    refine⟨_,rfl,lvT gs++qs.map zp,_,rfl,hTx,rA,?_,fun t a' b' cs' bs' H15 s15 ht ha' pr' hb' pq'=>?_⟩
    · show (if gs.length=0 then none else some ((gs.length-gs.length:Nat):Int))=some 0
      rw[if_neg (by omega),Nat.sub_self]
      rfl
    have q15:=s14.trans s15
    refine⟨_,rfl,_,rfl,by show 2<=sizeLine;decide,fun u2 hu2=>?_⟩
    have t16:=Same.new (o:=.tup [.ref pg,.ref pp]) hu2
    have q16:=q15.trans t16
    have er:(stL gs gs.length).rows.reverse=gs:=by
      unfold stL
      rw[List.take_of_length_le (by rw[List.length_reverse];omega),List.reverse_reverse]
    have pr'':Paired (fun c row=>upd H15 u2 (.tup [.ref pg,.ref pp]) c=some (.lst (row.map V.str))) cs' gs:=by
      have:=Paired.mapP pr' fun _ _ h=>t16 _ _ h
      rw[show (MS.rows ⟨(stL gs gs.length).nv,(stL gs gs.length).rows,(stL gs gs.length).ks,(stL gs gs.length).qs++qs⟩).reverse=gs from er] at this
      exact this
    refine⟨t,u2,true,rfl,rfl,DEq.sameT (n:=7) (SqT.of (t16 _ _ ht)) (SqT.of zb) rfl (fun i x y ex ey=>?_),k _⟩
    match i,ex,ey with
    | 0,ex,ey=>
      cases ex
      cases ey
      exact zmp (n:=5) (t16 _ _ ha') (q16 _ _ hg9) pr'' (Paired.mapP pr9 fun _ _ h=>q16 _ _ h)
    | 1,ex,ey=>
      cases ex
      cases ey
      exact zsu (n:=5) (SqL.of (t16 _ _ hb')) (SqL.of (q16 _ _ hp9)) (Paired.mapP pq' fun _ _ h=>SqT.of (t16 _ _ h)) (Paired.mapP pq9 fun _ _ h=>q16.tup h)
    | n+2,ex,ey=>cases ex
end
end LK73
open PySem PySem.W PyProof.Rows
set_option maxRecDepth 100000 in
set_option maxHeartbeats 0 in
theorem PySem.Challenge.cw_digmatrix_k73_no_matrix_holds : PySem.Challenge.rw_digmatrix_k73_no_matrix.Holds := by
  w_on;o_law;k_head;(case hw=>w_witness2)
  k_fill
  refine L2.law_walk (l:=PySem.Challenge.rw_digmatrix_k73_no_matrix) (k:=LK73.kLaw) (x:="_law_script") (sp:=fun K=>LK73.sp_law (K:=K)) rfl rfl ⟨rfl,by decide,by decide⟩ (fun w h Y=>PySem.W.kIn_of Y) (fun K H a ns hl hS=>⟨a,ns,rfl,hS,hl,fun _=>rfl⟩) ?F
  case F=>
    intro w mg h KX G
    have T:∃C_MatrixReading,∃zq,∃zo,∃zad,∃zal,∃zu,∃C_NoMatrix,∃zae,LK73.Tx (L2.KOf KX) mg w C_MatrixReading zq zo zad zal zu C_NoMatrix zae:=by
      dsimp only [L2.KOf]
      refine' LK73.Tx.ex ⟨?z0,?z1,?z2,?z3,?z4,?z5,?z6,?z7,?z8,?z9,?z10,?z11,?z12,?z13,?z14,?z15,?z16,?z17,?z18,?z19,?z20,?z21,?z22,?z23,?z24,?z25,?z26,?z27,?z28,?z29,?z30,?z31,?z32,?z33,?z34,?z35,?z36,?z37,?z38,?z39,?z40,?z41,?z42,?z43,?z44,?z45,?z46,?z47,?z48,?z49,?z50,?z51,?z52,?z53,?z54,?z55,?z56,?z57,?z58,?z59,?z60,?z61,?z62,?z63,?z64,?z65,?z66,?z67,?z68⟩
      case z0=>refine' L2.const_mk KX G ?x0;(case x0=>k_is)
      case z1=>refine' ⟨?x1,?y1,?u1,?v1⟩;(case x1=>k_is);(case y1=>k_is);(case u1=>k_is);(case v1=>k_is)
      case z2=>k_is
      case z3=>k_is
      case z4=>(unfold L2.NoAttr;k_is)
      case z5=>(unfold L2.NoAttr;k_is)
      case z6=>(unfold L2.NoAttr;k_is)
      case z7=>(unfold L2.NoAttr;k_is)
      case z8=>refine' L2.dfm_mk (fun _ _ _ _ _ _=>L2.len1 fun _=>rfl) ?p8 ?q8 ?r8 ?s8 ?t8;(case p8=>k_is);(case q8=>k_is);(case r8=>k_is);(case s8=>k_is);(case t8=>k_is)
      case z9=>refine' L2.dfm_mk (fun _ _ _ _ _ _=>L2.len2 fun _ _=>rfl) ?p9 ?q9 ?r9 ?s9 ?t9;(case p9=>k_is);(case q9=>k_is);(case r9=>k_is);(case s9=>k_is);(case t9=>k_is)
      case z10=>refine' L2.dfm_mk (fun _ _ _ _ _ _=>L2.len2 fun _ _=>rfl) ?p10 ?q10 ?r10 ?s10 ?t10;(case p10=>k_is);(case q10=>k_is);(case r10=>k_is);(case s10=>k_is);(case t10=>k_is)
      case z11=>refine' L2.dfm_mk (fun _ _ _ _ _ _=>L2.len2 fun _ _=>rfl) ?p11 ?q11 ?r11 ?s11 ?t11;(case p11=>k_is);(case q11=>k_is);(case r11=>k_is);(case s11=>k_is);(case t11=>k_is)
      case z12=>refine' L2.dfm_mk (fun _ _ _ _ _ _=>L2.len2 fun _ _=>rfl) ?p12 ?q12 ?r12 ?s12 ?t12;(case p12=>k_is);(case q12=>k_is);(case r12=>k_is);(case s12=>k_is);(case t12=>k_is)
      case z13=>refine' L2.const_mk KX G ?x13;(case x13=>k_is)
      case z14=>refine' ⟨?x14,?y14,?u14⟩;(case x14=>k_is);(case y14=>k_is);(case u14=>k_is)
      case z15=>refine' ⟨?x15,?y15,?u15⟩;(case x15=>k_is);(case y15=>k_is);(case u15=>k_is)
      case z16=>refine' L2.const_mk KX G ?x16;(case x16=>k_is)
      case z17=>refine' L2.const_mk KX G ?x17;(case x17=>k_is)
      case z18=>refine' L2.const_mk KX G ?x18;(case x18=>k_is)
      case z19=>refine' L2.const_mk KX G ?x19;(case x19=>k_is)
      case z20=>refine' L2.const_mk KX G ?x20;(case x20=>k_is)
      case z21=>refine' L2.xcls_of ?x21 ?y21 ?u21 ?v21;(case x21=>k_is);(case y21=>rfl);(case u21=>k_is);(case v21=>k_is)
      case z22=>refine' L2.xok_at ?x22 ?y22;(case x22=>k_is);(case y22=>rfl)
      case z23=>refine' ⟨?x23,?y23,?u23,?v23⟩;(case x23=>k_is);(case y23=>k_is);(case u23=>k_is);(case v23=>k_is)
      case z24=>refine' ⟨?x24,?y24,?u24,?v24⟩;(case x24=>k_is);(case y24=>k_is);(case u24=>k_is);(case v24=>k_is)
      case z25=>refine' L2.dfm_mk (fun _ _ _ _ _ _=>L2.len2 fun _ _=>rfl) ?p25 ?q25 ?r25 ?s25 ?t25;(case p25=>k_is);(case q25=>k_is);(case r25=>k_is);(case s25=>k_is);(case t25=>k_is)
      case z26=>(unfold L2.NoAttr;k_is)
      case z27=>refine' L2.const_mk KX G ?x27;(case x27=>k_is)
      case z28=>k_is
      case z29=>refine' L2.kit_own ?x29 ?y29 ?u29 ?v29;(case x29=>k_is);(case y29=>k_is);(case u29=>k_is);(case v29=>first | exact fun _=>rfl | exact fun h=>absurd h (by decide))
      case z30=>refine' L2.kit_typ L2.meta_ValueError ?x30;(case x30=>k_is)
      case z31=>refine' L2.kit_own ?x31 ?y31 ?u31 ?v31;(case x31=>k_is);(case y31=>k_is);(case u31=>k_is);(case v31=>first | exact fun _=>rfl | exact fun h=>absurd h (by decide))
      case z32=>refine' L2.kit_own ?x32 ?y32 ?u32 ?v32;(case x32=>k_is);(case y32=>k_is);(case u32=>k_is);(case v32=>first | exact fun _=>rfl | exact fun h=>absurd h (by decide))
      case z33=>refine' L2.kit_own ?x33 ?y33 ?u33 ?v33;(case x33=>k_is);(case y33=>k_is);(case u33=>k_is);(case v33=>first | exact fun _=>rfl | exact fun h=>absurd h (by decide))
      case z34=>refine' L2.kit_own ?x34 ?y34 ?u34 ?v34;(case x34=>k_is);(case y34=>k_is);(case u34=>k_is);(case v34=>first | exact fun _=>rfl | exact fun h=>absurd h (by decide))
      case z35=>refine' L2.kit_own ?x35 ?y35 ?u35 ?v35;(case x35=>k_is);(case y35=>k_is);(case u35=>k_is);(case v35=>first | exact fun _=>rfl | exact fun h=>absurd h (by decide))
      case z36=>refine' L2.df_mk KX G (fun _ _ _ _ _ _=>L2.len1 fun _=>rfl) ?p36 ?q36 ?r36 ?s36;(case p36=>k_is);(case q36=>k_is);(case r36=>k_is);(case s36=>k_is)
      case z37=>refine' L2.df_mk KX G (fun _ _ _ _ _ _=>L2.len1 fun _=>rfl) ?p37 ?q37 ?r37 ?s37;(case p37=>k_is);(case q37=>k_is);(case r37=>k_is);(case s37=>k_is)
      case z38=>refine' L2.df_mk KX G (fun _ _ _ _ _ _=>L2.len2 fun _ _=>rfl) ?p38 ?q38 ?r38 ?s38;(case p38=>k_is);(case q38=>k_is);(case r38=>k_is);(case s38=>k_is)
      case z39=>refine' L2.df_mk KX G (fun _ _ _ _ _ _=>L2.len1 fun _=>rfl) ?p39 ?q39 ?r39 ?s39;(case p39=>k_is);(case q39=>k_is);(case r39=>k_is);(case s39=>k_is)
      case z40=>refine' L2.df_mk KX G (fun _ _ _ _ _ _=>L2.len2 fun _ _=>rfl) ?p40 ?q40 ?r40 ?s40;(case p40=>k_is);(case q40=>k_is);(case r40=>k_is);(case s40=>k_is)
      case z41=>refine' L2.df_mk KX G (fun _ _ _ _ _ _=>L2.len3 fun _ _ _=>rfl) ?p41 ?q41 ?r41 ?s41;(case p41=>k_is);(case q41=>k_is);(case r41=>k_is);(case s41=>k_is)
      case z42=>refine' L2.df_mk KX G (fun _ _ _ _ _ _=>L2.len3 fun _ _ _=>rfl) ?p42 ?q42 ?r42 ?s42;(case p42=>k_is);(case q42=>k_is);(case r42=>k_is);(case s42=>k_is)
      case z43=>refine' L2.df_mk KX G (fun _ _ _ _ _ _=>L2.len3 fun _ _ _=>rfl) ?p43 ?q43 ?r43 ?s43;(case p43=>k_is);(case q43=>k_is);(case r43=>k_is);(case s43=>k_is)
      case z44=>refine' L2.df_mk KX G (fun _ _ _ _ _ _=>L2.len3 fun _ _ _=>rfl) ?p44 ?q44 ?r44 ?s44;(case p44=>k_is);(case q44=>k_is);(case r44=>k_is);(case s44=>k_is)
      case z45=>refine' L2.df_mk KX G (fun _ _ _ _ _ _=>L2.len2 fun _ _=>rfl) ?p45 ?q45 ?r45 ?s45;(case p45=>k_is);(case q45=>k_is);(case r45=>k_is);(case s45=>k_is)
      case z46=>refine' L2.df_mk KX G (fun _ _ _ _ _ _=>L2.len2 fun _ _=>rfl) ?p46 ?q46 ?r46 ?s46;(case p46=>k_is);(case q46=>k_is);(case r46=>k_is);(case s46=>k_is)
      case z47=>refine' L2.df_mk KX G (fun _ _ _ _ _ _=>L2.len3 fun _ _ _=>rfl) ?p47 ?q47 ?r47 ?s47;(case p47=>k_is);(case q47=>k_is);(case r47=>k_is);(case s47=>k_is)
      case z48=>refine' L2.df_mk KX G (fun _ _ _ _ _ _=>L2.len2 fun _ _=>rfl) ?p48 ?q48 ?r48 ?s48;(case p48=>k_is);(case q48=>k_is);(case r48=>k_is);(case s48=>k_is)
      case z49=>refine' L2.df_mk KX G (fun _ _ _ _ _ _=>L2.len4 fun _ _ _ _=>rfl) ?p49 ?q49 ?r49 ?s49;(case p49=>k_is);(case q49=>k_is);(case r49=>k_is);(case s49=>k_is)
      case z50=>refine' L2.df_mk KX G (fun _ _ _ _ _ _=>L2.len1 fun _=>rfl) ?p50 ?q50 ?r50 ?s50;(case p50=>k_is);(case q50=>k_is);(case r50=>k_is);(case s50=>k_is)
      case z51=>refine' L2.df_mk KX G (fun _ _ _ _ _ _=>L2.len2 fun _ _=>rfl) ?p51 ?q51 ?r51 ?s51;(case p51=>k_is);(case q51=>k_is);(case r51=>k_is);(case s51=>k_is)
      case z52=>refine' L2.df_mk KX G (fun _ _ _ _ _ _=>L2.len3 fun _ _ _=>rfl) ?p52 ?q52 ?r52 ?s52;(case p52=>k_is);(case q52=>k_is);(case r52=>k_is);(case s52=>k_is)
      case z53=>refine' L2.df_mk KX G (fun _ _ _ _ _ _=>L2.len1 fun _=>rfl) ?p53 ?q53 ?r53 ?s53;(case p53=>k_is);(case q53=>k_is);(case r53=>k_is);(case s53=>k_is)
      case z54=>refine' L2.rel_mk KX G ?x54 ?y54;(case x54=>k_is);(case y54=>exact⟨_,rfl⟩)
      case z55=>refine' L2.rel_mk KX G ?x55 ?y55;(case x55=>k_is);(case y55=>exact⟨_,rfl⟩)
      case z56=>refine' L2.rel_mk KX G ?x56 ?y56;(case x56=>k_is);(case y56=>exact⟨_,rfl⟩)
      case z57=>refine' L2.rel_mk KX G ?x57 ?y57;(case x57=>k_is);(case y57=>exact⟨_,rfl⟩)
      case z58=>refine' L2.blt_mk KX G ?_;k_is
      case z59=>refine' L2.blt_mk KX G ?_;k_is
      case z60=>refine' L2.blt_mk KX G ?_;k_is
      case z61=>refine' L2.blt_mk KX G ?_;k_is
      case z62=>refine' L2.blt_mk KX G ?_;k_is
      case z63=>refine' L2.blt_mk KX G ?_;k_is
      case z64=>refine' L2.blt_mk KX G ?_;k_is
      case z65=>refine' L2.blt_mk KX G ?_;k_is
      case z66=>refine' L2.blt_mk KX G ?_;k_is
      case z67=>refine' L2.blt_mk KX G ?_;k_is
      case z68=>refine' L2.blt_mk KX G ?_;k_is
    obtain⟨_,_,_,_,_,_,_,_,T⟩:=T
    exact fun base _ _=>LK73.h_law T
#print axioms PySem.Challenge.cw_digmatrix_k73_no_matrix_holds
