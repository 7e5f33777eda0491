import PyProof.Rows.All
import Wide.All
import OpenK.AllK
import Wide.FinOn
import Lean
import PyProof.EqAt
import PyProof.EqKinds
import PyProof.TupleCall
import PyProof.ZipIter
import PyProof.DictWalks
import PyProof.StrOps2
import KE.IntTextLaws
import PyProof.StrBlockI
import PyProof.StrLawsIn
import PyProof.StrLawsChain
import PyProof.StrLawsTight
import PyProof.Rows.StrItems
import PyProof.ExcInit
import PyProof.ExcClass3
import PyProof.ExcBaseAll.ValueError
import PyProof.FString
import PyProof.Rows.FStr
import PyProof.RaisesMany
import PyProof.RulesAs
import PyProof.NsDelKeeps
import PyProof.ExcAttrAll.ValueError
import PyProof.AutoSeq1
import PyProof.WalkInts
import PyProof.Rows.SetFrom
import PyProof.SetKind
import PyProof.CollectWalk
import PyProof.MinMaxWalk
import PyProof.TupleKey
import PyProof.FString5
import KE.KDictOf
import PyProof.AttrMissHeap
import KE.KSortTup
import PyProof.MeetsSeq3
import PyProof.DictUpdate
import PyProof.Rows.SumAny
import KE.KMulAny
import PySem.Challenge.RW_digmatrix_k81_rows_of_deeds
set_option Elab.async false
set_option linter.all false
set_option maxRecDepth 100000
def PySem.W.Fast.tw11437668663423228155:Unit:=()
def PySem.W.Fast.tw2878031044088605654:Unit:=()
def PySem.W.Fast.tw4569472148893464718:Unit:=()
def PySem.W.Fast.tw7856512638567950040:Unit:=()
def PySem.W.Fast.tw13241524159966226867:Unit:=()
def PySem.W.Fast.tw16200611320073410330:Unit:=()
def PySem.W.Fast.tw7206323052543368230:Unit:=()
def PySem.W.Fast.tw16380897289855705943:Unit:=()
def PySem.W.Fast.tw9416568474581760903:Unit:=()
def PySem.W.Fast.tw669968000296547906:Unit:=()
def PySem.W.Fast.tw997828991841316833:Unit:=()
def PySem.W.Fast.tw12731856315079464186:Unit:=()
def PySem.W.Fast.tw7080192864073559051:Unit:=()
def PySem.W.Fast.tw12165251451951098918:Unit:=()
def PySem.W.Fast.tw1161787601291539145:Unit:=()
def PySem.W.Fast.tw13868494175316019776:Unit:=()
def PySem.W.Fast.tw908498645164434478:Unit:=()
def PySem.W.Fast.tw10951282240483957129:Unit:=()
def PySem.W.Fast.tw3602214762922647026:Unit:=()
def PySem.W.Fast.tw3152891930593473558:Unit:=()
def PySem.W.Fast.tw6151249526590891248:Unit:=()
def PySem.W.Fast.tw16761476740822942032:Unit:=()
def PySem.W.Fast.tw5106106350284529836:Unit:=()
def PySem.W.Fast.tw7870699715698753222:Unit:=()
def PySem.W.Fast.tw2229751113348359753:Unit:=()
def PySem.W.Fast.tw10105250253697545896:Unit:=()
def PySem.W.Fast.tw17375729736375380768:Unit:=()
def PySem.W.Fast.tw11693141237201195612:Unit:=()
def PySem.W.Fast.tw14516855407703510167:Unit:=()
def PySem.W.Fast.tw8638251234831094406:Unit:=()
def PySem.W.Fast.tw16136861444950016543:Unit:=()
def PySem.W.Fast.tw6604064777869813458:Unit:=()
def PySem.W.Fast.tw988156362299770454:Unit:=()
def PySem.W.Fast.tw6363734572698074886:Unit:=()
namespace L2
open PySem PySem.Spec PyProof.Rows
abbrev Key:=Sum Int Str
def zkm:Key->Value->Bool
  | .inl k,v=>Value.isInt k v
  | .inr x,v=>Value.isStrOf x v
def keyH (w:World):Key->Int
  | .inl k=>hashInt k
  | .inr x=>hashStr w x
theorem za9:∀{k:Key}{v:Value},zkm k v=true->(∃i t,k=Sum.inl i/\v=Value.int i t)\/(∃x t,k=Sum.inr x/\v=Value.str x t)
  | .inl i,v,h=>by
    obtain⟨t,e⟩:=Value.isInt_shape (k:=i) (v:=v) h
    exact .inl ⟨i,t,rfl,e⟩
  | .inr x,v,h=>by
    obtain⟨t,e⟩:=Value.isStrOf_shape (x:=x) (v:=v) h
    exact .inr ⟨x,t,rfl,e⟩
theorem znt (i:Int) (t:Tok):zkm (.inl i) (.int i t)=true:=by simp[zkm,Value.isInt]
theorem znu (x:Str) (t:Tok):zkm (.inr x) (.str x t)=true:=by simp[zkm,Value.isStrOf]
theorem zvr (a b:Int):decide ((Sum.inl a:Key)=Sum.inl b)=(a == b):=by
  by_cases e:a=b
  · subst e;simp
  · have h:¬(Sum.inl a:Key)=Sum.inl b:=fun q=>e (Sum.inl.inj q)
    rw[decide_eq_false h]
    exact (beq_eq_false_iff_ne.mpr e).symm
theorem zvs (a b:Str):decide ((Sum.inr a:Key)=Sum.inr b)=decide (a=b):=by
  by_cases e:a=b
  · subst e;simp
  · have h:¬(Sum.inr a:Key)=Sum.inr b:=fun q=>e (Sum.inr.inj q)
    rw[decide_eq_false h,decide_eq_false e]
theorem zvt (a:Int) (b:Str):decide ((Sum.inl a:Key)=Sum.inr b)=false:=decide_eq_false (fun q=>nomatch q)
theorem zvu (a:Str) (b:Int):decide ((Sum.inr a:Key)=Sum.inl b)=false:=decide_eq_false (fun q=>nomatch q)
def za3 (prog:Program) (w:World):PySem.KeyKind prog w Key where
  is:=zkm
  hash:=keyH w
  inj:=fun v a b ha hb=>by
    rcases za9 ha with ⟨i,t,rfl,rfl⟩ | ⟨x,t,rfl,rfl⟩
    · rcases za9 hb with ⟨j,u,rfl,e⟩ | ⟨y,u,rfl,e⟩
      · injection e with e1 _;rw[e1]
      · exact nomatch e
    · rcases za9 hb with ⟨j,u,rfl,e⟩ | ⟨y,u,rfl,e⟩
      · exact nomatch e
      · injection e with e1 _;rw[e1]
  byValue:=fun k v h=>by
    rcases za9 h with ⟨i,t,rfl,rfl⟩ | ⟨x,t,rfl,rfl⟩<;>rfl
  pyHash:=fun hv h=>by
    rcases za9 hv with ⟨i,t,rfl,rfl⟩ | ⟨x,t,rfl,rfl⟩
    · exact wpAny_pyHash_int h
    · exact wpAny_pyHash_str h
  eqBool:=fun hu hv h=>by
    rcases za9 hu with ⟨i,t,rfl,rfl⟩ | ⟨x,t,rfl,rfl⟩
    · rcases za9 hv with ⟨j,u,rfl,rfl⟩ | ⟨y,u,rfl,rfl⟩
      · rw[zvr] at h;exact wpAny_eqBool_int h
      · rw[zvt] at h;exact SeqAt.EqAt.int_str i t y u _ _ _ _ h
    · rcases za9 hv with ⟨j,u,rfl,rfl⟩ | ⟨y,u,rfl,rfl⟩
      · rw[zvu] at h;exact SeqAt.EqAt.str_int x t j u _ _ _ _ h
      · rw[zvs] at h;exact wpAny_eqBool_str h
  «strs»:=fun k x t v h=>by
    rcases za9 h with ⟨i,u,rfl,e⟩ | ⟨y,u,rfl,e⟩
    · exact nomatch e
    · injection e with e1 _
      subst e1
      cases v<;>rfl
theorem zkn (prog:Program) (w:World) (i:Int) (t:Tok):(za3 prog w).is (.inl i) (.int i t)=true:=znt i t
theorem zdl (prog:Program) (w:World) (x:Str) (t:Tok):(za3 prog w).is (.inr x) (.str x t)=true:=znu x t
inductive V where
  | non | bl (b:Bool) | int (i:Int) | str (x:Str) | byt (b:Array UInt8) | flt (b:UInt64) | ref (a:Addr) | ty (n:String)
  deriving DecidableEq
def RelV:V->Value->Prop
  | .non,u=>u=Value.none
  | .bl b,u=>u=Value.bool b
  | .int i,u=>∃t,u=Value.int i t
  | .str x,u=>∃t,u=Value.str x t
  | .byt b,u=>∃t,u=Value.bytes b t
  | .flt b,u=>∃t,u=Value.float b t
  | .ref a,u=>u=Value.ref a
  | .ty n,u=>u=Value.type n
abbrev Vals:List V->List Value->Prop:=Paired RelV
theorem Vals.length {xs:List V}{us:List Value}(r:Vals xs us):xs.length=us.length:=Paired.length r
theorem Vals.get:∀{xs:List V}{us:List Value}{i:Nat}{x:V},Vals xs us->xs[i]? = some x->∃u,us[i]? = some u/\RelV x u
  | _,_,_,_,.nil,e=>by simp at e
  | _,_,0,_,.cons r _,e=>by simp at e;subst e;exact⟨_,rfl,r⟩
  | _,_,i+1,x,.cons _ t,e=>by
    obtain⟨u,h1,h2⟩:=Vals.get (i:=i) (x:=x) t (by simpa using e)
    exact⟨u,by simpa using h1,h2⟩
theorem Vals.set {x:V}{u:Value}(r:RelV x u):∀{xs:List V}{us:List Value}(i:Nat),Vals xs us->Vals (xs.set i x) (us.set i u)
  | _,_,_,.nil=>.nil
  | _,_,0,.cons _ t=>.cons r t
  | _,_,i+1,.cons q t=>.cons q (Vals.set r i t)
theorem Vals.append:∀{xs ys:List V}{us ws:List Value},Vals xs us->Vals ys ws->Vals (xs++ys) (us++ws)
  | _,_,_,_,.nil,s=>s
  | _,_,_,_,.cons r t,s=>.cons r (Vals.append t s)
theorem Vals.take:∀{xs:List V}{us:List Value}(n:Nat),Vals xs us->Vals (xs.take n) (us.take n)
  | _,_,0,_=>.nil
  | _,_,_+1,.nil=>.nil
  | _,_,n+1,.cons r t=>.cons r (Vals.take n t)
theorem Vals.drop:∀{xs:List V}{us:List Value}(n:Nat),Vals xs us->Vals (xs.drop n) (us.drop n)
  | _,_,0,r=>r
  | _,_,_+1,.nil=>.nil
  | _,_,n+1,.cons _ t=>Vals.drop n t
def RelO:Option V->Option Value->Prop
  | some v,some u=>RelV v u
  | none,none=>True
  | _,_=>False
def KV {κ:Type}:List (κ×V)->List (κ×Value)->Prop:=Paired fun (p:κ×V) (q:κ×Value)=>p.1=q.1/\RelV p.2 q.2
def kV:Key->V
  | .inl i=>.int i
  | .inr x=>.str x
inductive HO where
    | lst (xs:List V)
    | tup (xs:List V)
    | dK (kvs:List (Key×V)) | dT (kvs:List (List Key×V))
    | set (S:Int->Bool) (n:Nat)
    | ins (C dx:Addr) (fs:List (Str×V))
    | own (x:Addr)
    | xd (fs:List (Str×V))
    | met (f x:Addr)
    | rng (lo hi:Int)
    | frz (o:Obj) (u:HO)
    | tbl (ps:Array Value)
    | ext (φ:Heap->Prop)
abbrev Hp:=Addr->Option HO
def upd (H:Hp) (a:Addr) (o:HO):Hp:=fun b=>if b=a then some o else H b
theorem zb {H:Hp}{a:Addr}{o:HO}:upd H a o a=some o:=by unfold upd;rw[if_pos rfl]
theorem zn {H:Hp}{a b:Addr}{o:HO}(h:b≠a):upd H a o b=H b:=by unfold upd;rw[if_neg h]
theorem zti {H:Hp}{a:Addr}{o u:HO}:upd (upd H a o) a u=upd H a u:=by
  funext b;unfold upd;split<;>rfl
theorem zgk {H:Hp}{a b:Addr}{o u:HO}(h:H a=some o) (h':H b=some u) (d:o≠u):a≠b:=by
  intro e;subst e;rw[h] at h';exact d (Option.some.inj h')
theorem zc {H:Hp}{a b:Addr}{o:HO}(h:H a=some o) (h':H b=none):a≠b:=by
  intro e;subst e;rw[h] at h';cases h'
section
variable (P:Program) (w:World)
def ObjOk (H:Hp) (h:Heap) (a:Addr):HO->Prop
  | .lst xs=>xs.length<=sizeLine/\∃(its:List Value) (n:Nat),Vals xs its/\h.get? a=some { cls:=.type "list",data:=.seq its.toArray n }
  | .tup xs=>xs.length<=sizeLine/\∃its:List Value,Vals xs its/\IsTup h a its.toArray
  | .dK kvs=>kvs.length<=sizeLine/\(a == sysModules)=false/\∃vs,KV kvs vs/\h.DictOf (za3 P w) a vs
  | .dT kvs=>kvs.length<=sizeLine/\(a == sysModules)=false/\∃xs:List (List Key×Addr×Value),
      Paired (fun (p:List Key×V) (q:List Key×Addr×Value)=>p.1=q.1/\H q.2.1=some (.tup (p.1.map kV))/\RelV p.2 q.2.2) kvs xs/\
      ∃o es ep,h.get? a=some o/\o.ExactDict/\o.data = .dict es ep/\es.toList=xs.map (entryOfKey (tupleKind (za3 P w)))/\(xs.map (·.1)).Nodup
  | .set S n=>h.SetOf (intKind P w) a S n
  | .ins C dx fs=>H dx=some (.own a)/\fs.length<=1000/\dx≠a/\h.get? a=some (PySem.W.instObj C dx)/\
      ∃mA,h.Ns1 dx mA/\(∀f,RelO (fs.lookup f) (mA f))/\PySem.Within mA (fs.map (·.1))
  | .own _=>∃o,h.get? a=some o
  | .xd fs=>∃mA,h.Ns1 a mA/\∀f,RelO (fs.lookup f) (mA f)
  | .rng lo hi=>∃t u v,h.get? a=some { cls:=.type "range",data:=.fields #[.int lo t,.int hi u,.int 1 v] }
  | .frz o u=>h.get? a=some o/\ObjOk H h a u
  | .tbl ps=>h.get? a=some { cls:=.none,data:=.fields ps }
  | .met f x=>h.get? a=some (PySem.W.methodObj (.ref f) (.ref x))
  | .ext φ=>φ h/\(∃o,h.get? a=some o)/\∀h1 h2:Heap,φ h1->(∀o,h1.get? a=some o->h2.get? a=some o)->φ h2
def HOk (H:Hp) (h:Heap):Prop:=∀a o,H a=some o->ObjOk P w H h a o
end
section
variable {P:Program}{w:World}{H H':Hp}{h h':Heap}{a:Addr}{o:HO}
theorem ObjOk.lt (x:ObjOk P w H h a o):a<h.objs.size:=by
  cases o with
  | lst xs=>obtain⟨_,_,_,_,e⟩:=x;exact Heap.lt_size e
  | tup xs=>obtain⟨_,_,_,p⟩:=x;exact p.lt
  | dK kvs=>obtain⟨_,_,_,_,o,_,_,e,_⟩:=x;exact Heap.lt_size e
  | dT kvs=>obtain⟨_,_,_,_,o,_,_,e,_⟩:=x;exact Heap.lt_size e
  | set S n=>obtain⟨o,_,_,_,e,_⟩:=x;exact Heap.lt_size e
  | ins C dx fs=>obtain⟨_,_,_,e,_⟩:=x;exact Heap.lt_size e
  | own y=>obtain⟨_,e⟩:=x;exact Heap.lt_size e
  | xd fs=>obtain⟨_,⟨_,_,_,e,_⟩,_⟩:=x;exact Heap.lt_size e
  | rng lo hi=>obtain⟨_,_,_,e⟩:=x;exact Heap.lt_size e
  | frz ob u=>obtain⟨e,_⟩:=x;exact Heap.lt_size e
  | tbl ps=>exact Heap.lt_size (show h.get? a=some _ from x)
  | met f y=>exact Heap.lt_size (show h.get? a=some _ from x)
  | ext φ=>obtain⟨_,⟨_,e⟩,_⟩:=x;exact Heap.lt_size e
theorem Paired.mapP {α β:Type}{F G:α->β->Prop}:∀{l₁:List α}{l₂:List β},Paired F l₁ l₂->(∀a b,F a b->G a b)->Paired G l₁ l₂
  | _,_,.nil,_=>.nil
  | _,_,.cons r t,f=>.cons (f _ _ r) (Paired.mapP t f)
theorem ObjOk.stay (x:ObjOk P w H h a o) (k:∀b u,(b=a\/H b=some (.own a))->h.get? b=some u->h'.get? b=some u)
    (ho:∀b,H b=some (.own a)->H' b=some (.own a)) (ht:∀b xs,H b=some (.tup xs)->H' b=some (.tup xs)):ObjOk P w H' h' a o:=by
  induction o with
  | lst xs=>obtain⟨z,its,n,r,e⟩:=x;exact⟨z,its,n,r,k _ _ (.inl rfl) e⟩
  | tup xs=>obtain⟨z,its,r,ob,e,c⟩:=x;exact⟨z,its,r,ob,k _ _ (.inl rfl) e,c⟩
  | dK kvs=>obtain⟨z,y,vs,r,ob,es,ep,e,c⟩:=x;exact⟨z,y,vs,r,ob,es,ep,k _ _ (.inl rfl) e,c⟩
  | dT kvs=>
    obtain⟨z,y,xs,r,ob,es,ep,e,c⟩:=x
    exact⟨z,y,xs,Paired.mapP r fun p q z=>⟨z.1,ht _ _ z.2.1,z.2.2⟩,ob,es,ep,k _ _ (.inl rfl) e,c⟩
  | set S n=>obtain⟨ob,es,ep,t,e,c⟩:=x;exact⟨ob,es,ep,t,k _ _ (.inl rfl) e,c⟩
  | ins C dx fs=>
    obtain⟨d,z,ne,e,mA,⟨od,es,ep,e2,c⟩,r⟩:=x
    exact⟨ho _ d,z,ne,k _ _ (.inl rfl) e,mA,⟨od,es,ep,k _ _ (.inr d) e2,c⟩,r⟩
  | own y=>obtain⟨ob,e⟩:=x;exact⟨ob,k _ _ (.inl rfl) e⟩
  | xd fs=>obtain⟨mA,⟨od,es,ep,e,c⟩,r⟩:=x;exact⟨mA,⟨od,es,ep,k _ _ (.inl rfl) e,c⟩,r⟩
  | rng lo hi=>obtain⟨t,u,v,e⟩:=x;exact⟨t,u,v,k _ _ (.inl rfl) e⟩
  | frz ob u ih=>obtain⟨e,q⟩:=x;exact⟨k _ _ (.inl rfl) e,ih q⟩
  | tbl ps=>
    have e:h.get? a=some { cls:=.none,data:=.fields ps }:=x
    show h'.get? a=some { cls:=.none,data:=.fields ps }
    exact k a _ (.inl rfl) e
  | met f y=>
    have e:h.get? a=some (PySem.W.methodObj (.ref f) (.ref y)):=x
    show h'.get? a=some (PySem.W.methodObj (.ref f) (.ref y))
    exact k a _ (.inl rfl) e
  | ext φ=>obtain⟨p,⟨o,e⟩,st⟩:=x;exact⟨st _ _ p fun o q=>k _ _ (.inl rfl) q,⟨o,k _ _ (.inl rfl) e⟩,st⟩
theorem HOk.lt (x:HOk P w H h) (e:H a=some o):a<h.objs.size:=(x a o e).lt
theorem HOk.fresh (x:HOk P w H h) (e:h.objs.size<=a):H a=none:=by
  cases q:H a with
  | none=>rfl
  | some u=>exact absurd (Nat.lt_of_lt_of_le (x.lt q) e) (Nat.lt_irrefl _)
theorem HOk.kept (x:HOk P w H h) (k:∀b u,h.get? b=some u->h'.get? b=some u):HOk P w H h':=fun a o e=>
  (x a o e).stay (fun b u _ q=>k b u q) (fun _ q=>q) fun _ _ q=>q
theorem HOk.laid (x:HOk P w H h) (k:∀b u,h.get? b=some u->h'.get? b=some u) (hp:h.objs.size<=a) (new:ObjOk P w (upd H a o) h' a o):HOk P w (upd H a o) h':=fun b u e=>by
  have hn:=x.fresh hp
  by_cases hb:b=a
  · subst hb;rw[zb] at e;cases e;exact new
  · rw[zn hb] at e
    exact (x b u e).stay (fun c v _ q=>k c v q) (fun c q=>by rw[zn (zc q hn)];exact q) fun c xs q=>by rw[zn (zc q hn)];exact q
end
def Rd (H:Hp) (a:Addr) (u:HO):Prop:=H a=some u\/∃o,H a=some (.frz o u)
theorem Rd.ok {P:Program}{w:World}{H:Hp}{h:Heap}{a:Addr}{u:HO}(r:Rd H a u) (x:HOk P w H h):ObjOk P w H h a u:=by
  rcases r with r | ⟨o,r⟩
  · exact x a u r
  · obtain⟨_,q⟩:=x a _ r
    exact q
def Mut:Option HO->Prop
  | some (.lst _)=>True
  | some (.dK _)=>True
  | some (.dT _)=>True
  | some (.set _ _)=>True
  | some (.ins _ _ _)=>True
  | some (.ext _)=>True
  | _=>False
section
variable {P:Program}{w:World}{H:Hp}{h h':Heap}{x e:Addr}{o':HO}
theorem HOk.write (ok:HOk P w H h) (mu:Mut (H x)) (he:e=x\/H e=some (.own x)) (k:∀b u,b≠e->h.get? b=some u->h'.get? b=some u) (heo:∃u,h'.get? e=some u)
    (new:ObjOk P w (upd H x o') h' x o'):HOk P w (upd H x o') h':=fun b u q=>by
  have nown:∀c y,H c=some (.own y)->c≠x:=fun c y r z=>by subst z;rw[r] at mu;exact mu
  have ntup:∀c xs,H c=some (.tup xs)->c≠x:=fun c xs r z=>by subst z;rw[r] at mu;exact mu
  by_cases hb:b=x
  · subst hb;rw[zb] at q;cases q;exact new
  · rw[zn hb] at q
    by_cases hbe:b=e
    · have q':H b=some (.own x):=by
        rcases he with z | z
        · exact absurd (hbe.trans z) hb
        · rw[hbe];exact z
      rw[q] at q';cases q'
      obtain⟨v,hv⟩:=heo
      exact⟨v,by rw[hbe];exact hv⟩
    · refine (ok b u q).stay (fun c v hc r=>k c v ?_ r) (fun c r=>by rw[zn (nown c b r)];exact r) fun c xs r=>by rw[zn (ntup c xs r)];exact r
      rcases hc with rfl | hc
      · exact hbe
      · rintro rfl
        rcases he with z | z
        · exact nown c b hc z
        · rw[hc] at z;cases z;exact hb rfl
end
structure Un (fs ex:List Addr) (H H':Hp) (h h':Heap):Prop where
  keep:∀b o,h.get? b=some o->H b=none->b ∉ fs->b ∉ ex->h'.get? b=some o
  slot:∀b o,h.get? b=some o->H b=none->b∈fs->b ∉ ex->∃sl,h'.get? b=some { o with slots:=sl }
  free:∀b o,h.get? b=some o->H b=none->b ∉ ex->H' b=none
  there:∀b o,h.get? b=some o->b ∉ ex->∃o',h'.get? b=some o'
  tups:∀b xs,H b=some (.tup xs)->H' b=some (.tup xs)
  frzs:∀b o u,H b=some (.frz o u)->H' b=some (.frz o u)
  tbls:∀b ps,H b=some (.tbl ps)->∃more,H' b=some (.tbl (ps++more))
section
variable {fs fs' ex ex':List Addr}{H H1 H2:Hp}{h h1 h2 h':Heap}{a x e:Addr}{o:HO}
theorem Un.any (u:Un fs ex H H1 h h1) {b:Addr}{ob:Obj}(q:h.get? b=some ob) (n:H b=none) (hx:b ∉ ex):∃sl,h1.get? b=some { ob with slots:=sl }:=by
  by_cases hb:b∈fs
  · exact u.slot b ob q n hb hx
  · exact⟨ob.slots,u.keep b ob q n hb hx⟩
theorem Un.kept (k:∀b u,h.get? b=some u->h'.get? b=some u):Un fs ex H H h h':=
  ⟨fun b ob q _ _ _=>k b ob q,fun b ob q _ _ _=>⟨ob.slots,k b ob q⟩,fun _ _ _ n _=>n,fun b ob q _=>⟨ob,k b ob q⟩,fun _ _ q=>q,fun _ _ _ q=>q,fun _ ps q=>⟨#[],by rw[q];simp⟩⟩
theorem Un.refl:Un fs ex H H h h:=Un.kept fun _ _ q=>q
theorem Un.laid (k:∀b u,h.get? b=some u->h'.get? b=some u) (hp:h.objs.size<=a) (hn:H a=none):Un fs ex H (upd H a o) h h' where
  keep:=fun b u q _ _ _=>k b u q
  slot:=fun b u q _ _ _=>⟨u.slots,k b u q⟩
  free:=fun b u q n _=>by rw[zn (Nat.ne_of_lt (Nat.lt_of_lt_of_le (Heap.lt_size q) hp))];exact n
  there:=fun b u q _=>⟨u,k b u q⟩
  tups:=fun b xs q=>by rw[zn (zc q hn)];exact q
  frzs:=fun b u xs q=>by rw[zn (zc q hn)];exact q
  tbls:=fun b ps q=>⟨#[],by rw[zn (zc q hn),q];simp⟩
theorem Un.write (mu:Mut (H x)) (he:e=x\/H e=some (.own x)) (k:∀b u,b≠e->h.get? b=some u->h'.get? b=some u) (heo:∃u,h'.get? e=some u):Un fs ex H (upd H x o) h h':=by
  have hx:∀b,H b=none->b≠x:=fun b n z=>by subst z;rw[n] at mu;exact mu
  have hb:∀b,H b=none->b≠e:=fun b n z=>by
    subst z
    rcases he with r | r
    · exact hx b n r
    · rw[n] at r;cases r
  have hm:∀b u,H b=some u->¬Mut (some u)->b≠x:=fun b u q nm z=>by subst z;rw[q] at mu;exact nm mu
  refine⟨fun b u q n _ _=>k b u (hb b n) q,fun b u q n _ _=>⟨u.slots,k b u (hb b n) q⟩,fun b u q n _=>by rw[zn (hx b n)];exact n,fun b u q _=>?_,
    fun b xs q=>by rw[zn (hm b _ q fun z=>z)];exact q,fun b u xs q=>by rw[zn (hm b _ q fun z=>z)];exact q,fun b ps q=>⟨#[],by rw[zn (hm b _ q fun z=>z),q];simp⟩⟩
  by_cases hbe:b=e
  · subst hbe;exact heo
  · exact⟨u,k b u hbe q⟩
end
def trk (h:Heap) (H:Hp):List Addr:=(List.range h.objs.size).filter fun a=>(H a).isSome
def hidT (h:Heap) (H:Hp):Heap:=PySem.W.hideAll h (trk h H)
theorem znv (h:Heap) (H:Hp):(hidT h H).objs.size=h.objs.size:=PySem.W.hideAll_size _ _
theorem zqt {h:Heap}{H:Hp}{b:Addr}{o:Obj}(e:h.get? b=some o) (n:H b=none):(hidT h H).get? b=some o:=
  PySem.W.hideAll_get _ e fun hm=>by
    have q:(H b).isSome=true:=(List.mem_filter.mp hm).2
    rw[n] at q;simp at q
theorem ztj {h:Heap}{H:Hp}{b:Addr}{o:Obj}(e:(hidT h H).get? b=some o):h.get? b=some o/\H b=none:=by
  have e':h.get? b=some o:=PySem.W.of_hideAll (trk h H) e
  refine⟨e',?_⟩
  cases q:H b with
  | none=>rfl
  | some x=>
    have hm:b∈trk h H:=List.mem_filter.mpr ⟨List.mem_range.mpr (Heap.lt_size e'),by simp[q]⟩
    have z:(hidT h H).get? b=none:=PySem.W.hideAll_none (trk h H) hm
    rw[z] at e;cases e
def ztk (g h:Heap) (L:Addr):List (Addr×Obj):=(List.range h.objs.size).filterMap fun a=>if a=L\/(g.get? a).isSome=true then none else (h.get? a).map fun o=>(a,o)
def rest (g h:Heap) (L d:Addr):List (Addr×Obj):=(ztk g h L).filter fun p=>decide (p.1≠d)
structure Mod (K:PySem.W.Frag) (mg:Str->Option Value) (base:Heap):Prop where
  kin:K.In base
  glob:base.Ns mainGlobals mg
  blt:∃mb,base.Ns builtinsNs mb/\∀x:Str,x≠"__name__"->mb x=bootBuiltins x
  nolimit:base.NoLimit
structure Cx where
  prog:Program
  w:World
  K:PySem.W.Frag
  mg:Str->Option Value
  base:Heap
  A:Around
  N:List Str
  s₀:Shared
  H₀:Hp
  env:Env
  outer:List Env
  stack:List Env
  ex:List Addr
  fn:Str->Bool
  calm:Bool
  pn:List (Addr×Obj)
  xe:Value->Shared->Prop
def frs (l:List Env):List Addr:=l.filterMap (·.frame)
abbrev Cx.fs (X:Cx):List Addr:=frs X.outer
def Vis (sc:Scope) (x:Str):Prop:=sc.names.lookup x=some .local\/sc.names.lookup x=some .cell\/sc.names.lookup x=some .free
def Loc (sc:Scope) (x:Str):Prop:=sc.names.lookup x=some .local\/sc.names.lookup x=some .cell
def Look (env:Env) (h:Heap) (m:Str->Option Value) (x:Str) (u:Value):Prop:=
  (env.kindOf x=some .local/\m x=some u)\/((env.kindOf x=some .cell\/env.kindOf x=some .free)/\∃c,env.cells.lookup x=some c/\h.IsCell c (some u))
structure Cx.Ok (X:Cx):Prop where
  mod:Mod X.K X.mg X.base
  kind:X.env.scope.kind = .function
  glob:X.env.globals=mainGlobals
  blt:X.env.builtins=builtinsNs
  above:X.s₀.heap.objs.size<=X.env.locals
  inj:∀x y c,X.env.cells.lookup x=some c->X.env.cells.lookup y=some c->x=y
  has:∀x,(X.env.kindOf x=some .cell\/X.env.kindOf x=some .free)->∃c,X.env.cells.lookup x=some c
  cab:∀x c,X.fn x=true->X.env.cells.lookup x=some c->X.s₀.heap.objs.size<=c
  hd:X.calm=true->X.A.handled=none
  frames:X.A.frames=some X.stack
  stk:X.stack=X.outer\/(X.stack=X.env::X.outer/\X.env.frame=some X.env.locals)
  exf:∀b∈X.ex,b≠X.env.locals/\∀x c,X.env.cells.lookup x=some c->c≠b
  bs:∀b o,X.base.get? b=some o->X.s₀.heap.get? b=some o/\X.H₀ b=none
  bsz:X.base.objs.size<=X.s₀.heap.objs.size
  noex:∀b o,X.base.get? b=some o->b ∉ X.ex
  exfs:∀b∈X.ex,b ∉ X.fs
  funs:X.s₀.heap.FunFrames X.base X.outer
  frf:∀b∈X.fs,X.H₀ b=none
structure Inv (X:Cx) (pins:List (Addr×Obj)) (σ:List (Option V)) (H:Hp) (s:Shared):Prop where
  ok:X.Ok
  os:s.os=X.s₀.os
  bare:AllBare s.gens
  base:Un X.fs X.ex X.H₀ H X.s₀.heap s.heap
  loc:∃m,s.heap.Ns X.env.locals m/\∀(i:Nat) (x:Str) (v:V),X.N[i]? = some x->σ[i]? = some (some v)->Vis X.env.scope x->∃u,RelV v u/\Look X.env s.heap m x u
  cell:∀x c,X.env.cells.lookup x=some c->∃v,s.heap.IsCell c v
  free:H X.env.locals=none
  freeC:∀x c,X.env.cells.lookup x=some c->H c=none
  pin:∀p∈X.pn++pins,s.heap.get? p.1=some p.2/\H p.1=none/\p.1≠X.env.locals/\p.1 ∉ X.fs/\∀v,p.2.data≠.cell v
  hok:HOk X.prog X.w H s.heap
  len:σ.length=X.N.length
section
variable {X:Cx}{pins:List (Addr×Obj)}{σ:List (Option V)}{H H':Hp}{s:Shared}{h':Heap}
theorem Cx.Ok.nofr (ok:X.Ok) {b:Addr}{o:Obj}(e:X.base.get? b=some o):b ∉ X.fs:=fun hb=>by
  have:=(ok.funs.mem hb).1
  rw[e] at this;cases this
theorem Inv.bs (I:Inv X pins σ H s):∀b o,X.base.get? b=some o->s.heap.get? b=some o/\H b=none:=fun b o e=>
  ⟨I.base.keep b o (I.ok.bs b o e).1 (I.ok.bs b o e).2 (I.ok.nofr e) (I.ok.noex b o e),I.base.free b o (I.ok.bs b o e).1 (I.ok.bs b o e).2 (I.ok.noex b o e)⟩
theorem Inv.bk (I:Inv X pins σ H s):∀b o,X.base.get? b=some o->s.heap.get? b=some o:=fun b o e=>(I.bs b o e).1
theorem Inv.mod (I:Inv X pins σ H s):Mod X.K X.mg X.base:=I.ok.mod
theorem Inv.kIn (I:Inv X pins σ H s):X.K.In s.heap:=I.ok.mod.kin.keeps I.bk
theorem Inv.lt (I:Inv X pins σ H s):X.env.locals<s.heap.objs.size:=let ⟨_,hn,_⟩:=I.loc;hn.lt
theorem Inv.sz (I:Inv X pins σ H s):X.s₀.heap.objs.size<=s.heap.objs.size:=Nat.le_trans I.ok.above (Nat.le_of_lt I.lt)
theorem Inv.nofs (I:Inv X pins σ H s) {a:Addr}(h:s.heap.objs.size<=a):a ∉ X.fs:=fun hb=>by
  obtain⟨_,o,ho,_⟩:=I.ok.funs.mem hb
  exact absurd (Nat.lt_of_lt_of_le (Heap.lt_size ho) (Nat.le_trans I.sz h)) (Nat.lt_irrefl _)
theorem Inv.cne (I:Inv X pins σ H s):∀x c,X.env.cells.lookup x=some c->c≠X.env.locals:=fun x c e z=>by
  obtain⟨v,o,ho,hd⟩:=I.cell x c e
  obtain⟨m,⟨o',es,ep,ho',hd',_⟩,_⟩:=I.loc
  rw[z,ho'] at ho;cases ho;rw[hd'] at hd;cases hd
theorem Inv.funs (I:Inv X pins σ H s):s.heap.FunFrames X.base X.outer:=by
  have all:∀(l:List Env),(∀b∈frs l,b∈X.fs)->X.s₀.heap.FunFrames X.base l->s.heap.FunFrames X.base l:=by
    intro l
    induction l with
    | nil=>intro _ _;trivial
    | cons env r ih=>
      intro hs hl
      obtain⟨hk,⟨L,o,hf,hn,ho,hd⟩,hr⟩:=hl
      have hL:L∈X.fs:=hs L (by unfold frs;rw[List.filterMap_cons,hf];exact List.mem_cons_self)
      obtain⟨sl,e⟩:=I.base.slot L o ho (I.ok.frf L hL) hL fun z=>I.ok.exfs L z hL
      exact⟨hk,⟨L,_,hf,hn,e,hd⟩,ih (fun b hb=>hs b (by unfold frs;rw[List.filterMap_cons,hf];exact List.mem_cons_of_mem _ hb)) hr⟩
  exact all X.outer (fun _ hb=>hb) I.ok.funs
theorem Inv.stack (I:Inv X pins σ H s):s.heap.FunFrames X.base X.stack:=by
  rcases I.ok.stk with e | ⟨e,hf⟩
  · rw[e];exact I.funs
  · rw[e]
    obtain⟨m,hn,_⟩:=I.loc
    refine .cons (by rw[I.ok.kind];decide) hf hn ?_ I.funs
    exact Heap.get?_none_of_le (Nat.le_trans I.ok.bsz I.ok.above)
theorem Inv.stkSub (I:Inv X pins σ H s):∀b∈frs X.stack,b∈X.env.locals::X.fs:=fun b hb=>by
  rcases I.ok.stk with e | ⟨e,hf⟩
  · rw[e] at hb;exact List.mem_cons_of_mem _ hb
  · rw[e] at hb
    unfold frs at hb
    rw[List.filterMap_cons,hf] at hb
    exact hb
theorem Inv.stkFree (I:Inv X pins σ H s):∀b∈frs X.stack,H b=none:=fun b hb=>by
  rcases List.mem_cons.mp (I.stkSub b hb) with e | hb
  · rw[e];exact I.free
  · obtain⟨_,o,ho,_⟩:=I.ok.funs.mem hb
    exact I.base.free b o ho (I.ok.frf b hb) fun z=>I.ok.exfs b z hb
theorem Inv.step {g':Array GenState}{t':Nat}{d':Drawn}{ch:List Addr}(I:Inv X pins σ H s)
    (hch:∀b∈ch,(b∈X.ex\/X.s₀.heap.objs.size<=b)/\b≠X.env.locals/\(∀x c,X.env.cells.lookup x=some c->c≠b)/\∀p∈X.pn++pins,p.1≠b)
    (keep:∀b o,b≠X.env.locals->b ∉ X.fs->b ∉ ch->s.heap.get? b=some o->H b=none->h'.get? b=some o)
    (slot:∀b o,b≠X.env.locals->b∈X.fs->b ∉ ch->s.heap.get? b=some o->H b=none->∃sl,h'.get? b=some { o with slots:=sl }) (free:∀b o,b ∉ ch->s.heap.get? b=some o->H b=none->H' b=none)
    (there:∀b o,b ∉ ch->s.heap.get? b=some o->∃o',h'.get? b=some o')
    (tups:∀b xs,H b=some (.tup xs)->H' b=some (.tup xs)) (frzs:∀b o u,H b=some (.frz o u)->H' b=some (.frz o u)) (tbls:∀b ps,H b=some (.tbl ps)->∃more,H' b=some (.tbl (ps++more)))
    (ns:∀m,s.heap.Ns X.env.locals m->h'.Ns X.env.locals m) (hok:HOk X.prog X.w H' h') (hg:AllBare g') :
    Inv X pins σ H' { s with heap:=h',gens:=g',drawn:=d',toks:=t' }:=by
  have neL:∀b o,X.s₀.heap.get? b=some o->b≠X.env.locals:=fun b o e=>Nat.ne_of_lt (Nat.lt_of_lt_of_le (Heap.lt_size e) I.ok.above)
  have neC:∀b o,X.s₀.heap.get? b=some o->b ∉ X.ex->b ∉ ch:=fun b o e hx hb=>by
    rcases (hch b hb).1 with z | z
    · exact hx z
    · exact absurd (Nat.lt_of_lt_of_le (Heap.lt_size e) z) (Nat.lt_irrefl _)
  have cellK:∀x c,X.env.cells.lookup x=some c->∀v,s.heap.IsCell c v->h'.IsCell c v:=fun x c e v ⟨o,ho,hd⟩=>by
    have nch:c ∉ ch:=fun z=>(hch c z).2.2.1 x c e rfl
    by_cases hc:c∈X.fs
    · obtain⟨sl,q⟩:=slot c o (I.cne x c e) hc nch ho (I.freeC x c e)
      exact⟨_,q,hd⟩
    · exact⟨o,keep c o (I.cne x c e) hc nch ho (I.freeC x c e),hd⟩
  refine⟨I.ok,I.os,hg,⟨fun b o e n hb hx=>?_,fun b o e n hb hx=>?_,fun b o e n hx=>?_,fun b o e hx=>?_,fun b xs e=>tups b xs (I.base.tups b xs e),fun b o xs e=>frzs b o xs (I.base.frzs b o xs e),fun b ps e=>?_⟩,?_,fun x c e=>?_,?_,fun x c e=>?_,fun p hp=>?_,hok,I.len⟩
  · exact keep b o (neL b o e) hb (neC b o e hx) (I.base.keep b o e n hb hx) (I.base.free b o e n hx)
  · obtain⟨sl,e1⟩:=I.base.slot b o e n hb hx
    obtain⟨sl',e2⟩:=slot b _ (neL b o e) hb (neC b o e hx) e1 (I.base.free b o e n hx)
    exact⟨sl',e2⟩
  · obtain⟨o',e1⟩:=I.base.there b o e hx
    exact free b o' (neC b o e hx) e1 (I.base.free b o e n hx)
  · obtain⟨o',e1⟩:=I.base.there b o e hx
    exact there b o' (neC b o e hx) e1
  · obtain⟨m1,e1⟩:=I.base.tbls b ps e
    obtain⟨m2,e2⟩:=tbls b _ e1
    exact⟨m1++m2,by rw[e2,Array.append_assoc]⟩
  · obtain⟨m,hn,hl⟩:=I.loc
    refine⟨m,ns m hn,fun i x v e1 e2 e3=>?_⟩
    obtain⟨u,r,l⟩:=hl i x v e1 e2 e3
    refine⟨u,r,?_⟩
    rcases l with l | ⟨k,c,e,z⟩
    · exact .inl l
    · exact .inr ⟨k,c,e,cellK x c e _ z⟩
  · obtain⟨v,z⟩:=I.cell x c e
    exact⟨v,cellK x c e v z⟩
  · obtain⟨m,⟨o,_,_,ho,_⟩,_⟩:=I.loc
    exact free _ o (fun z=>(hch _ z).2.1 rfl) ho I.free
  · obtain⟨v,o,ho,hd⟩:=I.cell x c e
    exact free c o (fun z=>(hch c z).2.2.1 x c e rfl) ho (I.freeC x c e)
  · obtain⟨e,n,ne,nf,d⟩:=I.pin p hp
    have nch:p.1 ∉ ch:=fun z=>(hch p.1 z).2.2.2 p hp rfl
    exact⟨keep p.1 p.2 ne nf nch e n,free p.1 p.2 nch e n,ne,nf,d⟩
theorem Inv.un {t':Nat}(I:Inv X pins σ H s) (u:Un X.fs [] H H' s.heap h') (hok:HOk X.prog X.w H' h'):Inv X pins σ H' { s with heap:=h',toks:=t' }:=by
  obtain⟨m,⟨o,es,ep,ho,r⟩,_⟩:=id I.loc
  obtain⟨sl,hL⟩:=u.any ho I.free (by simp)
  exact I.step (g':=s.gens) (d':=s.drawn) (ch:=[]) (fun _ z=>nomatch z) (fun b o _ hb _ e n=>u.keep b o e n hb (by simp)) (fun b o _ hb _ e n=>u.slot b o e n hb (by simp)) (fun b o _ e n=>u.free b o e n (by simp)) (fun b o _ e=>u.there b o e (by simp)) u.tups u.frzs u.tbls (fun m' hm=>by
    obtain⟨o',es',ep',ho',r'⟩:=hm
    rw[ho] at ho';cases ho'
    exact⟨_,es',ep',hL,r'⟩) hok I.bare
theorem Inv.call {g':Array GenState}{t':Nat}{d':Drawn}{ch:List Addr}(I:Inv X pins σ H s) (u:Un (frs X.stack) ch H H' s.heap h') (hok:HOk X.prog X.w H' h') (hg:AllBare g')
    (hch:∀b∈ch,(b∈X.ex\/X.s₀.heap.objs.size<=b)/\b≠X.env.locals/\(∀x c,X.env.cells.lookup x=some c->c≠b)/\∀p∈X.pn++pins,p.1≠b) :
    Inv X pins σ H' { s with heap:=h',gens:=g',drawn:=d',toks:=t' }:=by
  obtain⟨m,⟨o,es,ep,ho,r⟩,_⟩:=id I.loc
  obtain⟨sl,hL⟩:=u.any ho I.free fun z=>(hch _ z).2.1 rfl
  exact I.step (ch:=ch) hch (fun b o hL hb hc e n=>u.keep b o e n (fun z=>(List.mem_cons.mp (I.stkSub b z)).elim hL hb) hc) (fun b o _ _ hc e n=>u.any e n hc) (fun b o hc e n=>u.free b o e n hc) (fun b o hc e=>u.there b o e hc) u.tups u.frzs u.tbls (fun m' hm=>by
    obtain⟨o',es',ep',ho',r'⟩:=hm
    rw[ho] at ho';cases ho'
    exact⟨_,es',ep',hL,r'⟩) hok hg
theorem Inv.turned {t':Nat}{it:Addr}(I:Inv X pins σ H s) (k:∀b o,b≠it->s.heap.get? b=some o->h'.get? b=some o) (hn:H it=none) (hL:it≠X.env.locals)
    (h1:it∈X.ex\/X.s₀.heap.objs.size<=it) (h2:∀x c,X.env.cells.lookup x=some c->c≠it) (h3:∀p∈X.pn++pins,p.1≠it):Inv X pins σ H { s with heap:=h',toks:=t' }:=by
  have nit:∀b u,H b=some u->b≠it:=fun b u e z=>by rw[z,hn] at e;cases e
  refine I.step (g':=s.gens) (d':=s.drawn) (ch:=[it]) (fun b hb=>?_) (fun b o _ _ hc e _=>k b o (fun z=>hc (by simp[z])) e) (fun b o _ _ hc e _=>⟨o.slots,k b o (fun z=>hc (by simp[z])) e⟩) (fun _ _ _ _ n=>n)
    (fun b o hc e=>⟨o,k b o (fun z=>hc (by simp[z])) e⟩) (fun _ _ e=>e) (fun _ _ _ e=>e) (fun b ps e=>⟨#[],by rw[e];simp⟩) (fun m hm=>?_) (fun b u e=>?_) I.bare
  · have e:b=it:=by simpa using hb
    subst e
    exact⟨h1,hL,h2,h3⟩
  · obtain⟨o,es,ep,ho,r⟩:=hm
    exact⟨o,es,ep,k _ o (Ne.symm hL) ho,r⟩
  · refine (I.hok b u e).stay (fun c v hc q=>k c v ?_ q) (fun _ q=>q) fun _ _ q=>q
    rcases hc with z | z
    · rw[z];exact nit b u e
    · exact nit c _ z
theorem Inv.tok (I:Inv X pins σ H s) (t:Nat):Inv X pins σ H { s with toks:=t }:=I.un (h':=s.heap) (t':=t) Un.refl I.hok
theorem Inv.kept {t':Nat}(I:Inv X pins σ H s) (k:∀b u,s.heap.get? b=some u->h'.get? b=some u):Inv X pins σ H { s with heap:=h',toks:=t' }:=I.un (Un.kept k) (I.hok.kept k)
theorem Inv.laid {a:Addr}{o:HO}{t':Nat}(I:Inv X pins σ H s) (k:∀b u,s.heap.get? b=some u->h'.get? b=some u) (hp:s.heap.objs.size<=a) (new:ObjOk X.prog X.w (upd H a o) h' a o) :
    Inv X pins σ (upd H a o) { s with heap:=h',toks:=t' }:=I.un (Un.laid k hp (I.hok.fresh hp)) (I.hok.laid k hp new)
theorem Inv.write {x e:Addr}{o:HO}{t':Nat}(I:Inv X pins σ H s) (mu:Mut (H x)) (he:e=x\/H e=some (.own x)) (k:∀b u,b≠e->s.heap.get? b=some u->h'.get? b=some u) (heo:∃u,h'.get? e=some u)
    (new:ObjOk X.prog X.w (upd H x o) h' x o):Inv X pins σ (upd H x o) { s with heap:=h',toks:=t' }:=I.un (Un.write mu he k heo) (I.hok.write mu he k heo new)
theorem Inv.pins_of {pins':List (Addr×Obj)}(I:Inv X pins σ H s) (h:∀p∈pins',s.heap.get? p.1=some p.2/\H p.1=none/\p.1≠X.env.locals/\p.1 ∉ X.fs/\∀v,p.2.data≠.cell v):Inv X pins' σ H s:=
  ⟨I.ok,I.os,I.bare,I.base,I.loc,I.cell,I.free,I.freeC,fun p hp=>(List.mem_append.mp hp).elim (fun z=>I.pin p (List.mem_append_left _ z)) (h p),I.hok,I.len⟩
theorem zlm {N:List Str}(hN:N.Nodup) {i j:Nat}{x:Str}(a:N[i]? = some x) (b:N[j]? = some x):i=j:=by
  obtain⟨h1,e1⟩:=List.getElem?_eq_some_iff.mp a
  obtain⟨h2,e2⟩:=List.getElem?_eq_some_iff.mp b
  exact (List.getElem_inj hN).mp (e1.trans e2.symm)
theorem zix {M:Model}{A:Around}{E:Value->Shared->Prop}{i:Nat}{x:Str}{v:V}{u:Value}{Q:Unit->Shared->Prop}(I:Inv X pins σ H s) (hN:X.N.Nodup) (hi:X.N[i]? = some x) (hx:Loc X.env.scope x) (r:RelV v u)
    (h:∀s',Inv X pins (σ.set i (some v)) H s'->(∃a,Heap.SameBut a s.heap s'.heap/\(a=X.env.locals\/X.env.cells.lookup x=some a))->Q () s') (hf:X.fn x=true\/X.env.scope.names.lookup x=some .local:=by first | exact .inl rfl | exact .inr rfl | assumption):wpAny M A (storeName X.env x u) Q E s:=by
  obtain⟨m,hn,hl⟩:=id I.loc
  have hcls:(X.env.scope.kind == .class||(X.env.scope.kind == .module&&X.env.locals != X.env.globals))=false:=by rw[I.ok.kind];rfl
  have hiσ:i<σ.length:=by rw[I.len];exact (List.getElem?_eq_some_iff.mp hi).1
  have cne:=I.cne
  have tracked:∀{a:Addr}{h':Heap},(∃o,s.heap.get? a=some o/\H a=none)->Heap.SameBut a s.heap h'->HOk X.prog X.w H h':=fun {a h'} ha hs b ob e=>by
    obtain⟨_,_,hfree⟩:=ha
    refine (I.hok b ob e).stay (fun c w' hc q=>(hs.2 c ?_).trans q) (fun _ q=>q) fun _ _ q=>q
    rintro rfl
    rcases hc with rfl | hc
    · rw[hfree] at e;cases e
    · rw[hfree] at hc;cases hc
  rcases hx with hk | hk
  · refine wpAny_storeName_local hk hn (fun h' hn' hs=>?_) hcls
    obtain⟨oL,_,_,hoL,_⟩:=id hn
    refine h _ ⟨I.ok,I.os,I.bare,⟨fun b o e n hb hx=>?_,fun b o e n hb hx=>?_,I.base.free,fun b o e hx=>?_,I.base.tups,I.base.frzs,I.base.tbls⟩,⟨_,hn',fun j y v' e1 e2 e3=>?_⟩,fun y c e=>?_,I.free,I.freeC,fun p hp=>?_,tracked ⟨oL,hoL,I.free⟩ hs,by simpa using I.len⟩ ⟨_,hs,.inl rfl⟩
    · exact (hs.2 b (Nat.ne_of_lt (Nat.lt_of_lt_of_le (Heap.lt_size e) I.ok.above))).trans (I.base.keep b o e n hb hx)
    · obtain⟨sl,e1⟩:=I.base.slot b o e n hb hx
      exact⟨sl,(hs.2 b (Nat.ne_of_lt (Nat.lt_of_lt_of_le (Heap.lt_size e) I.ok.above))).trans e1⟩
    · obtain⟨o',e1⟩:=I.base.there b o e hx
      exact⟨o',(hs.2 b (Nat.ne_of_lt (Nat.lt_of_lt_of_le (Heap.lt_size e) I.ok.above))).trans e1⟩
    · by_cases hj:j=i
      · subst hj
        rw[hi] at e1;cases e1
        rw[List.getElem?_set_self hiσ] at e2
        cases e2
        exact⟨u,r,.inl ⟨hk,by simp⟩⟩
      · rw[List.getElem?_set_ne (Ne.symm hj)] at e2
        obtain⟨u',r',q⟩:=hl j y v' e1 e2 e3
        refine⟨u',r',?_⟩
        rcases q with ⟨k,e⟩ | ⟨k,c,e,z⟩
        · refine .inl ⟨k,?_⟩
          have:y≠x:=fun e=>hj (zlm hN e1 (e▸hi))
          simp[this,e]
        · exact .inr ⟨k,c,e,z.sameBut hs (cne y c e)⟩
    · obtain⟨w',z⟩:=I.cell y c e
      exact⟨w',z.sameBut hs (cne y c e)⟩
    · obtain⟨e,n,ne,nf,d⟩:=I.pin p hp
      exact⟨(hs.2 p.1 ne).trans e,n,ne,nf,d⟩
  · have hfn:X.fn x=true:=by
      rcases hf with z | z
      · exact z
      · rw[z] at hk;cases hk
    obtain⟨c,hc⟩:=I.ok.has x (.inl hk)
    obtain⟨w',z⟩:=I.cell x c hc
    refine wpAny_storeName_cell I.ok.kind hk hc z (fun h' hc' hs=>?_)
    obtain⟨oc,hoc,hocd⟩:=id z
    refine h { s with heap:=h' } ⟨I.ok,I.os,I.bare,⟨fun b o e n hb hx=>?_,fun b o e n hb hx=>?_,I.base.free,fun b o e hx=>?_,I.base.tups,I.base.frzs,I.base.tbls⟩,⟨m,hn.sameBut hs (Ne.symm (cne x c hc)),fun j y v' e1 e2 e3=>?_⟩,fun y c' e=>?_,I.free,I.freeC,fun p hp=>?_,tracked ⟨oc,hoc,I.freeC x c hc⟩ hs,by simpa using I.len⟩ ⟨c,hs,.inr hc⟩
    · exact (hs.2 b (Nat.ne_of_lt (Nat.lt_of_lt_of_le (Heap.lt_size e) (I.ok.cab x c hfn hc)))).trans (I.base.keep b o e n hb hx)
    · obtain⟨sl,e1⟩:=I.base.slot b o e n hb hx
      exact⟨sl,(hs.2 b (Nat.ne_of_lt (Nat.lt_of_lt_of_le (Heap.lt_size e) (I.ok.cab x c hfn hc)))).trans e1⟩
    · obtain⟨o',e1⟩:=I.base.there b o e hx
      exact⟨o',(hs.2 b (Nat.ne_of_lt (Nat.lt_of_lt_of_le (Heap.lt_size e) (I.ok.cab x c hfn hc)))).trans e1⟩
    · by_cases hj:j=i
      · subst hj
        rw[hi] at e1;cases e1
        rw[List.getElem?_set_self hiσ] at e2
        cases e2
        exact⟨u,r,.inr ⟨.inl hk,c,hc,hc'⟩⟩
      · rw[List.getElem?_set_ne (Ne.symm hj)] at e2
        obtain⟨u',r',q⟩:=hl j y v' e1 e2 e3
        refine⟨u',r',?_⟩
        rcases q with q | ⟨k,c',e,z'⟩
        · exact .inl q
        · refine .inr ⟨k,c',e,z'.sameBut hs ?_⟩
          rintro rfl
          exact hj (zlm hN e1 (I.ok.inj _ _ _ e hc▸hi))
    · by_cases hcc:c'=c
      · subst hcc;exact⟨_,hc'⟩
      · obtain⟨w2,z2⟩:=I.cell y c' e
        exact⟨w2,z2.sameBut hs hcc⟩
    · obtain⟨e,n,ne,nf,d⟩:=I.pin p hp
      refine⟨(hs.2 p.1 ?_).trans e,n,ne,nf,d⟩
      intro q
      rw[q,hoc] at e
      have q':oc=p.2:=Option.some.inj e
      exact d w' (by rw[←q'];exact hocd)
theorem ze1 {M:Model}{A:Around}{E:Value->Shared->Prop}{i:Nat}{x:Str}{v:V}{u:Value}{Q:Unit->Shared->Prop}(I:Inv X pins σ H s) (hN:X.N.Nodup) (hi:X.N[i]? = some x) (hx:Loc X.env.scope x) (r:RelV v u)
    (h:∀s',Inv X pins (σ.set i (some v)) H s'->Q () s') (hf:X.fn x=true\/X.env.scope.names.lookup x=some .local:=by first | exact .inl rfl | exact .inr rfl | assumption):wpAny M A (storeName X.env x u) Q E s:=
  zix I hN hi hx r (fun s' I' _=>h s' I') hf
theorem Inv.call' {s':Shared}{ch:List Addr}(I:Inv X pins σ H s) (ho:s'.os=s.os) (u:Un (frs X.stack) ch H H' s.heap s'.heap) (hok:HOk X.prog X.w H' s'.heap) (hg:AllBare s'.gens)
    (hch:∀b∈ch,(b∈X.ex\/X.s₀.heap.objs.size<=b)/\b≠X.env.locals/\(∀x c,X.env.cells.lookup x=some c->c≠b)/\∀p∈X.pn++pins,p.1≠b):Inv X pins σ H' s':=by
  obtain⟨h',g',d',t',o'⟩:=s'
  have e:o'=s.os:=ho
  subst e
  exact I.call (g':=g') (t':=t') (d':=d') u hok hg hch
end
abbrev XK:=Value->Option Addr->Hp->Prop
abbrev St:=List (Option V)
abbrev VK:=V->Hp->Prop
abbrev TE:=St->Hp->VK->Prop
abbrev TT:=St->Hp->(Bool->Hp->Prop)->Prop
abbrev TA:=St->Hp->(List V->Hp->Prop)->Prop
structure Ends where
  nx:St->Hp->Prop
  rt:VK
  bk:St->Hp->Prop:=fun _ _=>False
  ct:St->Hp->Prop:=fun _ _=>False
abbrev TS:=Ends->St->Hp->Prop
def EP (X:Cx) (pins:List (Addr×Obj)) (σ:St) (Q:VK) (u:Value) (s':Shared):Prop:=∃v H',Inv X pins σ H' s'/\RelV v u/\Q v H'
def TP (X:Cx) (pins:List (Addr×Obj)) (σ:St) (Q:Bool->Hp->Prop) (b:Bool) (s':Shared):Prop:=∃H',Inv X pins σ H' s'/\Q b H'
def AP (X:Cx) (pins:List (Addr×Obj)) (σ:St) (Q:List V->Hp->Prop) (us:List Value) (s':Shared):Prop:=∃vs H',Inv X pins σ H' s'/\Vals vs us/\Q vs H'
def SP (X:Cx) (pins:List (Addr×Obj)) (D:Ends) (f:Flow) (s':Shared):Prop:=
  match f with
  | .next=>∃σ' H',Inv X pins σ' H' s'/\D.nx σ' H'
  | .brk=>∃σ' H',Inv X pins σ' H' s'/\D.bk σ' H'
  | .cont=>∃σ' H',Inv X pins σ' H' s'/\D.ct σ' H'
  | .ret u=>∃v σ' H',Inv X pins σ' H' s'/\RelV v u/\D.rt v H'
def PE (X:Cx) (e:Expr) (t:TE):Prop:=
  ∀(pins:List (Addr×Obj)) (s:Shared) (σ:St) (H:Hp) (Q:VK),Inv X pins σ H s->t σ H Q->wpAny (model X.prog X.w) X.A (eval e X.env) (EP X pins σ Q) X.xe s
def PT (X:Cx) (e:Expr) (t:TT):Prop:=
  ∀(pins:List (Addr×Obj)) (s:Shared) (σ:St) (H:Hp) (Q:Bool->Hp->Prop),Inv X pins σ H s->t σ H Q->wpAny (model X.prog X.w) X.A (isTrue e X.env (eval e X.env)) (TP X pins σ Q) X.xe s
def PW (X:Cx) (e:Expr) (t:TT):Prop:=
  ∀(whole:Sem Value) (pins:List (Addr×Obj)) (s:Shared) (σ:St) (H:Hp) (Q:Bool->Hp->Prop),Inv X pins σ H s->t σ H Q->wpAny (model X.prog X.w) X.A (isTrue e X.env whole) (TP X pins σ Q) X.xe s
theorem PW.pt {X:Cx}{e:Expr}{t:TT}(h:PW X e t):PT X e t:=h _
def PA (X:Cx) (es:List Expr) (t:TA):Prop:=
  ∀(pos:Pos) (pins:List (Addr×Obj)) (s:Shared) (σ:St) (H:Hp) (Q:List V->Hp->Prop),Inv X pins σ H s->t σ H Q->wpAny (model X.prog X.w) X.A (spliced (backTo pos (starEach es X.env))) (AP X pins σ Q) X.xe s
def PS (X:Cx) (st:Stmt) (t:TS):Prop:=
  ∀(pins:List (Addr×Obj)) (s:Shared) (σ:St) (H:Hp) (D:Ends),Inv X pins σ H s->t D σ H->wpAny (model X.prog X.w) X.A (exec st X.env) (SP X pins D) X.xe s
def PSs (X:Cx) (st:List Stmt) (t:TS):Prop:=
  ∀(pins:List (Addr×Obj)) (s:Shared) (σ:St) (H:Hp) (D:Ends),Inv X pins σ H s->t D σ H->wpAny (model X.prog X.w) X.A (execs st X.env) (SP X pins D) X.xe s
theorem thn {α:Type}{t:Sem α}{Q Q':α->Shared->Prop}{M:Model}{A:Around}{E:Value->Shared->Prop}{s:Shared}(h:wpAny M A t Q E s) (hQ:∀a s,Q a s->Q' a s):wpAny M A t Q' E s:=wpAny_mono h hQ fun _ _ x=>x
section
variable {X:Cx}
theorem bin {a b:Expr}{ta tb:TE}(ha:PE X a ta) (hb:PE X b tb) {pins:List (Addr×Obj)}{s:Shared}{σ:St}{H:Hp}{R:V->V->Hp->Prop}(I:Inv X pins σ H s) (h:ta σ H fun x H1=>tb σ H1 fun y H2=>R x y H2)
    {α:Type}{Q:α->Shared->Prop}{f:Value->Value->Sem α}
    (hf:∀v u s2 x y H2,Inv X pins σ H2 s2->RelV x v->RelV y u->R x y H2->wpAny (model X.prog X.w) X.A (f v u) Q X.xe s2) :
    wpAny (model X.prog X.w) X.A (eval a X.env) (fun v s₁=>wpAny (model X.prog X.w) X.A (eval b X.env) (fun u s₂=>wpAny (model X.prog X.w) X.A (f v u) Q X.xe s₂) X.xe s₁) X.xe s:=by
  refine thn (ha pins s σ H _ I h) fun v s1 hq0=>?_
  obtain⟨x,H1,I1,r1,q1⟩:=hq0
  refine thn (hb pins s1 σ H1 _ I1 q1) fun u s2 hq0=>?_
  obtain⟨y,H2,I2,r2,q2⟩:=hq0
  exact hf v u s2 x y H2 I2 r1 r2 q2
def tVar (i:Nat):TE:=fun σ H Q=>∃v,σ[i]? = some (some v)/\Q v H
def tC (v:V):TE:=fun _ H Q=>Q v H
theorem zvv {i:Nat}{x:Str}{pos:Pos}(hN:X.N[i]? = some x) (hv:Vis X.env.scope x) (hd:(x == ("__debug__" : Str))=false:=by decide) (hcd:(x == ("__classdict__" : Str))=false:=by decide):PE X (.Name x pos) (tVar i):=by
  intro pins s σ H Q I h
  obtain⟨v,e,h⟩:=h
  obtain⟨m,hn,hl⟩:=I.loc
  obtain⟨u,r,l⟩:=hl i x v hN e hv
  have fin:EP X pins σ Q u s:=⟨v,H,I,r,h⟩
  rcases l with ⟨hk,hm⟩ | ⟨hk,c,hc,hcell⟩
  · exact wpAny_Name (wpAny_loadName_local I.ok.kind hk hn hm fin) hd
  · rcases hk with hk | hk
    · exact wpAny_Name (wpAny_loadName_cell I.ok.kind hk hc hcell fin) hd
    · exact wpAny_Name (wpAny_loadName_free I.ok.kind hk hc hcell fin hcd) hd
theorem zf {i j pos}:PE X (.Constant (.int i) j pos) (tC (.int i)):=fun _ _ _ H _ I h=>wpAny_Constant_int ⟨.int i,H,I.tok _,⟨_,rfl⟩,h⟩
theorem znw {b j pos}:PE X (.Constant (.bool b) j pos) (tC (.bl b)):=fun _ _ _ H _ I h=>Constant_bool ⟨.bl b,H,I,rfl,h⟩
theorem znx {j pos}:PE X (.Constant .none j pos) (tC .non):=fun _ _ _ H _ I h=>Constant_none ⟨.non,H,I,rfl,h⟩
theorem zaf {x j pos}:PE X (.Constant (.str x) j pos) (tC (.str x)):=fun _ _ _ H _ I h=>Calls.Constant_str ⟨.str x,H,I.tok _,⟨_,rfl⟩,h⟩
def Gl (X:Cx) (x:Str):Prop:=X.env.kindOf x=some .globalImplicit
theorem zcn {E:Value->Shared->Prop}{pins:List (Addr×Obj)}{s:Shared}{σ:St}{H:Hp}{x:Str}{u:Value}{pos:Pos}{Q:Value->Shared->Prop}(I:Inv X pins σ H s) (hg:Gl X x) (hm:X.mg x=some u) (h:Q u s)
    (hd:(x == ("__debug__" : Str))=false:=by decide):wpAny (model X.prog X.w) X.A (eval (.Name x pos) X.env) Q E s:=
  Calls.Name_function_global I.ok.kind hg (Calls.loadGlobal_global (by rw[I.ok.glob];exact I.mod.glob.keeps I.bk) hm h) hd
theorem ziy {E:Value->Shared->Prop}{pins:List (Addr×Obj)}{s:Shared}{σ:St}{H:Hp}{x:Str}{u:Value}{pos:Pos}{Q:Value->Shared->Prop}(I:Inv X pins σ H s) (hg:Gl X x) (hm:X.mg x=none) (hv:bootBuiltins x=some u) (h:Q u s)
    (hn:x≠"__name__":=by decide) (hd:(x == ("__debug__" : Str))=false:=by decide):wpAny (model X.prog X.w) X.A (eval (.Name x pos) X.env) Q E s:=by
  obtain⟨mb,h1,h2⟩:=I.mod.blt
  exact Calls.Name_function_global I.ok.kind hg (Calls.loadGlobal_builtin (by rw[I.ok.glob];exact I.mod.glob.keeps I.bk) hm (by rw[I.ok.blt];exact h1.keeps I.bk) ((h2 x hn).trans hv) h) hd
theorem zd3 {x:Str}{v:V}{u:Value}{pos:Pos}(hg:Gl X x) (hm:X.mg x=some u) (r:RelV v u) (hd:(x == ("__debug__" : Str))=false:=by decide):PE X (.Name x pos) (tC v):=
  fun _ _ _ H _ I h=>zcn I hg hm ⟨v,H,I,r,h⟩ hd
theorem ztl {x:Str}{v:V}{u:Value}{pos:Pos}(hg:Gl X x) (hm:X.mg x=none) (hv:bootBuiltins x=some u) (r:RelV v u) (hn:x≠"__name__":=by decide) (hd:(x == ("__debug__" : Str))=false:=by decide):PE X (.Name x pos) (tC v):=
  fun _ _ _ H _ I h=>ziy I hg hm hv ⟨v,H,I,r,h⟩ hn hd
variable {a b:Expr}{ta tb:TE}{pos:Pos}
def PC (X:Cx) (op:CmpOp) (a b:Expr) (t:TE):Prop:=
  ∀(pins:List (Addr×Obj)) (s:Shared) (σ:St) (H:Hp) (Q:VK),Inv X pins σ H s->t σ H Q->
    wpAny (model X.prog X.w) X.A (eval a X.env) (fun v s₁=>wpAny (model X.prog X.w) X.A (eval b X.env) (fun u s₂=>wpAny (model X.prog X.w) X.A (compareOp op v u) (EP X pins σ Q) X.xe s₂) X.xe s₁) X.xe s
theorem zqu (b:Expr) {op:CmpOp}(h:op≠.In) (h2:op≠.NotIn):behindInMarks op b=false:=by
  have e1:(op == CmpOp.In)=false:=by cases op<;>first | rfl | exact absurd rfl h
  have e2:(op == CmpOp.NotIn)=false:=by cases op<;>first | rfl | exact absurd rfl h2
  cases b<;>simp[behindInMarks,e1,e2]
def tIsN (ta:TE):TE:=fun σ H Q=>ta σ H fun x H1=>Q (.bl (decide (x = .non))) H1
theorem RelV.none_iff {x:V}{v:Value}(r:RelV x v):(v == Value.none)=decide (x = .non):=by
  cases x with
  | non=>cases r;rfl
  | bl _=>cases r;rfl
  | int _=>obtain⟨t,rfl⟩:=r;rfl
  | str _=>obtain⟨t,rfl⟩:=r;rfl
  | byt _=>obtain⟨t,rfl⟩:=r;rfl
  | flt _=>obtain⟨t,rfl⟩:=r;rfl
  | ref _=>cases r;rfl
  | ty _=>cases r;rfl
theorem zvw {j pos'}(ha:PE X a ta):PC X .Is a (.Constant .none j pos') (tIsN ta):=by
  intro pins s σ H Q I h
  refine thn (ha pins s σ H _ I h) fun v s1 hq0=>?_
  obtain⟨x,H1,I1,r1,q1⟩:=hq0
  exact Constant_none (is_none_gen ⟨.bl _,H1,I1,by rw[r1.none_iff];rfl,q1⟩)
def tB (t:TE):TT:=fun σ H Q=>t σ H fun x H1=>∃c,x = .bl c/\Q c H1
theorem zcy {op:CmpOp}{t:TE}(h:PC X op a b t) (h1:behindInMarks op b=false:=by first | exact zqu _ (by decide) (by decide) | rfl):PT X (.Compare a [op] [b] pos) (tB t):=by
  intro pins s σ H Q I hw
  refine wpAny_isTrue_Compare1 (thn (h pins s σ H _ I hw) fun v s1 h1=>thn h1 fun u s2 h2=>thn h2 fun c s3 hq0=>?_) h1
  obtain⟨x,H1,I1,r1,q1⟩:=hq0
  obtain⟨d,rfl,q⟩:=q1
  cases r1
  exact wpAny_truthy_bool ⟨H1,I1,q⟩
theorem zg3 {e:Expr}{t:TE}(h:PE X e t) (he:∀whole,isTrue e X.env whole=(do let v ←whole;standAt e.pos;holding [v] (truthy v)):=by intro _;rfl):PT X e (tB t):=by
  intro pins s σ H Q I hw
  refine isTrue_plain (thn (h pins s σ H _ I hw) fun v s1 hq0=>?_) (he _)
  obtain⟨x,H1,I1,r1,q1⟩:=hq0
  obtain⟨d,rfl,q⟩:=q1
  cases r1
  exact wpAny_truthy_bool ⟨H1,I1,q⟩
variable {tA tB':TT}{rest:List Expr}
def tAnd (t u:TT):TT:=fun σ H Q=>t σ H fun c H1=>if c=true then u σ H1 Q else Q false H1
def tOr (t u:TT):TT:=fun σ H Q=>t σ H fun c H1=>if c=true then Q true H1 else u σ H1 Q
def tNot (t:TT):TT:=fun σ H Q=>t σ H fun c H1=>Q (!c) H1
theorem zb8 (ha:PT X a tA):PW X (.BoolOp .And [a] pos) tA:=by
  intro wh pins s σ H Q I h
  refine isTrue_and (thn (ha pins s σ H Q I h) fun c s1 e=>?_)
  cases c with
  | true=>exact isTrue_and_nil e
  | false=>exact e
theorem zny (ha:PT X a tA):PW X (.BoolOp .Or [a] pos) tA:=by
  intro wh pins s σ H Q I h
  refine isTrue_or (thn (ha pins s σ H Q I h) fun c s1 e=>?_)
  cases c with
  | false=>exact isTrue_or_nil e
  | true=>exact e
theorem zcz (ha:PT X a tA) (hb:PW X (.BoolOp .And (b::rest) pos) tB'):PW X (.BoolOp .And (a::b::rest) pos) (tAnd tA tB'):=by
  intro wh pins s σ H Q I h
  refine isTrue_and (thn (ha pins s σ H _ I h) fun c s1 hq0=>?_)
  obtain⟨H1,I1,q1⟩:=hq0
  cases c with
  | true=>exact hb wh pins s1 σ H1 Q I1 q1
  | false=>exact⟨H1,I1,q1⟩
theorem ztm (ha:PT X a tA) (hb:PW X (.BoolOp .Or (b::rest) pos) tB'):PW X (.BoolOp .Or (a::b::rest) pos) (tOr tA tB'):=by
  intro wh pins s σ H Q I h
  refine isTrue_or (thn (ha pins s σ H _ I h) fun c s1 hq0=>?_)
  obtain⟨H1,I1,q1⟩:=hq0
  cases c with
  | true=>exact⟨H1,I1,q1⟩
  | false=>exact hb wh pins s1 σ H1 Q I1 q1
theorem zln (ha:PT X a tA):PT X (.UnaryOp .Not a pos) (tNot tA):=by
  intro pins s σ H Q I h
  exact isTrue_not (ha pins s σ H (fun c H1=>Q (!c) H1) I h)
def zxk (ta tb:TE):TE:=fun σ H Q=>ta σ H fun x H1=>∃c,x = .bl c/\if c=true then tb σ H1 Q else Q (.bl false) H1
def tOrV (ta tb:TE):TE:=fun σ H Q=>ta σ H fun x H1=>∃c,x = .bl c/\if c=true then Q (.bl true) H1 else tb σ H1 Q
theorem znz {op}{t:TE}(h:PE X a t):PE X (.BoolOp op [a] pos) t:=fun pins s σ H Q I hw=>BoolOp_one (h pins s σ H Q I hw)
theorem zsq (ha:PE X a ta) (hb:PE X (.BoolOp .And (b::rest) pos) tb):PE X (.BoolOp .And (a::b::rest) pos) (zxk ta tb):=by
  intro pins s σ H Q I h
  refine BoolOp_and (thn (ha pins s σ H _ I h) fun v s1 hq0=>?_)
  obtain⟨x,H1,I1,r1,q1⟩:=hq0
  obtain⟨c,rfl,q1⟩:=q1
  cases r1
  refine wpAny_truthy_bool ?_
  cases c with
  | true=>exact hb pins s1 σ H1 Q I1 q1
  | false=>exact⟨.bl false,H1,I1,rfl,q1⟩
theorem zxl (ha:PE X a ta) (hb:PE X (.BoolOp .Or (b::rest) pos) tb):PE X (.BoolOp .Or (a::b::rest) pos) (tOrV ta tb):=by
  intro pins s σ H Q I h
  refine BoolOp_or (thn (ha pins s σ H _ I h) fun v s1 hq0=>?_)
  obtain⟨x,H1,I1,r1,q1⟩:=hq0
  obtain⟨c,rfl,q1⟩:=q1
  cases r1
  refine wpAny_truthy_bool ?_
  cases c with
  | false=>exact hb pins s1 σ H1 Q I1 q1
  | true=>exact⟨.bl true,H1,I1,rfl,q1⟩
def tIf (t:TT) (ta tb:TE):TE:=fun σ H Q=>t σ H fun c H1=>if c=true then ta σ H1 Q else tb σ H1 Q
theorem zqv {c:Expr}(hc:PT X c tA) (ha:PE X a ta) (hb:PE X b tb):PE X (.IfExp c a b pos) (tIf tA ta tb):=by
  intro pins s σ H Q I h
  refine wpAny_IfExp (thn (hc pins s σ H _ I h) fun d s1 hq0=>?_)
  obtain⟨H1,I1,q1⟩:=hq0
  cases d with
  | true=>exact ha pins s1 σ H1 Q I1 q1
  | false=>exact hb pins s1 σ H1 Q I1 q1
end
def SqL (K:PySem.W.Frag) (H:Hp) (a:Addr) (xs:List V):Prop:=
  Rd H a (.lst xs)\/
    ∃(o:Obj) (its:Array Value) (n:Nat),K.lookup a=some o/\o.cls = .type "list"/\o.dict=none/\o.data = .seq its n/\its.size<=sizeLine/\Vals xs its.toList
def SqT (K:PySem.W.Frag) (H:Hp) (a:Addr) (xs:List V):Prop:=
  Rd H a (.tup xs)\/
    ∃(o:Obj) (its:Array Value) (n:Nat),K.lookup a=some o/\o.cls = .type "tuple"/\o.data = .seq its n/\its.size<=sizeLine/\Vals xs its.toList
def absV:Value->Option V
  | .none=>some .non
  | .bool b=>some (.bl b)
  | .int i _=>some (.int i)
  | .str x _=>some (.str x)
  | .bytes b _=>some (.byt b)
  | .float b _=>some (.flt b)
  | .ref a=>some (.ref a)
  | .type n=>some (.ty n)
  | _=>none
theorem RelV.abs {x:V}{u:Value}(r:RelV x u):absV u=some x:=by
  cases x with
  | non=>cases r;rfl
  | bl _=>cases r;rfl
  | int _=>obtain⟨t,rfl⟩:=r;rfl
  | str _=>obtain⟨t,rfl⟩:=r;rfl
  | byt _=>obtain⟨t,rfl⟩:=r;rfl
  | flt _=>obtain⟨t,rfl⟩:=r;rfl
  | ref _=>cases r;rfl
  | ty _=>cases r;rfl
theorem RelV.inj {x y:V}{u:Value}(r:RelV x u) (q:RelV y u):x=y:=Option.some.inj (r.abs.symm.trans q.abs)
theorem Vals.inj:∀{xs ys:List V}{us:List Value},Vals xs us->Vals ys us->xs=ys
  | _,_,_,.nil,.nil=>rfl
  | _,_,_,.cons r t,.cons r' t'=>by rw[r.inj r',Vals.inj t t']
section
variable {X:Cx}{pins:List (Addr×Obj)}{σ:St}{H:Hp}{s:Shared}{a:Addr}{xs ys:List V}
theorem SqL.of {K:PySem.W.Frag}(h:H a=some (.lst xs)):SqL K H a xs:=.inl (.inl h)
theorem SqT.of {K:PySem.W.Frag}(h:H a=some (.tup xs)):SqT K H a xs:=.inl (.inl h)
theorem Inv.list (I:Inv X pins σ H s) (h:SqL X.K H a xs):∃its:List Value,Vals xs its/\PlainL s.heap a its.toArray/\xs.length<=sizeLine:=by
  rcases h with h | ⟨o,its,n,hk,hc,hd,hs,hz,r⟩
  · obtain⟨z,its,n,r,e⟩:=h.ok I.hok
    exact⟨its,r,⟨_,n,e,rfl,rfl,rfl⟩,z⟩
  · refine⟨its.toList,r,⟨o,n,I.kIn a o hk,hc,hd,by simpa using hs⟩,?_⟩
    have e:=r.length
    simp only [Array.length_toList] at e
    omega
theorem Inv.tuple (I:Inv X pins σ H s) (h:SqT X.K H a xs):∃its:List Value,Vals xs its/\IsTup s.heap a its.toArray/\xs.length<=sizeLine:=by
  rcases h with h | ⟨o,its,n,hk,hc,hs,hz,r⟩
  · obtain⟨z,its,r,p⟩:=h.ok I.hok
    exact⟨its,r,p,z⟩
  · refine⟨its.toList,r,⟨o,I.kIn a o hk,hc,n,by simpa using hs⟩,?_⟩
    have e:=r.length
    simp only [Array.length_toList] at e
    omega
theorem Inv.list_inj (I:Inv X pins σ H s) (h:SqL X.K H a xs) (h':SqL X.K H a ys):xs=ys:=by
  obtain⟨its,r,⟨o,n,e,_,_,d⟩,_⟩:=I.list h
  obtain⟨its',r',⟨o',n',e',_,_,d'⟩,_⟩:=I.list h'
  rw[e] at e';cases e'
  rw[d] at d'
  injection d' with d1 _
  have:its=its':=by simpa using congrArg Array.toList d1
  subst this
  exact r.inj r'
theorem Inv.tuple_inj (I:Inv X pins σ H s) (h:SqT X.K H a xs) (h':SqT X.K H a ys):xs=ys:=by
  obtain⟨its,r,⟨o,e,_,n,d⟩,_⟩:=I.tuple h
  obtain⟨its',r',⟨o',e',_,n',d'⟩,_⟩:=I.tuple h'
  rw[e] at e';cases e'
  rw[d] at d'
  injection d' with d1 _
  have:its=its':=by simpa using congrArg Array.toList d1
  subst this
  exact r.inj r'
end
abbrev Cx.wish (X:Cx) (E:Value->Shared->Prop):Cx:={ X with xe:=E }
abbrev Cx.nox (X:Cx):Cx:=X.wish fun _ _=>False
theorem Cx.Ok.wish {X:Cx}(ok:X.Ok) (E:Value->Shared->Prop):(X.wish E).Ok:=
  ⟨ok.mod,ok.kind,ok.glob,ok.blt,ok.above,ok.inj,ok.has,ok.cab,ok.hd,ok.frames,ok.stk,ok.exf,ok.bs,ok.bsz,ok.noex,ok.exfs,ok.funs,ok.frf⟩
theorem Cx.Ok.unwish {X:Cx}{E:Value->Shared->Prop}(ok:(X.wish E).Ok):X.Ok:=
  ⟨ok.mod,ok.kind,ok.glob,ok.blt,ok.above,ok.inj,ok.has,ok.cab,ok.hd,ok.frames,ok.stk,ok.exf,ok.bs,ok.bsz,ok.noex,ok.exfs,ok.funs,ok.frf⟩
section
variable {X:Cx}{pins:List (Addr×Obj)}{σ:St}{H:Hp}{s:Shared}{E:Value->Shared->Prop}
theorem Inv.wish (I:Inv X pins σ H s) (E:Value->Shared->Prop):Inv (X.wish E) pins σ H s:=⟨I.ok.wish E,I.os,I.bare,I.base,I.loc,I.cell,I.free,I.freeC,I.pin,I.hok,I.len⟩
theorem Inv.unwish (I:Inv (X.wish E) pins σ H s):Inv X pins σ H s:=⟨I.ok.unwish,I.os,I.bare,I.base,I.loc,I.cell,I.free,I.freeC,I.pin,I.hok,I.len⟩
theorem SP.unwish {D:Ends}{f:Flow}{s':Shared}(h:SP (X.wish E) pins D f s'):SP X pins D f s':=by
  cases f with
  | next=>obtain⟨σ',H',I,q⟩:=h;exact⟨σ',H',I.unwish,q⟩
  | brk=>obtain⟨σ',H',I,q⟩:=h;exact⟨σ',H',I.unwish,q⟩
  | cont=>obtain⟨σ',H',I,q⟩:=h;exact⟨σ',H',I.unwish,q⟩
  | ret u=>obtain⟨v,σ',H',I,r,q⟩:=h;exact⟨v,σ',H',I.unwish,r,q⟩
theorem PSs.nox {st:List Stmt}{t:TS}(h:PSs X.nox st t):PSs X st t:=fun pins s σ H D I hw=>
  wpAny_mono (h pins s σ H D (I.wish _) hw) (fun _ _ q=>q.unwish) fun _ _ z=>False.elim z
end
section
variable {X:Cx}{st:Stmt}{rest:List Stmt}{t u:TS}{e:Expr}{te:TE}{pos:Pos}
def zcv:TS:=fun D σ H=>D.nx σ H
def tSeq (t u:TS):TS:=fun D σ H=>t { D with nx:=u D } σ H
theorem zai:PSs X [] zcv:=fun _ _ σ H _ I h=>wpAny_execs_nil ⟨σ,H,I,h⟩
theorem ze (h1:PS X st t) (h2:PSs X rest u):PSs X (st::rest) (tSeq t u):=by
  intro pins s σ H D I h
  refine wpAny_execs_cons (thn (h1 pins s σ H { D with nx:=u D } I h) fun f s1 q=>?_)
  cases f with
  | next=>
    obtain⟨σ',H',I',q⟩:=q
    exact h2 pins s1 σ' H' D I' q
  | ret v=>exact q
  | brk=>exact q
  | cont=>exact q
theorem zi (h1:PS X st t):PSs X [st] t:=by
  intro pins s σ H D I h
  refine wpAny_execs_cons (thn (h1 pins s σ H D I h) fun f s1 q=>?_)
  cases f with
  | next=>exact wpAny_execs_nil q
  | ret v=>exact q
  | brk=>exact q
  | cont=>exact q
theorem Inv.quiet {pins:List (Addr×Obj)}{σ:St}{H:Hp}{s:Shared}(I:Inv X pins σ H s):interactive X.env=false:=by simp[interactive,I.ok.kind]
def zxm (te:TE):TS:=fun D σ H=>te σ H fun _ H1=>D.nx σ H1
theorem zat (he:PE X e te) (hs:swapsWith e none pos.line X.env=pure false:=by rfl):PS X (.Expr e pos) (zxm te):=by
  intro pins s σ H D I h
  exact wpAny_Expr_any (thn (he pins s σ H _ I h) fun v s1 ⟨x,H1,I1,r1,q1⟩=>⟨σ,H1,I1,q1⟩) I.quiet hs
def tRet (te:TE):TS:=fun D σ H=>te σ H D.rt
theorem zal (he:PE X e te):PS X (.Return (some e) pos) (tRet te):=by
  intro pins s σ H D I h
  exact wpAny_Return_some (thn (he pins s σ H _ I h) fun v s1 ⟨x,H1,I1,r1,q1⟩=>⟨x,σ,H1,I1,r1,q1⟩)
def tIfS (c:TT) (t u:TS):TS:=fun D σ H=>c σ H fun b H1=>if b=true then t D σ H1 else u D σ H1
theorem zay {c:Expr}{a b:List Stmt}{tc:TT}(hc:PT X c tc) (ha:PSs X a t) (hb:PSs X b u):PS X (.If c a b pos) (tIfS tc t u):=by
  intro pins s σ H D I h
  refine wpAny_If (thn (hc pins s σ H _ I h) fun d s1 hq0=>?_)
  obtain⟨H1,I1,q1⟩:=hq0
  cases d with
  | true=>exact ha pins s1 σ H1 D I1 q1
  | false=>exact hb pins s1 σ H1 D I1 q1
def zvx:TS:=fun _ _ _=>False
theorem za0:PS X st zvx:=fun _ _ _ _ _ _ h=>h.elim
end
abbrev TG:=V->St->Hp->(St->Hp->Prop)->Prop
abbrev TGs:=List V->St->Hp->(St->Hp->Prop)->Prop
def PG (X:Cx) (target:Expr) (t:TG):Prop:=
  ∀(pins:List (Addr×Obj)) (s:Shared) (σ:St) (H:Hp) (v:V) (u:Value) (Q:St->Hp->Prop),Inv X pins σ H s->RelV v u->t v σ H Q->
    wpAny (model X.prog X.w) X.A (assign target X.env u) (fun _ s'=>∃σ' H',Inv X pins σ' H' s'/\Q σ' H') X.xe s
def PGs (X:Cx) (ts:List Expr) (t:TGs):Prop:=
  ∀(pins:List (Addr×Obj)) (s:Shared) (σ:St) (H:Hp) (vs:List V) (us:List Value) (Q:St->Hp->Prop),Inv X pins σ H s->Vals vs us->t vs σ H Q->
    wpAny (model X.prog X.w) X.A (assignInOrder ((assignEach ts X.env).map (·.2)) us) (fun _ s'=>∃σ' H',Inv X pins σ' H' s'/\Q σ' H') X.xe s
abbrev TSet:=V->V->V->Hp->(Hp->Prop)->Prop
def PSet (X:Cx) (t:TSet):Prop:=
  ∀(pins:List (Addr×Obj)) (s:Shared) (σ:St) (H:Hp) (o i v:V) (ov iv u:Value) (Q:Hp->Prop),Inv X pins σ H s->RelV o ov->RelV i iv->RelV v u->t o i v H Q->
    wpAny (model X.prog X.w) X.A (setItem ov iv u) (fun _ s'=>∃H',Inv X pins σ H' s'/\Q H') X.xe s
section
variable {X:Cx}{pos:Pos}
def za6 (i:Nat):TG:=fun v σ H Q=>Q (σ.set i (some v)) H
theorem zap {i:Nat}{x:Str}(hN:X.N.Nodup) (hi:X.N[i]? = some x) (hx:Loc X.env.scope x) (hf:X.fn x=true\/X.env.scope.names.lookup x=some .local:=by first | exact .inl rfl | exact .inr rfl | assumption):PG X (.Name x pos) (za6 i):=by
  intro pins s σ H v u Q I r h
  exact wpAny_assign_Name (ze1 I hN hi hx r (fun s' I'=>⟨_,H,I',h⟩) hf)
def gNil:TGs:=fun vs σ H Q=>vs = []/\Q σ H
def ztn (t:TG) (u:TGs):TGs:=fun vs σ H Q=>∃v r,vs=v::r/\t v σ H fun σ' H'=>u r σ' H' Q
theorem zko:PGs X [] gNil:=by
  intro pins s σ H vs us Q I r h
  obtain⟨e,h⟩:=h
  subst e
  cases r
  exact assignInOrder_nil ⟨σ,H,I,h⟩
theorem zbx {e:Expr}{es:List Expr}{t:TG}{u:TGs}(h1:PG X e t) (h2:PGs X es u)
    (hs:(assignEach (e::es) X.env).map (·.2)=assign e X.env::(assignEach es X.env).map (·.2):=by rfl):PGs X (e::es) (ztn t u):=by
  intro pins s σ H vs us Q I r h
  obtain⟨v,vr,e1,h⟩:=h
  subst e1
  cases r with
  | cons r rr=>
    rw[hs]
    refine assignInOrder_cons (thn (h1 pins s σ H _ _ _ I r h) fun _ s1 hq0=>?_)
    obtain⟨σ1,H1,I1,q1⟩:=hq0
    exact h2 pins s1 σ1 H1 _ _ Q I1 rr q1
def gTup (K:PySem.W.Frag) (n:Nat) (t:TGs):TG:=fun v σ H Q=>∃a xs,v = .ref a/\SqT K H a xs/\xs.length=n/\t xs σ H Q
theorem zvy {es:List Expr}{k:Nat}{t:TGs}{n:Nat}(hc:X.calm=true) (h:PGs X es t)
    (hn:(assignEach es X.env).length=n:=by rfl) (hst:(assignEach es X.env).findIdx? (·.1)=none:=by rfl):PG X (.Tuple es k pos) (gTup X.K n t):=by
  intro pins s σ H v u Q I r hw
  obtain⟨a,xs,e1,hq,hl,hw⟩:=hw
  subst e1
  cases r
  obtain⟨its,rv,ht,hz⟩:=I.tuple hq
  refine assign_Tuple_tuple (I.ok.hd hc) ht (by simp[hn,←hl,rv.length]) hst fun h' hx=>?_
  have I1:Inv X pins σ H { s with heap:=h' }:=I.kept (t':=s.toks) fun b o e=>hx b o (Nat.ne_of_lt (Heap.lt_size e)) e
  exact h pins _ σ H xs _ Q I1 (by simpa using rv) hw
def gSub (to ti:TE) (t:TSet):TG:=fun v σ H Q=>to σ H fun o H1=>ti σ H1 fun i H2=>t o i v H2 fun H3=>Q σ H3
theorem zsr {o i:Expr}{to ti:TE}{t:TSet}(ho:PE X o to) (hi:PE X i ti) (hs:PSet X t)
    (ha:∀v,assign (.Subscript o i pos) X.env v=(do
      let ov ←holding [v] (eval o X.env)
      let iv ←holding [v,ov] (eval i X.env)
      standAt pos
      holding [v,ov,iv] (setItem ov iv v)
      release [v,ov,iv] []):=by intro _;rfl):PG X (.Subscript o i pos) (gSub to ti t):=by
  intro pins s σ H v u Q I r h
  rw[ha]
  refine wpAny_bind (wpAny_holding (thn (ho pins s σ H _ I h) fun ov s1 hq0=>?_))
  obtain⟨x,H1,I1,r1,q1⟩:=hq0
  refine wpAny_bind (wpAny_holding (thn (hi pins s1 σ H1 _ I1 q1) fun iv s2 hq0=>?_))
  obtain⟨y,H2,I2,r2,q2⟩:=hq0
  refine wpAny_bind (wpAny_standAt (wpAny_bind (wpAny_holding (thn (hs pins s2 σ H2 x y v ov iv u _ I2 r1 r2 r q2) fun _ s3 hq0=>?_))))
  obtain⟨H3,I3,q3⟩:=hq0
  exact wpAny_release ⟨σ,H3,I3,q3⟩
def tAsg (te:TE) (g:TG):TS:=fun D σ H=>te σ H fun x H1=>g x σ H1 D.nx
theorem zlo {tg e:Expr}{te:TE}{g:TG}(he:PE X e te) (hg:PG X tg g) (hs:swapsWithSole [tg] e pos.line X.env=pure false:=by rfl) (hw:swappedStores [tg] e X.env=pure none:=by rfl)
    (h1:(assignEach [tg] X.env).map (·.2) = [assign tg X.env]:=by rfl):PS X (.Assign [tg] e pos) (tAsg te g):=by
  intro pins s σ H D I h
  refine wpAny_Assign_stores (thn (he pins s σ H _ I h) fun v s1 hq0=>?_) hs hw
  obtain⟨x,H1,I1,r1,q1⟩:=hq0
  rw[h1]
  exact thn (hg pins s1 σ H1 x v _ I1 r1 q1) fun _ s2 q=>q
theorem zav {i:Nat}{x:Str}{e:Expr}{te:TE}{pos':Pos}(hN:X.N.Nodup) (hi:X.N[i]? = some x) (hx:Loc X.env.scope x) (he:PE X e te) (hs:swapsWith e (some (.Name x pos')) pos.line X.env=pure false:=by rfl) (hf:X.fn x=true\/X.env.scope.names.lookup x=some .local:=by first | exact .inl rfl | exact .inr rfl | assumption) :
    PS X (.Assign [.Name x pos'] e pos) (tAsg te (za6 i)):=by
  intro pins s σ H D I h
  refine wpAny_Assign_Name (thn (he pins s σ H _ I h) fun v s1 hq0=>?_) hs
  obtain⟨y,H1,I1,r1,q1⟩:=hq0
  exact ze1 I1 hN hi hx r1 (fun s2 I2=>⟨_,H1,I2,q1⟩) hf
def tPar (i j:Nat) (ta:TA):TS:=fun D σ H=>ta σ H fun vs H1=>∃v w,vs = [v,w]/\D.nx ((σ.set i (some v)).set j (some w)) H1
theorem zvz {i j:Nat}{x y:Str}{a b:Expr}{ta:TA}{px py pt:Pos} {kt k2 pt2}(hc:X.calm=true) (hN:X.N.Nodup) (hi:X.N[i]? = some x) (hj:X.N[j]? = some y) (hij:i≠j)
    (hx:X.env.scope.names.lookup x=some .local) (hy:X.env.scope.names.lookup y=some .local) (ha:PA X [a,b] ta)
    (hw:swappedStores [.Tuple [.Name x px,.Name y py] kt pt] (.Tuple [a,b] k2 pt2) X.env=pure (some [x,y]))
    (hs:swapsWithSole [.Tuple [.Name x px,.Name y py] kt pt] (.Tuple [a,b] k2 pt2) pos.line X.env=pure false:=by rfl) :
    PS X (.Assign [.Tuple [.Name x px,.Name y py] kt pt] (.Tuple [a,b] k2 pt2) pos) (tPar i j ta):=by
  intro pins s σ H D I h
  rw[exec_Assign_arm]
  refine wpAny_bind (wpAny_standAt ?_)
  rw[hs]
  refine wpAny_bind (wpAny_pure ?_)
  rw[if_neg (by decide)]
  refine wpAny_bind (Tuple_ (thn (ha _ pins s σ H _ I h) fun us s1 hq0=>?_))
  obtain⟨vs,H1,I1,r1,q1⟩:=hq0
  obtain⟨v,w,e1,q1⟩:=q1
  subst e1
  obtain⟨u1,u2,rfl,rv,rw'⟩:∃u1 u2,us = [u1,u2]/\RelV v u1/\RelV w u2:=by
    cases r1 with
    | cons p q=>
      cases q with
      | cons p' q'=>
        cases q'
        exact⟨_,_,rfl,p,p'⟩
  refine wpAny_newObj_type ?_ (by show 2<=sizeLine;decide)
  have I2:Inv X pins σ H1 { s1 with heap:=s1.heap.push { cls:=.type "tuple",data:=.seq [u1,u2].toArray } }:=I1.kept (t':=s1.toks) fun b o e=>Heap.get?_push_of_some _ e
  rw[hw]
  refine wpAny_bind (wpAny_pure ?_)
  show wpAny (model X.prog X.w) X.A (do rule "assign.swapped-stores";let items ←unpackItems (.ref s1.heap.objs.size) 2 none;assignInOrder [fun v=>bindName X.env y v,fun v=>bindName X.env x v] items.reverse;pure Flow.next) _ _ _
  refine wpAny_bind (wpAny_rule (wpAny_bind (unpackItems_tuple (items:=#[u1,u2]) (I.ok.hd hc) (IsTup.new s1.heap _) fun h' hx'=>?_)))
  have I3:=I2.kept (h':=h') (t':=s1.toks) fun b o e=>hx' b o (Nat.ne_of_lt (Heap.lt_size e)) e
  show wpAny _ _ (assignInOrder [fun v=>bindName X.env y v,fun v=>bindName X.env x v] [u2,u1] >>= fun _=>pure Flow.next) _ _ _
  refine wpAny_bind (assignInOrder_cons (wpAny_bindName (ze1 I3 hN hj (.inl hy) rw' (fun s2 I4=>?_) (.inr hy))))
  refine assignInOrder_cons (wpAny_bindName (ze1 I4 hN hi (.inl hx) rv (fun s3 I5=>assignInOrder_nil (wpAny_pure ?_)) (.inr hx)))
  rw[List.set_comm _ _ (Ne.symm hij)] at I5
  exact⟨_,H1,I5,q1⟩
end
structure It where
  go:Nat->Hp->Prop
  yld:Nat->Hp->V->Hp->Prop
  stop:Nat->Hp->Prop
def FpOk (X:Cx) (pins:List (Addr×Obj)) (H:Hp) (b:Addr):Prop:=
  H b=none/\b≠X.env.locals/\b ∉ X.fs/\(b∈X.ex\/X.s₀.heap.objs.size<=b)/\(∀x c,X.env.cells.lookup x=some c->c≠b)/\∀p∈X.pn++pins,p.1≠b
theorem Inv.fpOk {X:Cx}{pins:List (Addr×Obj)}{σ:St}{H H':Hp}{s:Shared}{b:Addr}(I:Inv X pins σ H s) (hb:s.heap.objs.size<=b) (hn:H' b=none):FpOk X pins H' b:=by
  refine⟨hn,Nat.ne_of_gt (Nat.lt_of_lt_of_le I.lt hb),I.nofs hb,.inr (Nat.le_trans I.sz hb),fun x c e z=>?_,fun p hp z=>?_⟩
  · obtain⟨v,q⟩:=I.cell x c e
    exact absurd (Nat.lt_of_lt_of_le q.lt (by rw[z];exact hb)) (Nat.lt_irrefl _)
  · exact absurd (Nat.lt_of_lt_of_le (Heap.lt_size (I.pin p hp).1) (by rw[z];exact hb)) (Nat.lt_irrefl _)
structure Turn (P:Program) (w:World) (K:PySem.W.Frag) (tg:Expr) (J:It) (fp:List Addr) (it:Addr) (tn:Nat->Heap->Prop):Prop where
  mem:it∈fp
  obj:∀i h,tn i h->∀b∈fp,∃o,h.get? b=some o/\∀v,o.data≠.cell v
  keep:∀i h h',tn i h->(∀b∈fp,∀o,h.get? b=some o->h'.get? b=some o)->tn i h'
  item:∀(X:Cx),X.prog=P->X.w=w->X.K=K->X.calm=true->∀(i:Nat) (pins:List (Addr×Obj)) (s:Shared) (σ:St) (H:Hp) (E:Value->Shared->Prop),Inv X pins σ H s->(∀b∈fp,FpOk X pins H b)->tn i s.heap->J.go i H->
    wpAny (model P w) X.A (pyNext (.ref it)) (fun r s1=>∃u,r=some u/\
      wpAny (model P w) X.A (letOwnedTupleGo tg (.ref it) u) (fun _ s2=>∃x H',Inv X pins σ H' s2/\RelV x u/\J.yld i H x H'/\tn (i+1) s2.heap/\∀b∈fp,H' b=none) E s1) E s
  done:∀(X:Cx),X.prog=P->X.w=w->X.K=K->X.calm=true->∀(i:Nat) (pins:List (Addr×Obj)) (s:Shared) (σ:St) (H:Hp) (E:Value->Shared->Prop),Inv X pins σ H s->(∀b∈fp,FpOk X pins H b)->tn i s.heap->J.stop i H->
    wpAny (model P w) X.A (pyNext (.ref it)) (fun r s1=>r=none/\Inv X pins σ H s1) E s
  self:∀(A:Around) (i:Nat) (s:Shared) (Q:Value->Shared->Prop) (E:Value->Shared->Prop),tn i s.heap->Q (.ref it) s->wpAny (model P w) A (pyIter (.ref it)) Q E s
abbrev TI:=St->Hp->(It->Hp->Prop)->Prop
def PIE (X:Cx) (pins:List (Addr×Obj)) (σ:St) (tg:Expr) (R:It->Hp->Prop) (itv:Value) (s2:Shared):Prop:=
  ∃(it:Addr) (fp:List Addr) (tn:Nat->Heap->Prop) (J:It) (H':Hp),itv = .ref it/\Inv X pins σ H' s2/\Turn X.prog X.w X.K tg J fp it tn/\tn 0 s2.heap/\(∀b∈fp,FpOk X pins H' b)/\R J H'
def PI (X:Cx) (tg iter:Expr) (wi:TI):Prop:=
  ∀(pins:List (Addr×Obj)) (s:Shared) (σ:St) (H:Hp) (R:It->Hp->Prop),Inv X pins σ H s->wi σ H R->
    wpAny (model X.prog X.w) X.A (eval iter X.env) (fun v s1=>wpAny (model X.prog X.w) X.A (pyIter v) (PIE X pins σ tg R) X.xe s1) X.xe s
theorem zmn {M:Model}{A:Around}{E:Value->Shared->Prop}{s:Shared}{tg:Expr}{it:Addr}{u:Value}{o:Obj}{n:String}{vs:Array Value}{Q:Unit->Shared->Prop}(ho:s.heap.get? it=some o) (hc:o.cls = .type n) (hd:o.data = .fields vs)
    (hn : ["enumerate","zip","dict_itemiterator","dict_reverseitemiterator","odict_iterator","itertools.zip_longest","itertools.pairwise"].contains n=false) (hQ:Q () s):wpAny M A (letOwnedTupleGo tg (.ref it) u) Q E s:=by
  unfold letOwnedTupleGo
  cases tg<;>first
    | exact wpAny_pure hQ
    | (cases u<;>first
        | exact wpAny_pure hQ
        | (refine wpAny_bind (wpAny_load ho ?_)
           rw[hc,hd]
           show wpAny M A (if (["enumerate","zip","dict_itemiterator","dict_reverseitemiterator","odict_iterator","itertools.zip_longest","itertools.pairwise"].contains n&&vs[0]? == some (rawInt _))=true then _ else _) Q E s
           rw[if_neg (by intro h;rw[hn,Bool.false_and] at h;cases h)]
           exact wpAny_pure hQ))
def Itl (K:PySem.W.Frag) (a:Addr):It:=
  ⟨fun i H=>∃xs x,SqL K H a xs/\xs[i]? = some x,fun i H x H'=>H'=H/\∀xs,SqL K H a xs->xs[i]? = some x,fun i H=>∃xs,SqL K H a xs/\xs.length<=i⟩
def Itt (K:PySem.W.Frag) (a:Addr):It:=
  ⟨fun i H=>∃xs x,SqT K H a xs/\xs[i]? = some x,fun i H x H'=>H'=H/\∀xs,SqT K H a xs->xs[i]? = some x,fun i H=>∃xs,SqT K H a xs/\xs.length<=i⟩
def Itr (lo:Int) (n:Nat):It:=⟨fun i _=>i<n,fun i H x H'=>H'=H/\x = .int (lo+i),fun i _=>n<=i⟩
theorem zn0 {P:Program}{w:World}{K:PySem.W.Frag}{tg:Expr}(a it:Addr):Turn P w K tg (Itl K a) [it] it (fun i h=>h.IsListIter it a i) where
  mem:=by simp
  obj:=fun i h st b hb=>by
    have e:b=it:=by simpa using hb
    subst e
    obtain⟨o,e,c,d⟩:=st
    exact⟨o,e,fun v z=>by rw[d] at z;cases z⟩
  keep:=fun i h h' st k=>st.at fun o e=>k it (by simp) o e
  item:=by
    intro X hP hw hK hc i pins s σ H E I hf st hg
    subst hP hw hK
    obtain⟨xs,x,hq,hx⟩:=hg
    obtain⟨its,rv,p,hz⟩:=I.list hq
    obtain⟨u,hu,ru⟩:=rv.get hx
    obtain⟨f0,f1,f2,f3,f4,f5⟩:=hf it (by simp)
    refine wpAny_pyNext_list_item st p.isList (x:=u) (by simpa using hu) fun h' st' sb=>?_
    have I1:Inv X pins σ H { s with heap:=h' }:=I.turned (t':=s.toks) (fun b o hb e=>(sb.2 b hb).trans e) f0 f1 f3 f4 f5
    obtain⟨o,e,c,d⟩:=id st'
    exact⟨u,rfl,zmn (s:={ s with heap:=h' }) e c d (by decide) ⟨x,H,I1,ru,⟨rfl,fun ys hy=>by rw[I.list_inj hy hq];exact hx⟩,st',fun b hb=>(hf b hb).1⟩⟩
  done:=by
    intro X hP hw hK hc i pins s σ H E I hf st hg
    subst hP hw hK
    obtain⟨xs,hq,hx⟩:=hg
    obtain⟨its,rv,p,hz⟩:=I.list hq
    obtain⟨f0,f1,f2,f3,f4,f5⟩:=hf it (by simp)
    have hl:=rv.length
    exact wpAny_pyNext_list_end (I.ok.hd hc) st p.isList (by simp;omega) fun h' eb=>⟨rfl,I.turned (t':=s.toks) (fun b o hb e=>eb b o hb e) f0 f1 f3 f4 f5⟩
  self:=fun _ _ _ _ _ st h=>wpAny_pyIter_listiter st h
theorem zmo {P:Program}{w:World}{K:PySem.W.Frag}{tg:Expr}(a it:Addr):Turn P w K tg (Itt K a) [it] it (fun i h=>h.IsTupleIter it a i) where
  mem:=by simp
  obj:=fun i h st b hb=>by
    have e:b=it:=by simpa using hb
    subst e
    obtain⟨o,e,c,d⟩:=st
    exact⟨o,e,fun v z=>by rw[d] at z;cases z⟩
  keep:=fun i h h' st k=>st.at fun o e=>k it (by simp) o e
  item:=by
    intro X hP hw hK hc i pins s σ H E I hf st hg
    subst hP hw hK
    obtain⟨xs,x,hq,hx⟩:=hg
    obtain⟨its,rv,p,hz⟩:=I.tuple hq
    obtain⟨u,hu,ru⟩:=rv.get hx
    obtain⟨f0,f1,f2,f3,f4,f5⟩:=hf it (by simp)
    refine wpAny_pyNext_tuple_item st (show s.heap.IsTuple a its.toArray from p) (x:=u) (by simpa using hu) fun h' st' sb=>?_
    have I1:Inv X pins σ H { s with heap:=h' }:=I.turned (t':=s.toks) (fun b o hb e=>(sb.2 b hb).trans e) f0 f1 f3 f4 f5
    obtain⟨o,e,c,d⟩:=id st'
    exact⟨u,rfl,zmn (s:={ s with heap:=h' }) e c d (by decide) ⟨x,H,I1,ru,⟨rfl,fun ys hy=>by rw[I.tuple_inj hy hq];exact hx⟩,st',fun b hb=>(hf b hb).1⟩⟩
  done:=by
    intro X hP hw hK hc i pins s σ H E I hf st hg
    subst hP hw hK
    obtain⟨xs,hq,hx⟩:=hg
    obtain⟨its,rv,p,hz⟩:=I.tuple hq
    obtain⟨f0,f1,f2,f3,f4,f5⟩:=hf it (by simp)
    have hl:=rv.length
    exact wpAny_pyNext_tuple_end (I.ok.hd hc) st (show s.heap.IsTuple a its.toArray from p) (by simp;omega) fun h' eb=>⟨rfl,I.turned (t':=s.toks) (fun b o hb e=>eb b o hb e) f0 f1 f3 f4 f5⟩
  self:=fun _ _ _ _ _ st h=>wpAny_pyIter_tupleiter st h
theorem zmp {P:Program}{w:World}{K:PySem.W.Frag}{tg:Expr}(it:Addr) (lo:Int) (n:Nat):Turn P w K tg (Itr lo n) [it] it (fun i h=>IsRangeIter h it (lo+(i:Nat) * 1) ((n:Int)-(i:Nat)) 1) where
  mem:=by simp
  obj:=fun i h st b hb=>by
    have e:b=it:=by simpa using hb
    subst e
    exact⟨_,st,fun v z=>by
      have z':Data.fields _=Data.cell v:=z
      cases z'⟩
  keep:=fun i h h' st k=>k it (by simp) _ st
  item:=by
    intro X hP hw hK hc i pins s σ H E I hf st hg
    subst hP hw hK
    obtain⟨f0,f1,f2,f3,f4,f5⟩:=hf it (by simp)
    have W:=Walks.range (prog:=X.prog) (w:=X.w) (I.ok.hd hc) it lo 1 n
    refine W.item i s _ _ hg st fun v h' tk hv st' kk=>?_
    obtain⟨t,rfl⟩:=hv
    have I1:Inv X pins σ H { s with heap:=h',toks:=tk }:=I.turned (fun b o hb e=>kk b o (by simpa using hb) e) f0 f1 f3 f4 f5
    refine⟨_,rfl,zmn (s:={ s with heap:=h',toks:=tk }) (n:="range_iterator") st' rfl rfl (by decide) ⟨.int (lo+i),H,I1,⟨t,?_⟩,⟨rfl,rfl⟩,st',fun b hb=>(hf b hb).1⟩⟩
    rw[Int.mul_one]
  done:=by
    intro X hP hw hK hc i pins s σ H E I hf st hg
    subst hP hw hK
    obtain⟨f0,f1,f2,f3,f4,f5⟩:=hf it (by simp)
    exact wpAny_pyNext_range_end (I.ok.hd hc) st (by have:n<=i:=hg;omega) fun h' eb=>⟨rfl,I.turned (t':=s.toks) (fun b o hb e=>eb b o hb e) f0 f1 f3 f4 f5⟩
  self:=fun _ _ _ _ _ st h=>wpAny_pyIter_rangeiter st h
section
variable {X:Cx}{tg:Expr}
def zv0 (K:PySem.W.Frag) (tl:TE):TI:=fun σ H R=>tl σ H fun x H1=>∃a,x = .ref a/\(∃xs,SqL K H1 a xs)/\R (Itl K a) H1
def iTup (K:PySem.W.Frag) (tl:TE):TI:=fun σ H R=>tl σ H fun x H1=>∃a,x = .ref a/\(∃xs,SqT K H1 a xs)/\R (Itt K a) H1
theorem zto {l:Expr}{tl:TE}(hl:PE X l tl):PI X tg l (zv0 X.K tl):=by
  intro pins s σ H R I h
  refine thn (hl pins s σ H _ I h) fun v s1 hq0=>?_
  obtain⟨x,H1,I1,r1,q1⟩:=hq0
  obtain⟨a,e,⟨xs,hq⟩,q⟩:=q1
  subst e
  cases r1
  obtain⟨its,rv,p,hz⟩:=I1.list hq
  refine wpAny_pyIter_list p.isList ?_
  refine⟨s1.heap.objs.size,[s1.heap.objs.size],_,_,H1,rfl,I1.kept (t':=s1.toks) fun b o e=>Heap.get?_push_of_some _ e,zn0 a _,⟨_,Heap.get?_push_size _ rfl,rfl,rfl⟩,fun b hb=>?_,q⟩
  have e:b=s1.heap.objs.size:=by simpa using hb
  subst e
  exact I1.fpOk (Nat.le_refl _) (I1.hok.fresh (Nat.le_refl _))
theorem zv1 {l:Expr}{tl:TE}(hl:PE X l tl):PI X tg l (iTup X.K tl):=by
  intro pins s σ H R I h
  refine thn (hl pins s σ H _ I h) fun v s1 hq0=>?_
  obtain⟨x,H1,I1,r1,q1⟩:=hq0
  obtain⟨a,e,⟨xs,hq⟩,q⟩:=q1
  subst e
  cases r1
  obtain⟨its,rv,p,hz⟩:=I1.tuple hq
  refine wpAny_pyIter_tuple (show s1.heap.IsTuple a its.toArray from p) ?_
  refine⟨s1.heap.objs.size,[s1.heap.objs.size],_,_,H1,rfl,I1.kept (t':=s1.toks) fun b o e=>Heap.get?_push_of_some _ e,zmo a _,⟨_,Heap.get?_push_size _ rfl,rfl,rfl⟩,fun b hb=>?_,q⟩
  have e:b=s1.heap.objs.size:=by simpa using hb
  subst e
  exact I1.fpOk (Nat.le_refl _) (I1.hok.fresh (Nat.le_refl _))
theorem zqw {pins:List (Addr×Obj)}{σ:St}{H:Hp}{s:Shared}{R:It->Hp->Prop}{E:Value->Shared->Prop}{lo hi:Int}{t u v:Tok}{tk:Nat}(I:Inv X pins σ H s) (h1 : -(2 ^ 62)<=lo) (h2:lo<2 ^ 62) (h3 : -(2 ^ 62)<=hi) (h4:hi<2 ^ 62)
    (q:R (Itr lo (hi-lo).toNat) H):wpAny (model X.prog X.w) X.A (pyIter (.ref s.heap.objs.size)) (PIE X pins σ tg R) E { s with heap:=s.heap.push { cls:=.type "range",data:=.fields #[.int lo t,.int hi u,.int 1 v] },toks:=tk }:=by
  refine wpAny_pyIter_range (IsRange.new ..) (small_one h1 h2 h3 h4) ?_
  have I1:Inv X pins σ H { s with heap:=s.heap.push { cls:=.type "range",data:=.fields #[.int lo t,.int hi u,.int 1 v] },toks:=tk }:=I.kept fun b o e=>Heap.get?_push_of_some _ e
  refine⟨(s.heap.push { cls:=.type "range",data:=.fields #[.int lo t,.int hi u,.int 1 v] }).objs.size,[(s.heap.push { cls:=.type "range",data:=.fields #[.int lo t,.int hi u,.int 1 v] }).objs.size],_,_,H,rfl,
    I1.kept (t':=tk) fun b o e=>Heap.get?_push_of_some _ e,zmp _ lo (hi-lo).toNat,?_,fun b hb=>?_,q⟩
  · have e1:lo+((0:Nat):Int) * 1=lo:=by simp
    have e2:(((hi-lo).toNat:Nat):Int)-((0:Nat):Int)=Builtin.Range.rangeSize lo hi 1:=by rw[rangeSize_one];split<;>omega
    show IsRangeIter _ _ (lo+((0:Nat):Int) * 1) ((((hi-lo).toNat:Nat):Int)-((0:Nat):Int)) 1
    rw[e1,e2]
    exact Heap.get?_push_size _ rfl
  · have e:b=(s.heap.push { cls:=.type "range",data:=.fields #[.int lo t,.int hi u,.int 1 v] }).objs.size:=by simpa using hb
    subst e
    exact I1.fpOk (Nat.le_refl _) (I1.hok.fresh (Nat.le_refl _))
def zxn (ta:TA):TI:=fun σ H R=>ta σ H fun vs H1=>∃j:Int,vs = [.int j]/\-(2 ^ 62)<=j/\j<2 ^ 62/\R (Itr 0 j.toNat) H1
theorem ze7 {a:Expr}{ta:TA}{p pos:Pos}(hg:Gl X "range") (hm:X.mg "range" = none) (ha:PA X [a] ta) (hs:starEach [a] X.env = [(false,eval a X.env)]:=by rfl):PI X tg (.Call (.Name "range" p) [a] [] pos) (zxn ta):=by
  intro pins s σ H R I h
  refine Call_ (ziy I hg hm boot_range (PyProof.Rows.callWith_type1 (thn (ha pos pins s σ H _ I h) fun us s1 hq0=>?_) hs rfl))
  obtain⟨vs,H1,I1,r1,q1⟩:=hq0
  obtain⟨j,e,q1,q2,q⟩:=q1
  subst e
  cases r1 with
  | cons r rr=>
    cases rr
    obtain⟨t,rfl⟩:=r
    exact call_range_1 (zqw I1 (by omega) (by omega) q1 q2 (by simpa using q))
def tFor (wi:TI) (g:TG) (tb:TS):TS:=fun D σ H=>wi σ H fun J H1=>∃W:Nat->Nat->St->Hp->Prop,(∃m,W 0 m σ H1)/\∀i m σ H,W i m σ H->
  (J.stop i H/\D.nx σ H)\/(J.go i H/\∃N:St->Hp->Prop,(∀σ' H',N σ' H'->∃m',m'<m/\W (i+1) m' σ' H')/\∀x H',J.yld i H x H'->g x σ H' fun σ2 H2=>tb { D with nx:=N,ct:=N,bk:=D.nx } σ2 H2)
def zg4 (fp:List Addr) (h:Heap):List (Addr×Obj):=fp.filterMap fun b=>(h.get? b).map fun o=>(b,o)
theorem zb5 {fp:List Addr}{h:Heap}{b:Addr}{o:Obj}(hb:b∈fp) (e:h.get? b=some o):(b,o)∈zg4 fp h:=List.mem_filterMap.mpr ⟨b,hb,by rw[e];rfl⟩
theorem zn1 {fp:List Addr}{h:Heap}{p:Addr×Obj}(hp:p∈zg4 fp h):p.1∈fp/\h.get? p.1=some p.2:=by
  obtain⟨b,hb,e⟩:=List.mem_filterMap.mp hp
  cases q:h.get? b with
  | none=>rw[q] at e;cases e
  | some o=>
    rw[q] at e
    have e':(b,o)=p:=Option.some.inj e
    subst e'
    exact⟨hb,q⟩
theorem Inv.pinned {pins:List (Addr×Obj)}{σ:St}{H:Hp}{s:Shared}{fp:List Addr}(I:Inv X pins σ H s) (hf:∀b∈fp,FpOk X pins H b) (ho:∀b∈fp,∃o,s.heap.get? b=some o/\∀v,o.data≠.cell v):Inv X (pins++zg4 fp s.heap) σ H s:=
  I.pins_of fun p hp=>(List.mem_append.mp hp).elim (fun z=>I.pin p (List.mem_append_right _ z)) fun z=>by
    obtain⟨hb,e⟩:=zn1 z
    obtain⟨f0,f1,f2,_⟩:=hf p.1 hb
    obtain⟨o,e',d⟩:=ho p.1 hb
    rw[e] at e';cases e'
    exact⟨e,f0,f1,f2,d⟩
theorem Inv.unpinned {pins pl:List (Addr×Obj)}{σ:St}{H:Hp}{s:Shared}(I:Inv X (pins++pl) σ H s):Inv X pins σ H s:=I.pins_of fun p hp=>I.pin p (List.mem_append_right _ (List.mem_append_left _ hp))
theorem ze8 {iter:Expr}{body:List Stmt}{wi:TI}{g:TG}{tb:TS}{pos:Pos}(hp:PassesOwn (model X.prog X.w) X.A X.env X.xe) (hc:X.calm=true) (hi:PI X tg iter wi) (hg:PG X tg g) (hb:PSs X body tb)
    (hs:∀x,foldedSetIterable iter X.env x=pure x:=by intro _;rfl):PS X (.For tg iter body [] pos) (tFor wi g tb):=by
  intro pins s σ H D I h
  refine wpAny_For (thn (hi pins s σ H _ I h) fun v s1 h1=>thn h1 fun itv s2 h2=>?_) hs
  obtain⟨it,fp,tn,J,H2,e,I2,T,st2,f2,W,⟨m0,w0⟩,turn⟩:=h2
  subst e
  have stat:∀{H':Hp},(∀b∈fp,H' b=none)->∀b∈fp,FpOk X pins H' b:=fun hn b hb=>⟨hn b hb,(f2 b hb).2⟩
  refine codeAny_forLoop_any (fun n s'=>∃i σ' H',Inv X pins σ' H' s'/\tn i s'.heap/\(∀b∈fp,H' b=none)/\W i n σ' H') ?_ m0 ⟨0,σ,H2,I2,st2,fun b hb=>(f2 b hb).1,w0⟩
  rintro n s3 ⟨i,σ3,H3,I3,st3,fr3,w3⟩
  rcases turn i n σ3 H3 w3 with ⟨stop,qn⟩ | ⟨go,N,hN,step⟩
  · refine wpAny_passesOwn hp (thn (T.done X rfl rfl rfl hc i pins s3 σ3 H3 X.xe I3 (stat fr3) st3 stop) fun r s4 hq0=>?_)
    obtain⟨hr,I4⟩:=hq0
    subst hr
    exact wpAny_execs_nil ⟨σ3,H3,I4,qn⟩
  · refine wpAny_passesOwn hp (thn (T.item X rfl rfl rfl hc i pins s3 σ3 H3 X.xe I3 (stat fr3) st3 go) fun r s4 hq0=>?_)
    obtain⟨u,hr,h4⟩:=hq0
    subst hr
    refine wpAny_passesOwn hp (thn h4 fun _ s5 hq0=>?_)
    obtain⟨x,H5,I5,r5,y5,st5,fr5⟩:=hq0
    have I5':=I5.pinned (stat fr5) (T.obj _ _ st5)
    refine wpAny_passesOwn hp (thn (hg _ s5 σ3 H5 x u _ I5' r5 (step x H5 y5)) fun _ s6 hq0=>?_)
    obtain⟨σ6,H6,I6,q6⟩:=hq0
    refine wpAny_passesOwn hp (thn (hb _ s6 σ6 H6 _ I6 q6) fun f s7 q7=>?_)
    have again:∀{σ7:St}{H7:Hp},Inv X (pins++zg4 fp s5.heap) σ7 H7 s7->N σ7 H7->∃m,m<n/\∃i σ' H',Inv X pins σ' H' s7/\tn i s7.heap/\(∀b∈fp,H' b=none)/\W i m σ' H':=fun {σ7 H7} I7 n7=>by
      obtain⟨m',hm,w7⟩:=hN σ7 H7 n7
      refine⟨m',hm,i+1,σ7,H7,I7.unpinned,T.keep _ _ _ st5 fun b hb o e=>(I7.pin (b,o) (List.mem_append_right _ (List.mem_append_right _ (zb5 hb e)))).1,fun b hb=>?_,w7⟩
      obtain⟨o,e,d⟩:=T.obj _ _ st5 b hb
      exact (I7.pin (b,o) (List.mem_append_right _ (List.mem_append_right _ (zb5 hb e)))).2.1
    cases f with
    | next=>obtain⟨σ7,H7,I7,n7⟩:=q7;exact again I7 n7
    | cont=>obtain⟨σ7,H7,I7,n7⟩:=q7;exact again I7 n7
    | brk=>obtain⟨σ7,H7,I7,q7⟩:=q7;exact⟨σ7,H7,I7.unpinned,q7⟩
    | ret v=>obtain⟨x7,σ7,H7,I7,r7,q7⟩:=q7;exact⟨x7,σ7,H7,I7.unpinned,r7,q7⟩
end
theorem ze2 {K:PySem.W.Frag}{a:Addr}{xs:List V}{g:TG}{tb:TS}{D:Ends}{σ:St}{H:Hp}(Pv:Nat->St->Hp->Prop) (h0:Pv 0 σ H) (hl:∀i σ H,i<=xs.length->Pv i σ H->SqL K H a xs)
    (hs:∀i x σ H,xs[i]? = some x->Pv i σ H->g x σ H fun σ2 H2=>tb { D with nx:=Pv (i+1),ct:=Pv (i+1),bk:=D.nx } σ2 H2) (hd:∀σ H,Pv xs.length σ H->D.nx σ H) :
    ∃W:Nat->Nat->St->Hp->Prop,(∃m,W 0 m σ H)/\∀i m σ H,W i m σ H->
      ((Itl K a).stop i H/\D.nx σ H)\/((Itl K a).go i H/\∃N:St->Hp->Prop,(∀σ' H',N σ' H'->∃m',m'<m/\W (i+1) m' σ' H')/\∀x H',(Itl K a).yld i H x H'->g x σ H' fun σ2 H2=>tb { D with nx:=N,ct:=N,bk:=D.nx } σ2 H2):=by
  refine⟨fun i m σ H=>m=xs.length-i/\i<=xs.length/\Pv i σ H,⟨xs.length,by simp,Nat.zero_le _,h0⟩,?_⟩
  rintro i m σ H ⟨rfl,hi,p⟩
  have q:=hl i σ H hi p
  by_cases hlt:i<xs.length
  · refine .inr ⟨⟨xs,xs[i],q,by simp[hlt]⟩,Pv (i+1),fun σ' H' p'=>⟨xs.length-(i+1),by omega,rfl,hlt,p'⟩,fun x H' y=>?_⟩
    obtain⟨e,y⟩:=y
    subst e
    exact hs i x σ _ (y xs q) p
  · have e:i=xs.length:=by omega
    subst e
    exact .inl ⟨⟨xs,q,Nat.le_refl _⟩,hd σ H p⟩
theorem ztp {K:PySem.W.Frag}{a:Addr}{xs:List V}{g:TG}{tb:TS}{D:Ends}{σ:St}{H:Hp}(Pv:Nat->St->Hp->Prop) (h0:Pv 0 σ H) (hl:∀i σ H,i<=xs.length->Pv i σ H->SqT K H a xs)
    (hs:∀i x σ H,xs[i]? = some x->Pv i σ H->g x σ H fun σ2 H2=>tb { D with nx:=Pv (i+1),ct:=Pv (i+1),bk:=D.nx } σ2 H2) (hd:∀σ H,Pv xs.length σ H->D.nx σ H) :
    ∃W:Nat->Nat->St->Hp->Prop,(∃m,W 0 m σ H)/\∀i m σ H,W i m σ H->
      ((Itt K a).stop i H/\D.nx σ H)\/((Itt K a).go i H/\∃N:St->Hp->Prop,(∀σ' H',N σ' H'->∃m',m'<m/\W (i+1) m' σ' H')/\∀x H',(Itt K a).yld i H x H'->g x σ H' fun σ2 H2=>tb { D with nx:=N,ct:=N,bk:=D.nx } σ2 H2):=by
  refine⟨fun i m σ H=>m=xs.length-i/\i<=xs.length/\Pv i σ H,⟨xs.length,by simp,Nat.zero_le _,h0⟩,?_⟩
  rintro i m σ H ⟨rfl,hi,p⟩
  have q:=hl i σ H hi p
  by_cases hlt:i<xs.length
  · refine .inr ⟨⟨xs,xs[i],q,by simp[hlt]⟩,Pv (i+1),fun σ' H' p'=>⟨xs.length-(i+1),by omega,rfl,hlt,p'⟩,fun x H' y=>?_⟩
    obtain⟨e,y⟩:=y
    subst e
    exact hs i x σ _ (y xs q) p
  · have e:i=xs.length:=by omega
    subst e
    exact .inl ⟨⟨xs,q,Nat.le_refl _⟩,hd σ H p⟩
theorem ziz {lo:Int}{n:Nat}{g:TG}{tb:TS}{D:Ends}{σ:St}{H:Hp}(Pv:Nat->St->Hp->Prop) (h0:Pv 0 σ H)
    (hs:∀i σ H,i<n->Pv i σ H->g (.int (lo+i)) σ H fun σ2 H2=>tb { D with nx:=Pv (i+1),ct:=Pv (i+1),bk:=D.nx } σ2 H2) (hd:∀σ H,Pv n σ H->D.nx σ H) :
    ∃W:Nat->Nat->St->Hp->Prop,(∃m,W 0 m σ H)/\∀i m σ H,W i m σ H->
      ((Itr lo n).stop i H/\D.nx σ H)\/((Itr lo n).go i H/\∃N:St->Hp->Prop,(∀σ' H',N σ' H'->∃m',m'<m/\W (i+1) m' σ' H')/\∀x H',(Itr lo n).yld i H x H'->g x σ H' fun σ2 H2=>tb { D with nx:=N,ct:=N,bk:=D.nx } σ2 H2):=by
  refine⟨fun i m σ H=>m=n-i/\i<=n/\Pv i σ H,⟨n,by simp,Nat.zero_le _,h0⟩,?_⟩
  rintro i m σ H ⟨rfl,hi,p⟩
  by_cases hlt:i<n
  · refine .inr ⟨hlt,Pv (i+1),fun σ' H' p'=>⟨n-(i+1),by omega,rfl,hlt,p'⟩,fun x H' y=>?_⟩
    obtain⟨e,y⟩:=y
    subst e y
    exact hs i σ _ hlt p
  · have e:i=n:=by omega
    subst e
    exact .inl ⟨Nat.le_refl _,hd σ H p⟩
abbrev R2:=V->V->Hp->VK->Prop
def OpR (X:Cx) (f:Value->Value->Sem Value) (r:R2):Prop:=
  ∀(pins:List (Addr×Obj)) (s:Shared) (σ:St) (H:Hp) (x y:V) (v u:Value) (Q:VK),Inv X pins σ H s->RelV x v->RelV y u->r x y H Q->
    wpAny (model X.prog X.w) X.A (f v u) (EP X pins σ Q) X.xe s
def UnR (X:Cx) (f:Value->Sem Value) (r:V->Hp->VK->Prop):Prop:=
  ∀(pins:List (Addr×Obj)) (s:Shared) (σ:St) (H:Hp) (x:V) (v:Value) (Q:VK),Inv X pins σ H s->RelV x v->r x H Q->
    wpAny (model X.prog X.w) X.A (f v) (EP X pins σ Q) X.xe s
def zco (X:Cx) (f:Value) (r:List V->Hp->VK->Prop):Prop:=
  ∀(pins:List (Addr×Obj)) (s:Shared) (σ:St) (H:Hp) (xs:List V) (us:List Value) (Q:VK),Inv X pins σ H s->Vals xs us->r xs H Q->
    wpAny (model X.prog X.w) X.A (call f us) (EP X pins σ Q) X.xe s
def tOp (r:R2) (ta tb:TE):TE:=fun σ H Q=>ta σ H fun x H1=>tb σ H1 fun y H2=>r x y H2 Q
def tUn (r:V->Hp->VK->Prop) (ta:TE):TE:=fun σ H Q=>ta σ H fun x H1=>r x H1 Q
def rI (C:Int->Int->Prop) (g:Int->Int->V):R2:=fun x y H Q=>∃i j,x = .int i/\y = .int j/\C i j/\Q (g i j) H
def rI0 (g:Int->Int->V):R2:=fun x y H Q=>∃i j,x = .int i/\y = .int j/\Q (g i j) H
def rU (g:Int->V):V->Hp->VK->Prop:=fun x H Q=>∃i,x = .int i/\Q (g i) H
section
variable {X:Cx}{a b c:Expr}{ta tb tc:TE}{pos:Pos}
theorem binT (ha:PE X a ta) (hb:PE X b tb) {pins:List (Addr×Obj)}{s:Shared}{σ:St}{H:Hp}{R:V->V->Hp->Prop}(I:Inv X pins σ H s)
    (h:ta σ H fun x H1=>tb σ H1 fun y H2=>R x y H2) {Q:Value->Shared->Prop}{f:Value->Value->Sem Value}
    (hf:∀v u s2 x y H2,Inv X pins σ H2 s2->RelV x v->RelV y u->R x y H2->wpAny (model X.prog X.w) X.A (f v u) Q X.xe s2) :
    wpAny (model X.prog X.w) X.A (eval a X.env) (fun v s₁=>wpAny (model X.prog X.w) X.A (eval b X.env) (fun u s₂=>wpAny (model X.prog X.w) X.A (f v u) Q X.xe s₂) X.xe s₁) X.xe s:=by
  refine thn (ha pins s σ H _ I h) fun v s1 hq0=>?_
  obtain⟨x,H1,I1,r1,q1⟩:=hq0
  refine thn (hb pins s1 σ H1 _ I1 q1) fun u s2 hq0=>?_
  obtain⟨y,H2,I2,r2,q2⟩:=hq0
  exact hf v u s2 x y H2 I2 r1 r2 q2
theorem zaz {op:Operator}{r:R2}(ho:OpR X (binaryOp op) r) (ha:PE X a ta) (hb:PE X b tb):PE X (.BinOp a op b pos) (tOp r ta tb):=by
  intro pins s σ H Q I h
  exact wpAny_BinOp (binT ha hb I h fun v u s2 x y H2 I2 rx ry q=>ho pins s2 σ H2 x y v u Q I2 rx ry q)
theorem zkp {op:UnaryOp}{r:V->Hp->VK->Prop}(ho:UnR X (unaryOp op) r) (ha:PE X a ta):PE X (.UnaryOp op a pos) (tUn r ta):=by
  intro pins s σ H Q I h
  exact UnaryOp_ (thn (ha pins s σ H _ I h) fun v s1 ⟨x,H1,I1,r1,q1⟩=>ho pins s1 σ H1 x v Q I1 r1 q1)
theorem opI {f:Value->Value->Sem Value}{C:Int->Int->Prop}{g:Int->Int->Int}
    (rule:∀(i j:Int) (t u:Tok) (s:Shared) (Q:Value->Shared->Prop) (E:Value->Shared->Prop),C i j->Q (.int (g i j) s.toks) { s with toks:=s.toks+1 }->wpAny (model X.prog X.w) X.A (f (.int i t) (.int j u)) Q E s) :
    OpR X f (rI C fun i j=>.int (g i j)):=by
  intro pins s σ H x y v u Q I rx ry h
  obtain⟨i,j,rfl,rfl,hc,q⟩:=h
  obtain⟨t,rfl⟩:=rx
  obtain⟨t',rfl⟩:=ry
  exact rule i j t t' s _ _ hc ⟨.int (g i j),H,I.tok _,⟨_,rfl⟩,q⟩
theorem opI0 {f:Value->Value->Sem Value}{g:Int->Int->Int}
    (rule:∀(i j:Int) (t u:Tok) (s:Shared) (Q:Value->Shared->Prop) (E:Value->Shared->Prop),Q (.int (g i j) s.toks) { s with toks:=s.toks+1 }->wpAny (model X.prog X.w) X.A (f (.int i t) (.int j u)) Q E s) :
    OpR X f (rI0 fun i j=>.int (g i j)):=by
  intro pins s σ H x y v u Q I rx ry h
  obtain⟨i,j,rfl,rfl,q⟩:=h
  obtain⟨t,rfl⟩:=rx
  obtain⟨t',rfl⟩:=ry
  exact rule i j t t' s _ _ ⟨.int (g i j),H,I.tok _,⟨_,rfl⟩,q⟩
theorem opB0 {f:Value->Value->Sem Value}{g:Int->Int->Bool}
    (rule:∀(i j:Int) (t u:Tok) (s:Shared) (Q:Value->Shared->Prop) (E:Value->Shared->Prop),Q (.bool (g i j)) s->wpAny (model X.prog X.w) X.A (f (.int i t) (.int j u)) Q E s) :
    OpR X f (rI0 fun i j=>.bl (g i j)):=by
  intro pins s σ H x y v u Q I rx ry h
  obtain⟨i,j,rfl,rfl,q⟩:=h
  obtain⟨t,rfl⟩:=rx
  obtain⟨t',rfl⟩:=ry
  exact rule i j t t' s _ _ ⟨.bl (g i j),H,I,rfl,q⟩
def CDiv (i j:Int):Prop:=0<j/\j<1073741824
def CPow (i j:Int):Prop:=0<=j/\j<=1000000/\i.natAbs<2 ^ 64
def CMul (i j:Int):Prop:=(-(2 ^ 64)<i/\i<2 ^ 64)\/(-(2 ^ 64)<j/\j<2 ^ 64)
theorem CMul.ok {i j:Int}(h:CMul i j):IntMulOk i j:=by
  rcases h with ⟨h1,h2⟩ | ⟨h1,h2⟩
  · exact .of_left (intBits_le_64 h1 h2)
  · exact .of_right (intBits_le_64 h1 h2)
theorem zdh:OpR X (binaryOp .Add) (rI0 fun i j=>.int (i+j)):=opI0 fun _ _ _ _ _ _ _ q=>add_int q
theorem zv2:OpR X (binaryOp .Sub) (rI0 fun i j=>.int (i-j)):=opI0 fun _ _ _ _ _ _ _ q=>sub_int q
theorem zi0:OpR X (binaryOp .Mult) (rI CMul fun i j=>.int (i * j)):=opI fun _ _ _ _ _ _ _ hc q=>mul_int q hc.ok
theorem ztq:OpR X (binaryOp .FloorDiv) (rI CDiv fun i j=>.int (i / j)):=opI fun i j _ _ _ _ _ hc q=>by
  have h1:(0:Int)<j:=hc.1
  have h2:j<1073741824:=hc.2
  exact floordiv_int (by omega) (by rw[Int.fdiv_eq_ediv_of_nonneg i (by omega)];exact q) (.inl (PyProof.noPylong_small (by omega)))
theorem zee:OpR X (binaryOp .Mod) (rI (fun _ j=>0<j) fun i j=>.int (i%j)):=opI fun i j _ _ _ _ _ hc q=>by
  have h1:(0:Int)<j:=hc
  exact mod_int' (by omega) (by rw[Int.fmod_eq_emod_of_nonneg i (by omega)];exact q)
theorem zi1:OpR X (binaryOp .Pow) (rI CPow fun i j=>.int (i ^ j.toNat)):=opI fun _ _ _ _ _ _ _ hc q=>pow_int_small hc.1 hc.2.1 hc.2.2 q
theorem unI {f:Value->Sem Value}{g:Int->Int}
    (rule:∀(i:Int) (t:Tok) (s:Shared) (Q:Value->Shared->Prop) (E:Value->Shared->Prop),Q (.int (g i) s.toks) { s with toks:=s.toks+1 }->wpAny (model X.prog X.w) X.A (f (.int i t)) Q E s) :
    UnR X f (rU fun i=>.int (g i)):=by
  intro pins s σ H x v Q I rx h
  obtain⟨i,rfl,q⟩:=h
  obtain⟨t,rfl⟩:=rx
  exact rule i t s _ _ ⟨.int (g i),H,I.tok _,⟨_,rfl⟩,q⟩
theorem ze9:UnR X (unaryOp .USub) (rU fun i=>.int (-i)):=unI fun _ _ _ _ _ q=>neg_int q
end
def scal:V->V->Bool
  | .non,.non=>true | .non,.int _=>true | .int _,.non=>true | .non,.bl _=>true | .bl _,.non=>true | .non,.str _=>true | .str _,.non=>true
  | .int _,.int _=>true | .bl _,.bl _=>true | .str _,.str _=>true | .byt _,.byt _=>true
  | .int _,.str _=>true | .str _,.int _=>true | .bl _,.str _=>true | .str _,.bl _=>true
  | _,_=>false
def rEq:R2:=fun x y H Q=>scal x y=true/\Q (.bl (decide (x=y))) H
def rNe:R2:=fun x y H Q=>scal x y=true/\Q (.bl (!decide (x=y))) H
theorem zn2 {i j:Int}:decide (V.int i=V.int j)=(i == j):=by
  rw[Bool.eq_iff_iff]
  simp
theorem zss {i j:Bool}:decide (V.bl i=V.bl j)=(i == j):=by
  rw[Bool.eq_iff_iff]
  simp
theorem zn3 {i j:Str}:decide (V.str i=V.str j)=(i == j):=by
  rw[Bool.eq_iff_iff]
  simp
theorem zn4 {i j:Array UInt8}:decide (V.byt i=V.byt j)=(i.toList == j.toList):=by
  rw[Bool.eq_iff_iff]
  cases i
  cases j
  simp
section
variable {X:Cx}{a b c:Expr}{ta tb tc:TE}{pos:Pos}
theorem za5 {pins:List (Addr×Obj)}{σ:St}{H:Hp}{s:Shared}{Q:VK}{k k':Bool}(I:Inv X pins σ H s) (q:Q (.bl k) H) (e:k=k'):EP X pins σ Q (.bool k') s:=by
  subst e
  exact⟨.bl k,H,I,rfl,q⟩
theorem zbv:OpR X (compareOp .Eq) rEq:=by
  intro pins s σ H x y v u Q I rx ry h
  obtain⟨hs,q⟩:=h
  cases x with
  | non=>
    cases rx
    cases y with
    | non=>cases ry;exact PySem.EqNone.eq_none_none (za5 I q (by simp))
    | bl j=>cases ry;exact PySem.EqNone.eq_none_bool (za5 I q (by simp))
    | int j=>obtain⟨t',rfl⟩:=ry;exact PySem.EqNone.eq_none_int (za5 I q (by simp))
    | str j=>obtain⟨t',rfl⟩:=ry;exact PySem.EqNone.eq_none_str (za5 I q (by simp))
    | _=>exact absurd (show false=true from hs) Bool.false_ne_true
  | bl i=>
    cases rx
    cases y with
    | non=>cases ry;exact PySem.EqNone.eq_bool_none (za5 I q (by simp))
    | bl j=>cases ry;exact eq_bool (za5 I q zss)
    | str j=>obtain⟨t',rfl⟩:=ry;exact PySem.EqMixed.eq_bool_str (za5 I q (by simp))
    | _=>exact absurd (show false=true from hs) Bool.false_ne_true
  | int i=>
    obtain⟨t,rfl⟩:=rx
    cases y with
    | non=>cases ry;exact PySem.EqNone.eq_int_none (za5 I q (by simp))
    | int j=>obtain⟨t',rfl⟩:=ry;exact eq_int (za5 I q zn2)
    | str j=>obtain⟨t',rfl⟩:=ry;exact PySem.EqMixed.eq_int_str (za5 I q (by simp))
    | _=>exact absurd (show false=true from hs) Bool.false_ne_true
  | str i=>
    obtain⟨t,rfl⟩:=rx
    cases y with
    | non=>cases ry;exact PySem.EqNone.eq_str_none (za5 I q (by simp))
    | bl j=>cases ry;exact PySem.EqMixed.eq_str_bool (za5 I q (by simp))
    | int j=>obtain⟨t',rfl⟩:=ry;exact PySem.EqMixed.eq_str_int (za5 I q (by simp))
    | str j=>obtain⟨t',rfl⟩:=ry;exact eq_str (za5 I q zn3)
    | _=>exact absurd (show false=true from hs) Bool.false_ne_true
  | byt i=>
    obtain⟨t,rfl⟩:=rx
    cases y with
    | byt j=>obtain⟨t',rfl⟩:=ry;exact PySem.W.eq_bytes (za5 I q zn4)
    | _=>exact absurd (show false=true from hs) Bool.false_ne_true
  | _=>cases y<;>exact absurd (show false=true from hs) Bool.false_ne_true
theorem zmq:OpR X (compareOp .NotEq) rNe:=by
  intro pins s σ H x y v u Q I rx ry h
  obtain⟨hs,q⟩:=h
  cases x with
  | non=>
    cases rx
    cases y with
    | non=>cases ry;exact PySem.EqNone.ne_none_none (za5 I q (by simp))
    | bl j=>cases ry;exact PySem.EqNone.ne_none_bool (za5 I q (by simp))
    | int j=>obtain⟨t',rfl⟩:=ry;exact PySem.EqNone.ne_none_int (za5 I q (by simp))
    | str j=>obtain⟨t',rfl⟩:=ry;exact PySem.EqNone.ne_none_str (za5 I q (by simp))
    | _=>exact absurd (show false=true from hs) Bool.false_ne_true
  | bl i=>
    cases rx
    cases y with
    | non=>cases ry;exact PySem.EqNone.ne_bool_none (za5 I q (by simp))
    | bl j=>cases ry;exact ne_bool (za5 I q (congrArg not zss))
    | str j=>obtain⟨t',rfl⟩:=ry;exact PySem.EqMixed.ne_bool_str (za5 I q (by simp))
    | _=>exact absurd (show false=true from hs) Bool.false_ne_true
  | int i=>
    obtain⟨t,rfl⟩:=rx
    cases y with
    | non=>cases ry;exact PySem.EqNone.ne_int_none (za5 I q (by simp))
    | int j=>obtain⟨t',rfl⟩:=ry;exact ne_int (za5 I q (congrArg not zn2))
    | str j=>obtain⟨t',rfl⟩:=ry;exact PySem.EqMixed.ne_int_str (za5 I q (by simp))
    | _=>exact absurd (show false=true from hs) Bool.false_ne_true
  | str i=>
    obtain⟨t,rfl⟩:=rx
    cases y with
    | non=>cases ry;exact PySem.EqNone.ne_str_none (za5 I q (by simp))
    | bl j=>cases ry;exact PySem.EqMixed.ne_str_bool (za5 I q (by simp))
    | int j=>obtain⟨t',rfl⟩:=ry;exact PySem.EqMixed.ne_str_int (za5 I q (by simp))
    | str j=>obtain⟨t',rfl⟩:=ry;exact ne_str (za5 I q (congrArg not zn3))
    | _=>exact absurd (show false=true from hs) Bool.false_ne_true
  | byt i=>
    obtain⟨t,rfl⟩:=rx
    cases y with
    | byt j=>obtain⟨t',rfl⟩:=ry;exact PySem.W.ne_bytes (za5 I q (congrArg not zn4))
    | _=>exact absurd (show false=true from hs) Bool.false_ne_true
  | _=>cases y<;>exact absurd (show false=true from hs) Bool.false_ne_true
theorem zn5:OpR X (compareOp .Lt) (rI0 fun i j=>.bl (decide (i<j))):=opB0 fun _ _ _ _ _ _ _ q=>lt_int q
theorem zqx:OpR X (compareOp .LtE) (rI0 fun i j=>.bl (decide (i<=j))):=opB0 fun _ _ _ _ _ _ _ q=>le_int q
theorem ztr:OpR X (compareOp .Gt) (rI0 fun i j=>.bl (decide (j<i))):=opB0 fun _ _ _ _ _ _ _ q=>gt_int q
theorem zxo:OpR X (compareOp .GtE) (rI0 fun i j=>.bl (decide (j<=i))):=opB0 fun _ _ _ _ _ _ _ q=>ge_int q
theorem zn6:OpR X (compareOp .In) (fun x y H Q=>∃i j,x = .str i/\y = .str j/\Q (.bl (!(Builtin.Str.occurrences j i 0 j.length 1).isEmpty)) H):=by
  intro pins s σ H x y v u Q I rx ry h
  obtain⟨i,j,rfl,rfl,q⟩:=h
  obtain⟨t,rfl⟩:=rx
  obtain⟨t',rfl⟩:=ry
  exact in_str (za5 I q rfl)
theorem zak (b:Expr) {op:CmpOp}(h:op≠.In:=by decide) (h2:op≠.NotIn:=by decide):behindInMarks op b=false:=by
  have e1:(op == CmpOp.In)=false:=by cases op<;>first | rfl | exact absurd rfl h
  have e2:(op == CmpOp.NotIn)=false:=by cases op<;>first | rfl | exact absurd rfl h2
  cases b<;>simp[behindInMarks,e1,e2]
theorem zfa {op:CmpOp}{r:R2}(ho:OpR X (compareOp op) r) (ha:PE X a ta) (hb:PE X b tb) (hm:behindInMarks op b=false):PE X (.Compare a [op] [b] pos) (tOp r ta tb):=by
  intro pins s σ H Q I h
  exact wpAny_Compare1 (binT ha hb I h fun v u s2 x y H2 I2 rx ry q=>ho pins s2 σ H2 x y v u Q I2 rx ry q) hm
def zv3 (t:TE):TT:=fun σ H Q=>t σ H fun x H'=>∃k,x = .bl k/\Q k H'
theorem zad {op:CmpOp}{r:R2}(ho:OpR X (compareOp op) r) (ha:PE X a ta) (hb:PE X b tb) (hm:behindInMarks op b=false):PT X (.Compare a [op] [b] pos) (zv3 (tOp r ta tb)):=by
  intro pins s σ H Q I h
  refine wpAny_isTrue_Compare1 (thn (ha pins s σ H _ I h) fun v s1 ⟨x,H1,I1,r1,q1⟩=>thn (hb pins s1 σ H1 _ I1 q1) fun u s2 ⟨y,H2,I2,r2,q2⟩=>
    thn (ho pins s2 σ H2 x y v u _ I2 r1 r2 q2) fun c s3 ⟨z,H3,I3,r3,k,e,q3⟩=>?_) hm
  subst e
  cases r3
  exact wpAny_truthy_bool ⟨H3,I3,q3⟩
def zst (r r':R2) (ta tb tc:TE):TE:=fun σ H Q=>ta σ H fun x H1=>tb σ H1 fun y H2=>r x y H2 fun z H3=>∃k,z = .bl k/\
  (if k=true then tc σ H3 fun w' H4=>r' y w' H4 Q else Q (.bl false) H3)
theorem zqy {op op':CmpOp}{r r':R2}(ho:OpR X (compareOp op) r) (ho':OpR X (compareOp op') r') (ha:PE X a ta) (hb:PE X b tb) (hc:PE X c tc)
    (hm:lastMarks [op,op'] [b,c]=false:=by with_unfolding_all rfl):PE X (.Compare a [op,op'] [b,c] pos) (zst r r' ta tb tc):=by
  intro pins s σ H Q I h
  refine Compare_chain (thn (ha pins s σ H _ I h) fun v s1 ⟨x,H1,I1,r1,q1⟩=>chain_link (thn (hb pins s1 σ H1 _ I1 q1) fun u s2 ⟨y,H2,I2,r2,q2⟩=>
    thn (ho pins s2 σ H2 x y v u _ I2 r1 r2 q2) fun d s3 ⟨z,H3,I3,r3,k,e,q3⟩=>?_)) hm
  subst e
  cases r3
  refine wpAny_truthy_bool ?_
  cases k with
  | false=>exact ite_ff ⟨.bl false,H3,I3,rfl,q3⟩
  | true=>exact ite_tt (chain_last (thn (hc pins s3 σ H3 _ I3 q3) fun w' s4 ⟨z',H4,I4,r4,q4⟩=>ho' pins s4 σ H4 y z' u w' Q I4 r2 r4 q4))
theorem zqz {op op':CmpOp}{r r':R2}(ho:OpR X (compareOp op) r) (ho':OpR X (compareOp op') r') (ha:PE X a ta) (hb:PE X b tb) (hc:PE X c tc)
    (hm:lastMarks [op,op'] [b,c]=false:=by with_unfolding_all rfl):PT X (.Compare a [op,op'] [b,c] pos) (zv3 (zst r r' ta tb tc)):=by
  intro pins s σ H Q I h
  refine isTrue_chain (thn (ha pins s σ H _ I h) fun v s1 ⟨x,H1,I1,r1,q1⟩=>test_link (thn (hb pins s1 σ H1 _ I1 q1) fun u s2 ⟨y,H2,I2,r2,q2⟩=>
    thn (ho pins s2 σ H2 x y v u _ I2 r1 r2 q2) fun d s3 ⟨z,H3,I3,r3,k,e,q3⟩=>?_)) hm
  subst e
  cases r3
  refine wpAny_truthy_bool ?_
  cases k with
  | false=>
    obtain⟨k',e',q'⟩:=q3
    cases e'
    exact ite_ff ⟨H3,I3,q'⟩
  | true=>
    refine ite_tt (test_last (thn (hc pins s3 σ H3 _ I3 q3) fun w' s4 ⟨z',H4,I4,r4,q4⟩=>thn (ho' pins s4 σ H4 y z' u w' _ I4 r2 r4 q4) fun d' s5 hq0=>?_))
    obtain⟨z2,H5,I5,r5,k2,e2,q5⟩:=hq0
    subst e2
    cases r5
    exact wpAny_truthy_bool ⟨H5,I5,q5⟩
theorem zg5:(sizeLine:Nat)<2 ^ 63:=by rw[sizeLine_eq];decide
theorem za7:OpR X (binaryOp .Add) (fun x y H Q=>∃i j,x = .str i/\y = .str j/\i.length+j.length<=sizeLine/\Q (.str (i++j)) H):=by
  intro pins s σ H x y v u Q I rx ry h
  obtain⟨i,j,rfl,rfl,hz,q⟩:=h
  obtain⟨t,rfl⟩:=rx
  obtain⟨t',rfl⟩:=ry
  exact add_str (fun t' tk=>⟨.str (i++j),H,I.tok _,⟨_,rfl⟩,q⟩) hz
theorem zdg {x:V}{us:List Value}(r:Vals [x] us):∃u,us = [u]/\RelV x u:=by
  cases r with
  | cons r1 r2=>cases r2;exact⟨_,rfl,r1⟩
theorem zq0 {x y:V}{us:List Value}(r:Vals [x,y] us):∃u w',us = [u,w']/\RelV x u/\RelV y w':=by
  cases r with
  | cons r1 r2=>
    cases r2 with
    | cons r3 r4=>cases r4;exact⟨_,_,rfl,r1,r3⟩
theorem zn7 (hc:X.calm=true):zco X (.builtin "max") (fun xs H Q=>∃i j,xs = [.int i,.int j]/\Q (.int (if j > i then j else i)) H):=by
  intro pins s σ H xs us Q I r h
  obtain⟨i,j,rfl,q⟩:=h
  obtain⟨u,w',rfl,⟨t,rfl⟩,⟨t',rfl⟩⟩:=zq0 r
  refine max_two_ints (I.ok.hd hc) fun h' tk k=>⟨_,H,I.kept k,?_,q⟩
  by_cases hj:j > i
  · rw[if_pos hj,if_pos hj];exact⟨_,rfl⟩
  · rw[if_neg hj,if_neg hj];exact⟨_,rfl⟩
theorem zn8 (hc:X.calm=true):zco X (.builtin "min") (fun xs H Q=>∃i j,xs = [.int i,.int j]/\Q (.int (if j<i then j else i)) H):=by
  intro pins s σ H xs us Q I r h
  obtain⟨i,j,rfl,q⟩:=h
  obtain⟨u,w',rfl,⟨t,rfl⟩,⟨t',rfl⟩⟩:=zq0 r
  refine min_two_ints (I.ok.hd hc) fun h' tk k=>⟨_,H,I.kept k,?_,q⟩
  by_cases hj:j<i
  · rw[if_pos hj,if_pos hj];exact⟨_,rfl⟩
  · rw[if_neg hj,if_neg hj];exact⟨_,rfl⟩
end
structure ObjM (h:Heap) (x dx C:Addr) (mA:Str->Option Value):Prop where
  obj:h.get? x=some (PySem.W.instObj C dx)
  ns:h.Ns1 dx mA
  ne:dx≠x
theorem zn9 {h:Heap}{dx:Addr}{mA:Str->Option Value}(n:h.Ns1 dx mA):∃od,h.get? dx=some od/\∀name,PySem.W.lookIn name od=some (mA name):=by
  obtain⟨o,es,ep,ho,hd,hk,_,hm⟩:=n
  refine⟨o,ho,fun name=>?_⟩
  have e:=hm name
  unfold nsFind findBy at e
  rw[←Array.find?_toList] at e
  unfold PySem.W.lookIn
  rw[hd]
  dsimp only
  split
  · rename_i y q
    rw[q] at e
    exact congrArg some e
  · rename_i q
    rw[q] at e
    have a:es.toList.any (·.refKey)=false:=by
      rw[List.any_eq_false]
      intro y hy
      obtain⟨z,t,hkey⟩:=hk y (Array.mem_toList_iff.mp hy)
      simp[DictEntry.refKey,hkey]
    have a':¬es.toList.any (·.refKey)=true:=by rw[a];exact Bool.false_ne_true
    rw[if_neg a']
    exact congrArg some e
theorem ObjM.look {h:Heap}{x dx C:Addr}{mA:Str->Option Value}(I:ObjM h x dx C mA):∃od,PySem.W.InstAt h x (PySem.W.instObj C dx) C (some od)/\∀name,PySem.W.lookIn name od=some (mA name):=
  let ⟨od,ho,hl⟩:=zn9 I.ns
  ⟨od,⟨I.obj,rfl,rfl,ho⟩,hl⟩
section
variable {prog:Program}{w:World}{A:Around}{E:Value->Shared->Prop}{s:Shared}{K:PySem.W.Frag}{x dx C f:Addr}{mA:Str->Option Value}{name:Str}{v:Value}
theorem zts {expr:Bool}{Q:Value->Shared->Prop}(X:K.In s.heap) (I:ObjM s.heap x dx C mA) (hg:PySem.W.plainGet K C name=true) (hh:PySem.W.hasDictIn K C=true)
    (ha:PySem.W.findIn K (.ref C) name=some none) (hv:mA name=some v) (hv':PySem.W.handedIn v=true) (h:Q v { s with toks:=s.toks+1 }) :
    wpAny (model prog w) A (getAttr (.ref x) name expr) Q E s:=by
  obtain⟨od,J,hl⟩:=I.look
  exact PySem.W.get_value X J (PySem.W.plainGet_of hg).1 (PySem.W.findObj_own hh ha rfl (by rw[hl,hv])) hv' h
theorem zq1 {pl:Sem Bool}{Q:Value×List Value->Shared->Prop}(X:K.In s.heap) (I:ObjM s.heap x dx C mA) (hg:PySem.W.plainGet K C name=true)
    (hf:PySem.W.findIn K (.ref C) name=some (some (.ref f))) (ht:PySem.W.isFn K (.ref f)=true) (hv:mA name=none) (h:Q (.ref f,[.ref x]) s) :
    wpAny (model prog w) A (getMethod (.ref x) name pl) Q E s:=by
  obtain⟨od,J,hl⟩:=I.look
  exact PySem.W.method_fn X J (PySem.W.plainGet_of hg).1 (PySem.W.plainGet_of hg).2 hf (beq_iff_eq.mp ht) (by show (PySem.W.lookIn name od).map (·.isSome)=some false;rw[hl,hv];rfl) h
theorem ztt {ns:List Str}{Q:Unit->Shared->Prop}(X:K.In s.heap) (I:ObjM s.heap x dx C mA)
    (hs:PySem.W.findIn K (.ref C) "__setattr__" = some (some (.builtin "object.__setattr__"))) (hp:PySem.W.plainOver K C=true) (ht:PySem.W.takerIn K C name=some none) (hh:PySem.W.hasDictIn K C=true)
    (hw:PySem.Within mA ns) (hsz:ns.length<=sizeLine)
    (h:∀h',ObjM h' x dx C (fun y=>if y=name then some v else mA y)->Heap.SameBut dx s.heap h'->Q () { s with heap:=h',toks:=s.toks+2 }) :
    wpAny (model prog w) A (setAttr (.ref x) name v) Q E s:=by
  obtain⟨od,J,hl⟩:=I.look
  refine PySem.W.set_plain X J hs (PySem.W.osa_open (s:={ s with toks:=s.toks+1 }) (r:=none) X J hp ht fun b=>?_)
  obtain⟨cd,hc,hd'⟩:=PySem.W.any_some hh
  have hx:s.heap.get? x=some ⟨.ref C,some dx,.plain,#[]⟩:=I.obj
  refine wpAny_bind (wpAny_pure (wpAny_bind (wpAny_bind (wpAny_loadPart hx (wpAny_bind (PySem.W.Looks.here (s:={ s with toks:=s.toks+1 }) (PySem.W.looks_clsIn X hc) ?_))))))
  rw[hd']
  refine wpAny_pure (a:=some dx) (wpAny_bind (wpAny_pure (wpAny_bind ?_)))
  refine wpAny_nsSet1 (s:={ s with toks:=s.toks+1 }) I.ns fun h' hn2 hs2=>?_
  obtain⟨oD,esD,epD,hoD,hdD,hcD⟩:=hn2.count (PySem.Within.cons name v hw)
  refine wpAny_bind (wpAny_lookBehind hoD (by rw[hdD];exact pastItsLine_dict (Nat.le_trans hcD (by rw[List.length_cons];omega))) ?_)
  exact wpAny_pure (h _ ⟨(hs2.2 _ (Ne.symm I.ne)).trans I.obj,hn2,I.ne⟩ hs2)
theorem zq2 {R:Result->Shared->Prop}{vs:List Value}{kw:List (Str×Value)}(X:K.In s.heap) (hm:PySem.W.makesIn K C=true)
    (hi:PySem.W.findIn K (.ref C) "__init__" = some (some (.ref f))) (hf:PySem.W.typeIn K (.ref f)=some (.type "function"))
    (h:codeAny (model prog w) (A.under (.builtin "type.__call__" ⟨.ref C::vs,kw⟩)) (.call (.ref f) ⟨.ref (s.heap.objs.size+1)::vs,kw⟩) (PySem.W.InitBack (s.heap.objs.size+1) R)
      { s with heap:=(s.heap.push PySem.W.emptyDict).push (PySem.W.instObj C s.heap.objs.size) }) :
    codeAny (model prog w) A (.call (.ref C) ⟨vs,kw⟩) R s:=by
  obtain⟨hh,g,d,t,os⟩:=s
  exact PySem.W.make_core (PySem.W.makes_of X hm) (PySem.W.looks_findIn X hi) (fun self=>PySem.W.bind_fn X self hf) (.inl rfl) h
end
def putF (f:Str) (v:V):List (Str×V)->List (Str×V)
  | []=>[(f,v)]
  | (g,x)::r=>if g=f then (g,v)::r else (g,x)::putF f v r
theorem zfb (f g:Str) (v:V):∀fs:List (Str×V),(putF f v fs).lookup g=if g=f then some v else fs.lookup g
  | []=>by
    show List.lookup g [(f,v)]=_
    by_cases h:g=f
    · have hb:(g == f)=true:=beq_iff_eq.mpr h
      simp only [List.lookup,hb,if_pos h]
    · have hb:(g == f)=false:=beq_eq_false_iff_ne.mpr h
      simp only [List.lookup,hb,if_neg h]
  | (k,x)::r=>by
    have ih:=zfb f g v r
    rw[show putF f v ((k,x)::r)=(if k=f then (k,v)::r else (k,x)::putF f v r) from rfl]
    by_cases hk:k=f
    · rw[if_pos hk]
      by_cases h:g=k
      · have hb:(g == k)=true:=beq_iff_eq.mpr h
        simp only [List.lookup,hb,if_pos (h.trans hk)]
      · have hb:(g == k)=false:=beq_eq_false_iff_ne.mpr h
        simp only [List.lookup,hb,if_neg (fun e:g=f=>h (e.trans hk.symm))]
    · rw[if_neg hk]
      by_cases h:g=k
      · have hb:(g == k)=true:=beq_iff_eq.mpr h
        simp only [List.lookup,hb,if_neg (fun e:g=f=>hk (h.symm.trans e))]
      · have hb:(g == k)=false:=beq_eq_false_iff_ne.mpr h
        simp only [List.lookup,hb]
        exact ih
theorem zfc (f:Str) (v:V):∀fs:List (Str×V),f∈(putF f v fs).map (·.1)/\∀g,g∈fs.map (·.1)->g∈(putF f v fs).map (·.1)
  | []=>⟨by simp[putF],fun g h=>by simp at h⟩
  | (k,x)::r=>by
    obtain⟨i1,i2⟩:=zfc f v r
    rw[show putF f v ((k,x)::r)=(if k=f then (k,v)::r else (k,x)::putF f v r) from rfl]
    by_cases hk:k=f
    · rw[if_pos hk]
      subst hk
      exact⟨by simp,fun g h=>by simpa using h⟩
    · rw[if_neg hk]
      refine⟨?_,fun g h=>?_⟩
      · rw[List.map_cons]
        exact List.mem_cons_of_mem _ i1
      · rw[List.map_cons] at h ⊢
        rcases List.mem_cons.mp h with e | e
        · exact List.mem_cons.mpr (.inl e)
        · exact List.mem_cons_of_mem _ (i2 g e)
theorem zb9 (f:Str) (v:V):∀fs:List (Str×V),(putF f v fs).length<=fs.length+1
  | []=>by simp[putF]
  | (k,x)::r=>by
    have ih:=zb9 f v r
    rw[show putF f v ((k,x)::r)=(if k=f then (k,v)::r else (k,x)::putF f v r) from rfl]
    by_cases hk:k=f
    · rw[if_pos hk,List.length_cons,List.length_cons];omega
    · rw[if_neg hk,List.length_cons,List.length_cons];omega
theorem RelO.some_of {v:V}{o:Option Value}(r:RelO (some v) o):∃u,o=some u/\RelV v u:=by
  cases o with
  | none=>exact (show False from r).elim
  | some u=>exact⟨u,rfl,r⟩
theorem RelO.none_of {o:Option Value}(r:RelO none o):o=none:=by
  cases o with
  | none=>rfl
  | some u=>exact (show False from r).elim
theorem zoa {v:V}{u:Value}(r:RelV v u):PySem.W.handedIn u=true:=by
  cases v with
  | non=>cases (show u=Value.none from r);rfl
  | bl b=>cases (show u=Value.bool b from r);rfl
  | int i=>obtain⟨t,e⟩:=(show ∃t,u=Value.int i t from r);cases e;rfl
  | str x=>obtain⟨t,e⟩:=(show ∃t,u=Value.str x t from r);cases e;rfl
  | byt b=>obtain⟨t,e⟩:=(show ∃t,u=Value.bytes b t from r);cases e;rfl
  | flt b=>obtain⟨t,e⟩:=(show ∃t,u=Value.float b t from r);cases e;rfl
  | ref a=>cases (show u=Value.ref a from r);rfl
  | ty n=>cases (show u=Value.type n from r);rfl
section
variable {P:Program}{w:World}{H H':Hp}{h h':Heap}{a C dx:Addr}{fs fs':List (Str×V)}
theorem zhm (hok:HOk P w H h) (e:H a=some (.ins C dx fs)):∃mA,ObjM h a dx C mA/\(∀f,RelO (fs.lookup f) (mA f))/\PySem.Within mA (fs.map (·.1))/\fs.length<=1000/\H dx=some (.own a):=by
  obtain⟨d,z,ne,ob,mA,n,r,q⟩:=(show ObjOk P w H h a (.ins C dx fs) from hok a _ e)
  exact⟨mA,⟨ob,n,ne⟩,r,q,z,d⟩
end
structure Cls (K:PySem.W.Frag) (C:Addr):Prop where
  pg:PySem.W.plainGet K C Str.empty=true
  hd:PySem.W.hasDictIn K C=true
  po:PySem.W.plainOver K C=true
  sa:PySem.W.findIn K (.ref C) "__setattr__" = some (some (.builtin "object.__setattr__"))
theorem Cls.get {K:PySem.W.Frag}{C:Addr}(c:Cls K C) (f:Str):PySem.W.plainGet K C f=true:=c.pg
def NoAttr (K:PySem.W.Frag) (C:Addr) (f:Str):Prop:=PySem.W.findIn K (.ref C) f=some none
theorem NoAttr.taker {K:PySem.W.Frag}{C:Addr}{f:Str}(n:NoAttr K C f):PySem.W.takerIn K C f=some none:=by
  unfold PySem.W.takerIn
  rw[show PySem.W.findIn K (.ref C) f=some none from n]
  rfl
structure Meth (K:PySem.W.Frag) (C:Addr) (m:Str) (f:Addr):Prop where
  at_:PySem.W.findIn K (.ref C) m=some (some (.ref f))
  fn:PySem.W.isFn K (.ref f)=true
  kp:PySem.W.keepIn K (.ref f)=true
section
variable {X:Cx}{pins:List (Addr×Obj)}{σ:St}{H:Hp}{s:Shared}{a C dx:Addr}{fs:List (Str×V)}{f:Str}{v:V}{A:Around}{E:Value->Shared->Prop}
theorem zmr {b:Bool}{Q:Value->Shared->Prop}(I:Inv X pins σ H s) (e:H a=some (.ins C dx fs)) (c:Cls X.K C) (n:NoAttr X.K C f) (l:fs.lookup f=some v)
    (h:∀u s',Inv X pins σ H s'->RelV v u->Q u s'):wpAny (model X.prog X.w) A (getAttr (.ref a) f b) Q E s:=by
  obtain⟨mA,O,r,_,_,_⟩:=zhm I.hok e
  obtain⟨u,hu,ru⟩:=RelO.some_of (v:=v) (o:=mA f) (by rw[←l];exact r f)
  exact zts I.kIn O (c.get f) c.hd n hu (zoa ru) (h u _ (I.tok _) ru)
theorem zd4 {m:Str}{g:Addr}{pl:Sem Bool}{Q:Value×List Value->Shared->Prop}(I:Inv X pins σ H s) (e:H a=some (.ins C dx fs)) (c:Cls X.K C) (k:Meth X.K C m g) (l:fs.lookup m=none)
    (h:Q (.ref g,[.ref a]) s):wpAny (model X.prog X.w) A (getMethod (.ref a) m pl) Q E s:=by
  obtain⟨mA,O,r,_,_,_⟩:=zhm I.hok e
  have hn:mA m=none:=RelO.none_of (by rw[←l];exact r m)
  exact zq1 I.kIn O (c.get m) k.at_ k.fn hn h
theorem zms {y:V}{u:Value}{Q:Unit->Shared->Prop}(I:Inv X pins σ H s) (e:H a=some (.ins C dx fs)) (c:Cls X.K C) (n:NoAttr X.K C f) (hl:fs.length<1000) (ry:RelV y u)
    (h:∀s',Inv X pins σ (upd H a (.ins C dx (putF f y fs))) s'->Q () s'):wpAny (model X.prog X.w) A (setAttr (.ref a) f u) Q E s:=by
  obtain⟨mA,O,r,wi,_,ho⟩:=zhm I.hok e
  have hz:(fs.map (·.1)).length<=sizeLine:=by rw[List.length_map,sizeLine_eq];omega
  refine ztt I.kIn O c.sa c.po n.taker c.hd wi hz fun h' O' sb=>h _ ?_
  have hd:∃o,h'.get? dx=some o:=let ⟨o,_,_,e',_⟩:=O'.ns;⟨o,e'⟩
  refine I.write (x:=a) (e:=dx) (by rw[e];exact True.intro) (.inr ho) (fun b q hb z=>(sb.2 b hb).trans z) hd ?_
  refine⟨by rw[zn O.ne];exact ho,?_,O.ne,O'.obj,_,O'.ns,fun g=>?_,fun g hg=>?_⟩
  · have:=zb9 f y fs;omega
  · show RelO ((putF f y fs).lookup g) (if g=f then some u else mA g)
    rw[zfb]
    by_cases q:g=f
    · rw[if_pos q,if_pos q];exact ry
    · rw[if_neg q,if_neg q];exact r g
  · by_cases q:g=f
    · rw[q];exact (zfc f y fs).1
    · refine (zfc f y fs).2 g (wi g fun z=>hg ?_)
      show (if g=f then some u else mA g)=none
      rw[if_neg q];exact z
theorem Inv.made (I:Inv X pins σ H s):Inv X pins σ (upd (upd H s.heap.objs.size (.own (s.heap.objs.size+1))) (s.heap.objs.size+1) (.ins C s.heap.objs.size []))
    { s with heap:=(s.heap.push PySem.W.emptyDict).push (PySem.W.instObj C s.heap.objs.size) }:=by
  have e1:(s.heap.push PySem.W.emptyDict).get? s.heap.objs.size=some PySem.W.emptyDict:=Heap.get?_push_size s.heap rfl
  have e2:((s.heap.push PySem.W.emptyDict).push (PySem.W.instObj C s.heap.objs.size)).get? (s.heap.objs.size+1)=some (PySem.W.instObj C s.heap.objs.size):=by
    have:=Heap.get?_push_size (s.heap.push PySem.W.emptyDict) (o:=PySem.W.instObj C s.heap.objs.size) rfl
    rwa [Heap.size_push] at this
  have e3:(s.heap.push PySem.W.emptyDict).Ns s.heap.objs.size (fun _=>none):=⟨PySem.W.emptyDict,#[],_,e1,rfl,(fun e he=>absurd he (by simp)),fun _=>rfl⟩
  have I1:=I.laid (a:=s.heap.objs.size) (o:=.own (s.heap.objs.size+1)) (h':=s.heap.push PySem.W.emptyDict) (t':=s.toks) (fun b u q=>Heap.get?_push_of_some _ q) (Nat.le_refl _) ⟨_,e1⟩
  refine I1.laid (a:=s.heap.objs.size+1) (o:=.ins C s.heap.objs.size []) (t':=s.toks) (fun b u q=>Heap.get?_push_of_some _ q) (Nat.le_of_eq (Heap.size_push _ _)) ?_
  have ne:s.heap.objs.size≠s.heap.objs.size+1:=Nat.ne_of_lt (Nat.lt_succ_self _)
  refine⟨by rw[zn ne,zb],Nat.zero_le _,ne,e2,fun _=>none,(Heap.Ns1.of_empty e3).at fun o q=>Heap.get?_push_of_some _ q,fun _=>True.intro,fun y hy=>absurd rfl hy⟩
theorem ztu {prog:Program}{w:World}{env:Env}{e:Expr}{f:Str}{pos:Pos}{s:Shared}{Q:Value->Shared->Prop}(hb:attributeBase e f env (eval e env)=eval e env)
    (h:wpAny (model prog w) A (eval e env) (fun o s₁=>wpAny (model prog w) A (getAttr o f true) Q E s₁) E s):wpAny (model prog w) A (eval (.Attribute e f pos) env) Q E s:=
  Attribute_any_ h (by rw[arm_eval_Attribute,hb])
end
def tFld (K:PySem.W.Frag) (ta:TE) (f:Str):TE:=fun σ H Q=>ta σ H fun x H1=>∃a C dx fs v,x = .ref a/\H1 a=some (.ins C dx fs)/\Cls K C/\NoAttr K C f/\fs.lookup f=some v/\Q v H1
def sFld (K:PySem.W.Frag) (ta tv:TE) (f:Str):TS:=fun D σ H=>tv σ H fun y H1=>ta σ H1 fun x H2=>∃a C dx fs,x = .ref a/\H2 a=some (.ins C dx fs)/\Cls K C/\NoAttr K C f/\fs.length<1000/\
  D.nx σ (upd H2 a (.ins C dx (putF f y fs)))
section
variable {X:Cx}{o e value:Expr}{f:Str}{pos pos' tpos:Pos}{ta tv:TE}
theorem zbm (he:PE X e ta) (hb:attributeBase e f X.env (eval e X.env)=eval e X.env):PE X (.Attribute e f pos) (tFld X.K ta f):=by
  intro pins s σ H Q I h
  refine ztu hb (thn (he pins s σ H _ I h) fun u s1 hq0=>?_)
  obtain⟨x,H1,I1,rx,a,C,dx,fs,v,ex,ea,c,n,l,q⟩:=hq0
  subst ex
  obtain rfl:u=Value.ref a:=rx
  exact zmr I1 ea c n l fun u' s2 I2 ru=>⟨v,H1,I2,ru,q⟩
theorem zg6 (ha:PE X o ta) (hv:PE X value tv) (hs:swapsWith value (some (.Attribute o f pos')) pos.line X.env=pure false):PS X (.Assign [.Attribute o f pos'] value pos) (sFld X.K ta tv f):=by
  intro pins s σ H D I h
  refine plainObj_wpAny_Assign_Attribute (thn (hv pins s σ H _ I h) fun u s1 ⟨y,H1,I1,ry,q⟩=>thn (ha pins s1 σ H1 _ I1 q) fun ov s2 hq0=>?_) hs
  obtain⟨x,H2,I2,rx,a,C,dx,fs,ex,ea,c,n,l,q2⟩:=hq0
  subst ex
  obtain rfl:ov=Value.ref a:=rx
  exact zms I2 ea c n l ry fun s3 I3=>⟨σ,_,I3,q2⟩
theorem ztv {pl:Sem Bool}{m:Str}{apos:Pos}{args:List Expr}{pins:List (Addr×Obj)}{s:Shared}{σ:St}{H:Hp}{Q:Value->Shared->Prop}{te:TE}(he:PE X e te) (I:Inv X pins σ H s)
    (h:te σ H fun x H1=>∃a C dx fs g,x = .ref a/\H1 a=some (.ins C dx fs)/\Cls X.K C/\Meth X.K C m g/\fs.lookup m=none/\
      ∀s1,Inv X pins σ H1 s1->wpAny (model X.prog X.w) X.A (callWith pos (.ref g) [.ref a] (backTo pos (starEach args X.env)) (backToKw pos (keywordEach [] X.env))) Q X.xe s1)
    (ht:eval (.Call (.Attribute e m apos) args [] pos) X.env=(do
      let ov ←eval e X.env
      standAt apos.atName
      let (f,first) ←holding [ov] (getMethod ov m pl)
      callWith pos f first (backTo pos (starEach args X.env)) (backToKw pos (keywordEach [] X.env)))) :
    wpAny (model X.prog X.w) X.A (eval (.Call (.Attribute e m apos) args [] pos) X.env) Q X.xe s:=by
  refine PySem.W.methodCall_KW (pl:=pl) (thn (he pins s σ H _ I h) fun u s1 hq0=>?_) ht
  obtain⟨x,H1,I1,rx,a,C,dx,fs,g,ex,ea,c,k,l,q⟩:=hq0
  subst ex
  obtain rfl:u=Value.ref a:=rx
  exact zd4 I1 ea c k l (q s1 I1)
end
section
variable {X:Cx}{pins:List (Addr×Obj)}{σ:St}{H:Hp}{s:Shared}{A:Around}{E:Value->Shared->Prop}{Q:Value->Shared->Prop}{c:Value}{b:Bool}
inductive TyOf (K:PySem.W.Frag) (H:Hp):V->Value->Prop where
  | non:TyOf K H .non (.type "NoneType")
  | bl (x:Bool):TyOf K H (.bl x) (.type "bool")
  | int (i:Int):TyOf K H (.int i) (.type "int")
  | str (x:Str):TyOf K H (.str x) (.type "str")
  | flt (x:UInt64):TyOf K H (.flt x) (.type "float")
  | lst {a:Addr}{xs:List V}(e:H a=some (.lst xs)):TyOf K H (.ref a) (.type "list")
  | frz {a:Addr}{o:Obj}{xs:List V}(e:H a=some (.frz o (.lst xs))):TyOf K H (.ref a) (.type "list")
  | tup {a:Addr}{xs:List V}(e:H a=some (.tup xs)):TyOf K H (.ref a) (.type "tuple")
  | dK {a:Addr}{kvs:List (Key×V)}(e:H a=some (.dK kvs)):TyOf K H (.ref a) (.type "dict")
  | dT {a:Addr}{kvs:List (List Key×V)}(e:H a=some (.dT kvs)):TyOf K H (.ref a) (.type "dict")
  | ins {a C dx:Addr}{fs:List (Str×V)}(e:H a=some (.ins C dx fs)) (cl:Cls K C) (ha:PySem.W.findIn K (.ref C) "__class__" = some (some (.builtin "object.__class__")))
      (hn:PySem.W.specialIn K (.builtin "object.__class__") "__get__" = some (some (.builtin "getset_descriptor.__get__"))) (htk:PySem.W.takesIn K (.builtin "object.__class__")=some true)
      (hm:PySem.W.mroIn K C (.type "object")=some true):TyOf K H (.ref a) (.ref C)
theorem zob {x:V}{u t:Value}(I:Inv X pins σ H s) (rx:RelV x u) (ty:TyOf X.K H x t) (e:PySem.W.kitOne X.K t c=some b) (h:∀tk,Q (.bool b) { s with toks:=tk }) :
    wpAny (model X.prog X.w) A (call (.builtin "isinstance") [u,c]) Q E s:=by
  cases ty with
  | non=>cases (show u=Value.none from rx);exact PySem.W.kia_one PySem.W.kitx_none I.kIn True.intro e (fun z=>nomatch z) h
  | bl y=>cases (show u=Value.bool y from rx);exact PySem.W.kia_one PySem.W.kitx_bool I.kIn True.intro e (fun z=>nomatch z) h
  | int i=>obtain⟨t,q⟩:=(show ∃t,u=Value.int i t from rx);cases q;exact PySem.W.kia_one PySem.W.kitx_int I.kIn True.intro e (fun z=>nomatch z) h
  | str y=>obtain⟨t,q⟩:=(show ∃t,u=Value.str y t from rx);cases q;exact PySem.W.kia_one PySem.W.kitx_str I.kIn True.intro e (fun z=>nomatch z) h
  | flt y=>obtain⟨t,q⟩:=(show ∃t,u=Value.float y t from rx);cases q;exact PySem.W.kia_one PySem.W.kitx_float I.kIn True.intro e (fun z=>nomatch z) h
  | @lst a xs ea=>
    cases (show u=Value.ref a from rx)
    obtain⟨_,_,n,_,h1⟩:=(show ObjOk X.prog X.w H s.heap a (.lst xs) from I.hok a _ ea)
    exact PySem.W.kia_one PySem.W.kitx_list I.kIn ⟨_,h1,rfl⟩ e (fun z=>nomatch z) h
  | @frz a ob xs ea=>
    cases (show u=Value.ref a from rx)
    obtain⟨_,_,_,n,_,h1⟩:=(show ObjOk X.prog X.w H s.heap a (.frz ob (.lst xs)) from I.hok a _ ea)
    exact PySem.W.kia_one PySem.W.kitx_list I.kIn ⟨_,h1,rfl⟩ e (fun z=>nomatch z) h
  | @tup a xs ea=>
    cases (show u=Value.ref a from rx)
    obtain⟨_,_,_,p⟩:=(show ObjOk X.prog X.w H s.heap a (.tup xs) from I.hok a _ ea)
    obtain⟨o,h1,h2,_⟩:=p
    exact PySem.W.kia_one PySem.W.kitx_tuple I.kIn ⟨o,h1,h2⟩ e (fun z=>nomatch z) h
  | @dK a kvs ea=>
    cases (show u=Value.ref a from rx)
    obtain⟨_,_,vs,_,p⟩:=(show ObjOk X.prog X.w H s.heap a (.dK kvs) from I.hok a _ ea)
    obtain⟨o,es,ep,h1,h2,_⟩:=p
    exact PySem.W.kia_one PySem.W.kitx_dict I.kIn ⟨o,h1,h2.1⟩ e (fun z=>nomatch z) h
  | @dT a kvs ea=>
    cases (show u=Value.ref a from rx)
    obtain⟨_,_,xs,_,o,es,ep,h1,h2,_⟩:=(show ObjOk X.prog X.w H s.heap a (.dT kvs) from I.hok a _ ea)
    exact PySem.W.kia_one PySem.W.kitx_dict I.kIn ⟨o,h1,h2.1⟩ e (fun z=>nomatch z) h
  | @ins a C dx fs ea cl ha hn htk hm=>
    cases (show u=Value.ref a from rx)
    obtain⟨mA,O,_⟩:=zhm I.hok ea
    obtain⟨od,J,_⟩:=O.look
    exact PySem.W.kia_one (PySem.W.kitx_own (cl.get _) cl.hd ha hn htk hm) I.kIn J e (fun z=>nomatch z) h
end
structure Room (k:Nat) (A:Around):Prop where
  hd:A.handled=none
  dp:A.depth+3 * k+5<recursionLimit
  un:A.units+16 * k+200<cLine
theorem Room.mono {j k:Nat}{A:Around}(r:Room k A) (h:j<=k):Room j A:=⟨r.hd,by have:=r.dp;omega,by have:=r.un;omega⟩
theorem Room.deeper {k:Nat}{A:Around}(r:Room (k+1) A) (env:Env):Room k (A.deeper env):=
  ⟨r.hd,by have:=r.dp;show A.depth+1+3 * k+5<_;omega,by have:=r.un;show A.units+3+16 * k+200<_;omega⟩
theorem zmt {A:Around}{C:Addr}{us:List Value}{kw:List (Str×Value)}:(A.under (.builtin "type.__call__" ⟨.ref C::us,kw⟩)).depth=A.depth+1:=by
  first | rfl | simp[Around.under,Code.weight,Code.isCreation,Code.isGuard,Code.isCaller,Code.frames,Code.isFrame,guardIds]
theorem zmu {A:Around}{C:Addr}{us:List Value}{kw:List (Str×Value)}:(A.under (.builtin "type.__call__" ⟨.ref C::us,kw⟩)).units=A.units+1:=by
  first | rfl | simp[Around.under,Code.cUnits,Code.frames,Code.isFrame]
theorem Room.make {k:Nat}{A:Around}(r:Room (k+1) A) (C:Addr) (us:List Value) (kw:List (Str×Value)):Room k (A.under (.builtin "type.__call__" ⟨.ref C::us,kw⟩)):=
  ⟨r.hd,by have:=r.dp;rw[zmt];omega,by have:=r.un;rw[zmu];omega⟩
theorem Room.depth {k:Nat}{A:Around}(r:Room k A):A.depth<recursionLimit:=by have:=r.dp;omega
theorem Room.units {k:Nat}{A:Around}(r:Room k A):A.units+64<cLine:=by have:=r.un;omega
def tNil:TA:=fun _ H Q=>Q [] H
def zbb (ta:TE) (tr:TA):TA:=fun σ H Q=>ta σ H fun x H1=>tr σ H1 fun xs H2=>Q (x::xs) H2
section
variable {X:Cx}{e:Expr}{es:List Expr}{te:TE}{t:TA}{pos:Pos}
theorem zd:PA X [] tNil:=fun _ _ _ _ H Q I h=>Calls.spliced_nil ⟨[],H,I,.nil,h⟩
theorem za (ha:PE X e te) (hr:PA X es t) (hs:starEach (e::es) X.env=(false,eval e X.env)::starEach es X.env:=by rfl):PA X (e::es) (zbb te t):=by
  intro pos pins s σ H Q I h
  rw[hs]
  show wpAny _ _ (spliced ((false,eval e X.env)::backTo pos (starEach es X.env))) _ _ s
  refine Calls.spliced_cons (thn (ha pins s σ H _ I h) fun u s1 hq0=>?_)
  obtain⟨x,H1,I1,r1,q1⟩:=hq0
  exact thn (hr pos pins s1 σ H1 _ I1 q1) fun us s2 ⟨xs,H2,I2,r2,q2⟩=>⟨x::xs,H2,I2,.cons r1 r2,q2⟩
def tTup (t:TA):TE:=fun σ H Q=>t σ H fun xs H1=>xs.length<=sizeLine/\∀p,H1 p=none->Q (.ref p) (upd H1 p (.tup xs))
def tLst (t:TA):TE:=fun σ H Q=>t σ H fun xs H1=>xs.length<=sizeLine/\∀p,H1 p=none->Q (.ref p) (upd H1 p (.lst xs))
theorem zbc {x1}(h:PA X es t):PE X (.Tuple es x1 pos) (tTup t):=by
  intro pins s σ H Q I hq
  refine wpAny_Tuple_spliced (thn (h pos pins s σ H _ I hq) fun us s1 ⟨xs,H1,I1,r,z,q⟩=>⟨by rw[←r.length];exact z,?_⟩)
  have hf:H1 s1.heap.objs.size=none:=I1.hok.fresh (Nat.le_refl _)
  refine⟨.ref s1.heap.objs.size,upd H1 s1.heap.objs.size (.tup xs),I1.laid (t':=s1.toks) (fun b u e=>Heap.get?_push_of_some _ e) (Nat.le_refl _) ?_,rfl,q _ hf⟩
  exact⟨z,us,r,⟨_,Heap.get?_push_size _ rfl,rfl,_,rfl⟩⟩
theorem zbn (h:PA X es t):PE X (.List es pos) (tLst t):=by
  intro pins s σ H Q I hq
  refine wpAny_List_spliced (thn (h pos pins s σ H _ I hq) fun us s1 ⟨xs,H1,I1,r,z,q⟩=>⟨by rw[←r.length];exact z,?_⟩)
  have hf:H1 s1.heap.objs.size=none:=I1.hok.fresh (Nat.le_refl _)
  refine⟨.ref s1.heap.objs.size,upd H1 s1.heap.objs.size (.lst xs),I1.laid (t':=s1.toks) (fun b u e=>Heap.get?_push_of_some _ e) (Nat.le_refl _) ?_,rfl,q _ hf⟩
  exact⟨z,us,0,r,Heap.get?_push_size _ rfl⟩
end
abbrev Sp:=List V->Hp->VK->XK->Prop
abbrev CXT:=List Env->Hp->Shared->XK->Value->Shared->Prop
structure Env0 (P:Program) (w:World) (K:PySem.W.Frag) (mg:Str->Option Value) (base:Heap) (A:Around) (outer:List Env) (s:Shared) (H:Hp):Prop where
  frames:A.frames=some outer
  mod:Mod K mg base
  bs:∀b o,base.get? b=some o->s.heap.get? b=some o/\H b=none
  bsz:base.objs.size<=s.heap.objs.size
  funs:s.heap.FunFrames base outer
  frf:∀b∈frs outer,H b=none
  hok:HOk P w H s.heap
  bare:AllBare s.gens
def CE (outer:List Env) (P:Program) (w:World) (H:Hp) (s:Shared) (Q:VK) (u:Value) (s':Shared):Prop:=
  ∃v H',s'.os=s.os/\AllBare s'.gens/\Un (frs outer) [] H H' s.heap s'.heap/\HOk P w H' s'.heap/\RelV v u/\Q v H'
def CR (CX:CXT) (outer:List Env) (P:Program) (w:World) (H:Hp) (s:Shared) (Q:VK) (E:XK) (r:Result) (s':Shared):Prop:=
  match r with
  | .ok (.ret u)=>CE outer P w H s Q u s'
  | .ok _=>False
  | .error e=>CX outer H s E e s'
structure FnOk (P:Program) (w:World) (K:PySem.W.Frag) (mg:Str->Option Value) (base:Heap) (CX:CXT) (k:Nat) (f:Addr) (fd:FuncData) (ps:List Str) (sp:Sp):Prop where
  len:∀vs H Q E,sp vs H Q E->vs.length=ps.length
  run:∀(A:Around) (outer:List Env) (s:Shared) (H:Hp) (args:Args) (us:List Value) (vs:List V) (Q:VK) (E:XK),Room k A->Env0 P w K mg base A outer s H->BindsTo s fd args (ps.zip us)->Vals vs us->sp vs H Q E->
    codeAny (model P w) A (.call (.ref f) args) (CR CX outer P w H s Q E) s
theorem Env0.make {P:Program}{w:World}{K:PySem.W.Frag}{mg:Str->Option Value}{base:Heap}{A:Around}{outer:List Env}{s:Shared}{H:Hp}(e:Env0 P w K mg base A outer s H) (C:Addr) (us:List Value) (kw:List (Str×Value)) :
    Env0 P w K mg base (A.under (.builtin "type.__call__" ⟨.ref C::us,kw⟩)) outer s H:=⟨by first | exact e.frames | (simpa[Around.under,Code.envs,Code.isFrame,pushEnvs] using e.frames),e.mod,e.bs,e.bsz,e.funs,e.frf,e.hok,e.bare⟩
section
variable {X:Cx}{pins:List (Addr×Obj)}{σ:St}{H:Hp}{s s':Shared}
theorem Inv.env0 (I:Inv X pins σ H s):Env0 X.prog X.w X.K X.mg X.base X.A X.stack s H:=
  ⟨I.ok.frames,I.ok.mod,I.bs,Nat.le_trans I.ok.bsz I.sz,I.stack,I.stkFree,I.hok,I.bare⟩
theorem Inv.after {Q:VK}{u:Value}(I:Inv X pins σ H s) (h:CE X.stack X.prog X.w H s Q u s'):EP X pins σ Q u s':=by
  obtain⟨v,H',os,bare,un,hok,r,q⟩:=h
  obtain⟨hh,g,d,t,os'⟩:=s'
  obtain rfl:os'=s.os:=os
  exact⟨v,H',I.call (h':=hh) (g':=g) (d':=d) (t':=t) (ch:=[]) un hok bare (fun b z=>absurd z (by simp)),r,q⟩
end
def zv4 (sp:Sp) (dvs:List V) (E:XK) (t:TA):TE:=fun σ H Q=>t σ H fun vs H1=>sp (vs++dvs) H1 Q E
def zq3 (C:Addr) (m:Str) (sp:Sp) (dvs:List V) (E:XK) (ta:TE) (t:TA):TE:=fun σ H Q=>ta σ H fun x H1=>∃a dx fs,x = .ref a/\H1 a=some (.ins C dx fs)/\fs.lookup m=none/\
  t σ H1 fun vs H2=>sp (x::(vs++dvs)) H2 Q E
def zq4 (C:Addr) (sp:Sp) (dvs:List V) (E:XK) (t:TA):TE:=fun σ H Q=>t σ H fun vs H1=>∀x dx,H1 x=none->H1 dx=none->dx≠x->
  sp (.ref x::(vs++dvs)) (upd (upd H1 dx (.own x)) x (.ins C dx [])) (fun v H2=>v = .non/\Q (.ref x) H2) E
def Binds (K:PySem.W.Frag) (fd:FuncData) (ps:List Str) (ds:List Value):Prop:=
  ∀(s:Shared) (us:List Value),K.In s.heap->(us++ds).length=ps.length->BindsTo s fd ⟨us,[]⟩ (ps.zip (us++ds))
theorem Binds.all {K:PySem.W.Frag}{fd:FuncData}{ps:List Str}(h:∀us:List Value,us.length=ps.length->bindArgs fd ⟨us,[]⟩=pure (ps.zip us)):Binds K fd ps []:=fun s us _ hl=>by
  rw[List.append_nil] at hl ⊢
  exact .of_eq (h us hl)
def zef (CX:CXT) (X:Cx) (E:XK):Prop:=∀(pins:List (Addr×Obj)) (σ:St) (H:Hp) (s:Shared) (e:Value) (s':Shared),Inv X pins σ H s->CX X.stack H s E e s'->X.xe e s'
section
variable {X:Cx}{CX:CXT}{k:Nat}{f C:Addr}{fd:FuncData}{ps:List Str}{sp:Sp}{dvs:List V}{ds:List Value}{E:XK}{x m:Str}{p pos apos:Pos}{e o:Expr}{es:List Expr}{ta:TE}{t:TA}
theorem zoc {pins:List (Addr×Obj)}{σ:St}{H:Hp}{s:Shared}{Q:VK}{us:List Value}{vs:List V}(F:FnOk X.prog X.w X.K X.mg X.base CX k f fd ps sp) (hr:Room k X.A) (hb:Binds X.K fd ps ds) (hd:Vals dvs ds) (hx:zef CX X E)
    (I:Inv X pins σ H s) (r:Vals vs us) (h:sp (vs++dvs) H Q E):wpAny (model X.prog X.w) X.A (call (.ref f) us) (EP X pins σ Q) X.xe s:=by
  have r2:Vals (vs++dvs) (us++ds):=r.append hd
  have hl:(us++ds).length=ps.length:=by rw[←r2.length];exact F.len _ _ _ _ h
  refine wpAny_call (codeAny_mono (F.run X.A X.stack s H ⟨us,[]⟩ (us++ds) (vs++dvs) Q E hr I.env0 (hb s us I.kIn hl) r2 h) fun r s' hq=>?_)
  cases r with
  | error e=>exact hx pins σ H s e s' I hq
  | ok fl=>
    cases fl with
    | ret u=>exact I.after hq
    | next=>exact False.elim hq
    | brk=>exact False.elim hq
    | cont=>exact False.elim hq
theorem ztw (F:FnOk X.prog X.w X.K X.mg X.base CX k f fd ps sp) (hr:Room k X.A) (hg:Gl X x) (hm:X.mg x=some (.ref f)) (hk:PySem.W.keepIn X.K (.ref f)=true) (hb:Binds X.K fd ps ds) (hd:Vals dvs ds) (hx:zef CX X E)
    (ha:PA X (e::es) t) (hdb:(x == ("__debug__" : Str))=false:=by decide) (he:starEach (e::es) X.env=(false,eval e X.env)::starEach es X.env:=by rfl) (hpl:(backTo pos (starEach es X.env)).any (·.1)=false:=by rfl) :
    PE X (.Call (.Name x p) (e::es) [] pos) (zv4 sp dvs E t):=by
  intro pins s σ H Q I h
  refine wpAny_Call_Name_kw (zcn I hg hm ?_ hdb)
  refine PySem.W.callWith_K (h₀:=X.base) I.ok.mod.kin hk (thn (ha pos pins s σ H _ I h) fun us s1 ⟨vs,H1,I1,r,q⟩=>⟨I1.kIn,?_⟩) he hpl
  exact zoc F hr hb hd hx I1 r q
theorem ztx {pl:Sem Bool}(he:PE X o ta) (c:Cls X.K C) (hm:Meth X.K C m f) (F:FnOk X.prog X.w X.K X.mg X.base CX k f fd ps sp) (hr:Room k X.A) (hb:Binds X.K fd ps ds) (hd:Vals dvs ds) (hx:zef CX X E) (ha:PA X (e::es) t)
    (hst:starEach (e::es) X.env=(false,eval e X.env)::starEach es X.env:=by rfl) (hpl:(backTo pos (starEach es X.env)).any (·.1)=false:=by rfl)
    (ht:eval (.Call (.Attribute o m apos) (e::es) [] pos) X.env=(do
      let ov ←eval o X.env
      standAt apos.atName
      let (f,first) ←holding [ov] (getMethod ov m pl)
      callWith pos f first (backTo pos (starEach (e::es) X.env)) (backToKw pos (keywordEach [] X.env))):=by rfl) :
    PE X (.Call (.Attribute o m apos) (e::es) [] pos) (zq3 C m sp dvs E ta t):=by
  intro pins s σ H Q I h
  refine PySem.W.methodCall_KW (pl:=pl) (thn (he pins s σ H _ I h) fun u s1 hq0=>?_) ht
  obtain⟨x,H1,I1,rx,a,dx,fs,ex,ea,l,q⟩:=hq0
  subst ex
  obtain rfl:u=Value.ref a:=rx
  refine zd4 I1 ea c hm l ?_
  refine PySem.W.callWith_K (first:=[.ref a]) (h₀:=X.base) I.ok.mod.kin hm.kp (thn (ha pos pins s1 σ H1 _ I1 q) fun us s2 ⟨vs,H2,I2,r,q2⟩=>⟨I2.kIn,?_⟩) hst hpl
  exact zoc (us:=.ref a::us) (vs:=.ref a::vs) F hr hb hd hx I2 (.cons rfl r) q2
theorem zq5 {pl:Sem Bool}(he:PE X o ta) (c:Cls X.K C) (hm:Meth X.K C m f) (F:FnOk X.prog X.w X.K X.mg X.base CX k f fd ps sp) (hr:Room k X.A) (hb:Binds X.K fd ps ds) (hd:Vals dvs ds) (hx:zef CX X E)
    (ht:eval (.Call (.Attribute o m apos) [] [] pos) X.env=(do
      let ov ←eval o X.env
      standAt apos.atName
      let (f,first) ←holding [ov] (getMethod ov m pl)
      callWith pos f first (backTo pos (starEach [] X.env)) (backToKw pos (keywordEach [] X.env))):=by rfl) :
    PE X (.Call (.Attribute o m apos) [] [] pos) (zq3 C m sp dvs E ta tNil):=by
  intro pins s σ H Q I h
  refine PySem.W.methodCall_KW (pl:=pl) (thn (he pins s σ H _ I h) fun u s1 hq0=>?_) ht
  obtain⟨x,H1,I1,rx,a,dx,fs,ex,ea,l,q⟩:=hq0
  subst ex
  obtain rfl:u=Value.ref a:=rx
  refine zd4 I1 ea c hm l ?_
  exact PySem.W.callWith_K0 (first:=[.ref a]) I1.kIn hm.kp (zoc (us:=[.ref a]) (vs:=[.ref a]) F hr hb hd hx I1 (.cons rfl .nil) q)
structure Mk (K:PySem.W.Frag) (C f:Addr):Prop where
  makes:PySem.W.makesIn K C=true
  init:PySem.W.findIn K (.ref C) "__init__" = some (some (.ref f))
  fn:PySem.W.isFn K (.ref f)=true
  kp:PySem.W.keepIn K (.ref C)=true
theorem zlp {pins:List (Addr×Obj)}{σ:St}{H:Hp}{s:Shared}{Q:VK}{us:List Value}{vs:List V}(M:Mk X.K C f) (F:FnOk X.prog X.w X.K X.mg X.base CX k f fd ps sp) (hr:Room (k+1) X.A) (hb:Binds X.K fd ps ds) (hd:Vals dvs ds)
    (hx:zef CX X E) (I:Inv X pins σ H s) (r:Vals vs us)
    (h:∀x dx,H x=none->H dx=none->dx≠x->sp (.ref x::(vs++dvs)) (upd (upd H dx (.own x)) x (.ins C dx [])) (fun v H2=>v = .non/\Q (.ref x) H2) E) :
    wpAny (model X.prog X.w) X.A (call (.ref C) us) (EP X pins σ Q) X.xe s:=by
  have hq:=h (s.heap.objs.size+1) s.heap.objs.size (I.hok.fresh (Nat.le_succ _)) (I.hok.fresh (Nat.le_refl _)) (Nat.ne_of_lt (Nat.lt_succ_self _))
  have I2:=Inv.made (C:=C) I
  have r2:Vals (V.ref (s.heap.objs.size+1)::(vs++dvs)) (Value.ref (s.heap.objs.size+1)::(us++ds)):=.cons rfl (r.append hd)
  have hl:(Value.ref (s.heap.objs.size+1)::us++ds).length=ps.length:=by
    have e:=r2.length
    rw[F.len _ _ _ _ hq] at e
    exact e.symm
  refine wpAny_call (zq2 (f:=f) I.kIn M.makes M.init (beq_iff_eq.mp M.fn) (codeAny_mono (F.run _ X.stack _ _ ⟨Value.ref (s.heap.objs.size+1)::us,[]⟩ (Value.ref (s.heap.objs.size+1)::(us++ds)) _ _ E (hr.make C us [])
    (I2.env0.make C us []) (hb _ (Value.ref (s.heap.objs.size+1)::us) I2.kIn hl) r2 hq) fun r s' hq'=>?_))
  cases r with
  | error e=>exact hx pins σ _ _ e s' I2 hq'
  | ok fl=>
    cases fl with
    | ret u=>
      obtain⟨v,H',I3,rv,ev,q3⟩:=I2.after hq'
      subst ev
      exact⟨rv,⟨V.ref (s.heap.objs.size+1),H',I3,rfl,q3⟩⟩
    | next=>exact False.elim hq'
    | brk=>exact False.elim hq'
    | cont=>exact False.elim hq'
theorem zty (M:Mk X.K C f) (F:FnOk X.prog X.w X.K X.mg X.base CX k f fd ps sp) (hr:Room (k+1) X.A) (hg:Gl X x) (hm:X.mg x=some (.ref C)) (hb:Binds X.K fd ps ds) (hd:Vals dvs ds) (hx:zef CX X E)
    (ha:PA X (e::es) t) (hdb:(x == ("__debug__" : Str))=false:=by decide) (he:starEach (e::es) X.env=(false,eval e X.env)::starEach es X.env:=by rfl) (hpl:(backTo pos (starEach es X.env)).any (·.1)=false:=by rfl) :
    PE X (.Call (.Name x p) (e::es) [] pos) (zq4 C sp dvs E t):=by
  intro pins s σ H Q I h
  refine wpAny_Call_Name_kw (zcn I hg hm ?_ hdb)
  refine PySem.W.callWith_K (h₀:=X.base) I.ok.mod.kin M.kp (thn (ha pos pins s σ H _ I h) fun us s1 ⟨vs,H1,I1,r,q⟩=>⟨I1.kIn,?_⟩) he hpl
  exact zlp M F hr hb hd hx I1 r q
theorem zq6 (M:Mk X.K C f) (F:FnOk X.prog X.w X.K X.mg X.base CX k f fd ps sp) (hr:Room (k+1) X.A) (hg:Gl X x) (hm:X.mg x=some (.ref C)) (hb:Binds X.K fd ps ds) (hd:Vals dvs ds) (hx:zef CX X E)
    (hdb:(x == ("__debug__" : Str))=false:=by decide):PE X (.Call (.Name x p) [] [] pos) (zq4 C sp dvs E tNil):=by
  intro pins s σ H Q I h
  refine wpAny_Call_Name_kw (zcn I hg hm ?_ hdb)
  exact PySem.W.callWith_K0 I.kIn M.kp (zlp (us:=[]) M F hr hb hd hx I .nil h)
end
structure FnScope (N P:List Str) (sc:Scope):Prop where
  kind:sc.kind = .function
  co:sc.isCoroutine=false
  gen:sc.isGenerator=false
  nd:N.Nodup
  pre:N.take P.length=P
  par:∀x∈P,sc.names.lookup x=some .local\/sc.names.lookup x=some .cell
  nofree:∀y∈sc.names,y.2≠.free
theorem zi2 {kindOf:Str->Option NameKind}{x:Str}:∀{binds:List (Str×Value)}{m:Str->Option Value},(∀v,(x,v) ∉ binds)->bindL kindOf binds m x=m x
  | [],_,_=>rfl
  | (n,v)::r,m,h=>by
    unfold bindL
    rw[zi2 fun w hw=>h w (List.mem_cons_of_mem _ hw)]
    split
    · have:x≠n:=by rintro rfl;exact h v List.mem_cons_self
      simp[this]
    · rfl
theorem zi3 {kindOf:Str->Option NameKind}{x:Str}:∀{binds:List (Str×Value)}{m:Str->Option Value},(∀v,(x,v) ∉ binds)->bindC kindOf binds m x=m x
  | [],_,_=>rfl
  | (n,v)::r,m,h=>by
    unfold bindC
    rw[zi3 fun w hw=>h w (List.mem_cons_of_mem _ hw)]
    split
    · rfl
    · have:x≠n:=by rintro rfl;exact h v List.mem_cons_self
      simp[this]
theorem zi4 {kindOf:Str->Option NameKind}{x:Str}{v:Value}:∀{P:List Str}{vs:List Value}{i:Nat}{m:Str->Option Value},P.Nodup->P[i]? = some x->vs[i]? = some v->kindOf x=some .local->
    bindL kindOf (P.zip vs) m x=some v
  | [],_,_,_,_,h,_,_=>by simp at h
  | _::_,[],_,_,_,_,h,_=>by simp at h
  | p::P,w::vs,0,m,nd,h1,h2,hk=>by
    simp at h1 h2;subst h1;subst h2
    show bindL kindOf ((p,w)::P.zip vs) m p=_
    unfold bindL
    rw[zi2 fun v hv=>(List.nodup_cons.mp nd).1 (List.of_mem_zip hv).1,if_pos hk]
    simp
  | p::P,w::vs,i+1,m,nd,h1,h2,hk=>by
    show bindL kindOf ((p,w)::P.zip vs) m x=_
    unfold bindL
    exact zi4 (i:=i) (List.nodup_cons.mp nd).2 (by simpa using h1) (by simpa using h2) hk
theorem zi5 {kindOf:Str->Option NameKind}{x:Str}{v:Value}:∀{P:List Str}{vs:List Value}{i:Nat}{m:Str->Option Value},P.Nodup->P[i]? = some x->vs[i]? = some v->kindOf x≠some .local->
    bindC kindOf (P.zip vs) m x=some v
  | [],_,_,_,_,h,_,_=>by simp at h
  | _::_,[],_,_,_,_,h,_=>by simp at h
  | p::P,w::vs,0,m,nd,h1,h2,hk=>by
    simp at h1 h2;subst h1;subst h2
    show bindC kindOf ((p,w)::P.zip vs) m p=_
    unfold bindC
    rw[zi3 fun v hv=>(List.nodup_cons.mp nd).1 (List.of_mem_zip hv).1,if_neg hk]
    simp
  | p::P,w::vs,i+1,m,nd,h1,h2,hk=>by
    show bindC kindOf ((p,w)::P.zip vs) m x=_
    unfold bindC
    exact zi5 (i:=i) (List.nodup_cons.mp nd).2 (by simpa using h1) (by simpa using h2) hk
def zd5 (N:List Str) (vs:List V):St:=vs.map some++List.replicate (N.length-vs.length) none
def cxOf (CX:CXT) (P:Program) (w:World) (K:PySem.W.Frag) (mg:Str->Option Value) (base:Heap) (N:List Str) (qual:Str) (scope:Scope) (f:Addr) (cd:Value) (A:Around) (outer:List Env) (s:Shared) (H:Hp) (E:XK):Cx where
  prog:=P
  w:=w
  K:=K
  mg:=mg
  base:=base
  A:=A.deeper (envOfC qual scope s.heap.objs.size f cd)
  N:=N
  s₀:=s
  H₀:=H
  env:=envOfC qual scope s.heap.objs.size f cd
  outer:=outer
  stack:=envOfC qual scope s.heap.objs.size f cd::outer
  ex:=[]
  calm:=true
  fn:=fun _=>true
  pn:=[]
  xe:=fun e s'=>wpAny (model P w) (A.deeper (envOfC qual scope s.heap.objs.size f cd)) (leaving (envOfC qual scope s.heap.objs.size f cd) e) (fun _ s''=>CX outer H s E e s'') (fun e' s''=>CX outer H s E e' s'') s'
theorem zlq {sc:Scope}{n:Nat}{x:Str}(h:sc.names.lookup x=some .cell):∃c,(cellsFrom n sc.names []).lookup x=some c:=by
  have q:=PySem.W.cellsFrom_some sc.names n [] (.inl h)
  exact Option.isSome_iff_exists.mp q
theorem zod {CX:CXT}{P:Program}{w:World}{K:PySem.W.Frag}{mg:Str->Option Value}{base:Heap}{N ps:List Str}{qual:Str}{scope:Scope}{f:Addr}{cd:Value}{A:Around}{outer:List Env}{s s1:Shared}{H:Hp}{E:XK}{us:List Value}{vs:List V}
    (S:FnScope N ps scope) (hd:A.handled=none) (e0:Env0 P w K mg base A outer s H) (hl:vs.length=ps.length) (r:Vals vs us)
    (x:InCallC s s.heap.objs.size (bindL (envOfC qual scope s.heap.objs.size f cd).kindOf (ps.zip us) fun _=>none) (cellsFrom (s.heap.objs.size+1) scope.names []) (bindC (envOfC qual scope s.heap.objs.size f cd).kindOf (ps.zip us) fun _=>none) s1) :
    Inv (cxOf CX P w K mg base N qual scope f cd A outer s H E) [] (zd5 N vs) H s1:=by
  have hpl:ps.length<=N.length:=by have:=congrArg List.length S.pre;rw[List.length_take] at this;omega
  obtain⟨h1,tk,rfl,hk⟩:=x.done
  have noA:∀b:Addr,b ∉ (cxOf CX P w K mg base N qual scope f cd A outer s H E).ex:=fun b z=>absurd (show b∈([]:List Addr) from z) (by simp)
  refine⟨⟨e0.mod,S.kind,rfl,rfl,Nat.le_refl _,fun y z c h1 h2=>?_,fun y hy=>?_,fun y c _ h=>?_,fun _=>hd,Around.frames_deeper e0.frames,.inr ⟨rfl,rfl⟩,fun b z=>absurd z (noA b),e0.bs,e0.bsz,fun b _ _=>noA b,fun b z=>absurd z (noA b),e0.funs,e0.frf⟩,
    rfl,e0.bare,Un.kept hk,⟨_,x.toInCall.ns,fun i y v h1 h2 h3=>?_⟩,fun y c h=>⟨_,x.cell y c h⟩,e0.hok.fresh (Nat.le_refl _),fun y c h=>?_,fun p hp=>absurd (show p∈([]:List (Addr×Obj)) from hp) (by simp),e0.hok.kept hk,?_⟩
  · exact name_of_addr x.apart (PySem.mem_of_lookup h1) (PySem.mem_of_lookup h2)
  · have hy:scope.names.lookup y=some .cell\/scope.names.lookup y=some .free:=hy
    rcases hy with hy | hy
    · exact zlq hy
    · exact absurd rfl (S.nofree _ (PySem.mem_of_lookup hy))
  · exact Nat.le_of_lt (x.above y c (PySem.mem_of_lookup h))
  · have hi:i<vs.length:=by
      unfold zd5 at h2
      by_cases hi:i<vs.length
      · exact hi
      · rw[List.getElem?_append_right (by simpa using hi)] at h2
        rw[List.getElem?_replicate] at h2
        split at h2<;>cases h2
    have ha:vs[i]? = some v:=by
      unfold zd5 at h2
      rw[List.getElem?_append_left (by simpa using hi),List.getElem?_map] at h2
      cases e:vs[i]? with
      | none=>rw[e] at h2;cases h2
      | some a=>rw[e] at h2;cases h2;rfl
    obtain⟨u,hu,rv⟩:=r.get ha
    have hp:ps[i]? = some y:=by
      rw[←S.pre,List.getElem?_take_of_lt (by omega)];exact h1
    have ndP:ps.Nodup:=by rw[←S.pre];exact S.nd.sublist (List.take_sublist _ _)
    refine⟨u,rv,?_⟩
    rcases S.par y (List.mem_of_getElem? hp) with k | k
    · exact .inl ⟨k,zi4 ndP hp hu k⟩
    · obtain⟨c,e⟩:=zlq (n:=s.heap.objs.size+1) k
      refine .inr ⟨.inl k,c,e,?_⟩
      have q:=x.cell y c e
      rw[zi5 ndP hp hu (by show scope.names.lookup y≠_;rw[k];decide)] at q
      exact q
  · exact e0.hok.fresh (Nat.le_of_lt (x.above y c (PySem.mem_of_lookup h)))
  · unfold zd5
    show _=N.length
    rw[List.length_append,List.length_map,List.length_replicate]
    omega
theorem zxp {CX:CXT}{P:Program}{w:World}{K:PySem.W.Frag}{mg:Str->Option Value}{base:Heap}{k:Nat}{f:Addr}{name qual:Str}{params:Arguments}{body:List Stmt}{scope:Scope}{dV kV doc pm cdv ct oc:Value}{an od:Option Addr}
    {osl:Array (Option Value)}{N ps:List Str}{sp:Sp}(lk:K.lookup f=some ⟨oc,od,.func (PySem.W.fnOf name qual params body scope dV kV doc pm an cdv ct),osl⟩) (hcd:PySem.W.codeIn K cdv qual=true) (S:FnScope N ps scope)
    (len:∀vs H Q E,sp vs H Q E->vs.length=ps.length)
    (hbody:∀(A:Around) (outer:List Env) (s:Shared) (H:Hp) (vs:List V) (Q:VK) (E:XK),Room k (A.deeper (envOfC qual scope s.heap.objs.size f cdv))->sp vs H Q E->
      ∃t,PSs (cxOf CX P w K mg base N qual scope f cdv A outer s H E) body t/\t { nx:=fun _ H'=>Q .non H',rt:=Q } (zd5 N vs) H) :
    FnOk P w K mg base CX (k+1) f (PySem.W.fnOf name qual params body scope dV kV doc pm an cdv ct) ps sp:=by
  refine⟨len,fun A outer s H args us vs Q E hr e0 hb r hsp=>?_⟩
  have hl:=len _ _ _ _ hsp
  have KX:K.In s.heap:=e0.mod.kin.keeps fun b o e=>(e0.bs b o e).1
  have lim:s.heap.NoLimit:=e0.mod.nolimit.keeps fun b o e=>(e0.bs b o e).1
  have hkind:∀y∈ps.zip us,scope.names.lookup y.1=some .local\/(scope.names.lookup y.1=some .cell/\((cellsFrom (s.heap.objs.size+1) scope.names []).lookup y.1).isSome=true):=fun ⟨n,v⟩ hy=>by
    rcases S.par n (List.of_mem_zip hy).1 with q | q
    · exact .inl q
    · exact .inr ⟨q,PySem.W.cellsFrom_some _ _ _ (.inl q)⟩
  refine codeAny_call_function hr.depth (KX _ _ lk) rfl S.co S.gen rfl (PySem.W.codeRec_of KX hcd) (hb _ _ _ _ ?_)
  refine wpAny_newFunctionEnv_cells S.kind hkind fun env he s1 x=>?_
  subst he
  refine⟨lim.keeps x.toInCall.keep,codeAny_func ?_⟩
  obtain⟨t,ht,hq⟩:=hbody A outer s H vs Q E (hr.deeper _) hsp
  have I:Inv (cxOf CX P w K mg base N qual scope f cdv A outer s H E) [] (zd5 N vs) H s1:=zod S hr.hd e0 hl r x
  refine wpAny_mono (ht [] s1 (zd5 N vs) H _ I hq) (fun fl s' hs=>?_) fun e s' hs=>hs
  have fin:∀{σ':St}{H':Hp}{v:V}{u:Value},Inv (cxOf CX P w K mg base N qual scope f cdv A outer s H E) [] σ' H' s'->RelV v u->Q v H'->CE outer P w H s Q u s':=
    fun {σ' H' v u} J rv q=>⟨v,H',J.os,J.bare,J.base,J.hok,rv,q⟩
  cases fl with
  | ret u=>
    obtain⟨v,σ',H',J,rv,q⟩:=hs
    exact fin J rv q
  | next=>
    obtain⟨σ',H',J,q⟩:=hs
    exact fin (v:=V.non) (u:=Value.none) J rfl q
  | brk=>
    obtain⟨_,_,_,q⟩:=hs
    exact False.elim q
  | cont=>
    obtain⟨_,_,_,q⟩:=hs
    exact False.elim q
section
variable {X:Cx}{x:Str}{p pos:Pos}{e:Expr}{es:List Expr}{t:TA}{id T:String}{r:List V->Hp->VK->Prop}
def tCB (r:List V->Hp->VK->Prop) (t:TA):TE:=fun σ H Q=>t σ H fun vs H1=>r vs H1 Q
theorem za1 (hc:zco X (.builtin id) r) (hg:Gl X x) (hm:X.mg x=none) (hv:bootBuiltins x=some (.builtin id)) (ha:PA X (e::es) t) (hn:x≠"__name__":=by decide) (hdb:(x == ("__debug__" : Str))=false:=by decide)
    (he:starEach (e::es) X.env=(false,eval e X.env)::starEach es X.env:=by rfl) (hpl:(backTo pos (starEach es X.env)).any (·.1)=false:=by rfl):PE X (.Call (.Name x p) (e::es) [] pos) (tCB r t):=by
  intro pins s σ H Q I h
  refine wpAny_Call_Name_kw (ziy I hg hm hv ?_ hn hdb)
  exact PyProof.Rows.callWith_builtin1 (thn (ha pos pins s σ H _ I h) fun us s1 ⟨vs,H1,I1,r1,q1⟩=>hc pins s1 σ H1 vs us Q I1 r1 q1) he hpl
theorem zca (hc:zco X (.type T) r) (hg:Gl X x) (hm:X.mg x=none) (hv:bootBuiltins x=some (.type T)) (ha:PA X (e::es) t) (hn:x≠"__name__":=by decide) (hdb:(x == ("__debug__" : Str))=false:=by decide)
    (he:starEach (e::es) X.env=(false,eval e X.env)::starEach es X.env:=by rfl) (hpl:(backTo pos (starEach es X.env)).any (·.1)=false:=by rfl):PE X (.Call (.Name x p) (e::es) [] pos) (tCB r t):=by
  intro pins s σ H Q I h
  refine wpAny_Call_Name_kw (ziy I hg hm hv ?_ hn hdb)
  exact PyProof.Rows.callWith_type1 (thn (ha pos pins s σ H _ I h) fun us s1 ⟨vs,H1,I1,r1,q1⟩=>hc pins s1 σ H1 vs us Q I1 r1 q1) he hpl
end
end L2
namespace HT
open PySem PyProof.Rows
section
open PySem.SeqAt
open PySem.AutoSeq1 (wpAny_loadPart')
open PySem.MeetsSeq PySem.MeetsSeq2 PySem.MeetsSeq3
end
section
variable {prog:Program}{w:World}{A:Around}{E:Value->Shared->Prop}{s:Shared}
theorem cat_tup {t b:Addr}{vs ws:List Value}{Q:Value->Shared->Prop}(ht:IsTup s.heap t vs.toArray) (hb:IsTup s.heap b ws.toArray) (hv:vs≠[])
    (h1:ws = []->Q (.ref t) s) (h2:ws≠[]->Q (.ref s.heap.objs.size) { s with heap:=s.heap.push { cls:=.type "tuple",data:=.seq (vs++ws).toArray } })
    (hsz:vs.length+ws.length<=sizeLine):wpAny (model prog w) A (binaryOp .Add (.ref t) (.ref b)) Q E s:=by
  obtain⟨⟨cls,dd,data,sl⟩,ho,hc,n,hd⟩:=id ht
  obtain⟨⟨cls2,dd2,data2,sl2⟩,ho2,hc2,n2,hd2⟩:=id hb
  simp only at hc hd hc2 hd2
  subst hc hd hc2 hd2
  have e:vs.toArray++ws.toArray=(vs++ws).toArray:=by simp
  by_cases hw:ws = []
  · exact concat_meets ⟨_,ho,rfl⟩ ⟨_,ho2,rfl⟩ noFill_tuple_add seq_tuple_add PySem.F.slot_tuple_add PySem.F.entry_tuple_add (PySem.F.args_tuple_add_2 _ _)
      (tuple_addW1 t b vs.toArray ws.toArray n n2 dd dd2 sl sl2 (by simpa using hv) (by simp[hw])) ⟨ho,ho2,h1 hw⟩
  · refine concat_meets ⟨_,ho,rfl⟩ ⟨_,ho2,rfl⟩ noFill_tuple_add seq_tuple_add PySem.F.slot_tuple_add PySem.F.entry_tuple_add (PySem.F.args_tuple_add_2 _ _)
      (tuple_addW2 t b vs.toArray ws.toArray n n2 dd dd2 sl sl2 (by simpa using hv) (by simpa using hw) (by rw[List.size_toArray,List.size_toArray];exact hsz)) ⟨ho,ho2,?_⟩
    rw[e]
    exact h2 hw
def sIx (n d:Nat):Option Int->Nat
  | none=>d
  | some v=>if v<0 then (v+(n:Int)).toNat else min v.toNat n
theorem zv5 (n d:Nat) (hd:d<=n) (o:Option Int):sIx n d o<=n:=by
  cases o with
  | none=>exact hd
  | some v=>
    show (if v<0 then (v+(n:Int)).toNat else min v.toNat n)<=n
    by_cases hv:v<0
    · rw[if_pos hv];omega
    · rw[if_neg hv];exact Nat.min_le_right _ _
theorem zoe (v:Int) (n d:Nat):(if v<0 then max (v+(n:Int)) 0 else min v (n:Int))=((sIx n d (some v):Nat):Int):=by
  show (if v<0 then max (v+(n:Int)) 0 else min v (n:Int))=(((if v<0 then (v+(n:Int)).toNat else min v.toNat n):Nat):Int)
  by_cases hv:v<0
  · simp only [if_pos hv];omega
  · simp only [if_neg hv];omega
theorem zmv (lo hi:Option Int) (n:Nat):Builtin.Slice.sliceAdjust lo hi 1 (n:Int)=(((sIx n 0 lo:Nat):Int),((sIx n n hi:Nat):Int)):=by
  have h1:¬((1:Int)<0):=by omega
  unfold Builtin.Slice.sliceAdjust
  simp only [h1,if_false]
  refine Prod.ext ?_ ?_
  · cases lo with
    | none=>rfl
    | some v=>exact zoe v n 0
  · cases hi with
    | none=>rfl
    | some v=>exact zoe v n n
theorem zmw (i j:Nat):Builtin.Slice.slicePlaces (i:Int) (j:Int) 1=j-i:=by
  unfold Builtin.Slice.slicePlaces
  have h1:(1:Int) > 0:=by omega
  simp only [h1,if_true,Int.ediv_one]
  split<;>omega
theorem zg7 {v:Value}{o:Option Int}{Q:Option Int->Shared->Prop}(p:IsPart v o) (h:Q o s):wpAny (model prog w) A (Builtin.Slice.slicePartIndex v) Q E s:=by
  cases p with
  | none=>exact slicePart_none h
  | int i t=>exact slicePart_int h
theorem zct {sl:Addr}{vl vu:Value}{lo hi:Option Int}{n:Nat}{Q:Int×Int×Nat->Shared->Prop}(hs:s.heap.IsSliceOf sl vl vu .none) (pl:IsPart vl lo) (pu:IsPart vu hi)
    (h:Q (((sIx n 0 lo:Nat):Int),1,sIx n n hi-sIx n 0 lo) s):wpAny (model prog w) A (Builtin.Slice.sliceApplied (.ref sl) (pure (n:Int))) Q E s:=by
  obtain⟨os,hos,hcs,hds⟩:=id hs
  unfold Builtin.Slice.sliceApplied Builtin.Slice.sliceFields
  refine wpAny_bind (wpAny_bind (wpAny_field hos hds (x:=vl) rfl (wpAny_bind (wpAny_field hos hds (x:=vu) rfl (wpAny_bind (wpAny_field hos hds (x:=.none) rfl (wpAny_pure ?_)))))))
  refine wpAny_bind (slicePart_none ?_)
  show wpAny _ _ (if ((1:Int) == 0)=true then _ else _) _ _ s
  rw[if_neg (by decide)]
  refine wpAny_bind (zg7 pl (wpAny_bind (zg7 pu (wpAny_bind (wpAny_pure ?_)))))
  show wpAny _ _ (match Builtin.Slice.sliceAdjust lo hi 1 (n:Int) with | (lo,hi)=>pure (lo,(1:Int),Builtin.Slice.slicePlaces lo hi 1)) _ _ s
  rw[zmv lo hi n]
  show wpAny _ _ (pure (((sIx n 0 lo:Nat):Int),(1:Int),Builtin.Slice.slicePlaces ((sIx n 0 lo:Nat):Int) ((sIx n n hi:Nat):Int) 1)) _ _ s
  rw[zmw]
  exact wpAny_pure h
theorem zq7 (xs:Array Value) (i k:Nat):((List.range k).filterMap fun (m:Nat)=>xs[((i:Int)+(m:Int) * 1).toNat]?).toArray=((xs.toList.drop i).take k).toArray:=by
  have e:(fun (m:Nat)=>xs[((i:Int)+(m:Int) * 1).toNat]?)=fun m=>xs[i+m]?:=by
    funext m
    have:((i:Int)+(m:Int) * 1).toNat=i+m:=by omega
    rw[this]
  rw[e]
  have:=pick_run xs i k
  rw[List.filterMap_map] at this
  have e2:((fun x=>xs[x]?) ∘ fun x=>i+x)=fun m=>xs[i+m]?:=rfl
  rw[e2] at this
  rw[this]
theorem getItem_tuple_cut {t sl:Addr}{items:Array Value}{vl vu:Value}{lo hi:Option Int}{Q:Value->Shared->Prop}(ht:IsTup s.heap t items) (hs:s.heap.IsSliceOf sl vl vu .none) (pl:IsPart vl lo) (pu:IsPart vu hi)
    (hw:¬(sIx items.size 0 lo=0/\sIx items.size items.size hi=items.size))
    (h:Q (.ref s.heap.objs.size) { s with heap:=s.heap.push { cls:=.type "tuple",data:=.seq ((items.toList.drop (sIx items.size 0 lo)).take (sIx items.size items.size hi-sIx items.size 0 lo)).toArray } })
    (hsz:items.size<=sizeLine):wpAny (model prog w) A (getItem (.ref t) (.ref sl)) Q E s:=by
  have htake:sizeOk (.seq ((items.toList.drop (sIx items.size 0 lo)).take (sIx items.size items.size hi-sIx items.size 0 lo)).toArray):=by
    show ((items.toList.drop (sIx items.size 0 lo)).take (sIx items.size items.size hi-sIx items.size 0 lo)).toArray.size<=sizeLine
    rw[List.size_toArray,List.length_take,List.length_drop,Array.length_toList]
    omega
  have hj:sIx items.size items.size hi<=items.size:=zv5 _ _ (Nat.le_refl _) hi
  obtain⟨os,hos,hcs,hds⟩:=id hs
  have hTs:s.TypeIs (.ref sl) "slice":=⟨os,hos,hcs⟩
  unfold getItem
  try with_reducible refine wpAny_holding ?_
  first | refine wpAny_bind (wpAny_pure ?_) | skip
  refine wpAny_bind (wpAny_sequenceKey ht.typeIs (by decide) ?_)
  refine wpAny_bind (wpAny_callSpecial?_slot (name:=Str.ofString "__getitem__") ht.typeIs PyProof.Rows.slot_tuple_getitem
    (wpAny_call_entry PyProof.Rows.slot_tuple_getitem ht.typeIs entry_tuple_getitem ?_ (args_tuple_getitem _ _)))
  show wpAny _ _ (Builtin.Tuple.tupleItemsOf (.ref t) >>= _) _ _ s
  refine wpAny_bind (tupleItemsOf_ ht ?_)
  refine wpAny_bind (wpAny_typeOf hTs ?_)
  rw[if_pos (by decide)]
  refine wpAny_bind (zct hs pl pu ?_)
  have hno:¬((((sIx items.size 0 lo:Nat):Int) == 0&&(1:Int) == 1&&(sIx items.size items.size hi-sIx items.size 0 lo) == items.size)=true):=by
    intro q
    rw[Bool.and_eq_true,Bool.and_eq_true] at q
    have q1:((sIx items.size 0 lo:Nat):Int)=0:=eq_of_beq q.1.1
    have q2:sIx items.size items.size hi-sIx items.size 0 lo=items.size:=eq_of_beq q.2
    exact hw ⟨by omega,by omega⟩
  show wpAny _ _ (if (((sIx items.size 0 lo:Nat):Int) == 0&&(1:Int) == 1&&(sIx items.size items.size hi-sIx items.size 0 lo) == items.size)=true then _ else _) _ _ s
  rw[if_neg hno,zq7]
  first
    | exact wpAny_bind (m:=Builtin.Tuple.tupleExact _) (wpAny_newObj_type (wpAny_pure ⟨_,rfl,wpAny_pure h⟩) htake)
    | exact wpAny_bind (m:=Builtin.Tuple.tupleExact _) (wpAny_newObj_type (wpAny_bind (wpAny_pure (wpAny_pure ⟨_,rfl,wpAny_pure h⟩))) htake)
    | exact wpAny_bind (wpAny_bind (m:=Builtin.Tuple.tupleExact _) (wpAny_newObj_type (wpAny_pure (wpAny_pure ⟨_,rfl,wpAny_pure h⟩)) htake))
    | exact wpAny_bind (wpAny_bind (m:=Builtin.Tuple.tupleExact _) (wpAny_newObj_type (wpAny_pure ⟨_,rfl,wpAny_pure h⟩) htake))
end
end HT
namespace L2
open PySem PySem.Spec PyProof.Rows
abbrev TO:=St->Hp->(Option Int->Hp->Prop)->Prop
def PO (X:Cx) (e:Option Expr) (t:TO):Prop:=
  ∀(pins:List (Addr×Obj)) (s:Shared) (σ:St) (H:Hp) (Q:Option Int->Hp->Prop),Inv X pins σ H s->t σ H Q->
    wpAny (model X.prog X.w) X.A (evalPart e X.env) (fun u s'=>∃o H',Inv X pins σ H' s'/\IsPart u o/\Q o H') X.xe s
def zof:TO:=fun _ H Q=>Q none H
def zv6 (t:TE):TO:=fun σ H Q=>t σ H fun x H1=>∃i,x = .int i/\Q (some i) H1
section
variable {X:Cx}{e:Expr}{te:TE}{lo hi:Option Expr}{tl th:TO}{pos p2:Pos}
theorem zdm:PO X none zof:=by
  intro pins s σ H Q I h
  rw[evalPart_none]
  exact wpAny_pure ⟨none,H,I,.none,h⟩
theorem zcb (h:PE X e te):PO X (some e) (zv6 te):=by
  intro pins s σ H Q I hw
  rw[evalPart_some]
  refine thn (h pins s σ H _ I hw) fun u s1 hq0=>?_
  obtain⟨x,H1,I1,r1,q1⟩:=hq0
  obtain⟨i,rfl,q⟩:=q1
  obtain⟨t,rfl⟩:=r1
  exact⟨some i,H1,I1,.int i t,q⟩
def SlR (X:Cx) (r:V->Option Int->Option Int->Hp->VK->Prop):Prop:=
  ∀(pins:List (Addr×Obj)) (s:Shared) (σ:St) (H:Hp) (x:V) (v vl vu:Value) (lo hi:Option Int) (sl:Addr) (Q:VK),Inv X pins σ H s->RelV x v->s.heap.IsSliceOf sl vl vu .none->IsPart vl lo->IsPart vu hi->r x lo hi H Q->
    ∃T id,typeLookup (.type T) "__getitem__" = pure (some (.builtin id))/\s.TypeIs v T/\wpAny (model X.prog X.w) X.A (getItem v (.ref sl)) (EP X pins σ Q) X.xe s
def tSl (r:V->Option Int->Option Int->Hp->VK->Prop) (te:TE) (tl th:TO):TE:=fun σ H Q=>te σ H fun x H1=>tl σ H1 fun l H2=>th σ H2 fun u H3=>r x l u H3 Q
theorem zb4 {r:V->Option Int->Option Int->Hp->VK->Prop}(hr:SlR X r) (he:PE X e te) (hl:PO X lo tl) (hu:PO X hi th):PE X (.Subscript e (.Slice lo hi none p2) pos) (tSl r te tl th):=by
  intro pins s σ H Q I h
  refine Subscript_ (thn (he pins s σ H _ I h) fun v s1 hq0=>?_)
  obtain⟨x,H1,I1,r1,q1⟩:=hq0
  refine wpAny_Slice (thn (hl pins s1 σ H1 _ I1 q1) fun vl s2 ⟨l,H2,I2,pl,q2⟩=>thn (hu pins s2 σ H2 _ I2 q2) fun vu s3 hq0=>?_)
  obtain⟨u,H3,I3,pu,q3⟩:=hq0
  rw[evalPart_none]
  refine wpAny_pure ?_
  have I4:Inv X pins σ H3 { s3 with heap:=s3.heap.push { cls:=.type "slice",data:=.fields #[vl,vu,.none] } }:=I3.kept (t':=s3.toks) fun b ob q=>Heap.get?_push_of_some _ q
  obtain⟨T,id,hT,ht,hg⟩:=hr pins { s3 with heap:=s3.heap.push { cls:=.type "slice",data:=.fields #[vl,vu,.none] } } σ H3 x v vl vu l u s3.heap.objs.size Q I4 r1 (Heap.IsSliceOf.new ..) pl pu q3
  show wpAny (model X.prog X.w) X.A (subscriptTail e (.Slice lo hi none p2) v (.ref s3.heap.objs.size)) (EP X pins σ Q) X.xe { s3 with heap:=s3.heap.push { cls:=.type "slice",data:=.fields #[vl,vu,.none] } }
  exact tail_any (ops:=[.ref s3.heap.objs.size,v]) ht hT hg (by with_unfolding_all rfl)
def cutV (xs:List V) (lo hi:Option Int):List V:=(xs.drop (HT.sIx xs.length 0 lo)).take (HT.sIx xs.length xs.length hi-HT.sIx xs.length 0 lo)
theorem zfd (xs:List V) (lo hi:Option Int):(cutV xs lo hi).length<=xs.length:=by
  unfold cutV
  rw[List.length_take,List.length_drop]
  omega
def rSlT (K:PySem.W.Frag):V->Option Int->Option Int->Hp->VK->Prop:=fun x lo hi H Q=>∃a xs,x = .ref a/\SqT K H a xs/\
  ¬(HT.sIx xs.length 0 lo=0/\HT.sIx xs.length xs.length hi=xs.length)/\∀p,H p=none->Q (.ref p) (upd H p (.tup (cutV xs lo hi)))
theorem zsu:SlR X (rSlT X.K):=by
  intro pins s σ H x v vl vu lo hi sl Q I rx hs pl pu h
  obtain⟨a,xs,rfl,hx,hw,q⟩:=h
  cases rx
  obtain⟨its,r,ht,hz⟩:=I.tuple hx
  have hlen:its.toArray.size=xs.length:=by rw[List.size_toArray];exact r.length.symm
  refine⟨"tuple",_,PyProof.Rows.slot_tuple_getitem.lookup,ht.typeIs,?_⟩
  refine HT.getItem_tuple_cut ht hs pl pu (by rw[hlen];exact hw) ?_ (by rw[hlen];exact hz)
  rw[hlen]
  refine⟨.ref s.heap.objs.size,_,I.laid (t':=s.toks) (o:=.tup (cutV xs lo hi)) (fun b ob q=>Heap.get?_push_of_some _ q) (Nat.le_refl _) ?_,rfl,q _ (I.hok.fresh (Nat.le_refl _))⟩
  exact⟨Nat.le_trans (zfd xs lo hi) hz,_,(r.drop (HT.sIx xs.length 0 lo)).take (HT.sIx xs.length xs.length hi-HT.sIx xs.length 0 lo),IsTup.new _ _⟩
def zv7 (K:PySem.W.Frag):R2:=fun x y H Q=>∃a b xs ys,x = .ref a/\y = .ref b/\SqT K H a xs/\SqT K H b ys/\xs≠[]/\xs.length+ys.length<=sizeLine/\
  (ys = []->Q (.ref a) H)/\(ys≠[]->∀p,H p=none->Q (.ref p) (upd H p (.tup (xs++ys))))
theorem Vals.nil_iff {xs:List V}{us:List Value}(r:Vals xs us):us = []↔xs = []:=by
  cases r with
  | nil=>simp
  | cons _ _=>simp
theorem ztz:OpR X (binaryOp .Add) (zv7 X.K):=by
  intro pins s σ H x y v u Q I rx ry h
  obtain⟨a,b,xs,ys,rfl,rfl,ha,hb,hx,hz,q1,q2⟩:=h
  cases rx
  cases ry
  obtain⟨its,r1,p1,_⟩:=I.tuple ha
  obtain⟨its2,r2,p2,_⟩:=I.tuple hb
  refine HT.cat_tup p1 p2 (fun z=>hx (r1.nil_iff.mp z)) (fun z=>⟨.ref a,H,I,rfl,q1 (r2.nil_iff.mp z)⟩) (fun z=>?_) (by rw[←r1.length,←r2.length];exact hz)
  refine⟨.ref s.heap.objs.size,_,I.laid (t':=s.toks) (o:=.tup (xs++ys)) (fun b ob q=>Heap.get?_push_of_some _ q) (Nat.le_refl _) ?_,rfl,q2 (fun w=>z (r2.nil_iff.mpr w)) _ (I.hok.fresh (Nat.le_refl _))⟩
  exact⟨by rw[List.length_append];exact hz,_,r1.append r2,IsTup.new _ _⟩
end
def ixN (n:Nat) (i:Int):Option Nat:=if 0<=i then (if i<n then some i.toNat else none) else if -(n:Int)<=i then some (i+n).toNat else none
def atI {α:Type}(xs:List α) (i:Int):Option α:=(ixN xs.length i).bind fun j=>xs[j]?
theorem zkq {n:Nat}{i:Int}{j:Nat}(h:ixN n i=some j):seqIndex? i n=some j/\j<n/\-(n:Int)<=i/\i<n:=by
  unfold ixN at h
  by_cases h0:0<=i
  · rw[if_pos h0] at h
    by_cases h1:i<n
    · rw[if_pos h1] at h
      have e:i.toNat=j:=Option.some.inj h
      exact⟨by rw[seqIndex_of h0 h1,e],by omega,by omega,h1⟩
    · rw[if_neg h1] at h;cases h
  · rw[if_neg h0] at h
    by_cases h1 : -(n:Int)<=i
    · rw[if_pos h1] at h
      have e:(i+n).toNat=j:=Option.some.inj h
      exact⟨by rw[seqIndex_neg (by omega) h1,e],by omega,h1,by omega⟩
    · rw[if_neg h1] at h;cases h
theorem zkr {α:Type}{xs:List α}{i:Int}{v:α}(h:atI xs i=some v):∃j,seqIndex? i xs.length=some j/\xs[j]? = some v/\j<xs.length/\-(xs.length:Int)<=i/\i<xs.length:=by
  unfold atI at h
  cases e:ixN xs.length i with
  | none=>rw[e] at h;cases h
  | some j=>
    rw[e] at h
    obtain⟨h1,h2,h3,h4⟩:=zkq e
    exact⟨j,h1,h,h2,h3,h4⟩
theorem zcg {α:Type}{xs:List α}{j:Nat}{v:α}(h:xs[j]? = some v):atI xs (j:Int)=some v:=by
  have hj:j<xs.length:=(List.getElem?_eq_some_iff.mp h).1
  have e:ixN xs.length (j:Int)=some j:=by
    unfold ixN
    rw[if_pos (by omega),if_pos (by omega)];simp
  unfold atI;rw[e];exact h
theorem zhn {α:Type}(xs:List α) (v:α):atI (xs++[v]) (-1)=some v:=by
  have hl:(xs++[v]).length=xs.length+1:=by simp
  have e:ixN (xs++[v]).length (-1)=some xs.length:=by
    unfold ixN
    rw[hl,if_neg (by decide),if_pos (by omega)]
    congr 1
    omega
  unfold atI
  rw[e]
  show (xs++[v])[xs.length]? = some v
  simp
def zt0 (b:Expr):Prop:=∀o i,subscripted b false o i=operate [o,i] (getItem o i)
def IxR (X:Cx) (r:R2):Prop:=
  ∀(value slice:Expr) (pins:List (Addr×Obj)) (s:Shared) (σ:St) (H:Hp) (x y:V) (v u:Value) (Q:VK),Inv X pins σ H s->RelV x v->RelV y u->r x y H Q->
    subscripted slice false v u=operate [v,u] (getItem v u)->wpAny (model X.prog X.w) X.A (subscriptTail value slice v u) (EP X pins σ Q) X.xe s
def MtR (X:Cx) (id:String) (r:V->List V->Hp->VK->Prop):Prop:=
  ∀(pins:List (Addr×Obj)) (s:Shared) (σ:St) (H:Hp) (x:V) (xs:List V) (v:Value) (us:List Value) (Q:VK),Inv X pins σ H s->RelV x v->Vals xs us->r x xs H Q->
    wpAny (model X.prog X.w) X.A (call (.builtin id) (v::us)) (EP X pins σ Q) X.xe s
section
variable {X:Cx}{a b:Expr}{ta tb:TE}{pos:Pos}
theorem zah {r:R2}(hr:IxR X r) (ha:PE X a ta) (hb:PE X b tb) (hs:zt0 b):PE X (.Subscript a b pos) (tOp r ta tb):=by
  intro pins s σ H Q I h
  exact Subscript_ (binT ha hb I h fun v u s2 x y H2 I2 rx ry q=>hr a b pins s2 σ H2 x y v u Q I2 rx ry q (hs _ _))
def rIxL (K:PySem.W.Frag):R2:=fun x y H Q=>∃p xs i v,x = .ref p/\y = .int i/\SqL K H p xs/\atI xs i=some v/\Q v H
def rIxT (K:PySem.W.Frag):R2:=fun x y H Q=>∃p xs i v,x = .ref p/\y = .int i/\SqT K H p xs/\atI xs i=some v/\Q v H
def rIxS:R2:=fun x y H Q=>∃z i c,x = .str z/\y = .int i/\z.length<=sizeLine/\atI z.cps.toList i=some c/\Q (.str ⟨#[c]⟩) H
theorem zt1:IxR X (rIxL X.K):=by
  intro value slice pins s σ H x y v u Q I rx ry h hs
  obtain⟨p,xs,i,z,rfl,rfl,hq,he,q⟩:=h
  cases rx
  obtain⟨t,rfl⟩:=ry
  obtain⟨its,r,pl,hz⟩:=I.list hq
  obtain⟨j,h1,h2,h3,h4,h5⟩:=zkr he
  obtain⟨w,ew,rw'⟩:=r.get h2
  have hl:=r.length
  have hn:=zg5
  have fin:EP X pins σ Q w s:=⟨z,H,I,rw',q⟩
  by_cases h0:0<=i
  · have hj:i.toNat=j:=by
      rw[seqIndex_of h0 h5] at h1
      exact Option.some.inj h1
    exact item_listR pl.isList h0 (by omega) (by rw[hj];simpa using ew) fin hs
  · have hj:(i+(its.toArray.size:Int)).toNat=j:=by
      rw[seqIndex_neg (by omega) h4] at h1
      rw[List.size_toArray,←hl]
      exact Option.some.inj h1
    exact subscriptTail_builtinR (x:=w) pl.isList.typeIs slot_list_getitem.lookup
      (wpAny_getItem_list_neg (Q:=fun r s'=>r=w/\EP X pins σ Q r s') pl.isList (by omega) (by rw[List.size_toArray]<;>omega) (by omega) (by rw[hj];simpa using ew) ⟨rfl,fin⟩) hs
theorem zv8:IxR X (rIxT X.K):=by
  intro value slice pins s σ H x y v u Q I rx ry h hs
  obtain⟨p,xs,i,z,rfl,rfl,hq,he,q⟩:=h
  cases rx
  obtain⟨t,rfl⟩:=ry
  obtain⟨its,r,pl,hz⟩:=I.tuple hq
  obtain⟨j,h1,h2,h3,h4,h5⟩:=zkr he
  obtain⟨w,ew,rw'⟩:=r.get h2
  have hl:=r.length
  have hn:=zg5
  have fin:EP X pins σ Q w s:=⟨z,H,I,rw',q⟩
  exact subscriptTail_builtinR (x:=w) pl.typeIs slot_tuple_getitem.lookup
    (getItem_tuple (j:=j) (Q:=fun r s'=>r=w/\EP X pins σ Q r s') pl (by omega) (by omega) (by rw[List.size_toArray,←hl];exact h1) (by simpa using ew) ⟨rfl,fin⟩) hs
theorem zv9:IxR X rIxS:=by
  intro value slice pins s σ H x y v u Q I rx ry h hs
  obtain⟨z,i,c,rfl,rfl,hz,he,q⟩:=h
  obtain⟨t,rfl⟩:=rx
  obtain⟨t',rfl⟩:=ry
  obtain⟨j,h1,h2,h3,h4,h5⟩:=zkr he
  have hl:z.cps.toList.length=z.length:=by simp[Str.length]
  rw[hl] at h1 h4 h5
  have hn:=zg5
  exact tail_any (typeIs_str s z t) slot_str_getitem.lookup (getItem_str (c:=c) (by
    have e1:decide (i < -(2 ^ 63:Int))=false:=decide_eq_false (by omega)
    have e2:decide (i≥2 ^ 63)=false:=decide_eq_false (by omega)
    rw[e1,e2,Bool.or_false]) (by rw[h1];simpa using h2) ⟨.str ⟨#[c]⟩,H,I.tok _,⟨_,rfl⟩,q⟩) hs
theorem zmx (its:List Value) (n j:Nat) (u:Value):Obj.mapSeq (·.setIfInBounds j u) { cls:=.type "list",data:=.seq its.toArray n } = { cls:=.type "list",data:=.seq (its.set j u).toArray n }:=by
  simp[Obj.mapSeq]
theorem Inv.lst {pins:List (Addr×Obj)}{σ:St}{H:Hp}{s:Shared}{p:Addr}{xs:List V}(I:Inv X pins σ H s) (h:H p=some (.lst xs)) :
    ∃(its:List Value) (n:Nat),Vals xs its/\s.heap.get? p=some { cls:=.type "list",data:=.seq its.toArray n }/\xs.length<=sizeLine:=by
  obtain⟨z,its,n,r,e⟩:=I.hok p _ h
  exact⟨its,n,r,e,z⟩
theorem Inv.lstUpd {pins:List (Addr×Obj)}{σ:St}{H:Hp}{s:Shared}{p:Addr}{xs ys:List V}{its its':List Value}{n n':Nat}{f:Obj->Obj}(I:Inv X pins σ H s) (h:H p=some (.lst xs))
    (ho:s.heap.get? p=some { cls:=.type "list",data:=.seq its.toArray n }) (hf:f { cls:=.type "list",data:=.seq its.toArray n } = { cls:=.type "list",data:=.seq its'.toArray n' }) (r:Vals ys its') (hz:ys.length<=sizeLine) (t:Nat) :
    Inv X pins σ (upd H p (.lst ys)) { s with heap:=s.heap.update p f,toks:=t }:=by
  have e:(s.heap.update p f).get? p=some { cls:=.type "list",data:=.seq its'.toArray n' }:=by
    rw[Heap.get?_update_self f ho (by rw[hf]<;>rfl),hf]
  refine I.write (x:=p) (e:=p) (by rw[h];trivial) (.inl rfl) (fun b u hb q=>(Heap.get?_update_other _ _ (Ne.symm hb)).trans q) ⟨_,e⟩ ?_
  exact⟨hz,its',n',r,e⟩
def zxq:V->V->V->Hp->(Hp->Prop)->Prop:=fun o i v H Q=>∃p xs k j,o = .ref p/\i = .int k/\H p=some (.lst xs)/\ixN xs.length k=some j/\Q (upd H p (.lst (xs.set j v)))
theorem zlr:PSet X zxq:=by
  intro pins s σ H o i v ov iv u Q I ro ri rv h
  obtain⟨p,xs,k,j,rfl,rfl,hp,hj,q⟩:=h
  cases ro
  obtain⟨t,rfl⟩:=ri
  obtain⟨its,n,r,ho,hz⟩:=I.lst hp
  obtain⟨h1,h2,h3,h4⟩:=zkq hj
  have hl:=r.length
  have hn:=zg5
  have I':Inv X pins σ (upd H p (.lst (xs.set j v))) { s with heap:=s.heap.update p (Obj.mapSeq (·.setIfInBounds j u)) }:=
    I.lstUpd hp ho (zmx its n j u) (r.set rv j) (by rw[List.length_set];exact hz) s.toks
  by_cases h0:0<=k
  · have hk:k.toNat=j:=by
      rw[seqIndex_of h0 h4] at h1
      exact Option.some.inj h1
    exact PySem.W.ki_setAt ho h0 (by omega) (by rw[List.size_toArray,←hl];exact h4) (by rw[hk];exact⟨_,I',q⟩)
  · have hk:(k+(its.toArray.size:Int)).toNat=j:=by
      rw[seqIndex_neg (by omega) h3] at h1
      rw[List.size_toArray,←hl]
      exact Option.some.inj h1
    exact PySem.W.ki_setBack ho (by omega) (by rw[List.size_toArray,←hl];exact h3) (by omega) (by rw[hk];exact⟨_,I',q⟩)
theorem zi6 (lo hi:Option Int) (n:Nat):(sliceBounds lo hi none n).1=((HT.sIx n 0 lo:Nat):Int)/\(sliceBounds lo hi none n).2.1=((HT.sIx n n hi:Nat):Int)/\(sliceBounds lo hi none n).2.2=1:=by
  refine⟨?_,?_,rfl⟩
  · cases lo with
    | none=>simp[sliceBounds,HT.sIx]
    | some i=>
      simp only [sliceBounds,HT.sIx,Option.getD_none,show (1:Int) > 0 by decide,if_true]
      by_cases h:i<0
      · simp only [h,if_true]<;>omega
      · simp only [h,if_false]<;>omega
  · cases hi with
    | none=>simp[sliceBounds,HT.sIx]
    | some i=>
      simp only [sliceBounds,HT.sIx,Option.getD_none,show (1:Int) > 0 by decide,if_true]
      by_cases h:i<0
      · simp only [h,if_true]<;>omega
      · simp only [h,if_false]<;>omega
theorem zho (its:List Value) (lo hi:Option Int):slicePick its.toArray lo hi none=((its.drop (HT.sIx its.length 0 lo)).take (HT.sIx its.length its.length hi-HT.sIx its.length 0 lo)).toArray:=by
  obtain⟨h1,h2,h3⟩:=zi6 lo hi its.toArray.size
  unfold slicePick
  rw[h1,h2,h3]
  simp only [sliceRange_one,pick_run,List.size_toArray]<;>rfl
def rSlL (K:PySem.W.Frag):V->Option Int->Option Int->Hp->VK->Prop:=fun x lo hi H Q=>∃a xs,x = .ref a/\SqL K H a xs/\∀p,H p=none->Q (.ref p) (upd H p (.lst (cutV xs lo hi)))
theorem zt2:SlR X (rSlL X.K):=by
  intro pins s σ H x v vl vu lo hi sl Q I rx hs pl pu h
  obtain⟨a,xs,rfl,hx,q⟩:=h
  cases rx
  obtain⟨its,r,ht,hz⟩:=I.list hx
  have hlen:=r.length
  refine⟨"list",_,slot_list_getitem.lookup,ht.isList.typeIs,?_⟩
  refine wpAny_getItem_list_slice ht.isList hs pl pu .none (by simp) ?_ (by rw[List.size_toArray]<;>omega)
  rw[zho,←hlen]
  refine⟨.ref s.heap.objs.size,_,I.laid (t':=s.toks) (o:=.lst (cutV xs lo hi)) (fun b ob q=>Heap.get?_push_of_some _ q) (Nat.le_refl _) ?_,rfl,q _ (I.hok.fresh (Nat.le_refl _))⟩
  exact⟨Nat.le_trans (zfd xs lo hi) hz,_,0,(r.drop (HT.sIx xs.length 0 lo)).take (HT.sIx xs.length xs.length hi-HT.sIx xs.length 0 lo),Heap.get?_push_size _ rfl⟩
def zcw:V->Bool
  | .non=>true
  | .bl _=>true
  | .int _=>true
  | .str _=>true
  | _=>false
def eqV:V->V->Bool
  | .non,.non=>true
  | .bl a,.bl b=>a == b
  | .bl a,.int b=>(if a then 1 else 0) == b
  | .int a,.bl b=>a == (if b then 1 else 0)
  | .int a,.int b=>a == b
  | .str a,.str b=>a == b
  | _,_=>false
theorem zsv {A:Around}{s:Shared}{y x:V}{u v:Value}(ry:RelV y u) (rx:RelV x v) (fy:zcw y=true) (fx:zcw x=true):SeqAt.EqAt A s u v (eqV y x):=by
  cases y with
  | non=>
    cases ry
    cases x with
    | non=>cases rx;exact SeqAt.EqAt.same _
    | bl b=>cases rx;exact SeqAt.EqAt.none_bool b
    | int b=>obtain⟨t,rfl⟩:=rx;exact SeqAt.EqAt.none_int b t
    | str b=>obtain⟨t,rfl⟩:=rx;exact SeqAt.EqAt.none_str b t
    | _=>exact absurd (show false=true from fx) Bool.false_ne_true
  | bl a=>
    cases ry
    cases x with
    | non=>cases rx;exact SeqAt.EqAt.bool_none a
    | bl b=>cases rx;exact SeqAt.EqAt.bool_bool a b
    | int b=>obtain⟨t,rfl⟩:=rx;exact SeqAt.EqAt.bool_int a b t
    | str b=>obtain⟨t,rfl⟩:=rx;exact SeqAt.EqAt.bool_str a b t
    | _=>exact absurd (show false=true from fx) Bool.false_ne_true
  | int a=>
    obtain⟨t',rfl⟩:=ry
    cases x with
    | non=>cases rx;exact SeqAt.EqAt.int_none a t'
    | bl b=>cases rx;exact SeqAt.EqAt.int_bool a t' b
    | int b=>obtain⟨t,rfl⟩:=rx;exact SeqAt.EqAt.int_int a t' b t
    | str b=>obtain⟨t,rfl⟩:=rx;exact SeqAt.EqAt.int_str a t' b t
    | _=>exact absurd (show false=true from fx) Bool.false_ne_true
  | str a=>
    obtain⟨t',rfl⟩:=ry
    cases x with
    | non=>cases rx;exact SeqAt.EqAt.str_none a t'
    | bl b=>cases rx;exact SeqAt.EqAt.str_bool a t' b
    | int b=>obtain⟨t,rfl⟩:=rx;exact SeqAt.EqAt.str_int a t' b t
    | str b=>obtain⟨t,rfl⟩:=rx;exact SeqAt.EqAt.str_str a t' b t
    | _=>exact absurd (show false=true from fx) Bool.false_ne_true
  | _=>exact absurd (show false=true from fy) Bool.false_ne_true
def eqU (x:V) (u:Value):Bool:=match u with
  | .none=>eqV .non x
  | .bool b=>eqV (.bl b) x
  | .int i _=>eqV (.int i) x
  | .str z _=>eqV (.str z) x
  | _=>false
theorem zsw {x y:V}{u:Value}(r:RelV y u) (f:zcw y=true):eqU x u=eqV y x:=by
  cases y with
  | non=>cases r;rfl
  | bl b=>cases r;rfl
  | int i=>obtain⟨t,rfl⟩:=r;rfl
  | str z=>obtain⟨t,rfl⟩:=r;rfl
  | _=>exact absurd (show false=true from f) Bool.false_ne_true
theorem zfe {x:V}:∀{xs:List V}{us:List Value},Vals xs us->xs.all zcw=true->us.any (eqU x)=xs.any fun y=>eqV y x
  | _,_,.nil,_=>rfl
  | y::xs,u::us,.cons r t,f=>by
    rw[List.all_cons,Bool.and_eq_true] at f
    rw[List.any_cons,List.any_cons,zsw r f.1,zfe t f.2]
theorem zds {A:Around}{s:Shared}{x:V}{v:Value}(rx:RelV x v) (fx:zcw x=true):∀{xs:List V}{us:List Value},Vals xs us->xs.all zcw=true->∀u∈us,SeqAt.EqAt A s u v (eqU x u)
  | _,_,.nil,_=>fun u hu=>by cases hu
  | y::xs,u::us,.cons r t,f=>fun u' hu=>by
    rw[List.all_cons,Bool.and_eq_true] at f
    rcases List.mem_cons.mp hu with rfl | hu
    · rw[zsw r f.1];exact zsv r rx f.1 fx
    · exact zds rx fx t f.2 u' hu
def inV (x:V) (xs:List V):Bool:=xs.any fun y=>eqV y x
def rIn (K:PySem.W.Frag) (neg:Bool):R2:=fun x y H Q=>∃p xs,y = .ref p/\(SqL K H p xs\/SqT K H p xs)/\zcw x=true/\xs.all zcw=true/\Q (.bl (if neg then !inV x xs else inV x xs)) H
theorem zog:OpR X (compareOp .In) (rIn X.K false):=by
  intro pins s σ H x y v u Q I rx ry h
  obtain⟨p,xs,rfl,hq,fx,fs,q⟩:=h
  cases ry
  rcases hq with hq | hq
  · obtain⟨its,r,pl,hz⟩:=I.list hq
    refine SeqAt.in_listAt (eqU x) pl.isList (fun w hw=>zds rx fx r fs w (by simpa using hw)) ⟨.bl _,H,I,rfl,?_⟩
    rw[show its.toArray.any (eqU x)=its.any (eqU x) by simp,zfe r fs]
    exact q
  · obtain⟨its,r,pl,hz⟩:=I.tuple hq
    refine SeqAt.in_tupleAt (eqU x) pl (fun w hw=>zds rx fx r fs w (by simpa using hw)) ⟨.bl _,H,I,rfl,?_⟩
    rw[show its.toArray.any (eqU x)=its.any (eqU x) by simp,zfe r fs]
    exact q
theorem zi7:OpR X (compareOp .NotIn) (rIn X.K true):=by
  intro pins s σ H x y v u Q I rx ry h
  obtain⟨p,xs,rfl,hq,fx,fs,q⟩:=h
  cases ry
  rcases hq with hq | hq
  · obtain⟨its,r,pl,hz⟩:=I.list hq
    refine SeqAt.notIn_listAt (eqU x) pl.isList (fun w hw=>zds rx fx r fs w (by simpa using hw)) ⟨.bl _,H,I,rfl,?_⟩
    rw[show its.toArray.any (eqU x)=its.any (eqU x) by simp,zfe r fs]
    exact q
  · obtain⟨its,r,pl,hz⟩:=I.tuple hq
    refine SeqAt.notIn_tupleAt (eqU x) pl (fun w hw=>zds rx fx r fs w (by simpa using hw)) ⟨.bl _,H,I,rfl,?_⟩
    rw[show its.toArray.any (eqU x)=its.any (eqU x) by simp,zfe r fs]
    exact q
theorem zi8:zco X (.builtin "len") (fun xs H Q=>∃p ys,xs = [.ref p]/\(SqL X.K H p ys\/SqT X.K H p ys)/\Q (.int ys.length) H):=by
  intro pins s σ H xs us Q I r h
  obtain⟨p,ys,rfl,hq,q⟩:=h
  obtain⟨u,rfl,rx⟩:=zdg r
  cases rx
  have hn:=zg5
  rcases hq with hq | hq
  · obtain⟨its,r',pl,hz⟩:=I.list hq
    have hlen:=r'.length
    exact Calls.call_len_list pl.isList (by simp only [List.size_toArray]<;>omega) ⟨.int ys.length,H,I.tok _,⟨s.toks+1,by rw[List.size_toArray,hlen]⟩,q⟩
  · obtain⟨its,r',pl,hz⟩:=I.tuple hq
    have hlen:=r'.length
    exact len_tuple pl (by simp only [List.size_toArray]<;>omega) ⟨.int ys.length,H,I.tok _,⟨s.toks+1,by rw[List.size_toArray,hlen]⟩,q⟩
theorem zeg:zco X (.builtin "len") (fun xs H Q=>∃z,xs = [.str z]/\z.length<=sizeLine/\Q (.int z.length) H):=by
  intro pins s σ H xs us Q I r h
  obtain⟨z,rfl,hz,q⟩:=h
  obtain⟨u,rfl,t,rfl⟩:=zdg r
  have hn:=zg5
  exact len_str (by omega) ⟨.int z.length,H,I.tok _,⟨_,rfl⟩,q⟩
theorem zhp:zco X (.type "tuple") (fun xs H Q=>∃p ys,xs = [.ref p]/\((SqL X.K H p ys/\∀l,H l=none->Q (.ref l) (upd H l (.tup ys)))\/(SqT X.K H p ys/\Q (.ref p) H))):=by
  intro pins s σ H xs us Q I r h
  obtain⟨p,ys,rfl,h⟩:=h
  obtain⟨u,rfl,rx⟩:=zdg r
  cases rx
  rcases h with ⟨hq,q⟩ | ⟨hq,q⟩
  · obtain⟨its,r',pl,hz⟩:=I.list hq
    have hlen:=r'.length
    refine call_tuple_list pl.isList (fun h' kp=>?_) (by simp only [List.size_toArray]<;>omega)
    have I1:Inv X pins σ H { s with heap:=h' }:=I.kept (t':=s.toks) kp
    have I2:Inv X pins σ (upd H h'.objs.size (.tup ys)) { s with heap:=h'.push { cls:=.type "tuple",data:=.seq its.toArray } }:=
      I1.laid (t':=s.toks) (fun b o e=>Heap.get?_push_of_some _ e) (Nat.le_refl _) (show ObjOk X.prog X.w _ _ _ (.tup ys) from ⟨hz,its,r',IsTup.new _ _⟩)
    exact⟨.ref h'.objs.size,_,I2,rfl,q _ (I1.hok.fresh (Nat.le_refl _))⟩
  · obtain⟨its,r',pl,hz⟩:=I.tuple hq
    exact call_tuple_same pl ⟨.ref p,H,I,rfl,q⟩
def tyV (K:PySem.W.Frag) (T:String) (x:V) (H:Hp):Prop:=match x with
  | .str _=>T = "str"
  | .int _=>T = "int"
  | .ref p=>(T = "list"/\∃xs,SqL K H p xs)\/(T = "tuple"/\∃o,K.lookup p=some o/\o.cls = .type "tuple"/\o.dict=none)\/
      (T = "dict"/\((∃kvs,H p=some (.dK kvs))\/∃kvs,H p=some (.dT kvs)))\/(T = "set"/\∃S n,H p=some (.set S n))
  | _=>False
theorem zsx {pins:List (Addr×Obj)}{σ:St}{H:Hp}{s:Shared}{T:String}{x:V}{v:Value}(I:Inv X pins σ H s) (r:RelV x v) (ty:tyV X.K T x H) :
    s.TypeIs v T/\∀a,v = .ref a->∃ob,s.heap.get? a=some ob/\ob.dict=none:=by
  cases x with
  | str z=>
    obtain⟨t,rfl⟩:=r
    cases (show T = "str" from ty)
    exact⟨typeIs_str s z t,fun _ e=>nomatch e⟩
  | int i=>
    obtain⟨t,rfl⟩:=r
    cases (show T = "int" from ty)
    exact⟨typeIs_int s i t,fun _ e=>nomatch e⟩
  | ref p=>
    cases r
    rcases ty with ⟨rfl,xs,hq⟩ | ⟨rfl,o,hk,hc,hd⟩ | ⟨rfl,hk⟩ | ⟨rfl,S,n,hk⟩
    · obtain⟨its,_,pl,_⟩:=I.list hq
      refine⟨pl.isList.typeIs,fun a e=>?_⟩
      cases e
      obtain⟨o,n,e,c,hd,_⟩:=pl
      exact⟨o,e,hd⟩
    · refine⟨⟨o,I.kIn p o hk,hc⟩,fun a e=>?_⟩
      cases e
      exact⟨o,I.kIn _ o hk,hd⟩
    · have z:∃o,s.heap.get? p=some o/\o.ExactDict:=by
        rcases hk with ⟨kvs,hk⟩ | ⟨kvs,hk⟩
        · obtain⟨_,_,_,_,o,_,_,e,ex,_⟩:=I.hok p _ hk
          exact⟨o,e,ex⟩
        · obtain⟨_,_,_,_,o,_,_,e,ex,_⟩:=I.hok p _ hk
          exact⟨o,e,ex⟩
      obtain⟨o,e,ex⟩:=z
      refine⟨⟨o,e,ex.1⟩,fun a e2=>?_⟩
      cases e2
      exact⟨o,e,ex.2.1⟩
    · obtain⟨o,_,_,_,e,ex,_⟩:=I.hok p _ hk
      refine⟨⟨o,e,ex.1⟩,fun a e2=>?_⟩
      cases e2
      exact⟨o,e,ex.2.1⟩
  | _=>exact False.elim ty
def tBM0 (K:PySem.W.Frag) (T:String) (r:V->List V->Hp->VK->Prop) (to:TE):TE:=fun σ H Q=>to σ H fun x H1=>tyV K T x H1/\r x [] H1 Q
def tBM (K:PySem.W.Frag) (T:String) (r:V->List V->Hp->VK->Prop) (to:TE) (t:TA):TE:=fun σ H Q=>to σ H fun x H1=>tyV K T x H1/\t σ H1 fun xs H2=>r x xs H2 Q
variable {o e:Expr}{es:List Expr}{to:TE}{t:TA}{name:Str}{apos cpos:Pos}{T id:String}{r:V->List V->Hp->VK->Prop}
theorem zwa (pa:PlainAttrs T) (slot:Slot T name id) (hty:typeOf (.builtin id)=pure (.type "method_descriptor")) (hm:MtR X id r) (ho:PE X o to)
    (hbase:attributeBase o name X.env (eval o X.env)=eval o X.env:=by rfl) (hline:(apos.endLine == cpos.line)=true:=by rfl):PE X (.Call (.Attribute o name apos) [] [] cpos) (tBM0 X.K T r to):=by
  intro pins s σ H Q I h
  refine wpAny_Call_method0_late hbase hline (thn (ho pins s σ H _ I h) fun v s1 hq0=>?_)
  obtain⟨x,H1,I1,r1,ty,q1⟩:=hq0
  obtain⟨h1,h2⟩:=zsx I1 r1 ty
  exact⟨T,id,pa,slot,hty,h1,h2,Calls.callWith_builtin rfl (PySem.evalArgs_none (hm pins s1 σ H1 x [] v [] Q I1 r1 .nil q1))⟩
theorem zxr (pa:PlainAttrs T) (slot:Slot T name id) (hty:typeOf (.builtin id)=pure (.type "method_descriptor")) (hm:MtR X id r) (ho:PE X o to) (ha:PA X (e::es) t)
    (hbase:attributeBase o name X.env (eval o X.env)=eval o X.env:=by rfl)
    (hfew:((backTo cpos (starEach (e::es) X.env)).all (fun x=>!x.1)&&(backToKw cpos (keywordEach [] X.env)).all (fun x=>x.1.isSome)
      && decide ((e::es).length+([]:List Keyword).length+(if ([]:List Keyword).isEmpty then 0 else 1)<30))=true:=by rfl)
    (hline:(apos.endLine == cpos.line)=true:=by rfl) (hs:starEach (e::es) X.env=(false,eval e X.env)::starEach es X.env:=by rfl) (hplain:(backTo cpos (starEach es X.env)).any (·.1)=false:=by rfl) :
    PE X (.Call (.Attribute o name apos) (e::es) [] cpos) (tBM X.K T r to t):=by
  intro pins s σ H Q I h
  refine wpAny_Call_method_late hbase hfew hline rfl (thn (ho pins s σ H _ I h) fun v s1 hq0=>?_)
  obtain⟨x,H1,I1,r1,ty,q1⟩:=hq0
  obtain⟨h1,h2⟩:=zsx I1 r1 ty
  refine⟨T,id,pa,slot,hty,h1,h2,?_⟩
  have hA:=ha cpos pins s1 σ H1 _ I1 q1
  rw[hs] at hA ⊢
  refine Calls.callWith_builtin (by show (false||(backTo cpos (starEach es X.env)).any (·.1))=false;rw[hplain]<;>rfl) (Calls.evalArgs_plain ?_)
  exact thn hA fun us s2 ⟨vs,H2,I2,r2,q2⟩=>hm pins s2 σ H2 x vs v us Q I2 r1 r2 q2
end
def MtM (X:Cx) (id:String) (r:V->List V->Hp->VK->Prop):Prop:=
  ∀(pins:List (Addr×Obj)) (s:Shared) (σ:St) (H:Hp) (x:V) (xs:List V) (v:Value) (us:List Value) (Q:VK),Inv X pins σ H s->RelV x v->Vals xs us->r x xs H Q->
    wpAny (model X.prog X.w) X.A (call (.builtin id) (v::us)) (EP X pins σ Q) X.xe s
theorem Vals.one:∀{x:V}{us:List Value},Vals [x] us->∃u,us = [u]/\RelV x u
  | _,_,.cons r .nil=>⟨_,rfl,r⟩
theorem Vals.eraseIdx:∀{xs:List V}{us:List Value}(i:Nat),Vals xs us->Vals (xs.eraseIdx i) (us.eraseIdx i)
  | _,_,_,.nil=>.nil
  | _,_,0,.cons _ t=>t
  | _,_,i+1,.cons r t=>.cons r (Vals.eraseIdx i t)
theorem zff {α:Type}:∀(l:List α) (i:Nat),(l.eraseIdx i).length<=l.length
  | [],_=>Nat.le_refl _
  | _::_,0=>Nat.le_succ _
  | _::r,i+1=>Nat.succ_le_succ (zff r i)
section
variable {X:Cx}{pins:List (Addr×Obj)}{σ:St}{H:Hp}{s:Shared}{l b:Addr}{xs ys zs:List V}
theorem Inv.lset {its its':List Value}{n:Nat}{f:Array Value->Array Value}{t':Nat}(I:Inv X pins σ H s) (hH:H l=some (.lst xs))
    (e:s.heap.get? l=some { cls:=.type "list",data:=.seq its.toArray n }) (hf:f its.toArray=its'.toArray) (hv:Vals ys its') (hz:ys.length<=sizeLine) :
    Inv X pins σ (upd H l (.lst ys)) { s with heap:=s.heap.update l (Obj.mapSeq f),toks:=t' }:=by
  have q:=PySem.IsL.update e f
  rw[hf] at q
  refine I.write (x:=l) (e:=l) (by rw[hH];exact trivial) (.inl rfl) (fun b' u hb hu=>(Heap.get?_update_other s.heap (Obj.mapSeq f) (Ne.symm hb)).trans hu) ⟨_,q⟩ ?_
  exact⟨hz,its',_,hv,q⟩
theorem Inv.lnew {its:List Value}{t':Nat}(I:Inv X pins σ H s) (hv:Vals ys its) (hz:ys.length<=sizeLine) :
    Inv X pins σ (upd H s.heap.objs.size (.lst ys)) { s with heap:=s.heap.push { cls:=.type "list",data:=.seq its.toArray },toks:=t' }:=
  I.laid (fun _ _ q=>Heap.get?_push_of_some _ q) (Nat.le_refl _) ⟨hz,its,0,hv,Heap.get?_push_size _ rfl⟩
theorem Inv.fresh (I:Inv X pins σ H s):H s.heap.objs.size=none:=I.hok.fresh (Nat.le_refl _)
theorem Inv.lstM (I:Inv X pins σ H s) (hH:H l=some (.lst xs)):xs.length<=sizeLine/\∃(its:List Value) (n:Nat),Vals xs its/\xs.length=its.length/\s.heap.get? l=some { cls:=.type "list",data:=.seq its.toArray n }:=by
  obtain⟨z,its,n,r,e⟩:=I.hok l _ hH
  exact⟨z,its,n,r,r.length,e⟩
theorem zq8 {n:Nat}(h:n<=sizeLine):Builtin.List.listTooLong n=false:=by
  unfold Builtin.List.listTooLong
  exact decide_eq_false (by omega)
end
section
variable {X:Cx}
def zt3:V->List V->Hp->VK->Prop:=fun x vs H Q=>∃l xs y,x = .ref l/\vs = [y]/\H l=some (.lst xs)/\xs.length<sizeLine/\Q .non (upd H l (.lst (xs++[y])))
theorem zbu:MtM X "list.append" zt3:=by
  intro pins s σ H x vs v us Q I rx rv h
  obtain⟨l,xs,y,rfl,rfl,hH,hz,q⟩:=h
  cases rx
  obtain⟨u,rfl,ru⟩:=rv.one
  obtain⟨z,its,n,r,hl,e⟩:=I.lstM hH
  refine call_meets F.slot_list_append ⟨_,e,rfl⟩ F.entry_list_append (F.args_list_append_2 _ _) (PySem.list_append l its.toArray n u (by rw[List.size_toArray];omega)) ⟨e,?_⟩
  refine⟨.non,_,I.lset (its':=its++[u]) hH e (by simp) (r.append (.cons ru .nil)) ?_,rfl,q⟩
  rw[List.length_append,List.length_singleton]
  omega
def zt4:V->List V->Hp->VK->Prop:=fun x vs H Q=>∃l b xs zs,x = .ref l/\vs = [.ref b]/\H l=some (.lst xs)/\H b=some (.lst zs)/\xs.length+zs.length<=sizeLine/\Q .non (upd H l (.lst (xs++zs)))
theorem zfg:MtM X "list.extend" zt4:=by
  intro pins s σ H x vs v us Q I rx rv h
  obtain⟨l,b,xs,zs,rfl,rfl,hH,hB,hz,q⟩:=h
  cases rx
  obtain⟨u,rfl,ru⟩:=rv.one
  cases ru
  obtain⟨z,its,n,r,hl,e⟩:=I.lstM hH
  obtain⟨z2,its2,n2,r2,hl2,e2⟩:=I.lstM hB
  have hsz:its.toArray.size+its2.toArray.size<=sizeLine:=by rw[List.size_toArray,List.size_toArray];omega
  have hlong:¬(!its.toArray.isEmpty&&Builtin.List.listTooLong (its.toArray.size+its2.toArray.size))=true:=by
    rw[zq8 hsz,Bool.and_false]
    exact Bool.false_ne_true
  refine call_meets F.slot_list_extend ⟨_,e,rfl⟩ F.entry_list_extend (F.args_list_extend_2 _ _)
    (AutoSeq1.list_extend_list_list_0 l its.toArray n b its2.toArray n2 hlong (by rw[List.size_toArray];omega) (by omega)) ⟨e,e2,?_⟩
  refine⟨.non,_,I.lset (its':=its++its2) hH e (by simp) (r.append r2) ?_,rfl,q⟩
  rw[List.length_append]
  omega
def zwb:V->List V->Hp->VK->Prop:=fun x vs H Q=>∃l xs i k y,x = .ref l/\vs = [.int i]/\H l=some (.lst xs)/\-(2 ^ 63)<=i/\i<2 ^ 63/\seqIndex? i xs.length=some k/\xs[k]? = some y/\Q y (upd H l (.lst (xs.eraseIdx k)))
theorem zls:MtM X "list.pop" zwb:=by
  intro pins s σ H x vs v us Q I rx rv h
  obtain⟨l,xs,i,k,y,rfl,rfl,hH,h1,h2,hk,hy,q⟩:=h
  cases rx
  obtain⟨u,rfl,ru⟩:=rv.one
  obtain⟨t,rfl⟩:=ru
  obtain⟨z,its,n,r,hl,e⟩:=I.lstM hH
  obtain⟨w,hw,rw'⟩:=r.get hy
  refine call_meets F.slot_list_pop ⟨_,e,rfl⟩ F.entry_list_pop (F.args_list_pop_2 _ _)
    (MeetsSeq.list_pop_at l its.toArray n i t k w (fitsIndex_both h1 h2) (by rw[List.size_toArray,←hl];exact hk) (by rw[←Array.getElem?_toList];exact hw) (by rw[List.size_toArray];omega)) ⟨e,?_⟩
  refine⟨y,_,I.lset (its':=its.eraseIdx k) hH e ?_ (r.eraseIdx k) ?_,rw',q⟩
  · show its.toArray.eraseIdxIfInBounds k=(its.eraseIdx k).toArray
    rw[List.eraseIdxIfInBounds_toArray]
  · have:=zff xs k
    omega
def rCat:R2:=fun x y H Q=>∃l b xs zs,x = .ref l/\y = .ref b/\H l=some (.lst xs)/\H b=some (.lst zs)/\xs.length+zs.length<=sizeLine/\∀p,H p=none->Q (.ref p) (upd H p (.lst (xs++zs)))
theorem zsy:OpR X (binaryOp .Add) rCat:=by
  intro pins s σ H x y v u Q I rx ry h
  obtain⟨l,b,xs,zs,rfl,rfl,hH,hB,hz,q⟩:=h
  cases rx
  cases ry
  obtain⟨z,its,n,r,hl,e⟩:=I.lstM hH
  obtain⟨z2,its2,n2,r2,hl2,e2⟩:=I.lstM hB
  refine PySem.P.add_list e e2 ?_ (by rw[List.size_toArray,List.size_toArray];omega)
  have ea:its.toArray++its2.toArray=(its++its2).toArray:=by simp
  rw[ea]
  exact⟨.ref _,_,I.lnew (t':=s.toks) (r.append r2) (by rw[List.length_append];omega),rfl,q _ I.fresh⟩
end
section
variable {κ:Type} [DecidableEq κ]
def valV (kvs:List (κ×V)) (k:κ):Option V:=(kvs.find? fun kv=>decide (kv.1=k)).map (·.2)
def putK (kvs:List (κ×V)) (k:κ) (v:V):List (κ×V):=
  if (kvs.any fun kv=>decide (kv.1=k))=true then kvs.map (fun kv=>if kv.1=k then (kv.1,v) else kv) else kvs++[(k,v)]
def zdt (kvs:List (κ×V)) (k:κ):List (κ×V):=kvs.filter fun kv=>decide (kv.1≠k)
theorem zdu {p:κ×V}{r:List (κ×V)}{k:κ}(e:p.1=k):valV (p::r) k=some p.2:=by simp[valV,List.find?_cons,e]
theorem zdv {p:κ×V}{r:List (κ×V)}{k:κ}(e:¬p.1=k):valV (p::r) k=valV r k:=by simp[valV,List.find?_cons,e]
theorem ze3 (k:κ):∀kvs:List (κ×V),(kvs.any fun kv=>decide (kv.1=k))=(valV kvs k).isSome
  | []=>rfl
  | p::r=>by
    rw[List.any_cons]
    by_cases e:p.1=k
    · simp only [zdu e,decide_eq_true e,Bool.true_or,Option.isSome_some]
    · rw[zdv e,decide_eq_false e,Bool.false_or];exact ze3 k r
theorem zfh (kvs:List (κ×V)) (k:κ) (v:V):(putK kvs k v).length<=kvs.length+1:=by
  unfold putK
  split
  · rw[List.length_map];omega
  · rw[List.length_append,List.length_cons,List.length_nil];omega
theorem zhq {kvs:List (κ×V)}{k:κ}(v:V) (h:valV kvs k=none):putK kvs k v=kvs++[(k,v)]:=by
  unfold putK
  rw[ze3,h]
  exact if_neg (by decide)
theorem RelO.isSome_eq {o:Option V}{u:Option Value}(r:RelO o u):o.isSome=u.isSome:=by
  cases o with
  | none=>cases u with
    | none=>rfl
    | some _=>exact (show False from r).elim
  | some _=>cases u with
    | none=>exact (show False from r).elim
    | some _=>rfl
theorem KV.val {kvs:List (κ×V)}{vs:List (κ×Value)}(r:KV kvs vs) (k:κ):RelO (valV kvs k) (valueAt vs k):=by
  unfold KV at r
  induction r with
  | nil=>exact True.intro
  | @cons p q ps qs h t ih=>
    obtain⟨h1,h2⟩:=h
    by_cases e:p.1=k
    · have e':q.1=k:=h1.symm.trans e
      have b:valueAt (q::qs) k=some q.2:=by simp[valueAt,List.find?_cons,e']
      rw[zdu e,b];exact h2
    · have e':¬q.1=k:=fun z=>e (h1.trans z)
      have b:valueAt (q::qs) k=valueAt qs k:=by simp[valueAt,List.find?_cons,e']
      rw[zdv e,b];exact ih
theorem KV.any {kvs:List (κ×V)}{vs:List (κ×Value)}(r:KV kvs vs) (k:κ):(kvs.any fun kv=>decide (kv.1=k))=vs.any fun kv=>decide (kv.1=k):=by
  unfold KV at r
  induction r with
  | nil=>rfl
  | cons h t ih=>rw[List.any_cons,List.any_cons,ih,h.1]
theorem KV.repl {kvs:List (κ×V)}{vs:List (κ×Value)}(r:KV kvs vs) (k:κ) {y:V}{u:Value}(ry:RelV y u) :
    KV (kvs.map fun kv=>if kv.1=k then (kv.1,y) else kv) (vs.map fun kv=>if kv.1=k then (kv.1,u) else kv):=by
  unfold KV at r ⊢
  induction r with
  | nil=>exact .nil
  | @cons p q ps qs h t ih=>
    rw[List.map_cons,List.map_cons]
    refine .cons ?_ ih
    obtain⟨h1,h2⟩:=h
    by_cases e:p.1=k
    · rw[if_pos e,if_pos (h1.symm.trans e)];exact⟨h1,ry⟩
    · rw[if_neg e,if_neg (fun z=>e (h1.trans z))];exact⟨h1,h2⟩
theorem KV.put {kvs:List (κ×V)}{vs:List (κ×Value)}(r:KV kvs vs) (k:κ) {y:V}{u:Value}(ry:RelV y u):KV (putK kvs k y) (stored vs k u):=by
  unfold putK stored
  rw[r.any k]
  by_cases e:(vs.any fun kv=>decide (kv.1=k))=true
  · rw[if_pos e,if_pos e];exact r.repl k ry
  · rw[if_neg e,if_neg e];exact Paired.snoc r ⟨rfl,ry⟩
theorem KV.drop {kvs:List (κ×V)}{vs:List (κ×Value)}(r:KV kvs vs) (k:κ):KV (zdt kvs k) (without vs k):=by
  unfold KV at r ⊢
  unfold zdt without
  induction r with
  | nil=>exact .nil
  | @cons p q ps qs h t ih=>
    obtain⟨h1,h2⟩:=h
    rw[List.filter_cons,List.filter_cons]
    by_cases e:p.1=k
    · have a:¬decide (p.1≠k)=true:=by simp[e]
      have b:¬decide (q.1≠k)=true:=by simp[h1.symm.trans e]
      rw[if_neg a,if_neg b];exact ih
    · have e':¬q.1=k:=fun z=>e (h1.trans z)
      have a:decide (p.1≠k)=true:=by simp[e]
      have b:decide (q.1≠k)=true:=by simp[e']
      rw[if_pos a,if_pos b];exact .cons ⟨h1,h2⟩ ih
theorem KV.length {kvs:List (κ×V)}{vs:List (κ×Value)}(r:KV kvs vs):kvs.length=vs.length:=Paired.length r
theorem zhr (kvs:List (κ×V)) (k:κ):(zdt kvs k).length<=kvs.length:=List.length_filter_le _ _
end
theorem zgl {P:Program}{w:World}{k:Key}{u:Value}(r:RelV (kV k) u):(za3 P w).is k u=true:=by
  cases k with
  | inl i=>obtain⟨t,e⟩:=(show ∃t,u=Value.int i t from r);subst e;exact zkn P w i t
  | inr x=>obtain⟨t,e⟩:=(show ∃t,u=Value.str x t from r);subst e;exact zdl P w x t
theorem zi9 {P:Program}{w:World}:∀{ks:List Key}{us:List Value},Vals (ks.map kV) us->ItemsAre (za3 P w) ks us
  | [],_,r=>by rw[List.map_nil] at r;cases r;exact .nil
  | k::ks,_,r=>by
    rw[List.map_cons] at r
    cases r with
    | cons h t=>exact .cons (zgl h) (zi9 t)
abbrev KT (H:Hp):List (List Key×V)->List (List Key×Addr×Value)->Prop:=Paired fun p q=>p.1=q.1/\H q.2.1=some (.tup (p.1.map kV))/\RelV p.2 q.2.2
theorem KT.val {H:Hp}{kvs:List (List Key×V)}{xs:List (List Key×Addr×Value)}(r:KT H kvs xs) (k:List Key):RelO (valV kvs k) ((atKey xs k).map (·.2)):=by
  induction r with
  | nil=>exact True.intro
  | @cons p q ps qs h t ih=>
    obtain⟨h1,_,h2⟩:=h
    by_cases e:p.1=k
    · have e':q.1=k:=h1.symm.trans e
      have b:atKey (q::qs) k=some q.2:=by simp[atKey,List.find?_cons,e']
      rw[zdu e,b];exact h2
    · have e':¬q.1=k:=fun z=>e (h1.trans z)
      have b:atKey (q::qs) k=atKey qs k:=by simp[atKey,List.find?_cons,e']
      rw[zdv e,b];exact ih
theorem KT.repl {H:Hp}{kvs:List (List Key×V)}{xs:List (List Key×Addr×Value)}(r:KT H kvs xs) (k:List Key) {y:V}{u:Value}(ry:RelV y u) :
    KT H (kvs.map fun kv=>if kv.1=k then (kv.1,y) else kv) (xs.map (putAt k u)):=by
  induction r with
  | nil=>exact .nil
  | @cons p q ps qs h t ih=>
    rw[List.map_cons,List.map_cons]
    refine .cons ?_ ih
    obtain⟨h1,h2,h3⟩:=h
    unfold putAt
    by_cases e:p.1=k
    · rw[if_pos e,if_pos (h1.symm.trans e)];exact⟨h1,h2,ry⟩
    · rw[if_neg e,if_neg (fun z=>e (h1.trans z))];exact⟨h1,h2,h3⟩
theorem KT.put {H:Hp}{kvs:List (List Key×V)}{xs:List (List Key×Addr×Value)}(r:KT H kvs xs) (k:List Key) {b:Addr}{y:V}{u:Value}(hb:H b=some (.tup (k.map kV))) (ry:RelV y u) :
    KT H (putK kvs k y) (storedH xs k b u):=by
  have e:(kvs.any fun kv=>decide (kv.1=k))=(atKey xs k).isSome:=by
    rw[ze3,(r.val k).isSome_eq,Option.isSome_map]
  unfold putK storedH
  rw[e]
  by_cases q:(atKey xs k).isSome=true
  · rw[if_pos q,if_pos q];exact r.repl k ry
  · rw[if_neg q,if_neg q];exact Paired.snoc r ⟨rfl,hb,ry⟩
theorem KT.keeps {H H':Hp}{kvs:List (List Key×V)}{xs:List (List Key×Addr×Value)}(r:KT H kvs xs) (ht:∀b ys,H b=some (.tup ys)->H' b=some (.tup ys)):KT H' kvs xs:=
  Paired.mapP r fun _ _ z=>⟨z.1,ht _ _ z.2.1,z.2.2⟩
section
variable {P:Program}{w:World}{H:Hp}{h:Heap}{a:Addr}
theorem zwc {u:HO}(ok:HOk P w H h) (e:Rd H a u):ObjOk P w H h a u:=e.ok ok
theorem zmy {kvs:List (Key×V)}(ok:HOk P w H h) (e:Rd H a (.dK kvs)):kvs.length<=sizeLine/\(a == sysModules)=false/\∃vs,KV kvs vs/\h.DictOf (za3 P w) a vs:=
  show ObjOk P w H h a (.dK kvs) from zwc ok e
theorem zt5 {kvs:List (Key×V)}(ok:HOk P w H h) (e:H a=some (.dK kvs)):kvs.length<=sizeLine/\(a == sysModules)=false/\∃vs,KV kvs vs/\h.DictOf (za3 P w) a vs:=zmy ok (.inl e)
theorem zg8 {ks:List Key}(ok:HOk P w H h) (e:H a=some (.tup (ks.map kV))):(tupleKind (za3 P w)).is h ks a:=by
  obtain⟨_,its,r,o,h1,h2,n,h3⟩:=(show ObjOk P w H h a (.tup (ks.map kV)) from ok a _ e)
  exact⟨o,its.toArray,n,h1,h2,h3,by simpa using zi9 r⟩
theorem zmz {kvs:List (List Key×V)}(ok:HOk P w H h) (e:Rd H a (.dT kvs)):kvs.length<=sizeLine/\(a == sysModules)=false/\
    ∃xs,KT H kvs xs/\h.DictOfH (tupleKind (za3 P w)) a xs:=by
  obtain⟨z,y,xs,r,o,es,ep,h1,h2,h3,h4,h5⟩:=(show ObjOk P w H h a (.dT kvs) from zwc ok e)
  refine⟨z,y,xs,r,o,es,ep,h1,h2,h3,h4,fun x hx=>?_,h5⟩
  have all:∀{l:List (List Key×V)}{m:List (List Key×Addr×Value)},KT H l m->∀x∈m,(tupleKind (za3 P w)).is h x.1 x.2.1:=by
    intro l m q
    induction q with
    | nil=>intro x hx;exact nomatch hx
    | @cons p q ps qs hq t ih=>
      intro x hx
      rcases List.mem_cons.mp hx with e | hx
      · subst e
        exact zg8 ok (by rw[←hq.1];exact hq.2.1)
      · exact ih x hx
  exact all r x hx
theorem zwd {kvs:List (List Key×V)}(ok:HOk P w H h) (e:H a=some (.dT kvs)):kvs.length<=sizeLine/\(a == sysModules)=false/\
    ∃xs,KT H kvs xs/\h.DictOfH (tupleKind (za3 P w)) a xs:=zmz ok (.inl e)
end
def DGet (H:Hp) (a:Addr) (y:V) (r:Option V):Prop:=
  (∃kvs k,Rd H a (.dK kvs)/\y=kV k/\r=valV kvs k)\/∃kvs k b,Rd H a (.dT kvs)/\y = .ref b/\H b=some (.tup (k.map kV))/\r=valV kvs k
def DPut (H:Hp) (a:Addr) (y v:V) (H':Hp):Prop:=
  (∃kvs k,H a=some (.dK kvs)/\y=kV k/\kvs.length<sizeLine/\H'=upd H a (.dK (putK kvs k v)))\/
  ∃kvs k b,H a=some (.dT kvs)/\y = .ref b/\H b=some (.tup (k.map kV))/\kvs.length<sizeLine/\H'=upd H a (.dT (putK kvs k v))
theorem DGet.k {H:Hp}{a:Addr}{kvs:List (Key×V)}{k:Key}(e:H a=some (.dK kvs)):DGet H a (kV k) (valV kvs k):=.inl ⟨kvs,k,.inl e,rfl,rfl⟩
theorem DGet.t {H:Hp}{a b:Addr}{kvs:List (List Key×V)}{k:List Key}(e:H a=some (.dT kvs)) (eb:H b=some (.tup (k.map kV))):DGet H a (.ref b) (valV kvs k):=.inr ⟨kvs,k,b,.inl e,rfl,eb,rfl⟩
theorem DPut.k {H:Hp}{a:Addr}{kvs:List (Key×V)}{k:Key}{v:V}(e:H a=some (.dK kvs)) (hl:kvs.length<sizeLine):DPut H a (kV k) v (upd H a (.dK (putK kvs k v))):=.inl ⟨kvs,k,e,rfl,hl,rfl⟩
theorem DPut.t {H:Hp}{a b:Addr}{kvs:List (List Key×V)}{k:List Key}{v:V}(e:H a=some (.dT kvs)) (eb:H b=some (.tup (k.map kV))) (hl:kvs.length<sizeLine) :
    DPut H a (.ref b) v (upd H a (.dT (putK kvs k v))):=.inr ⟨kvs,k,b,e,rfl,eb,hl,rfl⟩
section
variable {X:Cx}{pins:List (Addr×Obj)}{σ:St}{H:Hp}{s:Shared}{a:Addr}{y v:V}{u r:Value}{o:Option V}{A:Around}{E:Value->Shared->Prop}
theorem Inv.big (I:Inv X pins σ H s):sysModules<s.heap.objs.size:=by
  have h:mainGlobals<s.heap.objs.size:=(I.mod.glob.keeps I.bk).lt
  exact Nat.lt_trans (by decide) h
theorem zoh {Q:Value->Shared->Prop}(hu:A.units+1<cLine) (I:Inv X pins σ H s) (g:DGet H a y (some v)) (ry:RelV y u) (h:∀w' s',Inv X pins σ H s'->RelV v w'->Q w' s') :
    wpAny (model X.prog X.w) A (getItem (.ref a) u) Q E s:=by
  rcases g with ⟨kvs,k,e,ey,l⟩ | ⟨kvs,k,b,e,ey,eb,l⟩
  · subst ey
    obtain⟨z,hd,vs,rel,dd⟩:=zmy I.hok e
    obtain⟨w',hw,rw'⟩:=RelO.some_of (v:=v) (o:=valueAt vs k) (by rw[l];exact rel.val k)
    exact wpAny_getItem_of (zgl ry) dd.mapOf hw (h w' _ (I.tok _) rw')
  · subst ey
    cases (show u=Value.ref b from ry)
    obtain⟨z,hd,xs,rel,dd⟩:=zmz I.hok e
    obtain⟨w',hw,rw'⟩:=RelO.some_of (v:=v) (o:=(atKey xs k).map (·.2)) (by rw[l];exact rel.val k)
    obtain⟨p,hp,hp2⟩:=Option.map_eq_some_iff.mp hw
    refine wpAny_getItem_heap (tupleKind_room_in1 hu) (zg8 I.hok eb) dd hp ?_
    rw[hp2]
    exact h w' _ (I.tok _) rw'
theorem d_in {Q:Value->Shared->Prop}(hu:A.units+1<cLine) (I:Inv X pins σ H s) (g:DGet H a y o) (ry:RelV y u) (h:∀s',Inv X pins σ H s'->Q (.bool o.isSome) s') :
    wpAny (model X.prog X.w) A (compareOp .In u (.ref a)) Q E s:=by
  rcases g with ⟨kvs,k,e,ey,l⟩ | ⟨kvs,k,b,e,ey,eb,l⟩
  · subst ey
    obtain⟨z,hd,vs,rel,dd⟩:=zmy I.hok e
    refine wpAny_in_of (zgl ry) hd dd.mapOf ?_
    rw[←(rel.val k).isSome_eq,←l]
    exact h _ (I.tok _)
  · subst ey
    cases (show u=Value.ref b from ry)
    obtain⟨z,hd,xs,rel,dd⟩:=zmz I.hok e
    refine wpAny_in_heap (tupleKind_room_in1 hu) (zg8 I.hok eb) hd dd ?_
    have q:=(rel.val k).isSome_eq
    rw[Option.isSome_map] at q
    rw[←q,←l]
    exact h _ (I.tok _)
theorem zt6 {Q:Value->Shared->Prop}(hu:A.units+1<cLine) (I:Inv X pins σ H s) (g:DGet H a y o) (ry:RelV y u) (h:∀s',Inv X pins σ H s'->Q (.bool (!o.isSome)) s') :
    wpAny (model X.prog X.w) A (compareOp .NotIn u (.ref a)) Q E s:=by
  rcases g with ⟨kvs,k,e,ey,l⟩ | ⟨kvs,k,b,e,ey,eb,l⟩
  · subst ey
    obtain⟨z,hd,vs,rel,dd⟩:=zmy I.hok e
    refine wpAny_notIn_of (zgl ry) hd dd.mapOf ?_
    rw[←(rel.val k).isSome_eq,←l]
    exact h _ (I.tok _)
  · subst ey
    cases (show u=Value.ref b from ry)
    obtain⟨z,hd,xs,rel,dd⟩:=zmz I.hok e
    refine wpAny_notIn_heap (tupleKind_room_in1 hu) (zg8 I.hok eb) hd dd ?_
    have q:=(rel.val k).isSome_eq
    rw[Option.isSome_map] at q
    rw[←q,←l]
    exact h _ (I.tok _)
theorem zfi {h':Heap}{t':Nat}{ob:HO}(I:Inv X pins σ H s) (mu:Mut (H a)) (hs:Heap.SameBut a s.heap h') (he:∃q,h'.get? a=some q) (new:ObjOk X.prog X.w (upd H a ob) h' a ob) :
    Inv X pins σ (upd H a ob) { s with heap:=h',toks:=t' }:=
  I.write (x:=a) (e:=a) mu (.inl rfl) (fun b q hb z=>(hs.2 b hb).trans z) he new
theorem zoi {P:Program}{w:World}{H':Hp}{h':Heap}{kvs:List (Key×V)}{vs:List (Key×Value)}(z:kvs.length<=sizeLine) (hd:(a == sysModules)=false) (rel:KV kvs vs) (dd:h'.DictOf (za3 P w) a vs) :
    ObjOk P w H' h' a (.dK kvs):=⟨z,hd,vs,rel,dd⟩
theorem zoj {H':Hp}{Q:Unit->Shared->Prop}(hu:A.units+1<cLine) (I:Inv X pins σ H s) (g:DPut H a y v H') (ry:RelV y u) (rv:RelV v r) (h:∀s',Inv X pins σ H' s'->Q () s') :
    wpAny (model X.prog X.w) A (setItem (.ref a) u r) Q E s:=by
  rcases g with ⟨kvs,k,e,ey,l,eH⟩ | ⟨kvs,k,b,e,ey,eb,l,eH⟩
  · subst ey eH
    obtain⟨z,hd,vs,rel,dd⟩:=zt5 I.hok e
    have hz:vs.length<=sizeLine:=by rw[←rel.length];exact z
    have hl:(putK kvs k v).length<=sizeLine:=by have:=zfh kvs k v;omega
    refine wpAny_setItem_pairs (hsz:=hz) (zgl ry) dd fun h' dd' hs=>h _ ?_
    have he:∃q,h'.get? a=some q:=let ⟨q,_,_,hq,_⟩:=dd';⟨q,hq⟩
    exact zfi I (by rw[e];exact True.intro) hs he (zoi hl hd (rel.put k rv) dd')
  · subst ey eH
    cases (show u=Value.ref b from ry)
    obtain⟨z,hd,xs,rel,dd⟩:=zwd I.hok e
    have hz:xs.length<=sizeLine:=by rw[←Paired.length rel];exact z
    have hl:(putK kvs k v).length<=sizeLine:=by have:=zfh kvs k v;omega
    refine wpAny_setItem_heap (hsz:=hz) (tupleKind_room_in1 hu) (zg8 I.hok eb) dd fun h' dd' hs=>h _ ?_
    obtain⟨q,es,ep,hq,h2,h3,h4,_,h5⟩:=dd'
    refine zfi I (by rw[e];exact True.intro) hs ⟨q,hq⟩ ⟨hl,hd,_,(rel.put k eb rv).keeps fun c ys ec=>?_,q,es,ep,hq,h2,h3,h4,h5⟩
    rw[zn (zgk ec e (fun z=>nomatch z))]
    exact ec
end
section
variable {X:Cx}{pins:List (Addr×Obj)}{σ:St}{H:Hp}{s:Shared}{a:Addr}{kvs:List (Key×V)}{k:Key}{u:Value}{A:Around}{E:Value->Shared->Prop}
theorem zwe {Q:Unit->Shared->Prop}(I:Inv X pins σ H s) (e:H a=some (.dK kvs)) (ry:RelV (kV k) u) (l:(valV kvs k).isSome=true) (h:∀s',Inv X pins σ (upd H a (.dK (zdt kvs k))) s'->Q () s') :
    wpAny (model X.prog X.w) A (delItem (.ref a) u) Q E s:=by
  obtain⟨z,hd,vs,rel,dd⟩:=zt5 I.hok e
  refine wpAny_delItem_slot dd.typeIs (by decide) PySem.F.slot_dict_delitem
    (call_meetsIn PySem.F.slot_dict_delitem dd.typeIs PySem.F.entry_dict_delitem (PySem.F.args_dict_delitem_2 _ _) (meets_dict_delitem_pairs (za3 X.prog X.w) a (zgl ry)) ⟨vs,dd,by rw[←rel.length];exact z,by rw[←(rel.val k).isSome_eq];exact l,fun h' dd' hs=>h _ ?_⟩)
  have he:∃q,h'.get? a=some q:=let ⟨q,_,_,hq,_⟩:=dd';⟨q,hq⟩
  exact zfi I (by rw[e];exact True.intro) hs he (zoi (Nat.le_trans (zhr kvs k) z) hd (rel.drop k) dd')
theorem zxs {v:V}{more:List Value}{Q:Value->Shared->Prop}(I:Inv X pins σ H s) (e:H a=some (.dK kvs)) (ry:RelV (kV k) u) (l:valV kvs k=some v) (hm:more = []\/∃x,more = [x])
    (h:∀w' s',Inv X pins σ (upd H a (.dK (zdt kvs k))) s'->RelV v w'->Q w' s'):wpAny (model X.prog X.w) A (call (.builtin "dict.pop") (.ref a::u::more)) Q E s:=by
  obtain⟨z,hd,vs,rel,dd⟩:=zt5 I.hok e
  obtain⟨w',hw,rw'⟩:=RelO.some_of (v:=v) (o:=valueAt vs k) (by rw[←l];exact rel.val k)
  have hp:(keyPart u).isSome=true:=by
    cases k with
    | inl i=>obtain⟨t,q⟩:=(show ∃t,u=Value.int i t from ry);subst q;rfl
    | inr x=>obtain⟨t,q⟩:=(show ∃t,u=Value.str x t from ry);subst q;rfl
  have ha:argsOk "dict.pop" ⟨.ref a::u::more,[]⟩:=by
    rcases hm with q | ⟨x,q⟩
    · subst q;exact PySem.F.args_dict_pop_2 _ _
    · subst q;exact PySem.F.args_dict_pop_3 _ _ _
  refine call_meetsIn PySem.F.slot_dict_pop dd.typeIs PySem.F.entry_dict_pop ha (meets_dict_pop_there (za3 X.prog X.w) a (zgl ry) more hm hp)
    ⟨vs,w',dd,by rw[←rel.length];exact z,hw,fun h' dd' hs=>h w' _ ?_ rw'⟩
  have he:∃q,h'.get? a=some q:=let ⟨q,_,_,hq,_⟩:=dd';⟨q,hq⟩
  exact zfi I (by rw[e];exact True.intro) hs he (zoi (Nat.le_trans (zhr kvs k) z) hd (rel.drop k) dd')
end
def NoSl (i:Expr):Prop:=∀ov iv,subscripted i false ov iv=operate [ov,iv] (getItem ov iv)
theorem zok {prog:Program}{w:World}{A:Around}{E:Value->Shared->Prop}{s:Shared}{env:Env}{value slice:Expr}{pos:Pos}{T id:String}{Q:Value->Shared->Prop}
    (hl:typeLookup (.type T) "__getitem__" = pure (some (.builtin id))) (hs:NoSl slice)
    (h:wpAny (model prog w) A (eval value env) (fun o s₁=>wpAny (model prog w) A (eval slice env) (fun i s₂=>s₂.TypeIs o T/\wpAny (model prog w) A (getItem o i) Q E s₂) E s₁) E s) :
    wpAny (model prog w) A (eval (.Subscript value slice pos) env) Q E s:=by
  refine Subscript_ (wpAny_mono h (fun o s₁ h₁=>wpAny_mono h₁ (fun i s₂ h₂=>?_) fun _ _ x=>x) fun _ _ x=>x)
  obtain⟨hT,h₂⟩:=h₂
  unfold subscriptTail
  refine wpAny_bind ?_
  rw[getitemInPython_of_ne hT.not_modules]
  refine wpAny_bind (wpAny_specialOf hT hl ?_)
  have fin:wpAny (model prog w) A (subscripted slice false o i) (fun r s₃=>wpAny (model prog w) A (letTemporaryGo value o r >>= fun _=>pure r) Q E s₃) E s₂:=by
    rw[hs o i]
    exact wpAny_operating (wpAny_mono h₂ (fun r s₃ h₃=>wpAny_bind (wpAny_letTemporaryGo (wpAny_pure h₃))) fun _ _ x=>x)
  first
    | exact wpAny_pure (wpAny_bind fin)
    | exact wpAny_bind (wpAny_pure (wpAny_bind fin))
    | exact wpAny_bind fin
theorem zks {X:Cx}{pins:List (Addr×Obj)}{σ:St}{H:Hp}{s:Shared}{a:Addr}{y:V}{o:Option V}(I:Inv X pins σ H s) (g:DGet H a y o):s.TypeIs (.ref a) "dict":=by
  rcases g with ⟨kvs,k,e,_,_⟩ | ⟨kvs,k,b,e,_,_,_⟩
  · obtain⟨_,_,vs,_,dd⟩:=zmy I.hok e
    exact dd.typeIs
  · obtain⟨_,_,xs,_,dd⟩:=zmz I.hok e
    exact dd.typeIs
def zxt (td ty:TE):TE:=fun σ H Q=>td σ H fun x H1=>ty σ H1 fun y H2=>∃a v,x = .ref a/\DGet H2 a y (some v)/\Q v H2
def tDIn (ty td:TE):TE:=fun σ H Q=>ty σ H fun y H1=>td σ H1 fun x H2=>∃a o,x = .ref a/\DGet H2 a y o/\Q (.bl o.isSome) H2
def zt7 (ty td:TE):TE:=fun σ H Q=>ty σ H fun y H1=>td σ H1 fun x H2=>∃a o,x = .ref a/\DGet H2 a y o/\Q (.bl (!o.isSome)) H2
def zxu (td ty tv:TE):TS:=fun D σ H=>tv σ H fun v H1=>td σ H1 fun x H2=>ty σ H2 fun y H3=>∃a H4,x = .ref a/\DPut H3 a y v H4/\D.nx σ H4
section
variable {X:Cx}{o i e value:Expr}{pos pos' tpos:Pos}{td ty tv:TE}
theorem zt8 (hu:X.A.units+1<cLine) (ho:PE X o td) (hi:PE X i ty) (hs:NoSl i):PE X (.Subscript o i pos) (zxt td ty):=by
  intro pins s σ H Q I h
  refine zok PySem.F.slot_dict_getitem.lookup hs (thn (ho pins s σ H _ I h) fun u s1 ⟨x,H1,I1,rx,q1⟩=>thn (hi pins s1 σ H1 _ I1 q1) fun iv s2 hq0=>?_)
  obtain⟨y,H2,I2,ry,a,v,ex,g,q2⟩:=hq0
  subst ex
  obtain rfl:u=Value.ref a:=rx
  exact⟨zks I2 g,zoh hu I2 g ry fun w' s3 I3 rw'=>⟨v,H2,I3,rw',q2⟩⟩
theorem zol (hu:X.A.units+1<cLine) (hi:PE X i ty) (ho:PE X o td):PC X .In i o (tDIn ty td):=by
  intro pins s σ H Q I h
  refine thn (hi pins s σ H _ I h) fun iv s1 ⟨y,H1,I1,ry,q1⟩=>thn (ho pins s1 σ H1 _ I1 q1) fun u s2 hq0=>?_
  obtain⟨x,H2,I2,rx,a,ov,ex,g,q2⟩:=hq0
  subst ex
  obtain rfl:u=Value.ref a:=rx
  exact d_in hu I2 g ry fun s3 I3=>⟨.bl ov.isSome,H2,I3,rfl,q2⟩
theorem zfj (hu:X.A.units+1<cLine) (hi:PE X i ty) (ho:PE X o td):PC X .NotIn i o (zt7 ty td):=by
  intro pins s σ H Q I h
  refine thn (hi pins s σ H _ I h) fun iv s1 ⟨y,H1,I1,ry,q1⟩=>thn (ho pins s1 σ H1 _ I1 q1) fun u s2 hq0=>?_
  obtain⟨x,H2,I2,rx,a,ov,ex,g,q2⟩:=hq0
  subst ex
  obtain rfl:u=Value.ref a:=rx
  exact zt6 hu I2 g ry fun s3 I3=>⟨.bl (!ov.isSome),H2,I3,rfl,q2⟩
theorem zhs (hu:X.A.units+1<cLine) (ho:PE X o td) (hi:PE X i ty) (hv:PE X value tv) (hs:swapsWith value (some (.Subscript o i pos')) pos.line X.env=pure false) :
    PS X (.Assign [.Subscript o i pos'] value pos) (zxu td ty tv):=by
  intro pins s σ H D I h
  refine wpAny_Assign_Subscript (thn (hv pins s σ H _ I h) fun r s1 ⟨v,H1,I1,rv,q1⟩=>thn (ho pins s1 σ H1 _ I1 q1) fun u s2 ⟨x,H2,I2,rx,q2⟩=>thn (hi pins s2 σ H2 _ I2 q2) fun iv s3 hq0=>?_) hs
  obtain⟨y,H3,I3,ry,a,H4,ex,g,q3⟩:=hq0
  subst ex
  obtain rfl:u=Value.ref a:=rx
  exact zoj hu I3 g ry rv fun s4 I4=>⟨σ,H4,I4,q3⟩
end
theorem zq9 {P:Program}{w:World}{H:Hp}(h:Heap) (hb:sysModules<h.objs.size):ObjOk P w H (h.push { cls:=.type "dict",data:=.dict #[] }) h.objs.size (.dK []):=
  ⟨Nat.zero_le _,beq_eq_false_iff_ne.mpr (Ne.symm (Nat.ne_of_lt hb)),[],.nil,Heap.DictOf.new h⟩
theorem zra {P:Program}{w:World}{H:Hp}(h:Heap) (hb:sysModules<h.objs.size):ObjOk P w H (h.push { cls:=.type "dict",data:=.dict #[] }) h.objs.size (.dT []):=
  ⟨Nat.zero_le _,beq_eq_false_iff_ne.mpr (Ne.symm (Nat.ne_of_lt hb)),[],.nil,_,#[],0,Heap.get?_push_size _ rfl,⟨rfl,rfl,rfl⟩,rfl,rfl,List.nodup_nil⟩
def zwf:TE:=fun _ H Q=>∀p,H p=none->Q (.ref p) (upd H p (.dK []))
def zwg:TE:=fun _ H Q=>∀p,H p=none->Q (.ref p) (upd H p (.dT []))
section
variable {X:Cx}{pos:Pos}
theorem zlt:PE X (.Dict [] [] pos) zwf:=fun pins s σ H Q I h=>
  wpAny_Dict_empty ⟨.ref s.heap.objs.size,_,I.laid (a:=s.heap.objs.size) (o:=.dK []) (t':=s.toks) (fun _ _ q=>Heap.get?_push_of_some _ q) (Nat.le_refl _) (zq9 s.heap I.big),rfl,h _ (I.hok.fresh (Nat.le_refl _))⟩
theorem zrb:PE X (.Dict [] [] pos) zwg:=fun pins s σ H Q I h=>
  wpAny_Dict_empty ⟨.ref s.heap.objs.size,_,I.laid (a:=s.heap.objs.size) (o:=.dT []) (t':=s.toks) (fun _ _ q=>Heap.get?_push_of_some _ q) (Nat.le_refl _) (zra s.heap I.big),rfl,h _ (I.hok.fresh (Nat.le_refl _))⟩
end
structure M1 (X:Cx) (o:Expr) (m:Str) (apos:Pos) (e:Expr) (cpos:Pos):Prop where
  base:attributeBase o m X.env (eval o X.env)=eval o X.env
  few:((backTo cpos (starEach [e] X.env)).all (fun x=>!x.1)&&(backToKw cpos (keywordEach [] X.env)).all (fun x=>x.1.isSome)
    && decide (([e]:List Expr).length+([]:List Keyword).length+(if ([]:List Keyword).isEmpty then 0 else 1)<30))=true
  line:(apos.endLine == cpos.line)=true
  trees:backTo cpos (starEach [e] X.env) = [(false,eval e X.env)]
def IsD (H:Hp) (a:Addr):Prop:=(∃kvs,Rd H a (.dK kvs))\/∃kvs,Rd H a (.dT kvs)
theorem zsz {X:Cx}{pins:List (Addr×Obj)}{σ:St}{H:Hp}{s:Shared}{a:Addr}(I:Inv X pins σ H s) (d:IsD H a) :
    s.TypeIs (.ref a) "dict"/\(∀b,Value.ref a = .ref b->∃ob,s.heap.get? b=some ob/\ob.dict=none)/\(a == sysModules)=false:=by
  rcases d with ⟨kvs,e⟩ | ⟨kvs,e⟩
  · obtain⟨_,hd,vs,_,dd⟩:=zmy I.hok e
    refine⟨dd.typeIs,fun b q=>?_,hd⟩
    cases q
    obtain⟨ob,_,_,h1,h2,_⟩:=dd
    exact⟨ob,h1,h2.2.1⟩
  · obtain⟨_,hd,xs,_,dd⟩:=zmz I.hok e
    refine⟨dd.typeIs,fun b q=>?_,hd⟩
    cases q
    obtain⟨ob,_,_,h1,h2,_⟩:=dd
    exact⟨ob,h1,h2.2.1⟩
def zwh (td ty:TE):TE:=fun σ H Q=>td σ H fun x H1=>∃a,x = .ref a/\IsD H1 a/\ty σ H1 fun y H2=>∃kvs k v,H2 a=some (.dK kvs)/\y=kV k/\valV kvs k=some v/\Q v (upd H2 a (.dK (zdt kvs k)))
section
variable {X:Cx}{o e f:Expr}{apos cpos:Pos}{td ty tx:TE}
theorem zlu (ho:PE X o td) (he:PE X e ty) (m:M1 X o "pop" apos e cpos):PE X (.Call (.Attribute o "pop" apos) [e] [] cpos) (zwh td ty):=by
  intro pins s σ H Q I h
  refine wpAny_Call_method m.base m.few m.line PySem.F.plainAttrs_dict PySem.F.slot_dict_pop PySem.F.type_dict_pop (thn (ho pins s σ H _ I h) fun u s1 hq0=>?_)
  obtain⟨x,H1,I1,rx,a,ex,d,q1⟩:=hq0
  subst ex
  obtain rfl:u=Value.ref a:=rx
  obtain⟨t1,t2,_⟩:=zsz I1 d
  refine⟨t1,t2,?_⟩
  rw[m.trees]
  refine Calls.callWith_builtin rfl (Calls.evalArgs_plain (Calls.spliced_cons (thn (he pins s1 σ H1 _ I1 q1) fun iv s2 ⟨y,H2,I2,ry,kvs,k,v,ea,ey,l,q2⟩=>Calls.spliced_nil ?_)))
  subst ey
  exact zxs I2 ea ry l (.inl rfl) fun w' s3 I3 rw'=>⟨v,_,I3,rw',q2⟩
end
end L2
namespace Att
open PySem PySem.W PySem.Calls PyProof.Rows
theorem zfk {P:Params}{h:Heap}:∀(ns:List Int) (vs:List Value),WellAll P h vs (ns.map WData.int)->IntsAre vs ns:=by
  intro ns
  induction ns with
  | nil=>
    intro vs w
    rw[List.map_nil] at w
    cases w
    exact .nil
  | cons n ns ih=>
    intro vs w
    rw[List.map_cons] at w
    cases w with
    | cons a b=>
      cases a
      exact .cons _ _ (ih _ b)
theorem zom {l:OpenLaw}{n:Nat}(hn:l.most=some n) {P:Params}{h:Heap}{args:List WData}{vals:List Value}
    (hpre:l.row.toRowW.claim.pre args=true) (hwl:WellAll P h vals args) :
    ∃a vs ns,vals = [Value.ref a]/\args = [WData.list (ns.map WData.int)]/\h.get? a=some { cls:=.type "list",data:=.seq vs.toArray }/\IntsAre vs ns/\ns.length<=n:=by
  have hsh:WShape.hasAll [] args [.list .int]=true:=(pre_splitW hpre).1
  have hc:l.pre.holds [] { args:=args } = true:=(pre_splitW hpre).2
  obtain⟨d,r,rfl,h1,h2⟩:=hasAllW_cons hsh
  obtain rfl:=hasAllW_nil h2
  obtain⟨xs,rfl,h3⟩:=hasW_list h1
  obtain⟨ns,rfl⟩:=items_int h3
  have hlen:ns.length<=n:=by
    unfold OpenLaw.pre at hc
    have h4:(WTm.not (.lt (.lit (.int (n:Int))) (.len (.arg 0)))).holds [] { args:=[.list (ns.map .int)] } = true:=by
      have h4:=(holds_andW hc).1
      rw[hn] at h4
      exact h4
    have h5:=condW_of h4 (w_not (w_lt w_lit (w_len_list (w_arg rfl))))
    rw[List.length_map] at h5
    refine Nat.le_of_not_lt fun q=>?_
    have q':(n:Int)<((ns.length:Nat):Int):=by omega
    first
      | (rw[decide_eq_true q'] at h5;exact absurd h5 (by decide))
      | (simp at h5;omega)
  cases hwl with
  | cons w1 w2=>
    cases w2
    cases w1 with
    | list ho hall=>exact⟨_,_,ns,rfl,rfl,ho,zfk ns _ hall,hlen⟩
theorem zon (l:OpenLaw) (args:List WData):l.row.toRowW.claim.post args (.bool true) args=true:=
  postW_of (r:=l.row.toRowW) (X:=(true == true))
    (show WShape.has [] (.bool true) .bool=true by first | rfl | decide | simp[WShape.has,WShape.arms,WShape.armsAll])
    (show (WTm.eq .res (.lit (.bool true))).value [] { args:=args,res:=some (.bool true),after:=args } = some (.bool (true == true)) from w_eq_bool (w_res rfl) w_lit) rfl
theorem attach_call {l:OpenLaw}{n:Nat}{q:Program}{loose:List Str}{XP:(Str->Option Value)->Heap->Prop}{YP:World->Heap->Prop}{d:DefRec}
    (hn:l.most=some n) (hdf:d.params.defaults = [])
    (call:∀(w:World) (s₀ s₁:Shared) (mg mb:Str->Option Value) (fa:Addr) (o:Obj) (pm cd doc:Value) (a:Addr) (vs:List Value) (ns:List Int),
      Ground q loose [] XP w s₀ mg mb s₁.heap->YP w s₁.heap->
      s₁.heap.get? fa=some o->o.data = .func (docDef d.name d.params d.body d.scope pm cd doc)->s₁.heap.CodeRec cd d.name->mg d.name=some (.ref fa)->
      s₁.heap.get? a=some { cls:=.type "list",data:=.seq vs.toArray }->IntsAre vs ns->ns.length<=n->s₁.gens = #[]->
      codeAny (model l.prog w) callerA (.call (.ref fa) ⟨[.ref a],[]⟩) (fun r s'=>r = .ok (.ret (.bool true))/\OldK s₁.heap s'.heap/\s'.os=s₁.os/\AllBare s'.gens) s₁) :
    WalkO q loose XP YP l.row.toRowW d [] (fun f vs=>PySem.call f vs):=by
  intro w s₀ s₁ mg mb G Y fa o pm cd doc dV kV ho hd hcd hD hmg hg args vals as hpre hlay hrd hwl hlo
  obtain rfl:dV = .none:=Dflts.none hD hdf
  obtain rfl:kV = .none:=Dflts.noKw hD
  obtain⟨a,vs,ns,rfl,rfl,hobj,hints,hlen⟩:=zom hn hpre hwl
  refine enter_call (codeAny_mono (call w s₀ s₁ mg mb fa o pm cd doc a vs ns G Y ho (fd_plain hd) hcd hmg hobj hints hlen hg) fun r s' hq=>?_)
  obtain⟨rfl,h2,h3,h4⟩:=hq
  exact⟨.inl ⟨.bool true,.bool true,[],rfl,fun _=>rfl,.bool true,zon l _,fun _=>⟨List.Pairwise.nil,fun _ hm=>(nomatch hm)⟩⟩,h2,h3,h4⟩
end Att
namespace L2
open PySem PySem.Spec PyProof.Rows
theorem zja:∀{vs:List Value}{ns:List Int},IntsAre vs ns->Vals (ns.map V.int) vs
  | _,_,.nil=>.nil
  | _,_,.cons n t h=>.cons ⟨t,rfl⟩ (zja h)
def Only (H:Hp):Prop:=∀b,H b=none\/∃o xs,H b=some (.frz o (.lst xs))
theorem zrc {P:Program}{w:World}{K:PySem.W.Frag}{mg mb:Str->Option Value}{CX:CXT}{k:Nat}{fa a:Addr}{fd:FuncData}{x:Str}{sp:Sp}{s₁:Shared}{vs:List Value}{ns:List Int}
    (KX:K.In s₁.heap) (hns:s₁.heap.Ns mainGlobals mg) (hb:s₁.heap.Ns builtinsNs mb) (hbb:∀x:Str,x≠"__name__"->mb x=bootBuiltins x) (hlim:s₁.heap.NoLimit) (hg:s₁.gens = #[])
    (ha:s₁.heap.get? a=some { cls:=.type "list",data:=.seq vs.toArray }) (hi:IntsAre vs ns) (hl:ns.length<=sizeLine) (hr:Room k callerA)
    (F:∀base:Heap,K.In base->base.Ns mainGlobals mg->FnOk P w K mg base CX k fa fd [x] sp) (hbind:∀(s:Shared) (u:Value),BindsTo s fd ⟨[u],[]⟩ [(x,u)])
    (hsp:∀H:Hp,Only H->SqL K H a (ns.map V.int)->sp [.ref a] H (fun v _=>v = .bl true) fun _ _ _=>False)
    (hCX:∀H e s',CX [] H s₁ (fun _ _ _=>False) e s'->False) :
    codeAny (model P w) callerA (.call (.ref fa) ⟨[.ref a],[]⟩) (fun r s'=>r = .ok (.ret (.bool true))/\OldK s₁.heap s'.heap/\s'.os=s₁.os/\AllBare s'.gens) s₁:=by
  have rv:=zja hi
  have lenV:=hi.length
  have core:∀H:Hp,Only H->SqL K H a (ns.map V.int)->HOk P w H s₁.heap->(∀b,H b≠none->b=a)->(H a≠none->K.lookup a=none)->
      codeAny (model P w) callerA (.call (.ref fa) ⟨[.ref a],[]⟩) (fun r s'=>r = .ok (.ret (.bool true))/\OldK s₁.heap s'.heap/\s'.os=s₁.os/\AllBare s'.gens) s₁:=by
    intro H hO hS hok hA hK
    have base_of:∀{b:Addr}{o:Obj},s₁.heap.get? b=some o->H b=none->(hidT s₁.heap H).get? b=some o:=fun e n=>zqt e n
    have noA:∀{b:Addr}{o:Obj}{es:Array DictEntry}{ep:Nat},s₁.heap.get? b=some o->o.data = .dict es ep->H b=none:=fun {b o es ep} e d=>by
      cases q:H b with
      | none=>rfl
      | some u=>
        have e':b=a:=hA b (by rw[q];simp)
        subst e'
        rw[ha] at e;cases e
        have d':Data.seq vs.toArray _=Data.dict es ep:=d
        cases d'
    have nsK:∀{b:Addr}{m:Str->Option Value},s₁.heap.Ns b m->(hidT s₁.heap H).Ns b m:=fun {b m} ⟨o,es,ep,e,d,r⟩=>⟨o,es,ep,base_of e (noA e d),d,r⟩
    have hKb:K.In (hidT s₁.heap H):=fun b o e=>base_of (KX b o e) (by
      cases q:H b with
      | none=>rfl
      | some u=>
        have e':b=a:=hA b (by rw[q];simp)
        subst e'
        rw[hK (by rw[q];simp)] at e;cases e)
    have hM:Mod K mg (hidT s₁.heap H):=⟨hKb,nsK hns,⟨mb,nsK hb,hbb⟩,let ⟨mc,h1,h2⟩:=hlim;⟨mc,nsK h1,h2⟩⟩
    have e0:Env0 P w K mg (hidT s₁.heap H) callerA [] s₁ H:=⟨rfl,hM,fun b o e=>ztj e,Nat.le_of_eq (znv _ _),trivial,fun b hb=>absurd (show b∈([]:List Addr) from hb) (by simp),hok,.of_eq hg⟩
    refine codeAny_mono ((F _ hKb (nsK hns)).run callerA [] s₁ H ⟨[.ref a],[]⟩ [.ref a] [.ref a] _ _ hr e0 (hbind s₁ (.ref a)) (.cons rfl .nil) (hsp H hO hS)) fun r s' h=>?_
    cases r with
    | error e=>exact (hCX H e s' h).elim
    | ok fl=>
      cases fl with
      | next=>exact False.elim h
      | brk=>exact False.elim h
      | cont=>exact False.elim h
      | ret u=>
        obtain⟨v,H',os,bare,un,hok',r',q⟩:=h
        have q':v = .bl true:=q
        subst q'
        obtain rfl:u=Value.bool true:=r'
        refine⟨rfl,OldK.of_keep fun b o e=>?_,os,bare⟩
        cases q:H b with
        | none=>exact un.keep b o e q (by intro z;exact absurd (show b∈([]:List Addr) from z) (by simp)) (by simp)
        | some u=>
          rcases hO b with z | ⟨ob,xs,z⟩
          · rw[q] at z;cases z
          · have z2:=un.frzs b ob _ z
            obtain⟨e1,_⟩:=hok b _ z
            obtain⟨e2,_⟩:=hok' b _ z2
            rw[e] at e1;cases e1
            exact e2
  cases hk:K.lookup a with
  | some o=>
    have e:=KX a o hk
    rw[ha] at e
    cases e
    refine core (fun _=>none) (fun _=>.inl rfl) (.inr ⟨_,vs.toArray,_,hk,rfl,rfl,rfl,by rw[List.size_toArray,lenV];exact hl,by simpa using rv⟩) (fun b u z=>by have z':(none:Option HO)=some u:=z;cases z') (fun b z=>absurd rfl z) fun z=>absurd rfl z
  | none=>
    refine core (fun b=>if b=a then some (.frz { cls:=.type "list",data:=.seq vs.toArray } (.lst (ns.map V.int))) else none) (fun b=>?_) (.inl (.inr ⟨{ cls:=.type "list",data:=.seq vs.toArray },if_pos rfl⟩)) (fun b u z=>?_) (fun b z=>?_) fun _=>hk
    · by_cases hb:b=a
      · exact .inr ⟨_,_,if_pos hb⟩
      · exact .inl (if_neg hb)
    · by_cases hb:b=a
      · have z':=(if_pos hb).symm.trans z
        cases z'
        subst hb
        exact⟨ha,by rw[List.length_map];exact hl,vs,_,rv,ha⟩
      · have z':=(if_neg hb).symm.trans z
        cases z'
    · by_cases hb:b=a
      · exact hb
      · exact absurd (if_neg hb) z
abbrev KOf {K:PySem.W.Frag}{h:Heap}(_:K.In h):PySem.W.Frag:=K
theorem zt9 {l:PySem.W.OpenLaw}{n k:Nat}{q:Program}{loose:List Str}{XP:(Str->Option Value)->Heap->Prop}{YP:World->Heap->Prop}{d:DefRec}{K:Params->PySem.W.Frag}{CX:World->CXT}{sp:World->Sp}{x:Str}
    (hn:l.most=some n) (hn2:n<=sizeLine) (hdf:d.params.defaults = []) (hr:Room k callerA)
    (hY:∀(w:World) (h:Heap),YP w h->(K w.params).In h)
    (F:∀(w:World) (mg:Str->Option Value) (fa:Addr) (h:Heap),(K w.params).In h->h.Ns mainGlobals mg->mg d.name=some (.ref fa)->
      ∃fd:FuncData,(∀(s:Shared) (u:Value),BindsTo s fd ⟨[u],[]⟩ [(x,u)])/\
        ∀base:Heap,(K w.params).In base->base.Ns mainGlobals mg->FnOk l.prog w (K w.params) mg base (CX w) k fa fd [x] (sp w))
    (hsp:∀(w:World) (H:Hp) (a:Addr) (ns:List Int),ns.length<=n->Only H->SqL (K w.params) H a (ns.map V.int)->sp w [.ref a] H (fun v _=>v = .bl true) fun _ _ _=>False)
    (hCX:∀(w:World) (H:Hp) (s:Shared) (e:Value) (s':Shared),CX w [] H s (fun _ _ _=>False) e s'->False) :
    PySem.W.WalkO q loose XP YP l.row.toRowW d [] (fun f vs=>PySem.call f vs):=by
  refine Att.attach_call hn hdf fun w s₀ s₁ mg mb fa o pm cd doc a vs ns G Y ho hd hcd hmg hobj hints hlen hg=>?_
  have KX:=hY w _ Y
  obtain⟨fd,hb,hF⟩:=F w mg fa _ KX G.T.g hmg
  exact zrc KX G.T.g G.T.b G.T.builtins G.T.nolimit hg hobj hints (Nat.le_trans hlen hn2) hr hF hb (fun H hO hS=>hsp w H a ns hlen hO hS) fun H e s'=>hCX w H s₁ e s'
theorem walk_ofK {l:PySem.W.OpenLaw}{n k:Nat}{q:Program}{loose:List Str}{XP:(Str->Option Value)->Heap->Prop}{YP:World->Heap->Prop}{d:DefRec}{K:Params->PySem.W.Frag}{CX:CXT}{sp:PySem.W.Frag->Sp}{x:Str}
    (hn:l.most=some n) (hn2:n<=sizeLine) (hdf:d.params.defaults = []) (hr:Room k callerA)
    (hY:∀(w:World) (h:Heap),YP w h->(K w.params).In h)
    (F:∀(w:World) (mg:Str->Option Value) (fa:Addr) (h:Heap),(K w.params).In h->h.Ns mainGlobals mg->mg d.name=some (.ref fa)->
      ∃fd:FuncData,(∀(s:Shared) (u:Value),BindsTo s fd ⟨[u],[]⟩ [(x,u)])/\
        ∀base:Heap,(K w.params).In base->base.Ns mainGlobals mg->FnOk l.prog w (K w.params) mg base CX k fa fd [x] (sp (K w.params)))
    (hsp:∀(K:PySem.W.Frag) (H:Hp) (a:Addr) (ns:List Int),ns.length<=n->Only H->SqL K H a (ns.map V.int)->sp K [.ref a] H (fun v _=>v = .bl true) fun _ _ _=>False)
    (hCX:∀(H:Hp) (s:Shared) (e:Value) (s':Shared),CX [] H s (fun _ _ _=>False) e s'->False) :
    PySem.W.WalkO q loose XP YP l.row.toRowW d [] (fun f vs=>PySem.call f vs):=
  zt9 (K:=K) (CX:=fun _=>CX) (sp:=fun w=>sp (K w.params)) hn hn2 hdf hr hY F (fun w H a ns h1 h2 h3=>hsp (K w.params) H a ns h1 h2 h3) fun _ H s e s'=>hCX H s e s'
def zau (s:Stmt) (j:Nat):Stmt:=match s with
  | .ClassDef _ _ _ body _ _ _ _ _ _ _=>body.getD j (.Pass ⟨0,0,0,0⟩)
  | _=>.Pass ⟨0,0,0,0⟩
def zdn (s:Stmt):Arguments:=match s with
  | .FunctionDef _ a _ _ _ _ _ _ _ _=>a
  | _=>{ posonlyargs:=[],args:=[],vararg:=none,kwonlyargs:=[],kw_defaults:=[],kwarg:=none,defaults:=[] }
def zam (s:Stmt):List Stmt:=match s with
  | .FunctionDef _ _ b _ _ _ _ _ _ _=>b
  | _=>[]
def zj (s:Stmt):Scope:=match s with
  | .FunctionDef _ _ _ _ _ _ sc _ _ _=>sc
  | _=>{ kind:=.function,names:=[],isGenerator:=false,isCoroutine:=false }
abbrev CX0:CXT:=fun _ _ _ _ _ _=>False
abbrev E0:XK:=fun _ _ _=>False
theorem zoo {X:Cx}:zef CX0 X E0:=fun _ _ _ _ _ _ _ h=>h.elim
structure Fun (K:PySem.W.Frag) (x qual:Str) (st:Stmt) (f:Addr) (fd:FuncData):Prop where
  ex:∃(oc:Value) (od:Option Addr) (kV doc pm:Value) (an:Option Addr) (cdv ct:Value) (osl:Array (Option Value)),
    fd=PySem.W.fnOf x qual (zdn st) (zam st) (zj st) .none kV doc pm an cdv ct/\K.lookup f=some ⟨oc,od,.func fd,osl⟩/\PySem.W.codeIn K cdv qual=true
  kp:PySem.W.keepIn K (.ref f)=true
section
variable {P:Program}{w:World}{K:PySem.W.Frag}{mg:Str->Option Value}{base:Heap}
theorem Fun.ok {x qual:Str}{st:Stmt}{f:Addr}{fd:FuncData}{N ps:List Str}{k:Nat}{sp:Sp}(F:Fun K x qual st f fd) (S:FnScope N ps (zj st)) (len:∀vs H Q E,sp vs H Q E->vs.length=ps.length)
    (hbody:∀(cdv:Value) (A:Around) (outer:List Env) (s:Shared) (H:Hp) (vs:List V) (Q:VK) (E:XK),Room k (A.deeper (envOfC qual (zj st) s.heap.objs.size f cdv))->sp vs H Q E->
      ∃t,PSs (cxOf CX0 P w K mg base N qual (zj st) f cdv A outer s H E).nox (zam st) t/\t { nx:=fun _ H'=>Q .non H',rt:=Q } (zd5 N vs) H):FnOk P w K mg base CX0 (k+1) f fd ps sp:=by
  obtain⟨oc,od,kV,doc,pm,an,cdv,ct,osl,rfl,lk,hcd⟩:=F.ex
  refine zxp lk hcd S len fun A outer s H vs Q E hr hsp=>?_
  obtain⟨t,h,q⟩:=hbody cdv A outer s H vs Q E hr hsp
  exact⟨t,h.nox,q⟩
theorem zs0 {x qual:Str}{st:Stmt}{f:Addr}{oc:Value}{od an:Option Addr}{osl:Array (Option Value)}{kV doc pm cdv ct:Value}(l:K.lookup f=some ⟨oc,od,.func (PySem.W.fnOf x qual (zdn st) (zam st) (zj st) .none kV doc pm an cdv ct),osl⟩)
    (c:PySem.W.codeIn K cdv qual=true) (k:PySem.W.keepIn K (.ref f)=true):Fun K x qual st f (PySem.W.fnOf x qual (zdn st) (zam st) (zj st) .none kV doc pm an cdv ct):=⟨⟨oc,od,kV,doc,pm,an,cdv,ct,osl,rfl,l,c⟩,k⟩
end
theorem zkt {A:Around}{k:Nat}(hr:Room k A):A.units+1<cLine:=Nat.lt_of_le_of_lt (Nat.add_le_add_left (by decide:1<=64) _) hr.units
theorem zbe {n:Nat}(h:n<=1000):n<sizeLine:=Nat.lt_of_le_of_lt h (by decide)
section
variable {X:Cx}
theorem pv (i:Nat) {x:Str}{pos:Pos}(hN:X.N[i]? = some x:=by rfl) (hv:Vis X.env.scope x:=by first | exact Or.inl rfl | exact Or.inr (Or.inl rfl) | exact Or.inr (Or.inr rfl)) (hd:(x == ("__debug__" : Str))=false:=by decide)
    (hcd:(x == ("__classdict__" : Str))=false:=by decide):PE X (.Name x pos) (tVar i):=zvv hN hv hd hcd
end
theorem iteF {A B:Prop}(h:B):if false=true then A else B:=by
  rw[if_neg Bool.false_ne_true]
  exact h
theorem iteT {A B:Prop}(h:A):if true=true then A else B:=by
  rw[if_pos rfl]
  exact h
theorem ite2 {c A B:Prop} [Decidable c] (h1:c->A) (h2:¬c->B):if c then A else B:=by
  by_cases h:c
  · rw[if_pos h]
    exact h1 h
  · rw[if_neg h]
    exact h2 h
def Same (H H':Hp):Prop:=∀b o,H b=some o->H' b=some o
theorem Same.refl (H:Hp):Same H H:=fun _ _ h=>h
theorem Same.trans {H H1 H2:Hp}(a:Same H H1) (b:Same H1 H2):Same H H2:=fun c o h=>b c o (a c o h)
theorem Same.free {H H':Hp}(e:Same H H') {l:Addr}(h:H' l=Option.none):H l=Option.none:=by
  cases q:H l with
  | none=>rfl
  | some o=>
    rw[e l o q] at h
    cases h
theorem Same.seq {K:PySem.W.Frag}{H H':Hp}{a:Addr}{xs:List V}(e:Same H H') (h:SqL K H a xs):SqL K H' a xs:=by
  rcases h with (h | ⟨o,h⟩) | h
  · exact .inl (.inl (e _ _ h))
  · exact .inl (.inr ⟨o,e _ _ h⟩)
  · exact .inr h
def zbg (cells:List (Str×Addr)):List (Str×NameKind)->List (Str×Addr)->List (Str×Addr)
  | [],cs=>cs
  | (n,k)::r,cs=>zbg cells r (if (k == NameKind.free)=true then (match cells.lookup n with | some c=>(n,c)::cs | none=>cs) else cs)
theorem zcu {scope:Scope}{env:Env}(h:∀x∈scope.names,x.2 = .free->∃c,env.cells.lookup x.1=some c):closureFor scope env=pure (zbg env.cells scope.names []):=by
  unfold closureFor
  have go:∀(names:List (Str×NameKind)) (cs:List (Str×Addr)),(∀x∈names,x.2 = .free->∃c,env.cells.lookup x.1=some c)->
      (forIn names cs (fun (x:Str×NameKind) (r:List (Str×Addr))=>if (x.2 == NameKind.free)=true then (do let a ←cellOf env x.1;pure (ForInStep.yield ((x.1,a)::r))) else pure (ForInStep.yield r)):Sem (List (Str×Addr)))=pure (zbg env.cells names cs):=by
    intro names
    induction names with
    | nil=>intro cs _;rfl
    | cons x r ih=>
      intro cs hc
      obtain⟨n,k⟩:=x
      have hr:∀y∈r,y.2 = .free->∃c,env.cells.lookup y.1=some c:=fun y hy=>hc y (List.mem_cons_of_mem _ hy)
      rw[List.forIn_cons]
      cases e:(k == NameKind.free) with
      | true=>
        obtain⟨c,hl⟩:=hc (n,k) List.mem_cons_self (by simpa using e)
        have hl':env.cells.lookup n=some c:=hl
        have ec:cellOf env n=pure c:=by unfold cellOf;rw[hl']
        show (_ >>= _)=pure (zbg env.cells r (if (k == NameKind.free)=true then _ else _))
        rw[e,hl']
        simp only [if_true,ec,pure_bind]
        exact ih _ hr
      | false=>
        show (_ >>= _)=pure (zbg env.cells r (if (k == NameKind.free)=true then _ else _))
        rw[e]
        simp only [Bool.false_eq_true,if_false,pure_bind]
        exact ih _ hr
  exact (congrArg (· >>= fun r=>pure r) (go scope.names [] h)).trans (pure_bind _ _)
theorem zbf {α:Type}{y n:Str}{c:α}{r:List (Str×α)}(h:y=n):((n,c)::r).lookup y=some c:=by
  subst h;simp
theorem zaq {α:Type}{y n:Str}{c:α}{r:List (Str×α)}(h:¬y=n):((n,c)::r).lookup y=r.lookup y:=by
  rw[List.lookup_cons,beq_eq_false_iff_ne.mpr h]
theorem zfl {cells:List (Str×Addr)}{n:Str}{k:NameKind}{cs:List (Str×Addr)}(hs:∀y d,cs.lookup y=some d->cells.lookup y=some d) :
    ∀y d,(if (k == NameKind.free)=true then (match cells.lookup n with | some c=>(n,c)::cs | none=>cs) else cs).lookup y=some d->cells.lookup y=some d:=by
  intro y d h
  split at h
  · split at h
    · rename_i c hc
      by_cases hy:y=n
      · rw[zbf hy] at h
        rw[hy,hc];exact h
      · rw[zaq hy] at h
        exact hs y d h
    · exact hs y d h
  · exact hs y d h
theorem zci (cells:List (Str×Addr)):∀(names:List (Str×NameKind)) (cs:List (Str×Addr)),(∀y d,cs.lookup y=some d->cells.lookup y=some d)->
    ∀y d,(zbg cells names cs).lookup y=some d->cells.lookup y=some d
  | [],_,hs,y,d,h=>hs y d h
  | (n,k)::r,cs,hs,y,d,h=>zci cells r _ (zfl hs) y d h
theorem zd6 (cells:List (Str×Addr)) {x:Str}{c:Addr}(hc:cells.lookup x=some c):∀(names:List (Str×NameKind)) (cs:List (Str×Addr)),(∀y d,cs.lookup y=some d->cells.lookup y=some d)->
    ((x,NameKind.free)∈names\/cs.lookup x=some c)->(zbg cells names cs).lookup x=some c
  | [],_,_,h=>by
    rcases h with h | h
    · cases h
    · exact h
  | (n,k)::r,cs,hs,h=>by
    refine zd6 cells hc r _ (zfl hs) ?_
    by_cases hx:(x,NameKind.free)=(n,k)
    · cases hx
      right
      rw[if_pos (by rfl),hc]
      exact zbf rfl
    · rcases h with h | h
      · rcases List.mem_cons.mp h with h | h
        · exact absurd h hx
        · exact .inl h
      · right
        split
        · split
          · rename_i c' hc'
            by_cases hn:x=n
            · rw[zbf hn]
              rw[hn,hc'] at hc
              exact hc
            · rw[zaq hn];exact h
          · exact h
        · exact h
theorem zbp (env:Env) (x:Str):∀names:List (Str×NameKind),
    (names.map fun (n,k)=>if (k == NameKind.free&&env.scope.kind == .function&&env.kindOf n == some .cell) then (n,NameKind.cell) else (n,k)).lookup x =
      (names.lookup x).map fun k=>if (k == NameKind.free&&env.scope.kind == .function&&env.kindOf x == some .cell) then NameKind.cell else k
  | []=>rfl
  | (n,k)::r=>by
    have ih:=zbp env x r
    rw[List.map_cons]
    by_cases hx:x=n
    · subst hx
      rw[zbf rfl]
      show List.lookup x ((if (k == NameKind.free&&env.scope.kind == .function&&env.kindOf x == some .cell)=true then (x,NameKind.cell) else (x,k))::_)=some (if (k == NameKind.free&&env.scope.kind == .function&&env.kindOf x == some .cell)=true then NameKind.cell else k)
      by_cases hc:(k == NameKind.free&&env.scope.kind == .function&&env.kindOf x == some .cell)=true
      · rw[if_pos hc,if_pos hc];exact zbf rfl
      · rw[if_neg hc,if_neg hc];exact zbf rfl
    · rw[zaq hx,←ih]
      show List.lookup x ((if (k == NameKind.free&&env.scope.kind == .function&&env.kindOf n == some .cell)=true then (n,NameKind.cell) else (n,k))::_)=_
      by_cases hc:(k == NameKind.free&&env.scope.kind == .function&&env.kindOf n == some .cell)=true
      · rw[if_pos hc];exact zaq hx
      · rw[if_neg hc];exact zaq hx
theorem zc0 {scope:Scope}{env:Env}{x:Str}(h:scope.names.lookup x=some .free):(relabel scope env).names.lookup x=some .cell\/(relabel scope env).names.lookup x=some .free:=by
  have e:=zbp env x scope.names
  rw[h] at e
  have e':(relabel scope env).names.lookup x=some (if (NameKind.free == NameKind.free&&env.scope.kind == .function&&env.kindOf x == some .cell)=true then NameKind.cell else NameKind.free):=e
  rw[e']
  split
  · exact .inl rfl
  · exact .inr rfl
theorem zjb {scope:Scope}{env:Env}{x:Str}(nc:∀y∈scope.names,y.2≠.cell) (h:(relabel scope env).names.lookup x=some .cell\/(relabel scope env).names.lookup x=some .free):(x,NameKind.free)∈scope.names:=by
  have e:=zbp env x scope.names
  have e':(relabel scope env).names.lookup x=_:=e
  cases q:scope.names.lookup x with
  | none=>
    rw[q] at e'
    rw[e'] at h
    rcases h with h | h<;>cases h
  | some k=>
    rw[q] at e'
    have m:=PySem.mem_of_lookup q
    cases k with
    | free=>exact m
    | cell=>exact absurd rfl (nc _ m)
    | _=>
      rw[e'] at h
      rcases h with h | h<;>cases h
structure CompScope (scope osc:Scope) (cap:List Str):Prop where
  kind:scope.kind = .function
  nocell:∀y∈scope.names,y.2≠.cell
  loc:∀y∈scope.names,y.2 = .local->scope.names.lookup y.1=some .local
  free:∀y∈scope.names,y.2 = .free->osc.names.lookup y.1=some .cell\/osc.names.lookup y.1=some .free
  cap:∀x∈cap,scope.names.lookup x=some .free
def cxC (X:Cx) (N:List Str) (scope:Scope) (C:Addr) (s:Shared) (H:Hp) (ex:List Addr):Cx where
  prog:=X.prog
  w:=X.w
  K:=X.K
  mg:=X.mg
  base:=X.base
  A:=X.A
  N:=N
  s₀:=s
  H₀:=H
  env:=compEnvC scope (zbg X.env.cells scope.names []) C X.env
  outer:=X.stack
  stack:=X.stack
  ex:=ex
  fn:=fun _=>false
  calm:=X.calm
  pn:=[]
  xe:=fun _ _=>False
def st0 (own:List Str) (ix:List Nat) (σ:St):St:=own.map (fun _=>none)++ix.map fun i=>(σ[i]?).join
theorem zg9 {X:Cx}{pins:List (Addr×Obj)}{σ:St}{H:Hp}{s:Shared}{scope:Scope}{cap:List Str}(I:Inv X pins σ H s) (S:CompScope scope X.env.scope cap) :
    closureFor scope X.env=pure (zbg X.env.cells scope.names []):=
  zcu fun x hx hf=>I.ok.has x.1 (S.free x hx hf)
theorem zrd {X:Cx}{pins:List (Addr×Obj)}{σ:St}{H:Hp}{s:Shared}{scope:Scope}{own cap:List Str}{ix:List Nat}{fp:List Addr}{h₁:Heap}{m:Str->Option Value}{tk:Nat}
    (I:Inv X pins σ H s) (S:CompScope scope X.env.scope cap) (hix:ix.map (fun i=>X.N[i]?)=cap.map some) (hf:∀b∈fp,FpOk X pins H b) (hlt:∀b∈fp,b<s.heap.objs.size)
    (hn:h₁.Ns s.heap.objs.size m) (hk:∀b o,s.heap.get? b=some o->h₁.get? b=some o) :
    Inv (cxC X (own++cap) scope s.heap.objs.size s H fp) [] (st0 own ix σ) H { s with heap:=h₁,toks:=tk }:=by
  have sub:∀y d,(zbg X.env.cells scope.names []).lookup y=some d->X.env.cells.lookup y=some d:=zci _ _ _ (fun y d h=>by cases h)
  have has:∀y c,(y,NameKind.free)∈scope.names->X.env.cells.lookup y=some c->(zbg X.env.cells scope.names []).lookup y=some c:=fun y c hy hc=>zd6 _ hc _ _ (fun y d h=>by cases h) (.inl hy)
  have hlen:ix.length=cap.length:=by
    have:=congrArg List.length hix
    simpa using this
  refine⟨⟨I.mod,S.kind,I.ok.glob,I.ok.blt,Nat.le_refl _,fun x y c e1 e2=>I.ok.inj x y c (sub _ _ e1) (sub _ _ e2),fun x hx=>?_,fun x c z=>(by cases z),I.ok.hd,I.ok.frames,.inl rfl,fun b hb=>⟨Nat.ne_of_lt (hlt b hb),fun x c e=>(hf b hb).2.2.2.2.1 x c (sub _ _ e)⟩,I.bs,
      Nat.le_trans I.ok.bsz I.sz,fun b o e hb=>?_,fun b hb z=>?_,I.stack,I.stkFree⟩,rfl,I.bare,Un.kept hk,⟨m,hn,fun i x v e1 e2 e3=>?_⟩,fun x c e=>?_,I.hok.fresh (Nat.le_refl _),fun x c e=>I.freeC x c (sub _ _ e),fun p hp=>absurd (show p∈([]:List (Addr×Obj)) from hp) (by simp),I.hok.kept hk,?_⟩
  · have m':=zjb (env:=X.env) S.nocell hx
    obtain⟨c,hc⟩:=I.ok.has x (S.free _ m' rfl)
    exact⟨c,has x c m' hc⟩
  · obtain⟨f0,f1,f2,f3,f4,f5⟩:=hf b hb
    rcases f3 with z | z
    · exact I.ok.noex b o e z
    · exact absurd (Nat.lt_of_lt_of_le (Nat.lt_of_lt_of_le (Heap.lt_size e) I.ok.bsz) z) (Nat.lt_irrefl _)
  · obtain⟨f0,f1,f2,f3,f4,f5⟩:=hf b hb
    rcases List.mem_cons.mp (I.stkSub b z) with z | z
    · exact f1 z
    · exact f2 z
  · have e1:(own++cap)[i]? = some x:=e1
    unfold st0 at e2
    by_cases hi:i<own.length
    · rw[List.getElem?_append_left (by simpa using hi),List.getElem?_map] at e2
      cases q:own[i]? with
      | none=>rw[q] at e2;cases e2
      | some y=>rw[q] at e2;cases e2
    · rw[List.getElem?_append_right (by simpa using hi)] at e1
      rw[List.getElem?_append_right (by simpa using hi),List.length_map,List.getElem?_map] at e2
      generalize i-own.length=j at e1 e2
      cases q:ix[j]? with
      | none=>rw[q] at e2;cases e2
      | some k=>
        rw[q] at e2
        have e2:(σ[k]?).join=some v:=Option.some.inj e2
        have eσ:σ[k]? = some (some v):=by
          cases q2:σ[k]? with
          | none=>rw[q2] at e2;cases e2
          | some o=>rw[q2] at e2;exact congrArg some e2
        have eN:X.N[k]? = some x:=by
          have:=congrArg (fun l=>l[j]?) hix
          simp only [List.getElem?_map,q,e1,Option.map_some] at this
          exact Option.some.inj this
        have hfr:=S.cap x (List.mem_of_getElem? e1)
        have hmem:=PySem.mem_of_lookup hfr
        have hout:=S.free _ hmem rfl
        obtain⟨m0,hn0,hl⟩:=I.loc
        obtain⟨u,r,l⟩:=hl k x v eN eσ (.inr hout)
        rcases l with ⟨kd,_⟩ | ⟨kd,c,e,z⟩
        · have kd:X.env.scope.names.lookup x=some .local:=kd
          rcases hout with ho | ho<;>(have ho:X.env.scope.names.lookup x=_:=ho;rw[kd] at ho;cases ho)
        · exact⟨u,r,.inr ⟨zc0 hfr,c,has x c hmem e,z.keeps hk⟩⟩
  · obtain⟨v,q⟩:=I.cell x c (sub _ _ e)
    exact⟨v,q.keeps hk⟩
  · show (st0 own ix σ).length=(own++cap).length
    unfold st0
    simp[hlen]
theorem zre {X:Cx}{pins:List (Addr×Obj)}{σ σ':St}{H H':Hp}{s s':Shared}{scope:Scope}{N:List Str}{fp:List Addr}{h':Heap}
    (I:Inv X pins σ H s) (hf:∀b∈fp,FpOk X pins H b) (J:Inv (cxC X N scope s.heap.objs.size s H fp) [] σ' H' s') (hs:Heap.SameBut s.heap.objs.size s'.heap h'):Inv X pins σ H' { s' with heap:=h' }:=by
  have ne:∀b o,s.heap.get? b=some o->b≠s.heap.objs.size:=fun b o e=>Nat.ne_of_lt (Heap.lt_size e)
  have B:Un (frs X.stack) fp H H' s.heap s'.heap:=J.base
  refine I.call' (s':={ s' with heap:=h' }) (ch:=fp) J.os ⟨fun b o e n hb hx=>?_,fun b o e n hb hx=>?_,B.free,fun b o e hx=>?_,B.tups,B.frzs,B.tbls⟩ (fun b ob e=>?_) J.bare fun b hb=>?_
  · exact (hs.2 b (ne b o e)).trans (B.keep b o e n hb hx)
  · obtain⟨sl,e1⟩:=B.slot b o e n hb hx
    exact⟨sl,(hs.2 b (ne b o e)).trans e1⟩
  · obtain⟨o',e1⟩:=B.there b o e hx
    exact⟨o',(hs.2 b (ne b o e)).trans e1⟩
  · have fr:H' s.heap.objs.size=none:=J.free
    refine (J.hok b ob e).stay (fun c w' hc q=>(hs.2 c ?_).trans q) (fun _ q=>q) fun _ _ q=>q
    rintro rfl
    rcases hc with hc | hc
    · rw[←hc,fr] at e;cases e
    · rw[fr] at hc;cases hc
  · obtain⟨f0,f1,f2,f3,f4,f5⟩:=hf b hb
    exact⟨f3,f1,f4,f5⟩
def PIf (X:Cx) (ifs:List Expr) (t:TT):Prop:=
  ∀(pins:List (Addr×Obj)) (s:Shared) (σ:St) (H:Hp) (Q:Bool->Hp->Prop),Inv X pins σ H s->t σ H Q->
    wpAny (model X.prog X.w) X.A (forIn ifs true fun c r=>if r=true then do let ok ←isTrue c X.env (eval c X.env);pure (ForInStep.yield ok) else pure (ForInStep.yield r)) (TP X pins σ Q) X.xe s
def tYes:TT:=fun _ H Q=>Q true H
theorem zbw {X:Cx}:PIf X [] tYes:=fun _ s σ H Q I h=>wpAny_tests_nil ⟨H,I,h⟩
theorem zku {X:Cx}{c:Expr}{t:TT}(h:PT X c t):PIf X [c] t:=fun pins s σ H Q I hw=>wpAny_tests_one (h pins s σ H Q I hw)
theorem zb3 {prog:Program}{w:World}{A:Around}{R:Result->Shared->Prop}{s:Shared}{elt target iter:Expr}{ifs:List Expr}{scope:Scope}{pos:Pos}{it acc:Value}{env:Env}(I:Nat->Shared->Prop)
    (turn:∀n s,I n s->wpAny (model prog w) A (pyNext it) (fun r s₁=>match r with
      | none=>R (.ok .next) s₁
      | some v=>wpAny (model prog w) A (letOwnedTupleGo target it v) (fun _ s₁'=>wpAny (model prog w) A (assign target env v) (fun _ s₂=>
          wpAny (model prog w) A (forIn ifs true fun c r=>if r=true then do let ok ←isTrue c env (eval c env);pure (ForInStep.yield ok) else pure (ForInStep.yield r)) (fun ok s₃=>
            if ok=true then wpAny (model prog w) A (eval elt env) (fun x s₄=>
              wpAny (model prog w) A (call (.builtin "list.append") [acc,x]) (fun _ s₅=>∃m,m<n/\I m s₅) (notedBy (model prog w) A env fun e s'=>R (.error e) s') s₄) (notedBy (model prog w) A env fun e s'=>R (.error e) s') s₃
            else ∃m,m<n/\I m s₃) (notedBy (model prog w) A env fun e s'=>R (.error e) s') s₂) (notedBy (model prog w) A env fun e s'=>R (.error e) s') s₁') (notedBy (model prog w) A env fun e s'=>R (.error e) s') s₁) (notedBy (model prog w) A env fun e s'=>R (.error e) s') s)
    (n:Nat) (h:I n s):codeAny (model prog w) A (.compLoop (.ListComp elt [⟨target,iter,ifs,0⟩] scope pos) 0 it acc env) R s:=by
  refine codeAny_loop rfl I (fun n s hI=>?_) n h
  show wpAny _ A ((compTurn (.ListComp elt [⟨target,iter,ifs,0⟩] scope pos) 0 it acc env).onRaise (fun x=>do noteFrame x env;theTreesLotGoes x)) _ _ s
  refine wpAny_noted ?_
  rw[compTurn_list]
  refine wpAny_bind (wpAny_standAt (wpAny_bind (wpAny_mono (turn n s hI) (fun r s₁ h₁=>?_) fun _ _ h'=>h')))
  cases r with
  | none=>exact wpAny_pure h₁
  | some v=>
    refine wpAny_bind (wpAny_mono h₁ (fun _ s₁' h₁'=>?_) fun _ _ h'=>h')
    refine wpAny_bind (wpAny_mono h₁' (fun _ s₂ h₂=>wpAny_bind (wpAny_mono h₂ (fun ok s₃ h₃=>?_) fun _ _ h'=>h')) fun _ _ h'=>h')
    cases ok with
    | false=>exact wpAny_pure ⟨rfl,h₃⟩
    | true=>
      exact wpAny_bind (wpAny_bind (wpAny_mono h₃ (fun x s₄ h₄=>wpAny_bind (wpAny_mono h₄ (fun _ s₅ h₅=>wpAny_pure (wpAny_pure ⟨rfl,h₅⟩)) fun _ _ h'=>h')) fun _ _ h'=>h'))
def zkv (own:List Str) (ix:List Nat) (J:It) (g:TG) (tc:TT) (te:TE) (σ:St) (H1:Hp) (D:Addr) (Q:VK):Prop:=
  ∃W:Nat->Nat->St->List V->Hp->Prop,(∃m,W 0 m (st0 own ix σ) [] (upd H1 D (.lst [])))/\∀i m σ' ys H',W i m σ' ys H'->H' D=some (.lst ys)/\
    ((J.stop i H'/\Q (.ref D) H')\/(J.go i H'/\ys.length<sizeLine/\∀x H2,J.yld i H' x H2->g x σ' H2 fun σ3 H3=>tc σ3 H3 fun b H4=>
      if b=true then te σ3 H4 fun y H5=>H5 D=some (.lst ys)/\∃m',m'<m/\W (i+1) m' σ3 (ys++[y]) (upd H5 D (.lst (ys++[y]))) else H4 D=some (.lst ys)/\∃m',m'<m/\W (i+1) m' σ3 ys H4))
def zrf (own:List Str) (ix:List Nat) (wi:TI) (g:TG) (tc:TT) (te:TE):TE:=fun σ H Q=>wi σ H fun J H1=>∀D,H1 D=none->zkv own ix J g tc te σ H1 D Q
section
variable {X:Cx}{tg iter elt:Expr}{ifs:List Expr}{scope:Scope}{pos:Pos}{own cap:List Str}{ix:List Nat}{wi:TI}{g:TG}{tc:TT}{te:TE}
theorem zlv {pins:List (Addr×Obj)}{σ:St}{s:Shared}{E:Value->Shared->Prop}{RR:Value->Addr->Result->Shared->Prop}{Q:VK}
    (hc:X.calm=true) (S:CompScope scope X.env.scope cap) (hix:ix.map (fun i=>X.N[i]?)=cap.map some)
    (hg:∀C s H ex,PG (cxC X (own++cap) scope C s H ex) tg g) (ht:∀C s H ex,PIf (cxC X (own++cap) scope C s H ex) ifs tc) (he:∀C s H ex,PE (cxC X (own++cap) scope C s H ex) elt te)
    {itv:Value}(h:PIE X pins σ tg (fun J H1=>∀D,H1 D=none->zkv own ix J g tc te σ H1 D Q) itv s)
    (hR:∀(D C:Addr) (s':Shared) (H':Hp) (m:Str->Option Value),s'.heap.Ns C m->FpOk X pins H' C->(∀h',Heap.SameBut C s'.heap h'->Inv X pins σ H' { s' with heap:=h' })->Q (.ref D) H'->RR (.ref D) C (.ok .next) s') :
    wpAny (model X.prog X.w) X.A (newList []) (fun acc s₃=>wpAny (model X.prog X.w) X.A (newFunctionEnv scope X.env.globals (zbg X.env.cells scope.names []) [] X.env.qual none .none (some X.env)) (fun cenv s₄=>
      codeAny (model X.prog X.w) X.A (.compStart (.ListComp elt [⟨tg,iter,ifs,0⟩] scope pos) 0 itv acc { cenv with scope:=relabel scope X.env }) (RR acc cenv.locals) s₄) E s₃) E s:=by
  obtain⟨it,fp,tn,J,H2,rfl,I2,T,st2,f2,q2⟩:=h
  refine wpAny_newObj_type (wpAny_newFunctionEnv S.nocell (by intro y hy;simp at hy) (fun h₁ hns₁ hsb₁=>?_) S.kind)
  dsimp only at hns₁ hsb₁ ⊢
  have hD:H2 s.heap.objs.size=none:=I2.hok.fresh (Nat.le_refl _)
  obtain⟨W,⟨m0,w0⟩,turn⟩:=q2 s.heap.objs.size hD
  have I3:Inv X pins σ (upd H2 s.heap.objs.size (.lst [])) { s with heap:=s.heap.push { cls:=.type "list",data:=.seq ([]:List Value).toArray } }:=I2.lnew (t':=s.toks) (its:=[]) .nil (Nat.zero_le _)
  have ltD:∀b∈fp,b<s.heap.objs.size:=fun b hb=>by
    obtain⟨o,e,_⟩:=T.obj 0 _ st2 b hb
    exact Heap.lt_size e
  have f3:∀b∈fp,FpOk X pins (upd H2 s.heap.objs.size (.lst [])) b:=fun b hb=>⟨by rw[zn (Nat.ne_of_lt (ltD b hb))];exact (f2 b hb).1,(f2 b hb).2⟩
  generalize hH:s.heap.push { cls:=.type "list",data:=.seq ([]:List Value).toArray } = H3 at I3 hns₁ hsb₁ ⊢
  have sz:H3.objs.size=s.heap.objs.size+1:=by rw[←hH,Heap.size_push]
  have up:∀b o,H3.get? b=some o->h₁.get? b=some o:=fun b o e=>hsb₁.extBut b o (Nat.ne_of_lt (Heap.lt_size e)) (Heap.get?_push_of_some _ e)
  have old:∀b o,s.heap.get? b=some o->h₁.get? b=some o:=fun b o e=>up b o (by rw[←hH];exact Heap.get?_push_of_some _ e)
  have lt3:∀b∈fp,b<({ s with heap:=H3 }:Shared).heap.objs.size:=fun b hb=>by show b<H3.objs.size;rw[sz];exact Nat.lt_succ_of_lt (ltD b hb)
  have st4:tn 0 h₁:=T.keep _ _ _ st2 fun b _ o e=>old b o e
  have stat:∀{H':Hp},(∀b∈fp,H' b=none)->∀b∈fp,FpOk (cxC X (own++cap) scope H3.objs.size { s with heap:=H3 } (upd H2 s.heap.objs.size (.lst [])) fp) [] H' b:=fun hn b hb=>
    ⟨hn b hb,Nat.ne_of_lt (lt3 b hb),fun z=>(List.mem_cons.mp (I3.stkSub b z)).elim (f2 b hb).2.1 (f2 b hb).2.2.1,.inl hb,fun x c e=>(f2 b hb).2.2.2.2.1 x c (zci _ _ _ (fun y d h=>by cases h) _ _ e),fun p hp=>absurd (show p∈([]:List (Addr×Obj)) from hp) (by simp)⟩
  have loop:∀s₄:Shared,s₄ = { s with heap:=h₁,toks:=s.toks+([]:List (Str×Value)).length }->
      codeAny (model X.prog X.w) X.A (.compLoop (.ListComp elt [⟨tg,iter,ifs,0⟩] scope pos) 0 (.ref it) (.ref s.heap.objs.size) (compEnvC scope (zbg X.env.cells scope.names []) H3.objs.size X.env))
        (RR (.ref s.heap.objs.size) H3.objs.size) s₄:=by
    rintro s₄ rfl
    have I4:=zrd (own:=own) (fp:=fp) (tk:=s.toks+([]:List (Str×Value)).length) I3 S hix f3 lt3 hns₁ up
    refine zb3 (fun n s'=>∃i σ' ys H',Inv (cxC X (own++cap) scope H3.objs.size { s with heap:=H3 } (upd H2 s.heap.objs.size (.lst [])) fp) [] σ' H' s'/\tn i s'.heap/\(∀b∈fp,H' b=none)/\W i n σ' ys H') ?_ m0
      ⟨0,_,[],_,I4,st4,fun b hb=>(f3 b hb).1,w0⟩
    rintro n s5 ⟨i,σ5,ys,H5,I5,st5,fr5,w5⟩
    obtain⟨hD5,turn5⟩:=turn i n σ5 ys H5 w5
    rcases turn5 with ⟨stop,q⟩ | ⟨go,hz,step⟩
    · refine thn (T.done (cxC X (own++cap) scope H3.objs.size { s with heap:=H3 } (upd H2 s.heap.objs.size (.lst [])) fp) rfl rfl rfl hc i [] s5 σ5 H5 _ I5 (stat fr5) st5 stop) fun r s6 hq0=>?_
      obtain⟨hr,I6⟩:=hq0
      subst hr
      obtain⟨m6,hn6,_⟩:=I6.loc
      exact hR _ _ s6 H5 m6 hn6 (I3.fpOk (Nat.le_refl _) I6.free) (fun h' hs=>zre I3 f3 I6 hs) q
    · refine thn (T.item (cxC X (own++cap) scope H3.objs.size { s with heap:=H3 } (upd H2 s.heap.objs.size (.lst [])) fp) rfl rfl rfl hc i [] s5 σ5 H5 _ I5 (stat fr5) st5 go) fun r s6 hq0=>?_
      obtain⟨u,hr,h6⟩:=hq0
      subst hr
      refine thn h6 fun _ s7 hq0=>?_
      obtain⟨x,H7,I7,r7,y7,st7,fr7⟩:=hq0
      have I7':=I7.pinned (stat fr7) (T.obj _ _ st7)
      refine wpAny_mono (hg _ _ _ _ _ s7 σ5 H7 x u _ I7' r7 (step x H7 y7)) (fun _ s8 hq0=>?_) fun _ _ z=>False.elim z
      obtain⟨σ8,H8,I8,q8⟩:=hq0
      refine wpAny_mono (ht _ _ _ _ _ s8 σ8 H8 _ I8 q8) (fun ok s9 hq0=>?_) fun _ _ z=>False.elim z
      obtain⟨H9,I9,q9⟩:=hq0
      have again:∀{s':Shared}{σ':St}{H':Hp}{ys':List V}{m':Nat},Inv (cxC X (own++cap) scope H3.objs.size { s with heap:=H3 } (upd H2 s.heap.objs.size (.lst [])) fp) ([]++zg4 fp s7.heap) σ' H' s'->m'<n->W (i+1) m' σ' ys' H'->
          ∃m,m<n/\∃i σ' ys H',Inv (cxC X (own++cap) scope H3.objs.size { s with heap:=H3 } (upd H2 s.heap.objs.size (.lst [])) fp) [] σ' H' s'/\tn i s'.heap/\(∀b∈fp,H' b=none)/\W i m σ' ys H':=fun {s' σ' H' ys' m'} I' hm w'=>by
        refine⟨m',hm,i+1,σ',ys',H',I'.unpinned,T.keep _ _ _ st7 fun b hb o e=>(I'.pin (b,o) (List.mem_append_right _ (List.mem_append_right _ (zb5 hb e)))).1,fun b hb=>?_,w'⟩
        obtain⟨o,e,d⟩:=T.obj _ _ st7 b hb
        exact (I'.pin (b,o) (List.mem_append_right _ (List.mem_append_right _ (zb5 hb e)))).2.1
      cases ok with
      | false=>
        rw[if_neg Bool.false_ne_true] at q9 ⊢
        obtain⟨_,m',hm,w'⟩:=q9
        exact again I9 hm w'
      | true=>
        rw[if_pos rfl] at q9 ⊢
        refine wpAny_mono (he _ _ _ _ _ s9 σ8 H9 _ I9 q9) (fun v s10 hq0=>?_) fun _ _ z=>False.elim z
        obtain⟨y,H10,I10,r10,hD10,m',hm,w'⟩:=hq0
        refine wpAny_mono (zbu (X:=cxC X (own++cap) scope H3.objs.size { s with heap:=H3 } (upd H2 s.heap.objs.size (.lst [])) fp) _ s10 σ8 H10 (.ref s.heap.objs.size) [y] (.ref s.heap.objs.size) [v] (fun _ H'=>H'=upd H10 s.heap.objs.size (.lst (ys++[y]))) I10 rfl (.cons r10 .nil) ⟨_,ys,y,rfl,rfl,hD10,hz,rfl⟩)
          (fun _ s11 ⟨_,H11,I11,_,e11⟩=>?_) fun _ _ z=>False.elim z
        subst e11
        exact again I11 hm w'
  exact codeAny_compStart_list (loop _ rfl) (T.self _ 0 _ _ _ st4 (loop _ rfl))
theorem zcc {osc:Scope}(hc:X.calm=true) (S':CompScope scope osc cap) (hix:ix.map (fun i=>X.N[i]?)=cap.map some) (hi:PI X tg iter wi)
    (hg:∀C s H ex,PG (cxC X (own++cap) scope C s H ex) tg g) (ht:∀C s H ex,PIf (cxC X (own++cap) scope C s H ex) ifs tc) (he:∀C s H ex,PE (cxC X (own++cap) scope C s H ex) elt te)
    (hs:∀x,foldedSetIterable iter X.env x=pure x:=by intro _;rfl) (ho:X.env.scope=osc:=by rfl):PE X (.ListComp elt [⟨tg,iter,ifs,0⟩] scope pos) (zrf own ix wi g tc te):=by
  have S:CompScope scope X.env.scope cap:=ho▸S'
  intro pins s σ H Q I h
  rw[eval_ListComp]
  refine wpAny_comprehension_free (use:=none) rfl hs (zg9 I S) S.kind S.loc (thn (hi pins s σ H _ I h) fun xv s₁ h₁=>thn h₁ fun itv s₂ h₂=>?_)
  refine zlv (RR:=fun acc C=>compPost (model X.prog X.w) X.A X.xe none (EP X pins σ Q) acc C) hc S hix hg ht he h₂ fun D C s' H' m hn _ hI q=>?_
  exact⟨m,hn,fun h' hs'=>⟨.ref D,H',hI h' hs',rfl,q⟩⟩
theorem zht {osc:Scope}{i:Nat}{y:Str}{py spos:Pos}(hc:X.calm=true) (hN:X.N.Nodup) (hi':X.N[i]? = some y) (hy:X.env.scope.names.lookup y=some .local)
    (hsw:swapsWith (.ListComp elt [⟨tg,iter,ifs,0⟩] scope pos) (some (.Name y py)) spos.line X.env=pure true) (S':CompScope scope osc cap) (hix:ix.map (fun i=>X.N[i]?)=cap.map some) (hi:PI X tg iter wi)
    (hg:∀C s H ex,PG (cxC X (own++cap) scope C s H ex) tg g) (ht:∀C s H ex,PIf (cxC X (own++cap) scope C s H ex) ifs tc) (he:∀C s H ex,PE (cxC X (own++cap) scope C s H ex) elt te)
    (hs:∀x,foldedSetIterable iter X.env x=pure x:=by intro _;rfl) (ho:X.env.scope=osc:=by rfl):PS X (.Assign [.Name y py] (.ListComp elt [⟨tg,iter,ifs,0⟩] scope pos) spos) (tAsg (zrf own ix wi g tc te) (za6 i)):=by
  have S:CompScope scope X.env.scope cap:=ho▸S'
  intro pins s σ H D I h
  rw[exec_Assign_Name_used _ _ _ _ hsw]
  refine wpAny_bind (wpAny_standAt (wpAny_bind ?_))
  show wpAny _ X.A (do let _ ←comprehension (.ListComp elt [⟨tg,iter,ifs,0⟩] scope pos) scope X.env _ (newList []) false (eval iter X.env) (some (assign (.Name y py) X.env))) _ _ s
  refine wpAny_bind (wpAny_mono (wpAny_comprehension_free (use:=some (assign (.Name y py) X.env)) (Q:=fun _ s'=>SP X pins D .next s') rfl hs (zg9 I S) S.kind S.loc
    (thn (hi pins s σ H _ I h) fun xv s₁ h₁=>thn h₁ fun itv s₂ h₂=>?_)) (fun _ s' hq=>wpAny_pure (wpAny_pure hq)) fun _ _ e=>e)
  refine zlv (RR:=fun acc C=>compPost (model X.prog X.w) X.A X.xe (some (assign (.Name y py) X.env)) (fun _ s'=>SP X pins D .next s') acc C) hc S hix hg ht he h₂ fun D' C s' H' m hn hF hI q=>?_
  show wpAny _ X.A (assign (.Name y py) X.env (.ref D')) _ _ _
  have I':Inv X pins σ H' s':=hI s'.heap (Heap.SameBut.refl ..)
  refine wpAny_assign_Name (zix I' hN hi' (.inl hy) (v:=.ref D') rfl (fun s'' I'' hq0=>?_) (.inr hy))
  obtain⟨a,hs'',ha⟩:=hq0
  obtain⟨f0,f1,f2,f3,f4,f5⟩:=hF
  have hCa:C≠a:=by
    rcases ha with ha | ha
    · rw[ha];exact f1
    · exact fun z=>f4 _ _ ha z.symm
  exact⟨m,hn.sameBut hs'' hCa,fun h' hs'=>⟨_,H',I''.turned (t':=s''.toks) (fun b o hb e=>(hs'.2 b hb).trans e) f0 f1 f3 f4 f5,q⟩⟩
end
structure Fix (J:It) (xs:List V) (P:Hp->Prop):Prop where
  go:∀i H,P H->i<xs.length->J.go i H
  yld:∀i H x H',P H->J.yld i H x H'->H'=H/\(i<xs.length->xs[i]? = some x)
  stop:∀i H,P H->xs.length<=i->J.stop i H
theorem zby {K:PySem.W.Frag}{a:Addr}{xs:List V}:Fix (Itl K a) xs (fun H=>SqL K H a xs):=
  ⟨fun i H h hi=>⟨xs,xs[i],h,by simp[hi]⟩,fun i H x H' h y=>⟨y.1,fun _=>y.2 xs h⟩,fun i H h hi=>⟨xs,h,hi⟩⟩
theorem zua {K:PySem.W.Frag}{a:Addr}{xs:List V}:Fix (Itt K a) xs (fun H=>SqT K H a xs):=
  ⟨fun i H h hi=>⟨xs,xs[i],h,by simp[hi]⟩,fun i H x H' h y=>⟨y.1,fun _=>y.2 xs h⟩,fun i H h hi=>⟨xs,h,hi⟩⟩
theorem zub {lo:Int}{n:Nat}:Fix (Itr lo n) ((List.range n).map fun i=>V.int (lo+(i:Nat))) (fun _=>True):=
  ⟨fun i H h hi=>by show i<n;simpa using hi,fun i H x H' h y=>⟨y.1,fun hi=>by
    have hi':i<n:=by simpa using hi
    rw[List.getElem?_map,List.getElem?_range hi',y.2];rfl⟩,fun i H h hi=>by show n<=i;simpa using hi⟩
theorem zfm {J:It}{xs:List V}{P:Hp->Prop}{own:List Str}{ix:List Nat}{tc:TT}{te:TE}{σ:St}{H1:Hp}{D:Addr}{Q:VK}(F:Fix J xs P) (p:V->Bool) (f:V->V)
    (hP:∀ys,P (upd H1 D (.lst ys))) (hz:xs.length<=sizeLine)
    (ht:∀x∈xs,∀ys (Q':Bool->Hp->Prop),Q' (p x) (upd H1 D (.lst ys))->tc ((st0 own ix σ).set 0 (some x)) (upd H1 D (.lst ys)) Q')
    (he:∀x∈xs,p x=true->∀ys (Q':VK),Q' (f x) (upd H1 D (.lst ys))->te ((st0 own ix σ).set 0 (some x)) (upd H1 D (.lst ys)) Q')
    (hQ:Q (.ref D) (upd H1 D (.lst ((xs.filter p).map f)))):zkv own ix J (za6 0) tc te σ H1 D Q:=by
  refine⟨fun i m σ' ys H'=>m=xs.length-i/\i<=xs.length/\(∀z,σ'.set 0 z=(st0 own ix σ).set 0 z)/\ys=((xs.take i).filter p).map f/\H'=upd H1 D (.lst ys),
    ⟨xs.length,by simp,Nat.zero_le _,fun _=>rfl,by simp,rfl⟩,?_⟩
  rintro i m σ' ys H' ⟨rfl,hi,hσ,rfl,rfl⟩
  refine⟨zb,?_⟩
  by_cases hlt:i<xs.length
  · refine .inr ⟨F.go i _ (hP _) hlt,?_,fun x H2 y=>?_⟩
    · rw[List.length_map]
      have h1:((xs.take i).filter p).length<=(xs.take i).length:=List.length_filter_le _ _
      rw[List.length_take] at h1
      omega
    · obtain⟨e,y'⟩:=F.yld i _ x H2 (hP _) y
      subst e
      have hx:=y' hlt
      have hm:x∈xs:=List.mem_of_getElem? hx
      have tk:=take_succ_filter p xs i x hx
      show tc (σ'.set 0 (some x)) _ _
      rw[hσ]
      refine ht x hm _ _ ?_
      have σσ:∀z,((st0 own ix σ).set 0 (some x)).set 0 z=(st0 own ix σ).set 0 z:=fun z=>List.set_set ..
      cases hp:p x with
      | true=>
        rw[if_pos rfl]
        refine he x hm hp _ _ ⟨zb,xs.length-(i+1),by omega,rfl,hlt,σσ,?_,?_⟩
        · rw[tk,hp];simp
        · rw[zti]
      | false=>
        rw[if_neg Bool.false_ne_true]
        refine⟨zb,xs.length-(i+1),by omega,rfl,hlt,σσ,?_,?_⟩
        · rw[tk,hp];simp
        · rfl
  · have e:i=xs.length:=by omega
    subst e
    refine .inl ⟨F.stop _ _ (hP _) (Nat.le_refl _),?_⟩
    rw[List.take_length]
    exact hQ
def sg (c:Nat):V:=.str ⟨#[c]⟩
def Its (x:Str):It:=⟨fun i _=>i<x.length,fun i H v H'=>H'=H/\∃c,x.cps.toList[i]? = some c/\v=sg c,fun i _=>x.length<=i⟩
theorem zuc {x:Str}:Fix (Its x) (x.cps.toList.map sg) (fun _=>True):=by
  have hl:x.cps.toList.length=x.length:=by simp[Str.length]
  refine⟨fun i H _ hi=>?_,fun i H v H' _ y=>⟨y.1,fun _=>?_⟩,fun i H _ hi=>?_⟩
  · rw[List.length_map,hl] at hi;exact hi
  · obtain⟨_,c,hc,rfl⟩:=y
    rw[List.getElem?_map,hc];rfl
  · rw[List.length_map,hl] at hi;exact hi
theorem zlw {P:Program}{w:World}{K:PySem.W.Frag}{tg:Expr}(it:Addr) (x:Str) (t:Tok) (ty:String)
    (hty : ["enumerate","zip","dict_itemiterator","dict_reverseitemiterator","odict_iterator","itertools.zip_longest","itertools.pairwise"].contains ty=false)
    (hi:∀{A:Around}{E:Value->Shared->Prop}{s:Shared}{i c:Nat}{Q:Option Value->Shared->Prop},s.heap.IsStrIter it ty x t i->x.cps[i]? = some c->
      (∀h',h'.IsStrIter it ty x t (i+1)->Heap.SameBut it s.heap h'->Q (some (.str ⟨#[c]⟩ s.toks)) { s with heap:=h',toks:=s.toks+1 })->wpAny (model P w) A (pyNext (.ref it)) Q E s)
    (hd:∀{A:Around}{E:Value->Shared->Prop}{s:Shared}{i:Nat}{Q:Option Value->Shared->Prop},A.handled=none->s.heap.IsStrIter it ty x t i->x.cps[i]? = none->
      (∀h',Heap.ExtBut it s.heap h'->Q none { s with heap:=h' })->wpAny (model P w) A (pyNext (.ref it)) Q E s)
    (hs:∀{A:Around}{E:Value->Shared->Prop}{s:Shared}{i:Nat}{Q:Value->Shared->Prop},s.heap.IsStrIter it ty x t i->Q (.ref it) s->wpAny (model P w) A (pyIter (.ref it)) Q E s) :
    Turn P w K tg (Its x) [it] it (fun i h=>h.IsStrIter it ty x t i) where
  mem:=by simp
  obj:=fun i h st b hb=>by
    have e:b=it:=by simpa using hb
    subst e
    obtain⟨o,e,c,d⟩:=st
    exact⟨o,e,fun v z=>by rw[d] at z;cases z⟩
  keep:=fun i h h' st k=>let ⟨o,ho,r⟩:=st;⟨o,k it (by simp) o ho,r⟩
  item:=by
    intro X hP hw hK hc i pins s σ H E I hf st hg
    subst hP hw hK
    obtain⟨f0,f1,f2,f3,f4,f5⟩:=hf it (by simp)
    have hg:i<x.cps.size:=hg
    refine hi st (c:=x.cps[i]) (by simp[hg]) fun h' st' sb=>?_
    have I1:Inv X pins σ H { s with heap:=h',toks:=s.toks+1 }:=I.turned (fun b o hb e=>(sb.2 b hb).trans e) f0 f1 f3 f4 f5
    obtain⟨o,e,c,d⟩:=id st'
    exact⟨_,rfl,zmn (s:={ s with heap:=h',toks:=s.toks+1 }) e c d hty ⟨sg x.cps[i],H,I1,⟨_,rfl⟩,⟨rfl,x.cps[i],by simp[hg],rfl⟩,st',fun b hb=>(hf b hb).1⟩⟩
  done:=by
    intro X hP hw hK hc i pins s σ H E I hf st hg
    subst hP hw hK
    obtain⟨f0,f1,f2,f3,f4,f5⟩:=hf it (by simp)
    have hg:x.cps.size<=i:=hg
    exact hd (I.ok.hd hc) st (by simpa using hg) fun h' eb=>⟨rfl,I.turned (t':=s.toks) (fun b o hb e=>eb b o hb e) f0 f1 f3 f4 f5⟩
  self:=fun _ _ _ _ _ st h=>hs st h
def iStr (tl:TE):TI:=fun σ H R=>tl σ H fun v H1=>∃x,v = .str x/\R (Its x) H1
theorem zwi {X:Cx}{tg l:Expr}{tl:TE}(hl:PE X l tl):PI X tg l (iStr tl):=by
  intro pins s σ H R I h
  refine thn (hl pins s σ H _ I h) fun v s1 hq0=>?_
  obtain⟨y,H1,I1,r1,q1⟩:=hq0
  obtain⟨x,rfl,q⟩:=q1
  obtain⟨t,rfl⟩:=r1
  have fin:∀(ty:String),(Turn X.prog X.w X.K tg (Its x) [s1.heap.objs.size] s1.heap.objs.size (fun i h=>h.IsStrIter s1.heap.objs.size ty x t i))->
      PIE X pins σ tg R (.ref s1.heap.objs.size) { s1 with heap:=s1.heap.push { cls:=.type ty,data:=.fields #[.str x t,.int 0 0] } }:=fun ty T=>by
    refine⟨s1.heap.objs.size,[s1.heap.objs.size],_,_,H1,rfl,I1.kept (t':=s1.toks) fun b o e=>Heap.get?_push_of_some _ e,T,⟨_,Heap.get?_push_size _ rfl,rfl,rfl⟩,fun b hb=>?_,q⟩
    have e:b=s1.heap.objs.size:=by simpa using hb
    subst e
    exact I1.fpOk (Nat.le_refl _) (I1.hok.fresh (Nat.le_refl _))
  cases ha:x.cps.all (· < 128)
  · exact wpAny_pyIter_wide ha (fin "str_iterator" (zlw _ x t _ (by decide) wpAny_pyNext_wide_item wpAny_pyNext_wide_end wpAny_pyIter_striter_wide))
  · exact wpAny_pyIter_ascii ha (fin "str_ascii_iterator" (zlw _ x t _ (by decide) wpAny_pyNext_ascii_item wpAny_pyNext_ascii_end wpAny_pyIter_striter_ascii))
section
variable {X:Cx}
theorem zdo:∀{bs:List Bool}{us:List Value},Vals (bs.map V.bl) us->us=bs.map Value.bool
  | [],_,r=>by cases r;rfl
  | b::bs,_,r=>by
    cases r with
    | cons r1 r2=>rw[show _=Value.bool b from r1,zdo r2];rfl
theorem zop (bs:List Bool):((List.range bs.length).all fun i=>(bs[i]?).getD true)=bs.all id:=by
  rw[Bool.eq_iff_iff,List.all_eq_true,List.all_eq_true]
  constructor
  · intro h b hb
    obtain⟨i,hi,e⟩:=List.mem_iff_getElem.mp hb
    have:=h i (List.mem_range.mpr hi)
    rw[List.getElem?_eq_getElem hi,Option.getD_some,e] at this
    exact this
  · intro h i hi
    have hi':=List.mem_range.mp hi
    rw[List.getElem?_eq_getElem hi',Option.getD_some]
    exact h _ (List.getElem_mem hi')
theorem zoq (hc:X.calm=true):zco X (.builtin "all") (fun xs H Q=>∃(a:Addr) (bs:List Bool),xs = [V.ref a]/\SqL X.K H a (bs.map V.bl)/\Q (.bl (bs.all id)) H):=by
  intro pins s σ H xs us Q I r h
  obtain⟨a,bs,rfl,ha,q⟩:=h
  obtain⟨u,rfl,ru⟩:=zdg r
  cases ru
  obtain⟨its,rv,pl,hz⟩:=I.list ha
  have e:its=bs.map Value.bool:=zdo rv
  subst e
  have hl:=pl.isList
  have hlt:a<s.heap.objs.size:=by obtain⟨_,e,_⟩:=hl;exact Heap.lt_size e
  refine call_all_walk (wpAny_pyIter_list hl ?_)
  refine⟨s.heap.objs.size,[s.heap.objs.size,a],[s.heap.objs.size],(bs.map Value.bool).toArray.size,_,_,fun i=>(bs[i]?).getD true,rfl,Walks.list (A:=X.A.in1) (I.ok.hd hc) _ a (Nat.ne_of_lt hlt) (bs.map Value.bool).toArray,
    ⟨⟨_,Heap.get?_push_size _ rfl,rfl,rfl⟩,hl.push _⟩,fun i v s' Q' E' hP hQ=>?_,fun h' tk hk=>?_⟩
  · have hP':(bs.map Value.bool)[i]? = some v:=by simpa using hP
    rw[List.getElem?_map] at hP'
    cases e:bs[i]? with
    | none=>rw[e] at hP';cases hP'
    | some b=>
      rw[e] at hP'
      cases hP'
      simp only [e,Option.getD_some] at hQ
      exact wpAny_truthy_bool hQ
  · have e:((List.range (bs.map Value.bool).toArray.size).all fun i=>(bs[i]?).getD true)=bs.all id:=by
      rw[List.size_toArray,List.length_map];exact zop bs
    rw[e]
    refine⟨.bl (bs.all id),H,?_,rfl,q⟩
    exact I.kept fun b o eb=>hk b o (fun z=>by rw[List.mem_singleton.mp z] at eb;exact absurd (Heap.lt_size eb) (Nat.lt_irrefl _)) (Heap.get?_push_of_some _ eb)
theorem zor:zco X (.type "int") (fun xs H Q=>∃x n,xs = [V.str x]/\PySem.intText? x=some n/\x.length<=640/\Q (.int n) H):=by
  intro pins s σ H xs us Q I r h
  obtain⟨x,n,rfl,hn,hl,q⟩:=h
  obtain⟨u,rfl,t,rfl⟩:=zdg r
  exact PySem.W.KIN.call_text hn hl ⟨.int n,H,I.tok _,⟨_,rfl⟩,q⟩
theorem zjc:MtR X "str.startswith" (fun x xs H Q=>∃a b,x=V.str a/\xs = [V.str b]/\Q (.bl (Txt.startswith a b)) H):=by
  intro pins s σ H x xs v us Q I rx rs h
  obtain⟨a,b,rfl,rfl,q⟩:=h
  obtain⟨t,rfl⟩:=rx
  obtain⟨u,rfl,t',rfl⟩:=zdg rs
  exact SC.startswith ⟨.bl _,H,I,rfl,q⟩
theorem zha:∀{ys:List Str}{us:List Value},Vals (ys.map V.str) us->StrsAre us ys
  | [],_,r=>by cases r;exact .nil
  | y::ys,_,r=>by
    cases r with
    | cons r1 r2=>
      obtain⟨t,rfl⟩:=r1
      exact .cons y t (zha r2)
theorem zud:MtR X "str.join" (fun x xs H Q=>∃(sep:Str) (p:Addr) (ys:List Str),x=V.str sep/\xs = [V.ref p]/\SqL X.K H p (ys.map V.str)/\(ys.map (·.length)).sum+ys.length * sep.length<=16777216/\Q (.str (Txt.join sep ys)) H):=by
  intro pins s σ H x xs v us Q I rx rs h
  obtain⟨sep,p,ys,rfl,rfl,hp,hz,q⟩:=h
  obtain⟨t,rfl⟩:=rx
  obtain⟨u,rfl,ru⟩:=zdg rs
  cases ru
  obtain⟨its,rv,pl,_⟩:=I.list hp
  exact PyProof.Rows.join_list pl.isList (by simpa using zha rv) hz fun t' k=>⟨.str _,H,I.tok _,⟨_,rfl⟩,q⟩
def rSlS:V->Option Int->Option Int->Hp->VK->Prop:=fun x lo hi H Q=>∃z,x = .str z/\z.length<=sizeLine/\Q (.str (Txt.slice z lo hi)) H
theorem zs1:SlR X rSlS:=by
  intro pins s σ H x v vl vu lo hi sl Q I rx hs pl pu h
  obtain⟨z,rfl,hz,q⟩:=h
  obtain⟨t,rfl⟩:=rx
  refine⟨"str",_,F.slot_str_getitem.lookup,typeIs_str _ _ _,?_⟩
  have fin:∀(t':Tok) (k:Nat),EP X pins σ Q (.str (Txt.slice z lo hi) t') { s with toks:=k }:=fun t' k=>⟨.str _,H,I.tok k,⟨_,rfl⟩,q⟩
  obtain⟨o,ho,hcl,hd⟩:=hs
  cases pl<;>cases pu
  · exact wpAny_getItem_str_slice (l:=none) (u:=none) (st:=none) ⟨o,ho,hcl,hd⟩ rfl (post_val_or_str ⟨Nat.le_trans (Txt.slice_le z _ _) hz,fin⟩)
  · exact wpAny_getItem_str_slice (l:=none) (u:=some (_,_)) (st:=none) ⟨o,ho,hcl,hd⟩ rfl (post_val_or_str ⟨Nat.le_trans (Txt.slice_le z _ _) hz,fin⟩)
  · exact wpAny_getItem_str_slice (l:=some (_,_)) (u:=none) (st:=none) ⟨o,ho,hcl,hd⟩ rfl (post_val_or_str ⟨Nat.le_trans (Txt.slice_le z _ _) hz,fin⟩)
  · exact wpAny_getItem_str_slice (l:=some (_,_)) (u:=some (_,_)) (st:=none) ⟨o,ho,hcl,hd⟩ rfl (post_val_or_str ⟨Nat.le_trans (Txt.slice_le z _ _) hz,fin⟩)
theorem zrg:zco X (.builtin "isinstance") (fun xs H Q=>∃x t n b,xs = [x,V.ty n]/\TyOf X.K H x t/\PySem.W.kitOne X.K t (.type n)=some b/\Q (.bl b) H):=by
  intro pins s σ H xs us Q I r h
  obtain⟨x,t,n,b,rfl,ty,e,q⟩:=h
  obtain⟨u,w',rfl,ru,rw'⟩:=zq0 r
  cases rw'
  exact zob I ru ty e fun tk=>⟨.bl b,H,I.tok tk,rfl,q⟩
end
theorem len1 {Pl:List Value->Prop}(h:∀a,Pl [a]):∀us:List Value,us.length=1->Pl us
  | [a],_=>h a
theorem len2 {Pl:List Value->Prop}(h:∀a b,Pl [a,b]):∀us:List Value,us.length=2->Pl us
  | [a,b],_=>h a b
theorem len3 {Pl:List Value->Prop}(h:∀a b c,Pl [a,b,c]):∀us:List Value,us.length=3->Pl us
  | [a,b,c],_=>h a b c
theorem len4 {Pl:List Value->Prop}(h:∀a b c d,Pl [a,b,c,d]):∀us:List Value,us.length=4->Pl us
  | [a,b,c,d],_=>h a b c d
theorem len5 {Pl:List Value->Prop}(h:∀a b c d e,Pl [a,b,c,d,e]):∀us:List Value,us.length=5->Pl us
  | [a,b,c,d,e],_=>h a b c d e
def Df (K:PySem.W.Frag) (mg:Str->Option Value) (x:Str) (st:Stmt) (ps:List Str):Prop:=
  ∃(f:Addr) (fd:FuncData),Fun K x x st f fd/\mg x=some (.ref f)/\∀us:List Value,us.length=ps.length->bindArgs fd ⟨us,[]⟩=pure (ps.zip us)
theorem df_mk {K:PySem.W.Frag}{h:Heap}{mg:Str->Option Value}(X:K.In h) (G:h.Ns mainGlobals mg) {x:Str}{st:Stmt}{ps:List Str}{f:Addr}{oc kV dc pm cd ct:Value}{od an:Option Addr}{sl:Array (Option Value)}
    (hb:∀(kV doc pm:Value) (an:Option Addr) (cdv ct:Value) (us:List Value),us.length=ps.length->bindArgs (PySem.W.fnOf x x (zdn st) (zam st) (zj st) .none kV doc pm an cdv ct) ⟨us,[]⟩=pure (ps.zip us))
    (a:PySem.W.nsIn K mainGlobals x=some (some (.ref f))) (l:K.lookup f=some ⟨oc,od,.func (PySem.W.fnOf x x (zdn st) (zam st) (zj st) .none kV dc pm an cd ct),sl⟩) (c:PySem.W.codeIn K cd x=true) (k:PySem.W.keepIn K (.ref f)=true):Df K mg x st ps:=
  ⟨f,_,zs0 l c k,PySem.W.mg_of X G a,fun us hl=>hb kV dc pm an cd ct us hl⟩
theorem const_mk {K:PySem.W.Frag}{h:Heap}{mg:Str->Option Value}(X:K.In h) (G:h.Ns mainGlobals mg) {x:Str}{u:Value}(a:PySem.W.nsIn K mainGlobals x=some (some u)):mg x=some u:=PySem.W.mg_of X G a
theorem rel_mk {K:PySem.W.Frag}{h:Heap}{mg:Str->Option Value}(X:K.In h) (G:h.Ns mainGlobals mg) {x:Str}{u:Value}{v:V}(a:PySem.W.nsIn K mainGlobals x=some (some u)) (r:RelV v u):∃u,mg x=some u/\RelV v u:=⟨u,PySem.W.mg_of X G a,r⟩
theorem blt_mk {K:PySem.W.Frag}{h:Heap}{mg:Str->Option Value}(X:K.In h) (G:h.Ns mainGlobals mg) {x:Str}(a:PySem.W.nsIn K mainGlobals x=some none):mg x=none:=PySem.W.mg_none_of X G a
def Has (P:Program) (w:World) (K:PySem.W.Frag) (mg:Str->Option Value) (base:Heap) (x:Str) (ps:List Str) (k:Nat) (sp:Sp):Prop:=
  ∃(f:Addr) (fd:FuncData),mg x=some (.ref f)/\PySem.W.keepIn K (.ref f)=true/\(∃oc od osl,K.lookup f=some ⟨oc,od,.func fd,osl⟩)/\(∀us:List Value,us.length=ps.length->bindArgs fd ⟨us,[]⟩=pure (ps.zip us))/\FnOk P w K mg base CX0 k f fd ps sp
section
variable {P:Program}{w:World}{K:PySem.W.Frag}{mg:Str->Option Value}{base:Heap}
theorem Df.has {x:Str}{st:Stmt}{N ps:List Str}{k:Nat}{sp:Sp}(D:Df K mg x st ps) (S:FnScope N ps (zj st)) (len:∀vs H Q E,sp vs H Q E->vs.length=ps.length)
    (hbody:∀(f:Addr) (cdv:Value) (A:Around) (outer:List Env) (s:Shared) (H:Hp) (vs:List V) (Q:VK) (E:XK),Room k (A.deeper (envOfC x (zj st) s.heap.objs.size f cdv))->sp vs H Q E->
      ∃t,PSs (cxOf CX0 P w K mg base N x (zj st) f cdv A outer s H E).nox (zam st) t/\t { nx:=fun _ H'=>Q .non H',rt:=Q } (zd5 N vs) H):Has P w K mg base x ps (k+1) sp:=by
  obtain⟨f,fd,F,a,b⟩:=D
  obtain⟨oc,od,kV,doc,pm,an,cdv,ct,osl,e,lk,hcd⟩:=id F.ex
  exact⟨f,fd,a,F.kp,⟨oc,od,osl,lk⟩,b,F.ok S len (hbody f)⟩
end
section
variable {X:Cx}{k:Nat}{ps:List Str}{sp:Sp}{x:Str}{p pos:Pos}{e:Expr}{es:List Expr}{t:TA}
theorem zao (F:Has X.prog X.w X.K X.mg X.base x ps k sp) (hr:Room k X.A) (hg:Gl X x) (ha:PA X (e::es) t) (hdb:(x == ("__debug__" : Str))=false:=by decide)
    (he:starEach (e::es) X.env=(false,eval e X.env)::starEach es X.env:=by rfl) (hpl:(backTo pos (starEach es X.env)).any (·.1)=false:=by rfl):PE X (.Call (.Name x p) (e::es) [] pos) (zv4 sp [] E0 t):=by
  obtain⟨f,fd,a,kp,lk,b,G⟩:=F
  exact ztw G hr hg a kp (.all b) .nil zoo ha hdb he hpl
end
theorem law_walk {l:PySem.W.OpenLaw}{q:Program}{loose:List Str}{XP:(Str->Option Value)->Heap->Prop}{YP:World->Heap->Prop}{d:DefRec}{K:Params->PySem.W.Frag}{k:Nat}{x:Str}{sp:PySem.W.Frag->Sp}
    (hn:l.most=some 63) (hdf:d.params.defaults = []) (hr:Room k callerA) (hY:∀(w:World) (h:Heap),YP w h->(K w.params).In h)
    (hsp:∀(K:PySem.W.Frag) (H:Hp) (a:Addr) (ns:List Int),ns.length<=63->SqL K H a (ns.map V.int)->sp K [.ref a] H (fun v _=>v = .bl true) fun _ _ _=>False)
    (F:∀(w:World) (mg:Str->Option Value) (h:Heap),(K w.params).In h->h.Ns mainGlobals mg->∀base:Heap,(K w.params).In base->base.Ns mainGlobals mg->Has l.prog w (K w.params) mg base d.name [x] k (sp (K w.params))) :
    PySem.W.WalkO q loose XP YP l.row.toRowW d [] (fun f vs=>PySem.call f vs):=by
  refine L2.walk_ofK (n:=63) (k:=k) (x:=x) (CX:=CX0) (sp:=sp) hn (by decide) hdf hr hY (fun w mg fa h KX G hmg=>?_) (fun K H a ns hl _ hS=>hsp K H a ns hl hS) fun _ _ _ _ z=>z
  obtain⟨f,fd,a,kp,⟨oc,od,osl,lk⟩,b,_⟩:=F w mg h KX G h KX G
  have ef:fa=f:=by
    rw[hmg] at a
    cases a;rfl
  subst ef
  refine⟨fd,fun s u=>.of_eq (b [u] rfl),fun base kb nb=>?_⟩
  obtain⟨f',fd',a',kp',⟨oc',od',osl',lk'⟩,b',G'⟩:=F w mg h KX G base kb nb
  have ef:f'=fa:=by
    rw[hmg] at a'
    cases a';rfl
  subst ef
  rw[lk] at lk'
  cases lk'
  exact G'
inductive DEq (K:PySem.W.Frag) (H:Hp):Nat->V->V->Bool->Prop where
  | flat {n:Nat}{x y:V}(fx:zcw x=true) (fy:zcw y=true):DEq K H n x y (eqV x y)
  | lst {n:Nat}{a b:Addr}{xs ys:List V}(e:Nat->Bool) (hx:SqL K H a xs) (hy:SqL K H b ys) (hl:xs.length=ys.length) (he:∀(i:Nat) x y,xs[i]? = some x->ys[i]? = some y->DEq K H n x y (e i)) :
      DEq K H (n+1) (.ref a) (.ref b) ((List.range xs.length).all e)
  | lstN {n:Nat}{a b:Addr}{xs ys:List V}(hx:SqL K H a xs) (hy:SqL K H b ys) (hl:xs.length≠ys.length):DEq K H (n+1) (.ref a) (.ref b) false
  | tup {n:Nat}{a b:Addr}{xs ys:List V}(e:Nat->Bool) (hx:SqT K H a xs) (hy:SqT K H b ys) (he:∀(i:Nat) x y,xs[i]? = some x->ys[i]? = some y->DEq K H n x y (e i)) :
      DEq K H (n+1) (.ref a) (.ref b) ((List.range (min xs.length ys.length)).all e&&xs.length == ys.length)
  | lt {n:Nat}{a b:Addr}{xs ys:List V}(hx:SqL K H a xs) (hy:SqT K H b ys):DEq K H (n+1) (.ref a) (.ref b) false
  | tl {n:Nat}{a b:Addr}{xs ys:List V}(hx:SqT K H a xs) (hy:SqL K H b ys):DEq K H (n+1) (.ref a) (.ref b) false
theorem zlx {x:V}(h:zcw x=true):eqV x x=true:=by
  cases x<;>first | rfl | (simp[zcw] at h;done) | (simp[eqV];done)
section
variable {X:Cx}{pins:List (Addr×Obj)}{σ:St}{H:Hp}{s:Shared}
theorem zos (I:Inv X pins σ H s) {a:Addr}{xs ys:List V}(hx:SqL X.K H a xs) (hy:SqT X.K H a ys):False:=by
  obtain⟨its,_,⟨o,n,e,c,_,_⟩,_⟩:=I.list hx
  obtain⟨its',_,⟨o',e',c',_⟩,_⟩:=I.tuple hy
  rw[e] at e'
  cases e'
  rw[c] at c'
  injection c' with c'
  exact absurd c' (by decide)
theorem DEq.refl (I:Inv X pins σ H s) {n:Nat}{x y:V}{b:Bool}(h:DEq X.K H n x y b):x=y->b=true:=by
  induction h with
  | flat fx fy=>intro e;subst e;exact zlx fx
  | lst e hx hy hl he ih=>
    intro q
    cases q
    have:=I.list_inj hx hy
    subst this
    rw[List.all_eq_true]
    intro i hi
    have hi:=List.mem_range.mp hi
    exact ih i _ _ (List.getElem?_eq_getElem hi) (List.getElem?_eq_getElem hi) rfl
  | lstN hx hy hl=>
    intro q
    cases q
    exact absurd (congrArg List.length (I.list_inj hx hy)) hl
  | tup e hx hy he ih=>
    intro q
    cases q
    have:=I.tuple_inj hx hy
    subst this
    rw[Nat.min_self,beq_self_eq_true,Bool.and_true,List.all_eq_true]
    intro i hi
    have hi:=List.mem_range.mp hi
    exact ih i _ _ (List.getElem?_eq_getElem hi) (List.getElem?_eq_getElem hi) rfl
  | lt hx hy=>intro q;cases q;exact (zos I hx hy).elim
  | tl hx hy=>intro q;cases q;exact (zos I hy hx).elim
theorem zc1 (A:Around):A.in1.units<=A.units+1:=by
  first
    | exact Nat.le_refl _
    | exact Nat.le_succ _
    | (unfold Around.in1;simp)
theorem DEq.at (I:Inv X pins σ H s) {n:Nat}{x y:V}{b:Bool}(h:DEq X.K H n x y b):∀{u v:Value}{A:Around},RelV x u->RelV y v->A.units+n<cLine->
    SeqAt.EqAt A s u v b/\((∃p q,x = .ref p/\y = .ref q)->SeqAt.RcAt A s u v b):=by
  induction h with
  | flat fx fy=>
    intro u v A ru rv hu
    refine⟨zsv ru rv fx fy,fun hq0=>?_⟩
    obtain⟨p,q,e,_⟩:=hq0
    subst e
    cases fx
  | @lst n a b xs ys e hx hy hl he ih=>
    intro u v A ru rv hu
    cases ru
    cases rv
    obtain⟨its,r1,p1,_⟩:=I.list hx
    obtain⟨its2,r2,p2,_⟩:=I.list hy
    have l1:=r1.length
    have l2:=r2.length
    have h1:=zc1 A
    have rc:SeqAt.RcAt A s (.ref a) (.ref b) ((List.range xs.length).all e):=by
      have:=SeqAt.RcAt.lists (A:=A) (e:=e) p1.isList p2.isList (by simp;omega) (by omega) (fun j j1 j2=>by
        have g1:xs[j]? = some (xs[j]'(by simp at j1;omega)):=List.getElem?_eq_getElem _
        have g2:ys[j]? = some (ys[j]'(by simp at j2;omega)):=List.getElem?_eq_getElem _
        obtain⟨w1,q1,t1⟩:=r1.get g1
        obtain⟨w2,q2,t2⟩:=r2.get g2
        have:=(ih j _ _ g1 g2 t1 t2 (A:=A.in1) (by omega)).1
        have z1:its.toArray[j]=w1:=by
          have:=List.getElem?_eq_some_iff.mp q1
          obtain⟨_,z⟩:=this
          simpa using z
        have z2:its2.toArray[j]=w2:=by
          have:=List.getElem?_eq_some_iff.mp q2
          obtain⟨_,z⟩:=this
          simpa using z
        rw[z1,z2]
        exact this)
      have es:its.toArray.size=xs.length:=by simp;omega
      rw[es] at this
      exact this
    refine⟨?_,fun _=>rc⟩
    by_cases hab:a=b
    · subst hab
      have:=(DEq.lst e hx hy hl he).refl I rfl
      rw[this]
      exact .same _
    · exact .of_refs hab rc
  | @lstN n a b xs ys hx hy hl=>
    intro u v A ru rv hu
    cases ru
    cases rv
    obtain⟨its,r1,p1,_⟩:=I.list hx
    obtain⟨its2,r2,p2,_⟩:=I.list hy
    have l1:=r1.length
    have l2:=r2.length
    have rc:SeqAt.RcAt A s (.ref a) (.ref b) false:=SeqAt.RcAt.lists_lengths p1.isList p2.isList (by simp;omega) (by omega)
    refine⟨?_,fun _=>rc⟩
    by_cases hab:a=b
    · subst hab
      exact absurd (congrArg List.length (I.list_inj hx hy)) hl
    · exact .of_refs hab rc
  | @tup n a b xs ys e hx hy he ih=>
    intro u v A ru rv hu
    cases ru
    cases rv
    obtain⟨its,r1,p1,_⟩:=I.tuple hx
    obtain⟨its2,r2,p2,_⟩:=I.tuple hy
    have l1:=r1.length
    have l2:=r2.length
    have h1:=zc1 A
    have rc:SeqAt.RcAt A s (.ref a) (.ref b) ((List.range (min xs.length ys.length)).all e&&xs.length == ys.length):=by
      have:=SeqAt.RcAt.tuples (A:=A) (e:=e) (show s.heap.IsTuple a its.toArray from p1) (show s.heap.IsTuple b its2.toArray from p2) (by omega) (fun j j1 j2=>by
        have g1:xs[j]? = some (xs[j]'(by simp at j1;omega)):=List.getElem?_eq_getElem _
        have g2:ys[j]? = some (ys[j]'(by simp at j2;omega)):=List.getElem?_eq_getElem _
        obtain⟨w1,q1,t1⟩:=r1.get g1
        obtain⟨w2,q2,t2⟩:=r2.get g2
        have:=(ih j _ _ g1 g2 t1 t2 (A:=A.in1) (by omega)).1
        have z1:its.toArray[j]=w1:=by
          have:=List.getElem?_eq_some_iff.mp q1
          obtain⟨_,z⟩:=this
          simpa using z
        have z2:its2.toArray[j]=w2:=by
          have:=List.getElem?_eq_some_iff.mp q2
          obtain⟨_,z⟩:=this
          simpa using z
        rw[z1,z2]
        exact this)
      have es:its.toArray.size=xs.length:=by simp;omega
      have es2:its2.toArray.size=ys.length:=by simp;omega
      rw[es,es2] at this
      exact this
    refine⟨?_,fun _=>rc⟩
    by_cases hab:a=b
    · subst hab
      have:=(DEq.tup e hx hy he).refl I rfl
      rw[this]
      exact .same _
    · exact .of_refs hab rc
  | @lt n a b xs ys hx hy=>
    intro u v A ru rv hu
    cases ru
    cases rv
    obtain⟨its,r1,p1,_⟩:=I.list hx
    obtain⟨its2,r2,p2,_⟩:=I.tuple hy
    exact⟨SeqAt.EqAt.list_tuple p1.isList (show s.heap.IsTuple b its2.toArray from p2) (by omega),fun _=>SeqAt.RcAt.list_tuple p1.isList (show s.heap.IsTuple b its2.toArray from p2) (by omega)⟩
  | @tl n a b xs ys hx hy=>
    intro u v A ru rv hu
    cases ru
    cases rv
    obtain⟨its,r1,p1,_⟩:=I.tuple hx
    obtain⟨its2,r2,p2,_⟩:=I.list hy
    exact⟨SeqAt.EqAt.tuple_list (show s.heap.IsTuple a its.toArray from p1) p2.isList (by omega),fun _=>SeqAt.RcAt.tuple_list (show s.heap.IsTuple a its.toArray from p1) p2.isList (by omega)⟩
end
section
variable {X:Cx}{pins:List (Addr×Obj)}{σ:St}{H:Hp}{s:Shared}
theorem zly (I:Inv X pins σ H s) {n:Nat}{xs ys:List V}{its its2:List Value}{e:Nat->Bool}(r1:Vals xs its) (r2:Vals ys its2) (he:∀(i:Nat) x y,xs[i]? = some x->ys[i]? = some y->DEq X.K H n x y (e i)) {A:Around}(hu:A.units+n<cLine) :
    ∀(j:Nat) (h1:j<its.toArray.size) (h2:j<its2.toArray.size),SeqAt.EqAt A s its.toArray[j] its2.toArray[j] (e j):=fun j j1 j2=>by
  have l1:=r1.length
  have l2:=r2.length
  have g1:xs[j]? = some (xs[j]'(by simp at j1;omega)):=List.getElem?_eq_getElem _
  have g2:ys[j]? = some (ys[j]'(by simp at j2;omega)):=List.getElem?_eq_getElem _
  obtain⟨w1,q1,t1⟩:=r1.get g1
  obtain⟨w2,q2,t2⟩:=r2.get g2
  have:=((he j _ _ g1 g2).at I t1 t2 (A:=A) hu).1
  have z1:its.toArray[j]=w1:=by
    obtain⟨_,z⟩:=List.getElem?_eq_some_iff.mp q1
    simpa using z
  have z2:its2.toArray[j]=w2:=by
    obtain⟨_,z⟩:=List.getElem?_eq_some_iff.mp q2
    simpa using z
  rw[z1,z2]
  exact this
theorem DEq.ne (I:Inv X pins σ H s) {n:Nat}{p q:Addr}{b:Bool}(h:DEq X.K H n (.ref p) (.ref q) b) {A:Around}(hu:A.units+n<cLine):SeqAt.RcNeAt A s (.ref p) (.ref q) (!b):=by
  have h1:=zc1 A
  cases h with
  | flat fx fy=>cases fx
  | lst e hx hy hl he=>
    obtain⟨its,r1,p1,_⟩:=I.list hx
    obtain⟨its2,r2,p2,_⟩:=I.list hy
    have l1:=r1.length
    have l2:=r2.length
    have:=SeqAt.RcNeAt.lists (A:=A) (e:=e) p1.isList p2.isList (by simp;omega) (by omega) (zly I r1 r2 he (A:=A.in1) (by omega))
    rw[List.size_toArray,←l1] at this
    exact this
  | lstN hx hy hl=>
    obtain⟨its,r1,p1,_⟩:=I.list hx
    obtain⟨its2,r2,p2,_⟩:=I.list hy
    have l1:=r1.length
    have l2:=r2.length
    exact SeqAt.RcNeAt.lists_lengths p1.isList p2.isList (by simp;omega) (by omega)
  | tup e hx hy he=>
    obtain⟨its,r1,p1,_⟩:=I.tuple hx
    obtain⟨its2,r2,p2,_⟩:=I.tuple hy
    have l1:=r1.length
    have l2:=r2.length
    have:=SeqAt.RcNeAt.tuples (A:=A) (e:=e) (show s.heap.IsTuple p its.toArray from p1) (show s.heap.IsTuple q its2.toArray from p2) (by omega) (zly I r1 r2 he (A:=A.in1) (by omega))
    rw[List.size_toArray,List.size_toArray,←l1,←l2] at this
    exact this
  | lt hx hy=>
    obtain⟨its,r1,p1,_⟩:=I.list hx
    obtain⟨its2,r2,p2,_⟩:=I.tuple hy
    exact SeqAt.RcNeAt.list_tuple p1.isList (show s.heap.IsTuple q its2.toArray from p2) (by omega)
  | tl hx hy=>
    obtain⟨its,r1,p1,_⟩:=I.tuple hx
    obtain⟨its2,r2,p2,_⟩:=I.list hy
    exact SeqAt.RcNeAt.tuple_list (show s.heap.IsTuple p its.toArray from p1) p2.isList (by omega)
end
section
variable {X:Cx}
def rEqD (K:PySem.W.Frag):R2:=fun x y H Q=>∃p q b,x = .ref p/\y = .ref q/\DEq K H 8 x y b/\Q (.bl b) H
theorem zwj (hu:X.A.units+9<cLine):OpR X (compareOp .Eq) (rEqD X.K):=by
  intro pins s σ H x y v u Q I rx ry h
  obtain⟨p,q,b,rfl,rfl,d,hq⟩:=h
  exact (d.at I rx ry (A:=X.A) (by omega)).2 ⟨p,q,rfl,rfl⟩ X.prog X.w _ _ ⟨.bl b,H,I,rfl,hq⟩
def rNeD (K:PySem.W.Frag):R2:=fun x y H Q=>∃p q b,x = .ref p/\y = .ref q/\DEq K H 8 x y b/\Q (.bl (!b)) H
theorem zwk (hu:X.A.units+9<cLine):OpR X (compareOp .NotEq) (rNeD X.K):=by
  intro pins s σ H x y v u Q I rx ry h
  obtain⟨p,q,b,rfl,rfl,d,hq⟩:=h
  cases rx
  cases ry
  exact d.ne I (A:=X.A) (by omega) X.prog X.w _ _ ⟨.bl (!b),H,I,rfl,hq⟩
def rInD (K:PySem.W.Frag) (neg:Bool):R2:=fun x y H Q=>∃(p:Addr) (xs:List V) (e:V->Bool),y = .ref p/\(SqL K H p xs\/SqT K H p xs)/\(∀z∈xs,DEq K H 8 z x (e z))/\Q (.bl (if neg then !xs.any e else xs.any e)) H
theorem zkw:∀{xs:List V}{us:List Value}{u:Value},Vals xs us->u∈us->∃x∈xs,RelV x u
  | _,_,_,.cons r t,h=>by
    rcases List.mem_cons.mp h with h | h
    · subst h;exact⟨_,List.mem_cons_self ..,r⟩
    · obtain⟨x,hx,q⟩:=zkw t h
      exact⟨x,List.mem_cons_of_mem _ hx,q⟩
def absE (e:V->Bool) (u:Value):Bool:=match absV u with
  | some x=>e x
  | none=>false
theorem zhu {e:V->Bool}{x:V}{u:Value}(r:RelV x u):absE e u=e x:=by unfold absE;rw[r.abs]
theorem zkx {e:V->Bool}:∀{xs:List V}{us:List Value},Vals xs us->us.any (absE e)=xs.any e
  | _,_,.nil=>rfl
  | _,_,.cons r t=>by rw[List.any_cons,List.any_cons,zhu r,zkx t]
theorem zwl (hu:X.A.units+10<cLine):OpR X (compareOp .In) (rInD X.K false):=by
  intro pins s σ H x y v u Q I rx ry h
  obtain⟨p,xs,e,rfl,hq,hd,q⟩:=h
  cases ry
  have h1:=zc1 X.A
  have items:∀{its:List Value},Vals xs its->∀z,z∈its.toArray->SeqAt.EqAt X.A.in1 s z v (absE e z):=fun {its} r z hz=>by
    obtain⟨x',hx',rz⟩:=zkw r (by simpa using hz)
    rw[zhu rz]
    exact ((hd x' hx').at I rz rx (A:=X.A.in1) (by omega)).1
  rcases hq with hq | hq
  · obtain⟨its,r,pl,hz⟩:=I.list hq
    refine SeqAt.in_listAt (absE e) pl.isList (items r) ⟨.bl _,H,I,rfl,?_⟩
    rw[show its.toArray.any (absE e)=its.any (absE e) by simp,zkx r]
    exact q
  · obtain⟨its,r,pl,hz⟩:=I.tuple hq
    refine SeqAt.in_tupleAt (absE e) pl (items r) ⟨.bl _,H,I,rfl,?_⟩
    rw[show its.toArray.any (absE e)=its.any (absE e) by simp,zkx r]
    exact q
end
def za2:V->Str
  | .str x=>x
  | .int i=>Str.ofString (toString i)
  | _=>Str.empty
def Wd (v:V):Prop:=(∃x,v = .str x/\x.length<=100)\/∃i:Int,v = .int i/\i.natAbs<10 ^ 60
theorem Wd.flat {v:V}(h:Wd v):zcw v=true:=by
  rcases h with ⟨x,rfl,_⟩ | ⟨i,rfl,_⟩<;>rfl
theorem zwm {i:Int}(h:i.natAbs<10 ^ 60):i.natAbs.log2<1920:=by
  by_cases h0:i.natAbs=0
  · rw[h0];decide
  · exact (Nat.log2_lt h0).mpr (Nat.lt_of_lt_of_le h (by decide))
section
variable {X:Cx}
theorem zjd:zco X (.type "str") (fun xs H Q=>∃v,xs = [v]/\Wd v/\Q (.str (za2 v)) H):=by
  intro pins s σ H xs us Q I r h
  obtain⟨v,rfl,hv,q⟩:=h
  rcases hv with ⟨x,rfl,_⟩ | ⟨i,rfl,hi⟩
  · obtain⟨u,rfl,t,rfl⟩:=zdg r
    exact PySem.P.str_of_str ⟨.str x,H,I,⟨_,rfl⟩,q⟩
  · obtain⟨u,rfl,t,rfl⟩:=zdg r
    exact PySem.P.str_of_int (zwm hi) ⟨.str _,H,I.tok _,⟨_,rfl⟩,q⟩
end
def eqL (xs ys:List V):Bool:=(List.range (min xs.length ys.length)).all (fun i=>match xs[i]?,ys[i]? with | some x,some y=>eqV x y | _,_=>true)&&xs.length == ys.length
theorem DEq.flatT {K:PySem.W.Frag}{H:Hp}{n:Nat}{a b:Addr}{xs ys:List V}(hx:SqT K H a xs) (hy:SqT K H b ys) (fx:∀x∈xs,zcw x=true) (fy:∀x∈ys,zcw x=true):DEq K H (n+1) (.ref a) (.ref b) (eqL xs ys):=by
  refine DEq.tup _ hx hy fun i x y e1 e2=>?_
  rw[e1,e2]
  exact DEq.flat (fx x (List.mem_of_getElem? e1)) (fy y (List.mem_of_getElem? e2))
theorem zrh {xs:List V}(h:∀x∈xs,zcw x=true):eqL xs xs=true:=by
  unfold eqL
  rw[beq_self_eq_true,Bool.and_true,List.all_eq_true]
  intro i hi
  rw[Nat.min_self] at hi
  have hi:=List.mem_range.mp hi
  rw[List.getElem?_eq_getElem hi]
  exact zlx (h _ (List.getElem_mem hi))
theorem Same.tup {K:PySem.W.Frag}{H H':Hp}{a:Addr}{xs:List V}(e:Same H H') (h:SqT K H a xs):SqT K H' a xs:=by
  rcases h with (h | ⟨o,h⟩) | h
  · exact .inl (.inl (e _ _ h))
  · exact .inl (.inr ⟨o,e _ _ h⟩)
  · exact .inr h
theorem Same.new {H:Hp}{D:Addr}{o:HO}(h:H D=none):Same H (upd H D o):=fun b u e=>by rw[zn (zc e h)];exact e
theorem Same.upd {H H':Hp}{D:Addr}{o:HO}(e:Same H H') (h:H D=none):Same H (upd H' D o):=fun b u q=>by
  rw[zn (zc q h)];exact e b u q
theorem zcj {J:It}{xs:List V}{P:Hp->Prop}{own:List Str}{ix:List Nat}{te:TE}{σ:St}{H1:Hp}{D:Addr}{Q:VK}(F:Fix J xs P) (f:V->V) (hD:H1 D=none)
    (hP:∀H',Same H1 H'->P H') (hz:xs.length<=sizeLine)
    (he:∀x∈xs,∀H' (Q':VK),Same H1 H'->(∀H'',Same H' H''->Q' (f x) H'')->te ((st0 own ix σ).set 0 (some x)) H' Q')
    (hQ:∀H',Same H1 H'->H' D=some (.lst (xs.map f))->Q (.ref D) H'):zkv own ix J (za6 0) tYes te σ H1 D Q:=by
  refine⟨fun i m σ' ys H'=>m=xs.length-i/\i<=xs.length/\(∀z,σ'.set 0 z=(st0 own ix σ).set 0 z)/\ys=(xs.take i).map f/\Same H1 H'/\H' D=some (.lst ys),
    ⟨xs.length,by simp,Nat.zero_le _,fun _=>rfl,by simp,Same.new hD,zb⟩,?_⟩
  rintro i m σ' ys H' ⟨rfl,hi,hσ,rfl,hs,hDy⟩
  refine⟨hDy,?_⟩
  by_cases hlt:i<xs.length
  · refine .inr ⟨F.go i _ (hP _ hs) hlt,?_,fun x H2 y=>?_⟩
    · rw[List.length_map,List.length_take];omega
    · obtain⟨e,y'⟩:=F.yld i _ x H2 (hP _ hs) y
      subst e
      have hx:=y' hlt
      have hm:x∈xs:=List.mem_of_getElem? hx
      unfold za6 tYes
      dsimp only
      rw[if_pos rfl,hσ]
      refine he x hm _ _ hs fun H'' hs'=>⟨hs' D _ hDy,xs.length-(i+1),by omega,rfl,hlt,fun z=>List.set_set ..,?_,(hs.trans hs').upd hD,zb⟩
      rw[List.take_add_one,hx,List.map_append];rfl
  · have e:i=xs.length:=by omega
    subst e
    refine .inl ⟨F.stop _ _ (hP _ hs) (Nat.le_refl _),hQ _ hs ?_⟩
    rw[List.take_length] at hDy
    exact hDy
section
variable {X:Cx}(K:PySem.W.Frag) (h:X.K=K)
include h
theorem zac:IxR X (rIxL K):=h▸zt1
theorem zag:IxR X (rIxT K):=h▸zv8
theorem zhv:SlR X (rSlL K):=h▸zt2
theorem zky:SlR X (rSlT K):=h▸zsu
theorem zce:OpR X (binaryOp .Add) (zv7 K):=h▸ztz
theorem zhb:OpR X (compareOp .In) (rIn K false):=h▸zog
theorem zcp:OpR X (compareOp .NotIn) (rIn K true):=h▸zi7
theorem zkz (hu:X.A.units+9<cLine):OpR X (compareOp .Eq) (rEqD K):=h▸zwj hu
theorem zd7 (hu:X.A.units+9<cLine):OpR X (compareOp .NotEq) (rNeD K):=h▸zwk hu
theorem zue (hu:X.A.units+10<cLine):OpR X (compareOp .In) (rInD K false):=h▸zwl hu
theorem zar:zco X (.builtin "len") (fun xs H Q=>∃p ys,xs = [.ref p]/\(SqL K H p ys\/SqT K H p ys)/\Q (.int ys.length) H):=h▸zi8
theorem zgm:zco X (.type "tuple") (fun xs H Q=>∃p ys,xs = [.ref p]/\((SqL K H p ys/\∀l,H l=none->Q (.ref l) (upd H l (.tup ys)))\/(SqT K H p ys/\Q (.ref p) H))):=h▸zhp
theorem zot:zco X (.builtin "isinstance") (fun xs H Q=>∃x t n b,xs = [x,V.ty n]/\TyOf K H x t/\PySem.W.kitOne K t (.type n)=some b/\Q (.bl b) H):=h▸zrg
theorem zm0 (hc:X.calm=true):zco X (.builtin "all") (fun xs H Q=>∃(a:Addr) (bs:List Bool),xs = [V.ref a]/\SqL K H a (bs.map V.bl)/\Q (.bl (bs.all id)) H):=h▸zoq hc
theorem zhw:MtR X "str.join" (fun x xs H Q=>∃(sep:Str) (p:Addr) (ys:List Str),x=V.str sep/\xs = [V.ref p]/\SqL K H p (ys.map V.str)/\(ys.map (·.length)).sum+ys.length * sep.length<=16777216/\Q (.str (Txt.join sep ys)) H):=h▸zud
variable {o e:Expr}{es:List Expr}{to:TE}{t:TA}{name:Str}{apos cpos:Pos}{T id:String}{r:V->List V->Hp->VK->Prop}
theorem zou (pa:PlainAttrs T) (slot:Slot T name id) (hty:typeOf (.builtin id)=pure (.type "method_descriptor")) (hm:MtR X id r) (ho:PE X o to)
    (hbase:attributeBase o name X.env (eval o X.env)=eval o X.env:=by rfl) (hline:(apos.endLine == cpos.line)=true:=by rfl):PE X (.Call (.Attribute o name apos) [] [] cpos) (tBM0 K T r to):=h▸zwa pa slot hty hm ho hbase hline
theorem zbr (pa:PlainAttrs T) (slot:Slot T name id) (hty:typeOf (.builtin id)=pure (.type "method_descriptor")) (hm:MtR X id r) (ho:PE X o to) (ha:PA X (e::es) t)
    (hbase:attributeBase o name X.env (eval o X.env)=eval o X.env:=by rfl)
    (hfew:((backTo cpos (starEach (e::es) X.env)).all (fun x=>!x.1)&&(backToKw cpos (keywordEach [] X.env)).all (fun x=>x.1.isSome)
      && decide ((e::es).length+([]:List Keyword).length+(if ([]:List Keyword).isEmpty then 0 else 1)<30))=true:=by rfl)
    (hline:(apos.endLine == cpos.line)=true:=by rfl) (hs:starEach (e::es) X.env=(false,eval e X.env)::starEach es X.env:=by rfl) (hplain:(backTo cpos (starEach es X.env)).any (·.1)=false:=by rfl) :
    PE X (.Call (.Attribute o name apos) (e::es) [] cpos) (tBM K T r to t):=h▸zxr pa slot hty hm ho ha hbase hfew hline hs hplain
end
section
variable {X:Cx}{tg:Expr}(K:PySem.W.Frag) (h:X.K=K)
include h
theorem zbh {l:Expr}{tl:TE}(hl:PE X l tl):PI X tg l (zv0 K tl):=h▸zto hl
theorem zov {l:Expr}{tl:TE}(hl:PE X l tl):PI X tg l (iTup K tl):=h▸zv1 hl
theorem zk0 {es:List Expr}{k:Nat}{t:TGs}{n:Nat}{pos:Pos}(hc:X.calm=true) (h':PGs X es t)
    (hn:(assignEach es X.env).length=n:=by rfl) (hst:(assignEach es X.env).findIdx? (·.1)=none:=by rfl):PG X (.Tuple es k pos) (gTup K n t):=h▸zvy hc h' hn hst
end
theorem hu10 {A:Around}{k:Nat}(hr:Room k A):A.units+9<cLine:=Nat.lt_of_le_of_lt (Nat.add_le_add_left (by decide:9<=64) _) hr.units
theorem hu11 {A:Around}{k:Nat}(hr:Room k A):A.units+10<cLine:=Nat.lt_of_le_of_lt (Nat.add_le_add_left (by decide:10<=64) _) hr.units
theorem zbz {c:TT}{t u:TS}{D:Ends}{σ:St}{H:Hp}(b:Bool) (ht:∀Q':Bool->Hp->Prop,(∀H',Same H H'->Q' b H')->c σ H Q') (hs:∀H',Same H H'->if b=true then t D σ H' else u D σ H'):tIfS c t u D σ H:=ht _ hs
theorem zwn {c:TT}{t u:TS}{D:Ends}{σ:St}{H:Hp}(b:Bool) (ht:∀Q':Bool->Hp->Prop,Q' b H->c σ H Q') (hs:if b=true then t D σ H else u D σ H):tIfS c t u D σ H:=ht _ hs
theorem DEq.nilL {K:PySem.W.Frag}{H:Hp}{n:Nat}{a b:Addr}{xs:List V}(hx:SqL K H a xs) (hy:SqL K H b []):DEq K H (n+1) (.ref a) (.ref b) (decide (xs = [])):=by
  by_cases h:xs = []
  · subst h
    exact DEq.lst (fun _=>true) hx hy rfl fun i x y e _=>by simp at e
  · rw[decide_eq_false h]
    exact DEq.lstN hx hy fun z=>h (List.length_eq_zero_iff.mp z)
theorem zep {α:Type}{x:α}{xs:List α}:atI (x::xs) 0=some x:=by
  have:=zcg (xs:=x::xs) (j:=0) (v:=x) rfl
  exact this
theorem zd8 {x:V}{xs:List V}:cutV (x::xs) (some 1) none=xs:=by
  unfold cutV HT.sIx
  simp
theorem zaj {n:Nat}(h:n<=1000):n<=sizeLine:=Nat.le_of_lt (zbe h)
open Builtin Builtin.Str
theorem zdw:∀(ys:List Str) (k:Nat),Vals (ys.map V.str) (strsFrom k ys)
  | [],_=>.nil
  | y::ys,k=>.cons ⟨k,rfl⟩ (zdw ys (k+1))
section
variable {X:Cx}
theorem zlz {pins:List (Addr×Obj)}{σ:St}{H:Hp}{s:Shared}{Q:VK}{ys:List Str}{us:List Value}{k n:Nat}(I:Inv X pins σ H s) (r:Vals (ys.map V.str) us) (hz:ys.length<=sizeLine) (q:∀p,H p=none->Q (.ref p) (upd H p (.lst (ys.map V.str)))) :
    EP X pins σ Q (.ref s.heap.objs.size) { s with heap:=s.heap.push { cls:=.type "list",data:=.seq us.toArray n },toks:=k }:=
  ⟨.ref s.heap.objs.size,_,I.laid (t':=k) (o:=.lst (ys.map V.str)) (fun b u e=>Heap.get?_push_of_some _ e) (Nat.le_refl _) ⟨by rw[List.length_map];exact hz,us,n,r,Heap.get?_push_size _ rfl⟩,rfl,q _ (I.hok.fresh (Nat.le_refl _))⟩
theorem zri:MtR X "str.split" (fun x xs H Q=>∃a b,x=V.str a/\xs = [V.str b]/\(b.length == 0)=false/\a.length<=sizeLine/\(Txt.split a b).length<=sizeLine/\∀p,H p=none->Q (.ref p) (upd H p (.lst ((Txt.split a b).map V.str)))):=by
  intro pins s σ H x xs v us Q I rx rs h
  obtain⟨a,b,rfl,rfl,hb,ha,hn,q⟩:=h
  obtain⟨t,rfl⟩:=rx
  obtain⟨u,rfl,t',rfl⟩:=zdg rs
  have one:Txt.split a b = [a]->EP X pins σ Q (.ref s.heap.objs.size) { s with heap:=s.heap.push { cls:=.type "list",data:=.seq [Value.str a t].toArray 0 },toks:=s.toks }:=fun e=>by
    rw[e] at q
    exact zlz I (ys:=[a]) (.cons ⟨t,rfl⟩ .nil) (by show 1<=sizeLine;decide) q
  cases h1:(decide (a.length<b.length)||decide (strKind a<strKind b))
  · cases hf:(occurrences a b 0 a.length (a.length+1)).isEmpty
    · have e:Txt.split a b=partsBetween a (occurrences a b 0 a.length (a.length+1)) b.length:=by
        unfold Txt.split
        rw[h1,hf];rfl
      rw[e] at hn q
      refine call_meets F.slot_str_split (typeIs_str _ _ _) F.entry_str_split (F.args_str_split_2 _ _) (meets_str_split_sep a b t t' h1 hb hf ha hn) ?_
      exact zlz I (zdw _ _) hn q
    · exact call_meets F.slot_str_split (typeIs_str _ _ _) F.entry_str_split (F.args_str_split_2 _ _) (meets_str_split_not_found a b t t' h1 hb hf) (one (by unfold Txt.split;rw[h1,hf];rfl))
  · exact call_meets F.slot_str_split (typeIs_str _ _ _) F.entry_str_split (F.args_str_split_2 _ _) (meets_str_split_cannot_occur a b t t' h1) (one (by unfold Txt.split;rw[h1];rfl))
end
section
variable {X:Cx}{pins:List (Addr×Obj)}{σ:St}{H:Hp}{s:Shared}{h':Heap}
theorem Inv.turnedL {t':Nat}{ch:List Addr}(I:Inv X pins σ H s) (k:∀b o,b ∉ ch->s.heap.get? b=some o->h'.get? b=some o) (hf:∀b∈ch,FpOk X pins H b):Inv X pins σ H { s with heap:=h',toks:=t' }:=by
  have nit:∀b u,H b=some u->b ∉ ch:=fun b u e z=>by rw[(hf b z).1] at e;cases e
  refine I.step (g':=s.gens) (d':=s.drawn) (ch:=ch) (fun b hb=>⟨(hf b hb).2.2.2.1,(hf b hb).2.1,(hf b hb).2.2.2.2.1,(hf b hb).2.2.2.2.2⟩) (fun b o _ _ hc e _=>k b o hc e) (fun b o _ _ hc e _=>⟨o.slots,k b o hc e⟩) (fun _ _ _ _ n=>n)
    (fun b o hc e=>⟨o,k b o hc e⟩) (fun _ _ e=>e) (fun _ _ _ e=>e) (fun b ps e=>⟨#[],by rw[e];simp⟩) (fun m hm=>?_) (fun b u e=>?_) I.bare
  · obtain⟨o,es,ep,ho,r⟩:=hm
    exact⟨o,es,ep,k _ o (fun z=>(hf _ z).2.1 rfl) ho,r⟩
  · refine (I.hok b u e).stay (fun c v hc q=>k c v ?_ q) (fun _ q=>q) fun _ _ q=>q
    rcases hc with z | z
    · rw[z];exact nit b u e
    · exact nit c _ z
theorem Inv.turnedNew {t':Nat}{ch:List Addr}{T:Addr}{o:HO}(I:Inv X pins σ H s) (k:∀b u,b ∉ ch->s.heap.get? b=some u->h'.get? b=some u) (hf:∀b∈ch,FpOk X pins H b) (hT:s.heap.objs.size<=T)
    (new:ObjOk X.prog X.w (upd H T o) h' T o):Inv X pins σ (upd H T o) { s with heap:=h',toks:=t' }:=by
  have hn:H T=none:=I.hok.fresh hT
  have nit:∀b u,H b=some u->b ∉ ch:=fun b u e z=>by rw[(hf b z).1] at e;cases e
  have neT:∀b u,s.heap.get? b=some u->b≠T:=fun b u e=>Nat.ne_of_lt (Nat.lt_of_lt_of_le (Heap.lt_size e) hT)
  refine I.step (g':=s.gens) (d':=s.drawn) (ch:=ch) (fun b hb=>⟨(hf b hb).2.2.2.1,(hf b hb).2.1,(hf b hb).2.2.2.2.1,(hf b hb).2.2.2.2.2⟩) (fun b u _ _ hc e _=>k b u hc e) (fun b u _ _ hc e _=>⟨u.slots,k b u hc e⟩) (fun b u _ e n=>by rw[zn (neT b u e)];exact n)
    (fun b u hc e=>⟨u,k b u hc e⟩) (fun b xs e=>by rw[zn (zc e hn)];exact e) (fun b u v e=>by rw[zn (zc e hn)];exact e) (fun b ps e=>⟨#[],by rw[zn (zc e hn),e];simp⟩) (fun m hm=>?_) (fun b u e=>?_) I.bare
  · obtain⟨u,es,ep,ho,r⟩:=hm
    exact⟨u,es,ep,k _ u (fun z=>(hf _ z).2.1 rfl) ho,r⟩
  · by_cases hb:b=T
    · subst hb
      rw[zb] at e
      cases e
      exact new
    · rw[zn hb] at e
      refine (I.hok b u e).stay (fun c v hc q=>k c v ?_ q) (fun c q=>by rw[zn (zc q hn)];exact q) fun c xs q=>by rw[zn (zc q hn)];exact q
      rcases hc with z | z
      · rw[z];exact nit b u e
      · exact nit c _ z
end
def SIt (b:Bool) (h:Heap) (it a:Addr) (i:Nat):Prop:=if b=true then h.IsTupleIter it a i else h.IsListIter it a i
def SSq (b:Bool) (h:Heap) (a:Addr) (items:Array Value):Prop:=if b=true then h.IsTuple a items else h.IsList a items
theorem SIt.at {b:Bool}{h h':Heap}{it a:Addr}{i:Nat}(q:SIt b h it a i) (k:∀o,h.get? it=some o->h'.get? it=some o):SIt b h' it a i:=by
  cases b with
  | true=>exact Heap.IsTupleIter.at (show h.IsTupleIter it a i from q) k
  | false=>exact Heap.IsListIter.at (show h.IsListIter it a i from q) k
theorem SSq.at {b:Bool}{h h':Heap}{a:Addr}{items:Array Value}(q:SSq b h a items) (k:∀o,h.get? a=some o->h'.get? a=some o):SSq b h' a items:=by
  cases b with
  | true=>
    obtain⟨o,ho,r⟩:=show h.IsTuple a items from q
    exact⟨o,k o ho,r⟩
  | false=>exact Heap.IsList.at (show h.IsList a items from q) k
def zhx (b:Bool):String:=if b=true then "tuple_iterator" else "list_iterator"
theorem SIt.obj {b:Bool}{h:Heap}{it a:Addr}{i:Nat}(q:SIt b h it a i):∃o,h.get? it=some o/\o.cls = .type (zhx b)/\o.data = .fields #[.ref a,.int i 0]:=by
  cases b with
  | true=>
    obtain⟨o,ho,c,d⟩:=show h.IsTupleIter it a i from q
    exact⟨o,ho,c,d⟩
  | false=>
    obtain⟨o,ho,c,d⟩:=show h.IsListIter it a i from q
    exact⟨o,ho,c,d⟩
section
variable {prog:Program}{w:World}{A:Around}{E:Value->Shared->Prop}{s:Shared}
theorem zhy {b:Bool}{it a:Addr}{i:Nat}{items:Array Value}{x:Value}{Q:Value->Shared->Prop}(hi:SIt b s.heap it a i) (ha:SSq b s.heap a items) (hx:items[i]? = some x)
    (hQ:∀h1,SIt b h1 it a (i+1)->Heap.SameBut it s.heap h1->Q x { s with heap:=h1 }):wpAny (model prog w) A (Builtin.SmallTypes.nextOf (.ref it)) Q E s:=by
  cases b with
  | false=>exact wpAny_nextOf_list_item (show s.heap.IsListIter it a i from hi) (show s.heap.IsList a items from ha) hx hQ
  | true=>
    have hi:s.heap.IsTupleIter it a i:=hi
    obtain⟨o,ho,hc,hd⟩:=id hi
    obtain⟨oa,hoa,_,n,hda⟩:=show s.heap.IsTuple a items from ha
    unfold Builtin.SmallTypes.nextOf
    refine wpAny_bind (wpAny_callSpecial?_slot (name:=Str.ofString "__next__") hi.typeIs F.slot_tuple_iterator_next (wpAny_call_entry F.slot_tuple_iterator_next hi.typeIs F.entry_tuple_iterator_next ?_ (F.args_tuple_iterator_next_1 _)))
    show wpAny (model prog w) A.in1 (field (.ref it) 0 >>= _) _ _ s
    refine wpAny_bind (wpAny_field ho hd (x:=.ref a) rfl ?_)
    show wpAny (model prog w) A.in1 (if (Value.ref a == Value.none)=true then _ else _) _ _ s
    rw[if_neg (show ¬((Value.ref a == Value.none)=true) from Bool.false_ne_true)]
    show wpAny (model prog w) A.in1 (field (.ref it) 1 >>= _) _ _ s
    refine wpAny_bind (wpAny_field ho hd (x:=.int i 0) rfl ?_)
    show wpAny (model prog w) A.in1 (seqItems? (.ref a) >>= _) _ _ s
    refine wpAny_bind (wpAny_seqItems hoa hda ?_)
    simp only [Int.toNat_natCast,hx]
    refine wpAny_bind (wpAny_setField ho hd (by simp) (wpAny_pure ⟨x,rfl,wpAny_pure (hQ _ ?_ (Heap.SameBut.update ..))⟩))
    exact⟨_,Heap.get?_update_self _ ho (Obj.isFreed_of_fields (Obj.data_mapFields hd _)),(Obj.cls_mapFields ..).trans hc,by rw[Obj.data_mapFields hd];simp[rawInt]⟩
theorem zow {b:Bool}{it a:Addr}{i:Nat}{items:Array Value}{Q:Value->Shared->Prop}(hd:A.handled=none) (hi:SIt b s.heap it a i) (ha:SSq b s.heap a items) (hx:items[i]? = none)
    (hE:∀h1 e,Heap.ExtBut it s.heap h1->(∃o,h1.get? e=some o/\o.cls = .type "StopIteration")->E (.ref e) { s with heap:=h1 }):wpAny (model prog w) A (Builtin.SmallTypes.nextOf (.ref it)) Q E s:=by
  cases b with
  | false=>exact wpAny_nextOf_list_end hd (show s.heap.IsListIter it a i from hi) (show s.heap.IsList a items from ha) hx hE
  | true=>
    have hi:s.heap.IsTupleIter it a i:=hi
    obtain⟨o,ho,hc,hd'⟩:=id hi
    obtain⟨oa,hoa,_,n,hda⟩:=show s.heap.IsTuple a items from ha
    unfold Builtin.SmallTypes.nextOf
    refine wpAny_bind (wpAny_callSpecial?_slot (name:=Str.ofString "__next__") hi.typeIs F.slot_tuple_iterator_next (wpAny_call_entry F.slot_tuple_iterator_next hi.typeIs F.entry_tuple_iterator_next ?_ (F.args_tuple_iterator_next_1 _)))
    show wpAny (model prog w) A.in1 (field (.ref it) 0 >>= _) _ _ s
    refine wpAny_bind (wpAny_field ho hd' (x:=.ref a) rfl ?_)
    show wpAny (model prog w) A.in1 (if (Value.ref a == Value.none)=true then _ else _) _ _ s
    rw[if_neg (show ¬((Value.ref a == Value.none)=true) from Bool.false_ne_true)]
    show wpAny (model prog w) A.in1 (field (.ref it) 1 >>= _) _ _ s
    refine wpAny_bind (wpAny_field ho hd' (x:=.int i 0) rfl ?_)
    show wpAny (model prog w) A.in1 (seqItems? (.ref a) >>= _) _ _ s
    refine wpAny_bind (wpAny_seqItems hoa hda ?_)
    simp only [Int.toNat_natCast,hx]
    refine wpAny_bind (wpAny_rule (wpAny_bind (wpAny_setField ho hd' (by simp) ?_)))
    show wpAny (model prog w) A.in1 (newExc (.type "StopIteration") [] >>= _) _ _ _
    refine wpAny_bind ?_
    simp only [newExc,newTuple]
    refine wpAny_bind (wpAny_newObj_type (wpAny_bind (m:=firstArgMember _ _) (wpAny_of_eq (a:=Value.none) (by first | rfl | (simp only [firstArgMember];rfl)) (wpAny_newObj_type ?_ (by size_fits)))) (by size_fits))
    simp only [raiseNew]
    refine wpAny_bind (wpAny_handled ?_)
    rw[show A.in1.handled=none from hd]
    exact wpAny_bind (wpAny_pure (wpAny_throw (hE _ _ (((Heap.SameBut.update ..).extBut.push _).push _) ⟨_,Heap.get?_push_size _ rfl,rfl⟩)))
end
structure ZAp (z TI TO i1 i2:Addr):Prop where
  a1:TI≠z
  a2:TO≠z
  a3:i1≠z
  a4:i2≠z
  a5:TI≠TO
  a6:TI≠i1
  a7:TI≠i2
  a8:TO≠i1
  a9:TO≠i2
  b1:i1≠i2
structure ZOff (l z TO i1 i2:Addr):Prop where
  c1:l≠z
  c2:l≠TO
  c3:l≠i1
  c4:l≠i2
section
variable {prog:Program}{w:World}{A:Around}{E:Value->Shared->Prop}{s:Shared}{z TI TO i1 i2 l1 l2:Addr}{k1 k2:Nat}{xs ys:Array Value}{x y a b:Value}{t1 t2:Bool}
theorem zrj {Q:Value->Shared->Prop}(D:ZAp z TI TO i1 i2) (O1:ZOff l1 z TO i1 i2) (O2:ZOff l2 z TO i1 i2)
    (hz:IsZip s.heap z TI TO .none) (hI:IsPair s.heap TI (.ref i1) (.ref i2)) (hO:IsPair s.heap TO a b) (h1:SIt t1 s.heap i1 l1 k1) (h2:SIt t2 s.heap i2 l2 k2) (q1:SSq t1 s.heap l1 xs) (q2:SSq t2 s.heap l2 ys) (hx:xs[k1]? = some x) (hy:ys[k2]? = some y)
    (hQ:∀g,IsZip g z TI TO (rawInt s.heap.objs.size)->IsPair g TO x y->SIt t1 g i1 l1 (k1+1)->SIt t2 g i2 l2 (k2+1)->IsPair g s.heap.objs.size x y->
      (∀c o,c≠z->c≠TO->c≠i1->c≠i2->s.heap.get? c=some o->g.get? c=some o)->Q (.ref s.heap.objs.size) { s with heap:=g }) :
    wpAny (model prog w) A (Builtin.«zip.__next__» ⟨[.ref z],[]⟩) (fun fin s'=>∃v,fin = .done (.ret v)/\Q v s') E s:=by
  show wpAny (model prog w) A (field (.ref z) 2 >>= _) _ _ _
  refine wpAny_bind (wpAny_field hz rfl (x:=.bool false) rfl ?_)
  show wpAny (model prog w) A (field (.ref z) 3 >>= _) _ _ _
  refine wpAny_bind (wpAny_field hz rfl (x:=.ref TI) rfl (wpAny_bind (wpAny_seqItems hI rfl ?_)))
  show wpAny (model prog w) A (Builtin.SmallTypes.ownedTupleIsFree (.ref z) >>= _) _ _ _
  unfold Builtin.SmallTypes.ownedTupleIsFree
  refine wpAny_bind (wpAny_bind (wpAny_field hz rfl (x:=.none) rfl (wpAny_pure ?_)))
  simp only [if_true]
  refine wpAny_bind (wpAny_rule (wpAny_bind (wpAny_field hz rfl (x:=.ref TO) rfl (wpAny_bind (wpAny_setField_rec hz (by simp) fun g1 z1 e1=>?_)))))
  have z1:IsZip g1 z TI TO .ellipsis:=z1
  have e1:Heap.SameBut z s.heap g1:=e1
  refine wpAny_bind ?_
  simp only [List.zipIdx_cons,List.zipIdx_nil,List.forIn_cons,List.forIn_nil]
  refine wpAny_bind (wpAny_bind (wpAny_onRaise ?_))
  show wpAny (model prog w) A (Builtin.SmallTypes.nextOf (.ref i1) >>= _) _ _ _
  refine wpAny_bind (zhy (h1.at fun o q=>(e1.2 _ D.a3).trans q) (q1.at fun o q=>(e1.2 _ O1.c1).trans q) hx fun g2 j1 e2=>wpAny_pure ?_)
  have e2:Heap.SameBut i1 g1 g2:=e2
  have O2':IsPair g2 TO a b:=(e2.2 _ D.a8).trans ((e1.2 _ D.a2).trans hO)
  refine wpAny_bind (wpAny_seqItems O2' rfl (wpAny_bind (wpAny_updateSeq_pair O2' fun g3 O3 e3=>wpAny_bind (wpAny_letGo (wpAny_pure ?_)))))
  have O3:IsPair g3 TO x b:=O3
  have e3:Heap.SameBut TO g2 g3:=e3
  refine wpAny_bind (wpAny_bind (wpAny_onRaise ?_))
  show wpAny (model prog w) A (Builtin.SmallTypes.nextOf (.ref i2) >>= _) _ _ _
  refine wpAny_bind (zhy (h2.at fun o q=>(e3.2 _ D.a9.symm).trans ((e2.2 _ D.b1.symm).trans ((e1.2 _ D.a4).trans q))) (q2.at fun o q=>(e3.2 _ O2.c2).trans ((e2.2 _ O2.c3).trans ((e1.2 _ O2.c1).trans q))) hy fun g4 j2 e4=>wpAny_pure ?_)
  have e4:Heap.SameBut i2 g3 g4:=e4
  have O4:IsPair g4 TO x b:=(e4.2 _ D.a9).trans O3
  refine wpAny_bind (wpAny_seqItems O4 rfl (wpAny_bind (wpAny_updateSeq_pair O4 fun g5 O5 e5=>wpAny_bind (wpAny_letGo (wpAny_pure (wpAny_pure ?_))))))
  have O5:IsPair g5 TO x y:=O5
  have e5:Heap.SameBut TO g4 g5:=e5
  refine wpAny_bind (wpAny_seqItems O5 rfl (wpAny_bind (wpAny_newTuple ?_)))
  have sz:g5.objs.size=s.heap.objs.size:=by rw[e5.1,e4.1,e3.1,e2.1,e1.1]
  have z5:IsZip g5 z TI TO .ellipsis:=(e5.2 _ D.a2.symm).trans ((e4.2 _ D.a4.symm).trans ((e3.2 _ D.a2.symm).trans ((e2.2 _ D.a3.symm).trans z1)))
  have k5:∀c o,c≠z->c≠TO->c≠i1->c≠i2->s.heap.get? c=some o->g5.get? c=some o:=fun c o c1 c2 c3 c4 q=>(e5.2 _ c2).trans ((e4.2 _ c4).trans ((e3.2 _ c2).trans ((e2.2 _ c3).trans ((e1.2 _ c1).trans q))))
  have j1':SIt t1 g5 i1 l1 (k1+1):=j1.at fun o q=>(e5.2 _ D.a8.symm).trans ((e4.2 _ D.b1).trans ((e3.2 _ D.a8.symm).trans q))
  have j2':SIt t2 g5 i2 l2 (k2+1):=j2.at fun o q=>(e5.2 _ D.a9.symm).trans q
  have zl:z<g5.objs.size:=Heap.lt_size z5
  show wpAny (model prog w) A (Builtin.SmallTypes.ownedTupleHandOut (.ref z) (.ref g5.objs.size) >>= _) _ _ _
  unfold Builtin.SmallTypes.ownedTupleHandOut
  have z6:IsZip (g5.push { cls:=.type "tuple",data:=.seq #[x,y] }) z TI TO .ellipsis:=Heap.get?_push_of_some _ z5
  refine wpAny_bind (wpAny_bind (wpAny_setField_rec z6 (by simp) fun g7 z7 e7=>?_))
  have z7:IsZip g7 z TI TO (rawInt g5.objs.size):=z7
  refine wpAny_setField_rec z7 (by simp) fun g8 z8 e8=>?_
  have z8:IsZip g8 z TI TO (rawInt g5.objs.size):=z8
  have up:∀c o,c≠z->g5.get? c=some o->g8.get? c=some o:=fun c o c1 q=>(e8.2 c c1).trans ((e7.2 c c1).trans (Heap.get?_push_of_some _ q))
  have T8:IsPair g8 g5.objs.size x y:=(e8.2 _ (Nat.ne_of_gt zl)).trans ((e7.2 _ (Nat.ne_of_gt zl)).trans (Heap.get?_push_size _ rfl))
  rw[sz] at z8 T8
  refine wpAny_pure ⟨_,rfl,?_⟩
  show Q (.ref g5.objs.size) _
  rw[sz]
  exact hQ g8 z8 (up _ _ D.a2 O5) (j1'.at fun o q=>up _ o D.a3 q) (j2'.at fun o q=>up _ o D.a4 q) T8 fun c o c1 c2 c3 c4 q=>up c o c1 (k5 c o c1 c2 c3 c4 q)
theorem zrk {Q:Fin->Shared->Prop}(hd:A.handled=none) (D:ZAp z TI TO i1 i2) (O1:ZOff l1 z TO i1 i2) (O2:ZOff l2 z TO i1 i2)
    (hz:IsZip s.heap z TI TO .none) (hI:IsPair s.heap TI (.ref i1) (.ref i2)) (hO:IsPair s.heap TO a b) (h1:SIt t1 s.heap i1 l1 k1) (h2:SIt t2 s.heap i2 l2 k2) (q1:SSq t1 s.heap l1 xs) (q2:SSq t2 s.heap l2 ys) (hend:xs[k1]? = none\/ys[k2]? = none)
    (hE:∀g e,(∀c o,c≠z->c≠TO->c≠i1->c≠i2->s.heap.get? c=some o->g.get? c=some o)->(∃o,g.get? e=some o/\o.cls = .type "StopIteration")->E (.ref e) { s with heap:=g }) :
    wpAny (model prog w) A (Builtin.«zip.__next__» ⟨[.ref z],[]⟩) Q E s:=by
  show wpAny (model prog w) A (field (.ref z) 2 >>= _) _ _ _
  refine wpAny_bind (wpAny_field hz rfl (x:=.bool false) rfl ?_)
  show wpAny (model prog w) A (field (.ref z) 3 >>= _) _ _ _
  refine wpAny_bind (wpAny_field hz rfl (x:=.ref TI) rfl (wpAny_bind (wpAny_seqItems hI rfl ?_)))
  show wpAny (model prog w) A (Builtin.SmallTypes.ownedTupleIsFree (.ref z) >>= _) _ _ _
  unfold Builtin.SmallTypes.ownedTupleIsFree
  refine wpAny_bind (wpAny_bind (wpAny_field hz rfl (x:=.none) rfl (wpAny_pure ?_)))
  simp only [if_true]
  refine wpAny_bind (wpAny_rule (wpAny_bind (wpAny_field hz rfl (x:=.ref TO) rfl (wpAny_bind (wpAny_setField_rec hz (by simp) fun g1 z1 e1=>?_)))))
  have z1:IsZip g1 z TI TO .ellipsis:=z1
  have e1:Heap.SameBut z s.heap g1:=e1
  refine wpAny_bind ?_
  simp only [List.zipIdx_cons,List.zipIdx_nil,List.forIn_cons,List.forIn_nil]
  refine wpAny_bind (wpAny_bind (wpAny_onRaise ?_))
  show wpAny (model prog w) A (Builtin.SmallTypes.nextOf (.ref i1) >>= _) _ _ _
  cases hx:xs[k1]? with
  | none=>
    refine wpAny_bind (zow hd (h1.at fun o q=>(e1.2 _ D.a3).trans q) (q1.at fun o q=>(e1.2 _ O1.c1).trans q) hx fun g2 e e2 he=>?_)
    obtain⟨oe,hoe,ce⟩:=he
    have z2:IsZip g2 z TI TO .ellipsis:=e2 _ _ D.a3.symm z1
    have nz:e≠z:=by
      rintro rfl
      rw[z2] at hoe;cases hoe
      injection ce with ce
      exact absurd ce (by decide)
    exact wpAny_setField_rec z2 (by simp) fun g3 _ e3=>hE g3 e (fun c o c1 _ c3 _ q=>(e3.2 c c1).trans (e2 c o c3 ((e1.2 c c1).trans q))) ⟨oe,(e3.2 e nz).trans hoe,ce⟩
  | some x=>
    have hy:ys[k2]? = none:=by
      rcases hend with h | h
      · rw[hx] at h;cases h
      · exact h
    refine wpAny_bind (zhy (h1.at fun o q=>(e1.2 _ D.a3).trans q) (q1.at fun o q=>(e1.2 _ O1.c1).trans q) hx fun g2 j1 e2=>wpAny_pure ?_)
    have e2:Heap.SameBut i1 g1 g2:=e2
    have O2':IsPair g2 TO a b:=(e2.2 _ D.a8).trans ((e1.2 _ D.a2).trans hO)
    refine wpAny_bind (wpAny_seqItems O2' rfl (wpAny_bind (wpAny_updateSeq_pair O2' fun g3 O3 e3=>wpAny_bind (wpAny_letGo (wpAny_pure ?_)))))
    have e3:Heap.SameBut TO g2 g3:=e3
    refine wpAny_bind (wpAny_bind (wpAny_onRaise ?_))
    show wpAny (model prog w) A (Builtin.SmallTypes.nextOf (.ref i2) >>= _) _ _ _
    refine wpAny_bind (zow hd (h2.at fun o q=>(e3.2 _ D.a9.symm).trans ((e2.2 _ D.b1.symm).trans ((e1.2 _ D.a4).trans q))) (q2.at fun o q=>(e3.2 _ O2.c2).trans ((e2.2 _ O2.c3).trans ((e1.2 _ O2.c1).trans q))) hy fun g4 e e4 he=>?_)
    obtain⟨oe,hoe,ce⟩:=he
    have z4:IsZip g4 z TI TO .ellipsis:=e4 _ _ D.a4.symm ((e3.2 _ D.a2.symm).trans ((e2.2 _ D.a3.symm).trans z1))
    have nz:e≠z:=by
      rintro rfl
      rw[z4] at hoe;cases hoe
      injection ce with ce
      exact absurd ce (by decide)
    exact wpAny_setField_rec z4 (by simp) fun g5 _ e5=>hE g5 e (fun c o c1 c2 c3 c4 q=>(e5.2 c c1).trans (e4 c o c4 ((e3.2 c c2).trans ((e2.2 c c3).trans ((e1.2 c c1).trans q))))) ⟨oe,(e5.2 e nz).trans hoe,ce⟩
end
section
variable {prog:Program}{w:World}{A:Around}{E:Value->Shared->Prop}{s:Shared}{z TI TO i1 i2 l1 l2:Addr}{k1 k2:Nat}{xs ys:Array Value}{x y a b:Value}{t1 t2:Bool}
theorem zrl {Q:Option Value->Shared->Prop}(D:ZAp z TI TO i1 i2) (O1:ZOff l1 z TO i1 i2) (O2:ZOff l2 z TO i1 i2)
    (hz:IsZip s.heap z TI TO .none) (hI:IsPair s.heap TI (.ref i1) (.ref i2)) (hO:IsPair s.heap TO a b) (h1:SIt t1 s.heap i1 l1 k1) (h2:SIt t2 s.heap i2 l2 k2) (q1:SSq t1 s.heap l1 xs) (q2:SSq t2 s.heap l2 ys) (hx:xs[k1]? = some x) (hy:ys[k2]? = some y)
    (hQ:∀g,IsZip g z TI TO (rawInt s.heap.objs.size)->IsPair g TO x y->SIt t1 g i1 l1 (k1+1)->SIt t2 g i2 l2 (k2+1)->IsPair g s.heap.objs.size x y->
      (∀c o,c≠z->c≠TO->c≠i1->c≠i2->s.heap.get? c=some o->g.get? c=some o)->Q (some (.ref s.heap.objs.size)) { s with heap:=g }):wpAny (model prog w) A (pyNext (.ref z)) Q E s:=by
  have T:s.TypeIs (.ref z) "zip":=⟨_,hz,rfl⟩
  unfold pyNext
  exact wpAny_bind (wpAny_attempt (wpAny_callSpecial?_slot (name:=Str.ofString "__next__") T F.slot_zip_next (wpAny_call_entry F.slot_zip_next T F.entry_zip_next (zrj D O1 O2 hz hI hO h1 h2 q1 q2 hx hy fun g r1 r2 r3 r4 r5 r6=>wpAny_pure (hQ g r1 r2 r3 r4 r5 r6)) (F.args_zip_next_1 _))))
theorem zuf {Q:Option Value->Shared->Prop}(hd:A.handled=none) (D:ZAp z TI TO i1 i2) (O1:ZOff l1 z TO i1 i2) (O2:ZOff l2 z TO i1 i2)
    (hz:IsZip s.heap z TI TO .none) (hI:IsPair s.heap TI (.ref i1) (.ref i2)) (hO:IsPair s.heap TO a b) (h1:SIt t1 s.heap i1 l1 k1) (h2:SIt t2 s.heap i2 l2 k2) (q1:SSq t1 s.heap l1 xs) (q2:SSq t2 s.heap l2 ys) (hend:xs[k1]? = none\/ys[k2]? = none)
    (hQ:∀g,(∀c o,c≠z->c≠TO->c≠i1->c≠i2->s.heap.get? c=some o->g.get? c=some o)->Q none { s with heap:=g }):wpAny (model prog w) A (pyNext (.ref z)) Q E s:=by
  have T:s.TypeIs (.ref z) "zip":=⟨_,hz,rfl⟩
  unfold pyNext
  refine wpAny_bind (wpAny_attempt (wpAny_callSpecial?_slot (name:=Str.ofString "__next__") T F.slot_zip_next (wpAny_call_entry F.slot_zip_next T F.entry_zip_next (zrk hd D O1 O2 hz hI hO h1 h2 q1 q2 hend fun g e hk he=>?_) (F.args_zip_next_1 _))))
  obtain⟨o,ho,c⟩:=he
  exact wpAny_bind (wpAny_isInstance (T:="StopIteration") (b:=true) ⟨o,ho,c⟩ isSubtype_stop (wpAny_pure (hQ _ hk)))
theorem zl0 {b:Bool}{l:Addr}{items:Array Value}{Q:Value->Shared->Prop}(h:SSq b s.heap l items) (q:Q (.ref s.heap.objs.size) { s with heap:=s.heap.push { cls:=.type (zhx b),data:=.fields #[.ref l,.int 0 0] } }):wpAny (model prog w) A (pyIter (.ref l)) Q E s:=by
  cases b with
  | true=>exact wpAny_pyIter_tuple (show s.heap.IsTuple l items from h) q
  | false=>exact wpAny_pyIter_list (show s.heap.IsList l items from h) q
end
def SqV (K:PySem.W.Frag) (b:Bool) (H:Hp) (a:Addr) (xs:List V):Prop:=if b=true then SqT K H a xs else SqL K H a xs
section
variable {X:Cx}{pins:List (Addr×Obj)}{σ:St}{H:Hp}{s:Shared}{a:Addr}{xs ys:List V}
theorem Inv.sq {b:Bool}(I:Inv X pins σ H s) (h:SqV X.K b H a xs):∃its:List Value,Vals xs its/\SSq b s.heap a its.toArray:=by
  cases b with
  | true=>
    obtain⟨its,r,p,_⟩:=I.tuple (show SqT X.K H a xs from h)
    exact⟨its,r,p⟩
  | false=>
    obtain⟨its,r,p,_⟩:=I.list (show SqL X.K H a xs from h)
    exact⟨its,r,p.isList⟩
theorem Inv.sq_inj {b:Bool}(I:Inv X pins σ H s) (h:SqV X.K b H a xs) (h':SqV X.K b H a ys):xs=ys:=by
  cases b with
  | true=>exact I.tuple_inj (show SqT X.K H a xs from h) h'
  | false=>exact I.list_inj (show SqL X.K H a xs from h) h'
theorem Inv.off {b:Bool}{c:Addr}(I:Inv X pins σ H s) (h:SqV X.K b H a xs) (f:FpOk X pins H c):a≠c:=by
  have rd:∀u,Rd H a u->a≠c:=fun u q=>by
    rcases q with q | ⟨o,q⟩
    · exact zc q f.1
    · exact zc q f.1
  have kk:∀o,X.K.lookup a=some o->a≠c:=fun o q=>by
    have e:=I.ok.mod.kin a o q
    rintro rfl
    rcases f.2.2.2.1 with z | z
    · exact I.ok.noex a o e z
    · exact absurd (Nat.lt_of_lt_of_le (Nat.lt_of_lt_of_le (Heap.lt_size e) I.ok.bsz) z) (Nat.lt_irrefl _)
  cases b with
  | true=>
    rcases show SqT X.K H a xs from h with q | ⟨o,_,_,q,_⟩
    · exact rd _ q
    · exact kk o q
  | false=>
    rcases show SqL X.K H a xs from h with q | ⟨o,_,_,q,_⟩
    · exact rd _ q
    · exact kk o q
end
def Itz (K:PySem.W.Frag) (b1 b2:Bool) (l1 l2:Addr):It:=
  ⟨fun i H=>∃xs ys x y,SqV K b1 H l1 xs/\SqV K b2 H l2 ys/\xs[i]? = some x/\ys[i]? = some y,
   fun i H v H'=>∃T x y,H T=none/\v = .ref T/\H'=upd H T (.tup [x,y])/\∀xs ys,SqV K b1 H l1 xs->SqV K b2 H l2 ys->xs[i]? = some x/\ys[i]? = some y,
   fun i H=>∃xs ys,SqV K b1 H l1 xs/\SqV K b2 H l2 ys/\(xs.length<=i\/ys.length<=i)⟩
theorem zrm {P:Program}{w:World}{K:PySem.W.Frag}{elts:List Expr}{ct:Nat}{pos:Pos}{b1 b2:Bool}{l1 l2 z TI TO i1 i2:Addr}(D:ZAp z TI TO i1 i2) :
    Turn P w K (.Tuple elts ct pos) (Itz K b1 b2 l1 l2) [z,TI,TO,i1,i2] z (fun i h=>IsZip h z TI TO .none/\IsPair h TI (.ref i1) (.ref i2)/\(∃a b,IsPair h TO a b)/\SIt b1 h i1 l1 i/\SIt b2 h i2 l2 i) where
  mem:=by simp
  obj:=fun i h q b hb=>by
    obtain⟨hz,hI,⟨a,c,hO⟩,h1,h2⟩:=q
    obtain⟨o1,g1,_,d1⟩:=h1.obj
    obtain⟨o2,g2,_,d2⟩:=h2.obj
    simp only [List.mem_cons,List.not_mem_nil,or_false] at hb
    rcases hb with rfl | rfl | rfl | rfl | rfl
    · exact⟨_,hz,fun v z=>by cases z⟩
    · exact⟨_,hI,fun v z=>by cases z⟩
    · exact⟨_,hO,fun v z=>by cases z⟩
    · exact⟨_,g1,fun v z=>by rw[d1] at z;cases z⟩
    · exact⟨_,g2,fun v z=>by rw[d2] at z;cases z⟩
  keep:=fun i h h' q k=>by
    obtain⟨hz,hI,⟨a,c,hO⟩,h1,h2⟩:=q
    exact⟨k z (by simp) _ hz,k TI (by simp) _ hI,⟨a,c,k TO (by simp) _ hO⟩,h1.at fun o x=>k i1 (by simp) o x,h2.at fun o x=>k i2 (by simp) o x⟩
  item:=by
    intro X hP hw hK hc i pins s σ H E I hf q hg
    subst hP hw hK
    obtain⟨xs,ys,x,y,s1,s2,hx,hy⟩:=hg
    obtain⟨hz,hI,⟨a,c,hO⟩,h1,h2⟩:=q
    obtain⟨it1,r1,g1⟩:=I.sq s1
    obtain⟨it2,r2,g2⟩:=I.sq s2
    obtain⟨u,hu,ru⟩:=r1.get hx
    obtain⟨v,hv,rv⟩:=r2.get hy
    have off1:ZOff l1 z TO i1 i2:=⟨I.off s1 (hf z (by simp)),I.off s1 (hf TO (by simp)),I.off s1 (hf i1 (by simp)),I.off s1 (hf i2 (by simp))⟩
    have off2:ZOff l2 z TO i1 i2:=⟨I.off s2 (hf z (by simp)),I.off s2 (hf TO (by simp)),I.off s2 (hf i1 (by simp)),I.off s2 (hf i2 (by simp))⟩
    have lt:∀b o,s.heap.get? b=some o->b≠s.heap.objs.size:=fun b o e=>Nat.ne_of_lt (Heap.lt_size e)
    refine zrl D off1 off2 hz hI hO h1 h2 g1 g2 (x:=u) (y:=v) (by simpa using hu) (by simpa using hv) fun g z' O' j1 j2 T' kk=>⟨_,rfl,?_⟩
    have fn:∀b∈[z,TI,TO,i1,i2],upd H s.heap.objs.size (.tup [x,y]) b=none:=fun b hb=>by
      have hb':b≠s.heap.objs.size:=by
        obtain⟨o1,e1,_⟩:=h1.obj
        obtain⟨o2,e2,_⟩:=h2.obj
        simp only [List.mem_cons,List.not_mem_nil,or_false] at hb
        rcases hb with rfl | rfl | rfl | rfl | rfl
        · exact lt _ _ hz
        · exact lt _ _ hI
        · exact lt _ _ hO
        · exact lt _ _ e1
        · exact lt _ _ e2
      rw[zn hb']
      exact (hf b hb).1
    have I1:Inv X pins σ (upd H s.heap.objs.size (.tup [x,y])) { s with heap:=g,toks:=s.toks }:=
      I.turnedNew (ch:=[z,TO,i1,i2]) (o:=.tup [x,y]) (fun b o hb q=>kk b o (fun e=>hb (by simp[e])) (fun e=>hb (by simp[e])) (fun e=>hb (by simp[e])) (fun e=>hb (by simp[e])) q)
        (fun b hb=>hf b (by simp only [List.mem_cons,List.not_mem_nil,or_false] at hb ⊢;rcases hb with h | h | h | h<;>simp[h])) (Nat.le_refl _) ⟨(by show 2<=sizeLine;decide),[u,v],.cons ru (.cons rv .nil),_,T',rfl,_,rfl⟩
    refine wpAny_letOwnedTupleGo_zip z' fun g2 z2 e2=>?_
    have I2:=I1.turnedL (t':=s.toks) (h':=g2) (ch:=[z]) (fun b o hb q=>(e2.2 b (fun e=>hb (by simp[e]))).trans q) (fun b hb=>by
      rw[List.mem_singleton] at hb
      subst hb
      exact⟨fn _ (by simp),(hf _ (by simp)).2⟩)
    have hI2:IsPair g TI (.ref i1) (.ref i2):=kk TI _ D.a1 D.a5 D.a6 D.a7 hI
    exact⟨.ref s.heap.objs.size,_,I2,rfl,⟨_,x,y,I.hok.fresh (Nat.le_refl _),rfl,rfl,fun xs' ys' p1 p2=>⟨by rw[I.sq_inj p1 s1];exact hx,by rw[I.sq_inj p2 s2];exact hy⟩⟩,
      ⟨z2,(e2.2 _ D.a1).trans hI2,⟨_,_,(e2.2 _ D.a2).trans O'⟩,j1.at fun o q=>(e2.2 _ D.a3).trans q,j2.at fun o q=>(e2.2 _ D.a4).trans q⟩,fn⟩
  done:=by
    intro X hP hw hK hc i pins s σ H E I hf q hg
    subst hP hw hK
    obtain⟨xs,ys,s1,s2,hend⟩:=hg
    obtain⟨hz,hI,⟨a,c,hO⟩,h1,h2⟩:=q
    obtain⟨it1,r1,g1⟩:=I.sq s1
    obtain⟨it2,r2,g2⟩:=I.sq s2
    have l1':=r1.length
    have l2':=r2.length
    have off1:ZOff l1 z TO i1 i2:=⟨I.off s1 (hf z (by simp)),I.off s1 (hf TO (by simp)),I.off s1 (hf i1 (by simp)),I.off s1 (hf i2 (by simp))⟩
    have off2:ZOff l2 z TO i1 i2:=⟨I.off s2 (hf z (by simp)),I.off s2 (hf TO (by simp)),I.off s2 (hf i1 (by simp)),I.off s2 (hf i2 (by simp))⟩
    refine zuf (I.ok.hd hc) D off1 off2 hz hI hO h1 h2 g1 g2 ?_ fun g kk=>⟨rfl,I.turnedL (t':=s.toks) (ch:=[z,TO,i1,i2]) (fun b o hb q=>kk b o (fun e=>hb (by simp[e])) (fun e=>hb (by simp[e])) (fun e=>hb (by simp[e])) (fun e=>hb (by simp[e])) q)
        (fun b hb=>hf b (by simp only [List.mem_cons,List.not_mem_nil,or_false] at hb ⊢;rcases hb with h | h | h | h<;>simp[h]))⟩
    rcases hend with h | h
    · exact .inl (by simp;omega)
    · exact .inr (by simp;omega)
  self:=fun _ _ _ _ _ q h=>wpAny_pyIter_zip q.1 h
open Sem (wp)
def zox (b:Bool) (l:Addr):Obj:={ cls:=.type (zhx b),data:=.fields #[.ref l,.int 0 0] }
def zp1 (h:Heap) (b1:Bool) (l1:Addr):Heap:=h.push (zox b1 l1)
def zp2 (h:Heap) (b1 b2:Bool) (l1 l2:Addr):Heap:=(zp1 h b1 l1).push (zox b2 l2)
def zp3 (h:Heap) (b1 b2:Bool) (l1 l2:Addr):Heap:=(zp2 h b1 b2 l1 l2).push { cls:=.type "tuple",data:=.seq #[.ref h.objs.size,.ref (zp1 h b1 l1).objs.size] }
def zp4 (h:Heap) (b1 b2:Bool) (l1 l2:Addr):Heap:=(zp3 h b1 b2 l1 l2).push { cls:=.type "tuple",data:=.seq #[.none,.none] }
def zp5 (h:Heap) (b1 b2:Bool) (l1 l2:Addr):Heap:=(zp4 h b1 b2 l1 l2).push { cls:=.type "zip",data:=.fields #[.none,.bool false,.bool false,.ref (zp2 h b1 b2 l1 l2).objs.size,.ref (zp3 h b1 b2 l1 l2).objs.size] }
theorem SSq.push {b:Bool}{h:Heap}{a:Addr}{items:Array Value}(q:SSq b h a items) (o:Obj):SSq b (h.push o) a items:=q.at fun _ e=>Heap.get?_push_of_some _ e
theorem zm1 (b1 b2:Bool) (l1 l2:Addr) (xs ys:Array Value) :
    Meets (Builtin.«zip.__new__» ⟨[.type "zip",.ref l1,.ref l2],[]⟩) (fun _ R s=>SSq b1 s.heap l1 xs/\SSq b2 s.heap l2 ys/\R (.ok (.ret (.ref (zp4 s.heap b1 b2 l1 l2).objs.size))) { s with heap:=zp5 s.heap b1 b2 l1 l2 }):=
  .of_wp fun prog w A R s h=>by
    obtain⟨hp,g,d,tk,os⟩:=s
    obtain⟨q1,q2,h⟩:=h
    have sub:=sub_zip
    have a1:SSq b1 (Shared.heap ⟨hp,g,d,tk,os⟩) l1 xs:=q1
    have a2:SSq b2 (Shared.heap ⟨hp.push { cls:=.type (zhx b1),data:=.fields #[.ref l1,.int 0 0] },g,d,tk,os⟩) l2 ys:=q2.push _
    wp_walk using zl0 a1,zl0 a2
    exact⟨_,rfl,h⟩
section
variable {prog:Program}{w:World}{A:Around}{E:Value->Shared->Prop}{s:Shared}
theorem zrn {b1 b2:Bool}{l1 l2:Addr}{xs ys:Array Value}{Q:Value->Shared->Prop}(q1:SSq b1 s.heap l1 xs) (q2:SSq b2 s.heap l2 ys)
    (h:∀g,IsZip g (s.heap.objs.size+4) (s.heap.objs.size+2) (s.heap.objs.size+3) .none->IsPair g (s.heap.objs.size+2) (.ref s.heap.objs.size) (.ref (s.heap.objs.size+1))->IsPair g (s.heap.objs.size+3) .none .none->
      SIt b1 g s.heap.objs.size l1 0->SIt b2 g (s.heap.objs.size+1) l2 0->(∀c o,s.heap.get? c=some o->g.get? c=some o)->Q (.ref (s.heap.objs.size+4)) { s with heap:=g }) :
    wpAny (model prog w) A (call (.type "zip") [.ref l1,.ref l2]) Q E s:=by
  refine callType_new F.called_zip (by decide) (F.typeCall_zip_2 _ _) (F.newCall_zip_2 _ _) (fun obj=>F.args_object_init_3 obj _ _) F.entry_zip_new (zm1 b1 b2 l1 l2 xs ys) ⟨q1,q2,?_⟩
  have n1:(zp1 s.heap b1 l1).objs.size=s.heap.objs.size+1:=Heap.size_push ..
  have n2:(zp2 s.heap b1 b2 l1 l2).objs.size=s.heap.objs.size+2:=by unfold zp2;rw[Heap.size_push,n1]
  have n3:(zp3 s.heap b1 b2 l1 l2).objs.size=s.heap.objs.size+3:=by unfold zp3;rw[Heap.size_push,n2]
  have n4:(zp4 s.heap b1 b2 l1 l2).objs.size=s.heap.objs.size+4:=by unfold zp4;rw[Heap.size_push,n3]
  have up4:∀c o,(zp4 s.heap b1 b2 l1 l2).get? c=some o->(zp5 s.heap b1 b2 l1 l2).get? c=some o:=fun c o e=>Heap.get?_push_of_some _ e
  have up3:∀c o,(zp3 s.heap b1 b2 l1 l2).get? c=some o->(zp5 s.heap b1 b2 l1 l2).get? c=some o:=fun c o e=>up4 c o (Heap.get?_push_of_some _ e)
  have up2:∀c o,(zp2 s.heap b1 b2 l1 l2).get? c=some o->(zp5 s.heap b1 b2 l1 l2).get? c=some o:=fun c o e=>up3 c o (Heap.get?_push_of_some _ e)
  have up1:∀c o,(zp1 s.heap b1 l1).get? c=some o->(zp5 s.heap b1 b2 l1 l2).get? c=some o:=fun c o e=>up2 c o (Heap.get?_push_of_some _ e)
  have g5:IsZip (zp5 s.heap b1 b2 l1 l2) (s.heap.objs.size+4) (s.heap.objs.size+2) (s.heap.objs.size+3) .none:=by
    have:=Heap.get?_push_size (zp4 s.heap b1 b2 l1 l2) (o:={ cls:=.type "zip",data:=.fields #[.none,.bool false,.bool false,.ref (zp2 s.heap b1 b2 l1 l2).objs.size,.ref (zp3 s.heap b1 b2 l1 l2).objs.size] }) rfl
    rw[n4,n2,n3] at this
    unfold zp5
    rw[n2,n3]
    exact this
  have g4:IsPair (zp5 s.heap b1 b2 l1 l2) (s.heap.objs.size+3) .none .none:=by
    have:=up4 _ _ (Heap.get?_push_size (zp3 s.heap b1 b2 l1 l2) (o:={ cls:=.type "tuple",data:=.seq #[.none,.none] }) rfl)
    rwa [n3] at this
  have g3:IsPair (zp5 s.heap b1 b2 l1 l2) (s.heap.objs.size+2) (.ref s.heap.objs.size) (.ref (s.heap.objs.size+1)):=by
    have:=up3 _ _ (Heap.get?_push_size (zp2 s.heap b1 b2 l1 l2) (o:={ cls:=.type "tuple",data:=.seq #[.ref s.heap.objs.size,.ref (zp1 s.heap b1 l1).objs.size] }) rfl)
    rwa [n2,n1] at this
  have g2:=up2 _ _ (Heap.get?_push_size (zp1 s.heap b1 l1) (o:=zox b2 l2) rfl)
  rw[n1] at g2
  have g1:=up1 _ _ (Heap.get?_push_size s.heap (o:=zox b1 l1) rfl)
  have mk:∀(b:Bool) (l i:Addr),(zp5 s.heap b1 b2 l1 l2).get? i=some (zox b l)->SIt b (zp5 s.heap b1 b2 l1 l2) i l 0:=fun b l i e=>by
    cases b with
    | true=>exact⟨_,e,rfl,rfl⟩
    | false=>exact⟨_,e,rfl,rfl⟩
  show _/\_
  rw[n4]
  exact⟨⟨_,g5,rfl⟩,h _ g5 g3 g4 (mk _ _ _ g1) (mk _ _ _ g2) fun c o e=>up1 c o (Heap.get?_push_of_some _ e)⟩
end
theorem zwo (n:Nat):ZAp (n+4) (n+2) (n+3) n (n+1):=
  ⟨fun h=>absurd (show (n+2:Nat)=n+4 from h) (by omega),fun h=>absurd (show (n+3:Nat)=n+4 from h) (by omega),fun h=>absurd (show (n:Nat)=n+4 from h) (by omega),fun h=>absurd (show (n+1:Nat)=n+4 from h) (by omega),fun h=>absurd (show (n+2:Nat)=n+3 from h) (by omega),
   fun h=>absurd (show (n+2:Nat)=n from h) (by omega),fun h=>absurd (show (n+2:Nat)=n+1 from h) (by omega),fun h=>absurd (show (n+3:Nat)=n from h) (by omega),fun h=>absurd (show (n+3:Nat)=n+1 from h) (by omega),fun h=>absurd (show (n:Nat)=n+1 from h) (by omega)⟩
def iZip (K:PySem.W.Frag) (b1 b2:Bool) (ta:TA):TI:=fun σ H R=>ta σ H fun vs H1=>∃l1 l2 xs ys,vs = [.ref l1,.ref l2]/\SqV K b1 H1 l1 xs/\SqV K b2 H1 l2 ys/\R (Itz K b1 b2 l1 l2) H1
section
variable {X:Cx}
theorem zwp {elts:List Expr}{ct:Nat}{tpos:Pos}{e1 e2:Expr}{ta:TA}{p pos:Pos}(b1 b2:Bool) (hg:Gl X "zip") (hm:X.mg "zip" = none) (ha:PA X [e1,e2] ta) (hs:starEach [e1,e2] X.env = [(false,eval e1 X.env),(false,eval e2 X.env)]:=by rfl) (hs2:starEach [e2] X.env = [(false,eval e2 X.env)]:=by rfl) :
    PI X (.Tuple elts ct tpos) (.Call (.Name "zip" p) [e1,e2] [] pos) (iZip X.K b1 b2 ta):=by
  intro pins s σ H R I h
  refine Call_ (ziy I hg hm boot_zip (PyProof.Rows.callWith_type1 (thn (ha pos pins s σ H _ I h) fun us s1 hq0=>?_) (by rw[hs,hs2]) (by rw[hs2];rfl)))
  obtain⟨vs,H1,I1,r1,q1⟩:=hq0
  obtain⟨l1,l2,xs,ys,rfl,s1',s2',q⟩:=q1
  obtain⟨u1,u2,rfl,ru1,ru2⟩:=zq0 r1
  cases ru1
  cases ru2
  obtain⟨it1,r1',g1⟩:=I1.sq s1'
  obtain⟨it2,r2',g2⟩:=I1.sq s2'
  refine zrn g1 g2 fun g z I' O' j1 j2 kk=>wpAny_pyIter_zip z ?_
  have f:∀k,FpOk X pins H1 (s1.heap.objs.size+k):=fun k=>I1.fpOk (Nat.le_add_right _ _) (I1.hok.fresh (Nat.le_add_right _ _))
  refine⟨s1.heap.objs.size+4,[s1.heap.objs.size+4,s1.heap.objs.size+2,s1.heap.objs.size+3,s1.heap.objs.size,s1.heap.objs.size+1],_,_,H1,rfl,I1.kept (t':=s1.toks) kk,zrm (zwo _),⟨z,I',⟨_,_,O'⟩,j1,j2⟩,fun b hb=>?_,q⟩
  simp only [List.mem_cons,List.not_mem_nil,or_false] at hb
  rcases hb with rfl | rfl | rfl | rfl | rfl
  · exact f 4
  · exact f 2
  · exact f 3
  · exact f 0
  · exact f 1
end
open Sem (wp)
def RawD (h:Heap) (d:Addr) (es:Array DictEntry) (ep:Nat):Prop:=∃o,h.get? d=some o/\o.ExactDict/\o.data = .dict es ep
theorem RawD.at {h h':Heap}{d:Addr}{es:Array DictEntry}{ep:Nat}(q:RawD h d es ep) (k:∀o,h.get? d=some o->h'.get? d=some o):RawD h' d es ep:=let ⟨o,ho,r⟩:=q;⟨o,k o ho,r⟩
theorem RawD.typeIs {s:Shared}{d:Addr}{es:Array DictEntry}{ep:Nat}(q:RawD s.heap d es ep):s.TypeIs (.ref d) "dict":=let ⟨o,ho,c,_⟩:=q;⟨o,ho,c.1⟩
section
variable {prog:Program}{w:World}{A:Around}{E:Value->Shared->Prop}{s:Shared}
theorem zl1 {d:Addr}{es:Array DictEntry}{ep:Nat}{Q:Value->Shared->Prop}(hd:(d == sysModules)=false) (hm:RawD s.heap d es ep)
    (hQ:Q (.ref s.heap.objs.size) { s with heap:=s.heap.push { cls:=.type "dict_keyiterator",data:=.fields #[.ref d,.int 0 0,.int es.size 0,.int ep 0] } }):wpAny (model prog w) A (pyIter (.ref d)) Q E s:=by
  obtain⟨o,ho,hc,hdat⟩:=id hm
  have T:s.TypeIs (.ref d) "dict":=hm.typeIs
  refine wpAny_pyIter_slot T F.slot_dict_iter (wpAny_call_entry F.slot_dict_iter T F.entry_dict_iter ?_ (F.args_dict_iter_1 _))
  unfold Builtin.«dict.__iter__»
  refine wpAny_bind ?_
  unfold Builtin.Dict.dictSlotNone
  refine wpAny_bind (wpAny_notOrdered_dict T ?_)
  show wpAny (model prog w) _ (pure (Value.ref d)) _ _ s
  refine wpAny_pure ?_
  show wpAny (model prog w) _ (Builtin.Dict.showsAll d >>= _) _ _ s
  unfold Builtin.Dict.showsAll
  rw[if_neg (by rw[hd];exact Bool.false_ne_true)]
  refine wpAny_bind (wpAny_pure (wpAny_bind (wpAny_dictEntries ho hdat (wpAny_bind (wpAny_dictEpoch ho hdat ?_)))))
  exact wpAny_bind (wpAny_newObj_type (wpAny_pure ⟨_,rfl,"dict_keyiterator",_,⟨_,Heap.get?_push_size _ rfl,rfl⟩,F.slot_dict_keyiterator_next.lookup,hQ⟩))
theorem zl2 {it d:Addr}{i ep:Nat}{es:Array DictEntry}{e:DictEntry}{Q:Option Value->Shared->Prop}(hit:s.heap.IsKeyIter it d i es.size ep) (hm:RawD s.heap d es ep) (hx:es[i]? = some e)
    (hQ:∀h1,h1.IsKeyIter it d (i+1) es.size ep->Heap.SameBut it s.heap h1->Q (some e.key) { s with heap:=h1 }):wpAny (model prog w) A (pyNext (.ref it)) Q E s:=by
  obtain⟨o,ho,hc,hd⟩:=id hit
  obtain⟨od,hod,hcd,hdd⟩:=id hm
  obtain⟨hlt,he⟩:=Array.getElem?_eq_some_iff.mp hx
  subst he
  unfold pyNext
  refine wpAny_bind (wpAny_attempt (wpAny_callSpecial?_slot (name:=Str.ofString "__next__") hit.typeIs F.slot_dict_keyiterator_next (wpAny_call_entry F.slot_dict_keyiterator_next hit.typeIs F.entry_dict_keyiterator_next ?_ (F.args_dict_keyiterator_next_1 _))))
  refine wpAny_bind (wpAny_pure (wpAny_bind (wpAny_bind ?_)))
  refine wpAny_bind (wpAny_typeNameOfWhole_keyiter hit.typeIs (wpAny_pure (wpAny_bind (wpAny_fieldsOf ho hd ?_))))
  have own:Builtin.Dict_items.ownsTuple "dict_keyiterator" = false:=by decide
  simp only [own,Bool.false_eq_true,if_false]
  show wpAny (model prog w) _ (if (Value.ref d == Value.none)=true then _ else _) _ _ s
  rw[if_neg (show ¬((Value.ref d == Value.none)=true) from Bool.false_ne_true)]
  refine wpAny_bind (wpAny_pure (wpAny_bind (wpAny_dictEntries hod hdd ?_)))
  rw[if_neg (by simp)]
  refine wpAny_bind (wpAny_pure (wpAny_bind (wpAny_dictEpoch hod hdd ?_)))
  rw[if_neg (by simp)]
  refine wpAny_pure ?_
  simp only [show ¬((i:Int)<0) from by omega,if_false,Int.toNat_natCast,Array.getElem?_eq_getElem hlt]
  refine wpAny_bind (wpAny_bind (wpAny_typeNameOfWhole_keyiter hit.typeIs (wpAny_pure (wpAny_bind (wpAny_isOneOf_keyiter hit.typeIs ?_)))))
  show wpAny (model prog w) _ (setField (.ref it) 1 (rawInt ((i:Int)+1)) >>= _) _ _ s
  refine wpAny_bind (wpAny_setField ho hd (by simp) ?_)
  have nx:(s.heap.update it (Obj.mapFields (·.setIfInBounds 1 (rawInt ((i:Int)+1))))).IsKeyIter it d (i+1) es.size ep:=
    ⟨_,Heap.get?_update_self _ ho (Obj.isFreed_of_fields (Obj.data_mapFields hd _)),(Obj.cls_mapFields ..).trans hc,by rw[Obj.data_mapFields hd];simp[rawInt]⟩
  refine wpAny_bind (wpAny_holding (wpAny_bind (wpAny_isOneOf_keyiter (s:={ s with heap:=s.heap.update it (Obj.mapFields (·.setIfInBounds 1 (rawInt ((i:Int)+1)))) }) nx.typeIs ?_)))
  show wpAny (model prog w) _ (pure es[i].key) _ _ _
  exact wpAny_pure (wpAny_pure ⟨_,rfl,wpAny_pure (hQ _ nx (Heap.SameBut.update ..))⟩)
theorem zoy {it d:Addr}{i ep:Nat}{es:Array DictEntry}{Q:Option Value->Shared->Prop}(hh:A.handled=none) (hit:s.heap.IsKeyIter it d i es.size ep) (hm:RawD s.heap d es ep) (hx:es.size<=i)
    (hQ:∀h1,Heap.ExtBut it s.heap h1->Q none { s with heap:=h1 }):wpAny (model prog w) A (pyNext (.ref it)) Q E s:=by
  obtain⟨o,ho,hc,hd⟩:=id hit
  obtain⟨od,hod,hcd,hdd⟩:=id hm
  unfold pyNext
  refine wpAny_bind (wpAny_attempt (wpAny_callSpecial?_slot (name:=Str.ofString "__next__") hit.typeIs F.slot_dict_keyiterator_next (wpAny_call_entry F.slot_dict_keyiterator_next hit.typeIs F.entry_dict_keyiterator_next ?_ (F.args_dict_keyiterator_next_1 _))))
  refine wpAny_bind (wpAny_pure (wpAny_bind (wpAny_bind ?_)))
  refine wpAny_bind (wpAny_typeNameOfWhole_keyiter hit.typeIs (wpAny_pure (wpAny_bind (wpAny_fieldsOf ho hd ?_))))
  have own:Builtin.Dict_items.ownsTuple "dict_keyiterator" = false:=by decide
  simp only [own,Bool.false_eq_true,if_false]
  show wpAny (model prog w) _ (if (Value.ref d == Value.none)=true then _ else _) _ _ s
  rw[if_neg (show ¬((Value.ref d == Value.none)=true) from Bool.false_ne_true)]
  refine wpAny_bind (wpAny_pure (wpAny_bind (wpAny_dictEntries hod hdd ?_)))
  rw[if_neg (by simp)]
  refine wpAny_bind (wpAny_pure (wpAny_bind (wpAny_dictEpoch hod hdd ?_)))
  rw[if_neg (by simp)]
  refine wpAny_pure ?_
  simp only [show ¬((i:Int)<0) from by omega,if_false,Int.toNat_natCast,Array.getElem?_eq_none hx]
  refine wpAny_bind (wpAny_bind (wpAny_typeNameOfWhole_keyiter hit.typeIs (wpAny_pure ?_)))
  show wpAny (model prog w) _ (setField (.ref it) 0 .none >>= _) _ _ s
  refine wpAny_bind (wpAny_setField ho hd (by simp) ?_)
  show wpAny (model prog w) _ (newExc (.type "StopIteration") [] >>= _) _ _ _
  refine wpAny_bind ?_
  simp only [newExc,newTuple]
  refine wpAny_bind (wpAny_newObj_type (wpAny_bind (m:=firstArgMember _ _) (wpAny_of_eq (a:=Value.none) (by first | rfl | (simp only [firstArgMember];rfl)) (wpAny_newObj_type ?_ (by size_fits)))) (by size_fits))
  simp only [raiseNew]
  refine wpAny_bind (wpAny_handled ?_)
  rw[show A.in1.handled=none from hh]
  refine wpAny_bind (wpAny_pure (wpAny_throw ?_))
  exact wpAny_bind (wpAny_isInstance (T:="StopIteration") (b:=true) ⟨_,Heap.get?_push_size _ rfl,rfl⟩ isSubtype_stop (wpAny_pure (hQ _ (((Heap.SameBut.update ..).extBut.push _).push _))))
theorem zoz (hh:A.handled=none) (I d:Addr) (hne:d≠I) (es:Array DictEntry) (ep:Nat) :
    Walks prog w A I [I,d] [I] es.size (fun i v=>∃e,es[i]? = some e/\v=e.key) (fun i h=>h.IsKeyIter I d i es.size ep/\RawD h d es ep) where
  sub:=fun b hb=>by simp at hb;simp[hb]
  frame:=fun _ _ _ st hk=>⟨st.1.at fun o e=>hk I (by simp) o e,st.2.at fun o e=>hk d (by simp) o e⟩
  item:=fun i s Q E hi st hQ=>by
    have hx:es[i]? = some es[i]:=Array.getElem?_eq_getElem hi
    exact zl2 st.1 st.2 hx fun h1 it' hs=>hQ _ h1 s.toks ⟨_,hx,rfl⟩ ⟨it',st.2.at fun o e=>(hs.2 d hne).trans e⟩ fun b o hb e=>(hs.2 b (fun h=>hb (by simp[h]))).trans e
  done:=fun s Q E st hQ=>zoy hh st.1 st.2 (Nat.le_refl _) fun h1 he=>hQ h1 s.toks fun b o hb e=>he b o (fun h=>hb (by simp[h])) e
  self:=fun _ _ _ _ st hQ=>wpAny_pyIter_keyiter st.1 hQ
theorem zo0 {d:Addr}{Q:Bool->Shared->Prop}(T:s.TypeIs (.ref d) "dict") (hq:Q false s):wpAny (model prog w) A (Builtin.List.listLengthHint (.ref d)) Q E s:=by
  unfold Builtin.List.listLengthHint
  refine wpAny_bind (wpAny_specialOf T F.slot_dict_len.lookup ?_)
  have e:splitId "dict.__len__" = some ("dict","__len__"):=by kernel_rfl
  simp only [e]
  have sub:isSubtype (.type "dict") (.type "dict")=pure true:=by rw[isSubtype_type];kernel_rfl
  exact wpAny_bind (wpAny_isInstance (T:="dict") (b:=true) T sub (wpAny_bind (wpAny_typeOf T (wpAny_pure hq))))
theorem zo1 {d:Addr}{Q:Bool->Shared->Prop}(T:s.TypeIs (.ref d) "dict_values") (hq:Q false s):wpAny (model prog w) A (Builtin.List.listLengthHint (.ref d)) Q E s:=by
  unfold Builtin.List.listLengthHint
  refine wpAny_bind (wpAny_specialOf T F.slot_dict_values_len.lookup ?_)
  have e:splitId "dict_values.__len__" = some ("dict_values","__len__"):=by kernel_rfl
  simp only [e]
  have sub:isSubtype (.type "dict_values") (.type "dict_values")=pure true:=by rw[isSubtype_type];kernel_rfl
  exact wpAny_bind (wpAny_isInstance (T:="dict_values") (b:=true) T sub (wpAny_bind (wpAny_typeOf T (wpAny_pure hq))))
end
section
variable {prog:Program}{w:World}{A:Around}{s:Shared}{R:Result->Shared->Prop}{I:Addr}{fp wr:List Addr}{n:Nat}{P:Nat->Value->Prop}{St:Nat->Heap->Prop}
theorem zje (W:Walks prog w A.in1 I fp wr n P St) (hn:n<=sizeLine) (S:Addr) (c:Nat) (hst:St 0 s.heap) (hS:S ∉ fp) (hl:s.heap.get? S=some { cls:=.type "list",data:=.seq #[] c })
    (hR:∀s1 acc c1,Moved (S::wr) (fun a b=>b=a) s s1->s1.heap.get? S=some { cls:=.type "list",dict:=none,data:=.seq acc c1,slots:=#[] }->ItemsOf P acc n->R (.ok (.ret .none)) s1) :
    wpAny (model prog w) A.in1 (rule "list.extend.makes-room" >>= fun _=>Builtin.List.listTouch (.ref S) >>= fun _=>again (.builtin "list.extend.loop" ⟨[.ref S,.ref I,.none],[]⟩))
      (fun fin s1=>match fin with | .done f=>R (.ok f) s1 | .again c1=>c1.quiet=true/\codeAny (model prog w) A c1 R s1) (fun e s1=>R (.error e) s1) s:=by
  refine wpAny_bind (wpAny_rule (wpAny_bind ?_))
  show wpAny (model prog w) A.in1 (updateSeq S (·.push .none) >>= fun _=>updateSeq S (·.pop)) _ _ _
  refine wpAny_bind (wpAny_updateSeq hl rfl ?_)
  have l2:=Heap.get?_update_self (Obj.mapSeq (·.push Value.none)) hl rfl
  refine wpAny_updateSeq (hz:=by seq_fits) l2 rfl ?_
  have l3:=Heap.get?_update_self (Obj.mapSeq (·.pop)) l2 rfl
  have oth:∀b o,b≠S->s.heap.get? b=some o->((s.heap.update S (Obj.mapSeq (·.push Value.none))).update S (Obj.mapSeq (·.pop))).get? b=some o:=fun b o hb e=>(Heap.get?_update_other _ _ (Ne.symm hb)).trans ((Heap.get?_update_other _ _ (Ne.symm hb)).trans e)
  refine wpAny_pure ⟨plainId_quiet F.plain_extend_loop _,codeAny_extend_loopS W.toS hn _ hS _ n 0 _ _ _ rfl (Nat.zero_le _) (W.toS.frame 0 s _ s.toks hst (Nat.le_refl _) fun b hb o e=>oth b o (fun h=>hS (h▸hb)) e) l3 (ItemsOf.nil P) fun s1 acc c1 hm h1 h2=>?_⟩
  have m0:Moved (S::wr) (fun (a b:Array GenState)=>b=a) s { s with heap:=(s.heap.update S (Obj.mapSeq (·.push Value.none))).update S (Obj.mapSeq (·.pop)) }:=⟨fun b o hb e=>oth b o (fun h=>hb (by simp[h])) e,rfl,rfl,rfl,Nat.le_refl _⟩
  exact hR s1 acc c1 (Moved.trans (fun _ _ _ h1 h2=>h2.trans h1) m0 hm) h1 h2
end
section
variable {prog:Program}{w:World}{A:Around}{s:Shared}{R:Result->Shared->Prop}
theorem zjf {S:Addr}{x:Value}(hl:s.heap.get? S=some { cls:=.type "list",data:=.seq #[] })
    (h:wpAny (model prog w) A.in1 (Builtin.List.listExtendWith (.ref S) x .none) (fun fin s1=>match fin with | .done f=>R (.ok f) s1 | .again c1=>c1.quiet=true/\codeAny (model prog w) A c1 R s1) (fun e s1=>R (.error e) s1)
      { s with heap:=s.heap.update S (Obj.mapSeq (fun _=>(#[]:Array Value))) }) :
    wpAny (model prog w) A.in1 (Builtin.«list.__init__» ⟨[.ref S,x],[]⟩) (fun fin s1=>match fin with | .done f=>R (.ok f) s1 | .again c1=>c1.quiet=true/\codeAny (model prog w) A c1 R s1) (fun e s1=>R (.error e) s1) s:=by
  show wpAny (model prog w) A.in1 (do let was ←Builtin.List.listItems (.ref S);Builtin.List.listUpdate (.ref S) (fun _=>#[]);letGo was.toList.reverse;Builtin.List.listExtendWith (.ref S) x .none) _ _ s
  refine wpAny_bind ?_
  unfold Builtin.List.listItems
  refine wpAny_bind (wpAny_seqItems hl rfl (wpAny_pure ?_))
  show wpAny (model prog w) A.in1 (updateSeq S (fun _=>#[]) >>= fun _=>letGo (#[]:Array Value).toList.reverse >>= fun _=>Builtin.List.listExtendWith (.ref S) x .none) _ _ s
  exact wpAny_bind (wpAny_updateSeq hl rfl (wpAny_bind (wpAny_letGo h)))
end
section
variable {prog:Program}{w:World}{A:Around}{E:Value->Shared->Prop}{s:Shared}
theorem zeh {d:Addr}{es:Array DictEntry}{ep:Nat}{Q:Value->Shared->Prop}(hh:A.handled=none) (hd:(d == sysModules)=false) (hm:RawD s.heap d es ep) (hn:es.size<=sizeLine)
    (hQ:∀h1 acc c tk,(∀b o,s.heap.get? b=some o->h1.get? b=some o)->h1.get? s.heap.objs.size=some { cls:=.type "list",dict:=none,data:=.seq acc c,slots:=#[] }->ItemsOf (fun i v=>∃e,es[i]? = some e/\v=e.key) acc es.size->
      Q (.ref s.heap.objs.size) { s with heap:=h1,toks:=tk }):wpAny (model prog w) A (call (.type "list") [.ref d]) Q E s:=by
  have dl:d<s.heap.objs.size:=by obtain⟨o,ho,_⟩:=hm;exact Heap.lt_size ho
  refine callType_codes (Q₁:=fun obj s1=>obj = .ref s.heap.objs.size/\s1 = { s with heap:=s.heap.push { cls:=.type "list",data:=.seq #[] } }) F.called_list (F.typeCall_list_1 _) F.entry_list_init (code_list_new _ ⟨rfl,rfl⟩) fun obj s1 h1=>?_
  obtain⟨rfl,rfl⟩:=h1
  have hS:(s.heap.push { cls:=.type "list",data:=.seq #[] }).get? s.heap.objs.size=some { cls:=.type "list",data:=.seq #[] }:=Heap.get?_push_size _ rfl
  refine⟨⟨_,hS,rfl⟩,F.args_list_init_2 _ _,zjf hS ?_⟩
  have l2:=Heap.get?_update_self (Obj.mapSeq (fun _=>(#[]:Array Value))) hS rfl
  have old:∀b o,s.heap.get? b=some o->((s.heap.push { cls:=.type "list",data:=.seq #[] }).update s.heap.objs.size (Obj.mapSeq (fun _=>(#[]:Array Value)))).get? b=some o:=fun b o e=>
    (Heap.get?_update_other _ _ (fun z=>Nat.lt_irrefl _ (z▸Heap.lt_size e))).trans (Heap.get?_push_of_some _ e)
  have hm2:=hm.at (h':=(s.heap.push { cls:=.type "list",data:=.seq #[] }).update s.heap.objs.size (Obj.mapSeq (fun _=>(#[]:Array Value)))) fun o e=>old d o e
  have zu:((s.heap.push { cls:=.type "list",data:=.seq #[] }).update s.heap.objs.size (Obj.mapSeq (fun _=>(#[]:Array Value)))).objs.size=s.heap.objs.size+1:=by rw[Heap.size_update,Heap.size_push]
  generalize (s.heap.push { cls:=.type "list",data:=.seq #[] }).update s.heap.objs.size (Obj.mapSeq (fun _=>(#[]:Array Value)))=g at l2 old hm2 zu
  have T:({ s with heap:=g }:Shared).TypeIs (.ref d) "dict":=hm2.typeIs
  unfold Builtin.List.listExtendWith
  refine wpAny_bind (wpAny_typeOf T ?_)
  have sr:Builtin.List.listSameRef (.ref s.heap.objs.size) (.ref d)=false:=by
    have:s.heap.objs.size≠d:=Ne.symm (Nat.ne_of_lt dl)
    simp[Builtin.List.listSameRef,this]
  have t1:(Value.type "dict" == Value.type "list")=false:=by decide
  have t2:(Value.type "dict" == Value.type "tuple")=false:=by decide
  simp only [sr,t1,t2,Bool.or_false,Bool.false_eq_true,if_false]
  refine wpAny_bind (zl1 (s:={ s with heap:=g }) hd hm2 ?_)
  have hm3:=hm2.at (h':=g.push { cls:=.type "dict_keyiterator",data:=.fields #[.ref d,.int 0 0,.int es.size 0,.int ep 0] }) fun o e=>Heap.get?_push_of_some _ e
  refine wpAny_bind (wpAny_holding (zo0 (s:={ s with heap:=g.push { cls:=.type "dict_keyiterator",data:=.fields #[.ref d,.int 0 0,.int es.size 0,.int ep 0] } }) hm3.typeIs ?_))
  have dI:d≠g.objs.size:=by rw[zu];exact Nat.ne_of_lt (Nat.lt_succ_of_lt dl)
  have SI:s.heap.objs.size ∉ [g.objs.size,d]:=by
    rw[zu]
    intro z
    simp only [List.mem_cons,List.not_mem_nil,or_false] at z
    rcases z with z | z
    · exact absurd z (Nat.ne_of_lt (Nat.lt_succ_self _))
    · exact absurd z (Ne.symm (Nat.ne_of_lt dl))
  refine zje (A:=A.in1) (s:={ s with heap:=g.push { cls:=.type "dict_keyiterator",data:=.fields #[.ref d,.int 0 0,.int es.size 0,.int ep 0] } }) (zoz (A:=A.in1.in1) hh g.objs.size d dI es ep) hn _ _ ⟨⟨_,Heap.get?_push_size _ rfl,rfl,rfl⟩,hm3⟩ SI (Heap.get?_push_of_some _ l2) fun s2 acc c hmv h2 h3=>?_
  obtain⟨hp,ge,dr,tk,os⟩:=s2
  obtain⟨m1,m2,m3,m4,m5⟩:=hmv
  obtain rfl:ge=s.gens:=m2
  obtain rfl:dr=s.drawn:=m3
  obtain rfl:os=s.os:=m4
  refine⟨rfl,hQ hp acc c tk (fun b o e=>m1 b o ?_ (Heap.get?_push_of_some _ (old b o e))) h2 h3⟩
  intro z
  have bl:=Heap.lt_size e
  simp only [List.mem_cons,List.not_mem_nil,or_false] at z
  rcases z with z | z
  · exact absurd bl (by rw[z];exact Nat.lt_irrefl _)
  · have z:b=g.objs.size:=z
    rw[z,zu] at bl
    exact absurd bl (Nat.not_lt_of_le (Nat.le_succ _))
theorem zjg {κ:Type} [DecidableEq κ] {knd:KeyKind prog w κ}{d v:Addr}{kvs:List (κ×Value)}{Q:Value->Shared->Prop}(hh:A.handled=none) (hv:s.heap.IsValuesView v d) (hm:s.heap.DictOf knd d kvs) (hn:kvs.length<=sizeLine)
    (hQ:∀h1 acc c tk,(∀b o,s.heap.get? b=some o->h1.get? b=some o)->h1.get? s.heap.objs.size=some { cls:=.type "list",dict:=none,data:=.seq acc c,slots:=#[] }->ItemsOf (fun i v=>∃k,kvs[i]? = some (k,v)) acc kvs.length->
      Q (.ref s.heap.objs.size) { s with heap:=h1,toks:=tk }):wpAny (model prog w) A (call (.type "list") [.ref v]) Q E s:=by
  obtain⟨ep,hm⟩:=hm.dictAt
  have dl:d<s.heap.objs.size:=hm.lt_size
  have vl:v<s.heap.objs.size:=by obtain⟨o,ho,_⟩:=hv;exact Heap.lt_size ho
  refine callType_codes (Q₁:=fun obj s1=>obj = .ref s.heap.objs.size/\s1 = { s with heap:=s.heap.push { cls:=.type "list",data:=.seq #[] } }) F.called_list (F.typeCall_list_1 _) F.entry_list_init (code_list_new _ ⟨rfl,rfl⟩) fun obj s1 h1=>?_
  obtain⟨rfl,rfl⟩:=h1
  have hS:(s.heap.push { cls:=.type "list",data:=.seq #[] }).get? s.heap.objs.size=some { cls:=.type "list",data:=.seq #[] }:=Heap.get?_push_size _ rfl
  refine⟨⟨_,hS,rfl⟩,F.args_list_init_2 _ _,zjf hS ?_⟩
  have l2:=Heap.get?_update_self (Obj.mapSeq (fun _=>(#[]:Array Value))) hS rfl
  have old:∀b o,s.heap.get? b=some o->((s.heap.push { cls:=.type "list",data:=.seq #[] }).update s.heap.objs.size (Obj.mapSeq (fun _=>(#[]:Array Value)))).get? b=some o:=fun b o e=>
    (Heap.get?_update_other _ _ (fun z=>Nat.lt_irrefl _ (z▸Heap.lt_size e))).trans (Heap.get?_push_of_some _ e)
  have hm2:=hm.keep old
  have hv2:((s.heap.push { cls:=.type "list",data:=.seq #[] }).update s.heap.objs.size (Obj.mapSeq (fun _=>(#[]:Array Value)))).IsValuesView v d:=let ⟨o,ho,r⟩:=hv;⟨o,old v o ho,r⟩
  have zu:((s.heap.push { cls:=.type "list",data:=.seq #[] }).update s.heap.objs.size (Obj.mapSeq (fun _=>(#[]:Array Value)))).objs.size=s.heap.objs.size+1:=by rw[Heap.size_update,Heap.size_push]
  generalize (s.heap.push { cls:=.type "list",data:=.seq #[] }).update s.heap.objs.size (Obj.mapSeq (fun _=>(#[]:Array Value)))=g at l2 old hm2 hv2 zu
  have T:({ s with heap:=g }:Shared).TypeIs (.ref v) "dict_values":=hv2.typeIs
  unfold Builtin.List.listExtendWith
  refine wpAny_bind (wpAny_typeOf T ?_)
  have sr:Builtin.List.listSameRef (.ref s.heap.objs.size) (.ref v)=false:=by
    have:s.heap.objs.size≠v:=Ne.symm (Nat.ne_of_lt vl)
    simp[Builtin.List.listSameRef,this]
  have t1:(Value.type "dict_values" == Value.type "list")=false:=by decide
  have t2:(Value.type "dict_values" == Value.type "tuple")=false:=by decide
  simp only [sr,t1,t2,Bool.or_false,Bool.false_eq_true,if_false]
  refine wpAny_bind (wpAny_pyIter_values (s:={ s with heap:=g }) hv2 hm2 ?_)
  have hm3:=hm2.push { cls:=.type "dict_valueiterator",data:=.fields #[.ref d,.int 0 0,.int kvs.length 0,.int ep 0] }
  have hv3:(g.push { cls:=.type "dict_valueiterator",data:=.fields #[.ref d,.int 0 0,.int kvs.length 0,.int ep 0] }).IsValuesView v d:=let ⟨o,ho,r⟩:=hv2;⟨o,Heap.get?_push_of_some _ ho,r⟩
  refine wpAny_bind (wpAny_holding (zo1 (s:={ s with heap:=g.push { cls:=.type "dict_valueiterator",data:=.fields #[.ref d,.int 0 0,.int kvs.length 0,.int ep 0] } }) hv3.typeIs ?_))
  have dI:d≠g.objs.size:=by rw[zu];exact Nat.ne_of_lt (Nat.lt_succ_of_lt dl)
  have SI:s.heap.objs.size ∉ [g.objs.size,d]:=by
    rw[zu]
    intro z
    simp only [List.mem_cons,List.not_mem_nil,or_false] at z
    rcases z with z | z
    · exact absurd z (Nat.ne_of_lt (Nat.lt_succ_self _))
    · exact absurd z (Ne.symm (Nat.ne_of_lt dl))
  refine zje (A:=A.in1) (s:={ s with heap:=g.push { cls:=.type "dict_valueiterator",data:=.fields #[.ref d,.int 0 0,.int kvs.length 0,.int ep 0] } }) (Walks.dictValues (A:=A.in1.in1) hh g.objs.size d dI kvs ep) hn _ _ ⟨⟨_,Heap.get?_push_size _ rfl,rfl,rfl⟩,hm3⟩ SI (Heap.get?_push_of_some _ l2) fun s2 acc c hmv h2 h3=>?_
  obtain⟨hp,ge,dr,tk,os⟩:=s2
  obtain⟨m1,m2,m3,m4,m5⟩:=hmv
  obtain rfl:ge=s.gens:=m2
  obtain rfl:dr=s.drawn:=m3
  obtain rfl:os=s.os:=m4
  refine⟨rfl,hQ hp acc c tk (fun b o e=>m1 b o ?_ (Heap.get?_push_of_some _ (old b o e))) h2 h3⟩
  intro z
  have bl:=Heap.lt_size e
  simp only [List.mem_cons,List.not_mem_nil,or_false] at z
  rcases z with z | z
  · exact absurd bl (by rw[z];exact Nat.lt_irrefl _)
  · have z:b=g.objs.size:=z
    rw[z,zu] at bl
    exact absurd bl (Nat.not_lt_of_le (Nat.le_succ _))
end
theorem Vals.of_get:∀{xs:List V}{us:List Value},xs.length=us.length->(∀(i:Nat) x u,xs[i]? = some x->us[i]? = some u->RelV x u)->Vals xs us
  | [],[],_,_=>.nil
  | x::xs,u::us,hl,h=>.cons (h 0 x u rfl rfl) (Vals.of_get (by simpa using hl) fun i y v e1 e2=>h (i+1) y v (by simpa using e1) (by simpa using e2))
  | [],_::_,hl,_=>by simp at hl
  | _::_,[],hl,_=>by simp at hl
theorem zug {k:Key}{v:Value}(h:zkm k v=true):RelV (kV k) v:=by
  rcases za9 h with ⟨i,t,rfl,rfl⟩ | ⟨x,t,rfl,rfl⟩
  · exact⟨t,rfl⟩
  · exact⟨t,rfl⟩
theorem Paired.get' {α β:Type}{F:α->β->Prop}:∀{l₁:List α}{l₂:List β}{i:Nat}{a:α},Paired F l₁ l₂->l₁[i]? = some a->∃b,l₂[i]? = some b/\F a b
  | _,_,_,_,.nil,e=>by simp at e
  | _,_,0,_,.cons r _,e=>by simp at e;subst e;exact⟨_,rfl,r⟩
  | _,_,i+1,a,.cons _ t,e=>by
    obtain⟨u,h1,h2⟩:=Paired.get' (i:=i) (a:=a) t (by simpa using e)
    exact⟨u,by simpa using h1,h2⟩
section
variable {X:Cx}
theorem zhz {pins:List (Addr×Obj)}{σ:St}{H:Hp}{s:Shared}{Q:VK}{ys:List V}{h1:Heap}{acc:Array Value}{c tk:Nat}(I:Inv X pins σ H s) (kp:∀b o,s.heap.get? b=some o->h1.get? b=some o)
    (e:h1.get? s.heap.objs.size=some { cls:=.type "list",dict:=none,data:=.seq acc c,slots:=#[] }) (r:Vals ys acc.toList) (hz:ys.length<=sizeLine) (q:∀l,H l=none->Q (.ref l) (upd H l (.lst ys))):EP X pins σ Q (.ref s.heap.objs.size) { s with heap:=h1,toks:=tk }:=
  ⟨.ref s.heap.objs.size,_,I.laid (t':=tk) (o:=.lst ys) kp (Nat.le_refl _) ⟨hz,acc.toList,c,r,by simpa using e⟩,rfl,q _ (I.hok.fresh (Nat.le_refl _))⟩
theorem zjh (hc:X.calm=true):zco X (.type "list") (fun xs H Q=>∃p kvs,xs = [V.ref p]/\H p=some (.dK kvs)/\∀l,H l=none->Q (.ref l) (upd H l (.lst (kvs.map fun kv=>kV kv.1)))):=by
  intro pins s σ H xs us Q I r h
  obtain⟨p,kvs,rfl,hp,q⟩:=h
  obtain⟨u,rfl,ru⟩:=zdg r
  cases ru
  obtain⟨z,hd,vs,rel,o,es,ep,e,ex,dt,kk,pr,nd⟩:=I.hok p _ hp
  have l1:kvs.length=vs.length:=Paired.length rel
  have l2:es.size=vs.length:=by rw[←pr.length];simp
  refine zeh (I.ok.hd hc) hd ⟨o,e,ex,dt⟩ (by omega) fun h1 acc c tk kp el it=>zhz I kp el (Vals.of_get ?_ fun i x v ex ev=>?_) (by rw[List.length_map];exact z) q
  · have:=it.1
    simp only [List.length_map,Array.length_toList]
    omega
  · rw[List.getElem?_map] at ex
    cases ek:kvs[i]? with
    | none=>rw[ek] at ex;cases ex
    | some kv=>
      rw[ek] at ex
      cases ex
      obtain⟨en,hen,rfl⟩:=it.2 i v (by simpa using ev)
      obtain⟨w',hw,rw'⟩:=Paired.get' rel ek
      have:=(pr.get? (e:=en) (k:=w'.1) (v:=w'.2) (by simpa using hen) (by rw[hw])).1
      have e1:kv.1=w'.1:=rw'.1
      show RelV (kV kv.1) en.key
      rw[e1]
      exact zug this
abbrev zfn (H:Hp):List Addr->List (List Key×V)->Prop:=Paired fun a kv=>H a=some (.tup (kv.1.map kV))
theorem zd9 {H:Hp}:∀{kvs:List (List Key×V)}{ys:List (List Key×Addr×Value)},Paired (fun (p:List Key×V) (q:List Key×Addr×Value)=>p.1=q.1/\H q.2.1=some (.tup (p.1.map kV))/\RelV p.2 q.2.2) kvs ys->zfn H (ys.map fun y=>y.2.1) kvs
  | _,_,.nil=>.nil
  | _,_,.cons r t=>.cons r.2.1 (zd9 t)
theorem zji (hc:X.calm=true):zco X (.type "list") (fun xs H Q=>∃p kvs,xs = [V.ref p]/\H p=some (.dT kvs)/\∀l as,zfn H as kvs->H l=none->Q (.ref l) (upd H l (.lst (as.map V.ref)))):=by
  intro pins s σ H xs us Q I r h
  obtain⟨p,kvs,rfl,hp,q⟩:=h
  obtain⟨u,rfl,ru⟩:=zdg r
  cases ru
  obtain⟨z,hd,ys,rel,o,es,ep,e,ex,dt,he,nd⟩:=I.hok p _ hp
  have l1:kvs.length=ys.length:=Paired.length rel
  have l2:es.size=ys.length:=by
    have:=congrArg List.length he
    simpa using this
  have kt:zfn H (ys.map fun y=>y.2.1) kvs:=zd9 rel
  refine zeh (I.ok.hd hc) hd ⟨o,e,ex,dt⟩ (by omega) fun h1 acc c tk kp el it=>zhz (ys:=(ys.map fun y=>y.2.1).map V.ref) I kp el (Vals.of_get ?_ fun i x v ex ev=>?_) (by simp only [List.length_map];omega) fun l hl=>q l _ kt hl
  · have:=it.1
    simp only [List.length_map,Array.length_toList]
    omega
  · obtain⟨en,hen,rfl⟩:=it.2 i v (by simpa using ev)
    have hen:es.toList[i]? = some en:=by simpa using hen
    rw[he,List.getElem?_map] at hen
    rw[List.map_map,List.getElem?_map] at ex
    cases ek:ys[i]? with
    | none=>rw[ek] at ex;cases ex
    | some y=>
      rw[ek] at ex hen
      cases ex
      cases hen
      exact rfl
def vwO (p d:Addr):HO:=.ext fun h=>h.IsValuesView p d
theorem zjj:MtR X "dict.values" (fun x xs H Q=>∃d kvs,x=V.ref d/\xs = []/\H d=some (.dK kvs)/\∀p,H p=none->Q (.ref p) (upd H p (vwO p d))):=by
  intro pins s σ H x xs v us Q I rx rs h
  obtain⟨d,kvs,rfl,rfl,hd,q⟩:=h
  cases rx
  cases rs
  obtain⟨z,hs,vs,rel,dd⟩:=I.hok d _ hd
  refine call_meetsIn PySem.F.slot_dict_values dd.typeIs PySem.F.entry_dict_values (PySem.F.args_dict_values_1 _) (meets_dict_values (za3 X.prog X.w) d hs) ⟨⟨vs,dd⟩,?_⟩
  refine⟨.ref s.heap.objs.size,_,I.laid (t':=s.toks) (a:=s.heap.objs.size) (o:=vwO s.heap.objs.size d) (fun b u e=>Heap.get?_push_of_some _ e) (Nat.le_refl _) ⟨⟨_,Heap.get?_push_size _ rfl,rfl,rfl⟩,⟨_,Heap.get?_push_size _ rfl⟩,fun h1 h2 ⟨o,ho,r⟩ k=>⟨o,k o ho,r⟩⟩,rfl,q _ (I.hok.fresh (Nat.le_refl _))⟩
theorem zjk (hc:X.calm=true):zco X (.type "list") (fun xs H Q=>∃p d kvs,xs = [V.ref p]/\H p=some (vwO p d)/\H d=some (.dK kvs)/\∀l,H l=none->Q (.ref l) (upd H l (.lst (kvs.map (·.2))))):=by
  intro pins s σ H xs us Q I r h
  obtain⟨p,d,kvs,rfl,hp,hd,q⟩:=h
  obtain⟨u,rfl,ru⟩:=zdg r
  cases ru
  obtain⟨z,hs,vs,rel,dd⟩:=I.hok d _ hd
  obtain⟨hv,_,_⟩:=I.hok p _ hp
  have l1:kvs.length=vs.length:=Paired.length rel
  refine zjg (I.ok.hd hc) hv dd (by omega) fun h1 acc c tk kp el it=>zhz I kp el (Vals.of_get ?_ fun i x v ex ev=>?_) (by rw[List.length_map];exact z) q
  · have:=it.1
    simp only [List.length_map,Array.length_toList]
    omega
  · rw[List.getElem?_map] at ex
    cases ek:kvs[i]? with
    | none=>rw[ek] at ex;cases ex
    | some kv=>
      rw[ek] at ex
      cases ex
      obtain⟨k,hk⟩:=it.2 i v (by simpa using ev)
      obtain⟨w',hw,rw'⟩:=Paired.get' rel ek
      rw[hk] at hw
      cases hw
      exact rw'.2
end
def KTup (K:PySem.W.Frag) (ad:Addr) (ws:List V):Prop:=∃(o:Obj) (its:Array Value) (n:Nat),K.lookup ad=some o/\o.cls = .type "tuple"/\o.data = .seq its n/\its.size<=sizeLine/\Vals ws its.toList
theorem KTup.sq {K:PySem.W.Frag}{ad:Addr}{ws:List V}(h:KTup K ad ws) (H:Hp):SqT K H ad ws:=.inr h
inductive KEnts (w:World) (K:PySem.W.Frag):List DictEntry->List (Str×List V)->Prop where
  | nil:KEnts w K [] []
  | cons {k:Str}{t:Tok}{ad:Addr}{ws:List V}{es:List DictEntry}{l:List (Str×List V)}{od:Option Addr}{its:Array Value}{n:Nat}{sl:Array (Option Value)}(hl:K.lookup ad=some ⟨.type "tuple",od,.seq its n,sl⟩)
      (hz:its.size<=sizeLine) (hv:Vals ws its.toList) (r:KEnts w K es l):KEnts w K (⟨PyData.keyHash w.params k,.str k t,.ref ad⟩::es) ((k,ws)::l)
structure KDT (w:World) (K:PySem.W.Frag) (a:Addr) (l:List (Str×List V)):Prop where
  ob:∃es ep,K.lookup a=some { cls:=.type "dict",data:=.dict es ep }/\KEnts w K es.toList l
  nm:(a == sysModules)=false
  nd:(l.map (·.1)).Nodup
theorem KEnts.pairs {P:Program}{w:World}{K:PySem.W.Frag}:∀{es:List DictEntry}{l:List (Str×List V)},KEnts w K es l->∃vs:List (Key×Value),Pairs (za3 P w) es vs/\vs.map (·.1)=l.map (fun x=>(Sum.inr x.1:Key))/\
    (∀e∈es,∃k,(za3 P w).is k e.key=true/\e.hash=(za3 P w).hash k)/\∀x ws,(x,ws)∈l->∃ad,((Sum.inr x:Key),Value.ref ad)∈vs/\KTup K ad ws
  | _,_,.nil=>⟨[],.nil,rfl,(fun e h=>nomatch h),(fun x ws h=>nomatch h)⟩
  | _,_,.cons (k:=k) (t:=t) (ad:=ad) hl hz hv r=>by
    obtain⟨vs,p,e1,e2,e3⟩:=KEnts.pairs (P:=P) r
    refine⟨((Sum.inr k:Key),Value.ref ad)::vs,.cons (zdl P w k t) rfl p,by rw[List.map_cons,List.map_cons,e1],fun e h=>?_,fun x ws h=>?_⟩
    · rcases List.mem_cons.mp h with rfl | h
      · exact⟨Sum.inr k,zdl P w k t,rfl⟩
      · exact e2 e h
    · rcases List.mem_cons.mp h with h | h
      · cases h
        exact⟨ad,List.mem_cons_self ..,_,_,_,hl,rfl,rfl,hz,hv⟩
      · obtain⟨ad',h1,h2⟩:=e3 x ws h
        exact⟨ad',List.mem_cons_of_mem _ h1,h2⟩
theorem zfo {κ:Type} [DecidableEq κ]:∀{vs:List (κ×Value)}{k:κ}{v:Value},(vs.map (·.1)).Nodup->(k,v)∈vs->valueAt vs k=some v
  | (k',v')::vs,k,v,nd,h=>by
    unfold valueAt
    rw[List.map_cons,List.nodup_cons] at nd
    rcases List.mem_cons.mp h with h | h
    · cases h
      simp
    · have ne:k'≠k:=fun e=>nd.1 (List.mem_map.mpr ⟨_,h,e.symm⟩)
      rw[List.find?_cons_of_neg (by simpa using ne)]
      exact zfo nd.2 h
theorem zjl {κ:Type} [DecidableEq κ] {vs:List (κ×Value)}{k:κ}(h:k ∉ vs.map (·.1)):valueAt vs k=none:=by
  unfold valueAt
  rw[Option.map_eq_none_iff,List.find?_eq_none]
  intro x hx e
  exact h (List.mem_map.mpr ⟨x,hx,by simpa using e⟩)
section
variable {X:Cx}{pins:List (Addr×Obj)}{σ:St}{H:Hp}{s:Shared}
theorem KDT.at {a:Addr}{l:List (Str×List V)}(D:KDT X.w X.K a l) (I:Inv X pins σ H s):∃vs:List (Key×Value),s.heap.DictOf (za3 X.prog X.w) a vs/\vs.map (·.1)=l.map (fun x=>(Sum.inr x.1:Key))/\∀x ws,(x,ws)∈l->∃ad,valueAt vs (Sum.inr x)=some (.ref ad)/\KTup X.K ad ws:=by
  obtain⟨es,ep,hl,he⟩:=D.ob
  obtain⟨vs,p,e1,e2,e3⟩:=he.pairs (P:=X.prog)
  have nd:(vs.map (·.1)).Nodup:=by
    rw[e1]
    have:=D.nd
    unfold List.Nodup at this ⊢
    rw[List.pairwise_map] at this ⊢
    exact this.imp fun h z=>h (Sum.inr.inj z)
  refine⟨vs,⟨_,es,ep,I.kIn a _ hl,⟨rfl,rfl,rfl⟩,rfl,fun e h=>e2 e (by simpa using h),p,nd⟩,e1,fun x ws h=>?_⟩
  obtain⟨ad,h1,h2⟩:=e3 x ws h
  exact⟨ad,zfo nd h1,h2⟩
end
def tKIn (l:List (Str×List V)) (neg:Bool) (ty:TE):TE:=fun σ H Q=>ty σ H fun y H1=>∃x,y = .str x/\Q (.bl (if neg then !decide (x∈l.map (·.1)) else decide (x∈l.map (·.1)))) H1
def zxv (K:PySem.W.Frag) (l:List (Str×List V)) (ty:TE):TE:=fun σ H Q=>ty σ H fun y H1=>∃x ws,y = .str x/\(x,ws)∈l/\∀ad,KTup K ad ws->Q (.ref ad) H1
section
variable {X:Cx}{a:Addr}{l:List (Str×List V)}{g:Str}{e:Expr}{ty:TE}{p pos:Pos}
theorem zfp {vs:List (Key×Value)}(e1:vs.map (·.1)=l.map (fun x=>(Sum.inr x.1:Key))) (x:Str):(valueAt vs (Sum.inr x:Key)).isSome=decide (x∈l.map (·.1)):=by
  have m:(Sum.inr x:Key)∈vs.map (·.1)↔x∈l.map (·.1):=by
    rw[e1]
    constructor
    · intro h
      obtain⟨y,hy,e⟩:=List.mem_map.mp h
      exact List.mem_map.mpr ⟨y,hy,Sum.inr.inj e⟩
    · intro h
      obtain⟨y,hy,e⟩:=List.mem_map.mp h
      exact List.mem_map.mpr ⟨y,hy,congrArg Sum.inr e⟩
  by_cases h:x∈l.map (·.1)
  · rw[decide_eq_true h]
    obtain⟨y,hy,e⟩:=List.mem_map.mp (m.mpr h)
    unfold valueAt
    rw[Option.isSome_map,List.find?_isSome]
    exact⟨y,hy,by simpa using e⟩
  · rw[decide_eq_false h,zjl (fun z=>h (m.mp z))];rfl
theorem zo2 (D:KDT X.w X.K a l) (hg:Gl X g) (hm:X.mg g=some (.ref a)) (he:PE X e ty) (hdb:(g == ("__debug__" : Str))=false:=by decide):PC X .In e (.Name g p) (tKIn l false ty):=by
  intro pins s σ H Q I h
  refine thn (he pins s σ H _ I h) fun iv s1 hq0=>?_
  obtain⟨y,H1,I1,ry,q1⟩:=hq0
  obtain⟨x,rfl,q⟩:=q1
  obtain⟨vs,dd,e1,_⟩:=D.at I1
  refine zcn I1 hg hm ?_ hdb
  refine wpAny_in_of (zgl (k:=Sum.inr x) ry) D.nm dd.mapOf ?_
  rw[zfp e1]
  exact⟨.bl _,H1,I1.tok _,rfl,q⟩
theorem zo3 (D:KDT X.w X.K a l) (hg:Gl X g) (hm:X.mg g=some (.ref a)) (he:PE X e ty) (hdb:(g == ("__debug__" : Str))=false:=by decide):PC X .NotIn e (.Name g p) (tKIn l true ty):=by
  intro pins s σ H Q I h
  refine thn (he pins s σ H _ I h) fun iv s1 hq0=>?_
  obtain⟨y,H1,I1,ry,q1⟩:=hq0
  obtain⟨x,rfl,q⟩:=q1
  obtain⟨vs,dd,e1,_⟩:=D.at I1
  refine zcn I1 hg hm ?_ hdb
  refine wpAny_notIn_of (zgl (k:=Sum.inr x) ry) D.nm dd.mapOf ?_
  rw[zfp e1]
  exact⟨.bl _,H1,I1.tok _,rfl,q⟩
theorem zk1 (D:KDT X.w X.K a l) (hg:Gl X g) (hm:X.mg g=some (.ref a)) (he:PE X e ty) (hs:NoSl e) (hdb:(g == ("__debug__" : Str))=false:=by decide):PE X (.Subscript (.Name g p) e pos) (zxv X.K l ty):=by
  intro pins s σ H Q I h
  refine zok PySem.F.slot_dict_getitem.lookup hs (zcn I hg hm ?_ hdb)
  refine thn (he pins s σ H _ I h) fun iv s1 hq0=>?_
  obtain⟨y,H1,I1,ry,q1⟩:=hq0
  obtain⟨x,ws,rfl,hx,q⟩:=q1
  obtain⟨vs,dd,e1,e2⟩:=D.at I1
  obtain⟨ad,hv,kt⟩:=e2 x ws hx
  exact⟨dd.typeIs,wpAny_getItem_of (zgl (k:=Sum.inr x) ry) dd.mapOf hv ⟨.ref ad,H1,I1.tok _,rfl,q ad kt⟩⟩
end
def DfM (K:PySem.W.Frag) (C:Addr) (qual m:Str) (st:Stmt) (ps:List Str):Prop:=
  ∃(f:Addr) (fd:FuncData),Fun K m qual st f fd/\Meth K C m f/\∀us:List Value,us.length=ps.length->bindArgs fd ⟨us,[]⟩=pure (ps.zip us)
theorem dfm_mk {K:PySem.W.Frag}{C:Addr}{qual m:Str}{st:Stmt}{ps:List Str}{f:Addr}{oc kV dc pm cd ct:Value}{od an:Option Addr}{sl:Array (Option Value)}
    (hb:∀(kV doc pm:Value) (an:Option Addr) (cdv ct:Value) (us:List Value),us.length=ps.length->bindArgs (PySem.W.fnOf m qual (zdn st) (zam st) (zj st) .none kV doc pm an cdv ct) ⟨us,[]⟩=pure (ps.zip us))
    (a:PySem.W.findIn K (.ref C) m=some (some (.ref f))) (l:K.lookup f=some ⟨oc,od,.func (PySem.W.fnOf m qual (zdn st) (zam st) (zj st) .none kV dc pm an cd ct),sl⟩) (c:PySem.W.codeIn K cd qual=true) (k:PySem.W.keepIn K (.ref f)=true)
    (i:PySem.W.isFn K (.ref f)=true):DfM K C qual m st ps:=⟨f,_,zs0 l c k,⟨a,i,k⟩,fun us hl=>hb kV dc pm an cd ct us hl⟩
def HasM (P:Program) (w:World) (K:PySem.W.Frag) (mg:Str->Option Value) (base:Heap) (C:Addr) (m:Str) (ps:List Str) (k:Nat) (sp:Sp):Prop:=
  ∃(f:Addr) (fd:FuncData),Meth K C m f/\(∀us:List Value,us.length=ps.length->bindArgs fd ⟨us,[]⟩=pure (ps.zip us))/\FnOk P w K mg base CX0 k f fd ps sp
section
variable {P:Program}{w:World}{K:PySem.W.Frag}{mg:Str->Option Value}{base:Heap}
theorem DfM.has {C:Addr}{qual m:Str}{st:Stmt}{N ps:List Str}{k:Nat}{sp:Sp}(D:DfM K C qual m st ps) (S:FnScope N ps (zj st)) (len:∀vs H Q E,sp vs H Q E->vs.length=ps.length)
    (hbody:∀(f:Addr) (cdv:Value) (A:Around) (outer:List Env) (s:Shared) (H:Hp) (vs:List V) (Q:VK) (E:XK),Room k (A.deeper (envOfC qual (zj st) s.heap.objs.size f cdv))->sp vs H Q E->
      ∃t,PSs (cxOf CX0 P w K mg base N qual (zj st) f cdv A outer s H E).nox (zam st) t/\t { nx:=fun _ H'=>Q .non H',rt:=Q } (zd5 N vs) H):HasM P w K mg base C m ps (k+1) sp:=by
  obtain⟨f,fd,F,a,b⟩:=D
  obtain⟨oc,od,kV,doc,pm,an,cdv,ct,osl,e,lk,hcd⟩:=id F.ex
  exact⟨f,fd,a,b,F.ok S len (hbody f)⟩
end
section
variable {X:Cx}{k:Nat}{ps:List Str}{sp:Sp}{C:Addr}{m x:Str}{p pos apos:Pos}{o e:Expr}{es:List Expr}{t:TA}{ta:TE}
theorem zbs {pl:Sem Bool}(F:HasM X.prog X.w X.K X.mg X.base C m ps k sp) (c:Cls X.K C) (hr:Room k X.A) (he:PE X o ta) (ha:PA X (e::es) t)
    (hst:starEach (e::es) X.env=(false,eval e X.env)::starEach es X.env:=by rfl) (hpl:(backTo pos (starEach es X.env)).any (·.1)=false:=by rfl)
    (ht:eval (.Call (.Attribute o m apos) (e::es) [] pos) X.env=(do
      let ov ←eval o X.env
      standAt apos.atName
      let (f,first) ←holding [ov] (getMethod ov m pl)
      callWith pos f first (backTo pos (starEach (e::es) X.env)) (backToKw pos (keywordEach [] X.env))):=by rfl) :
    PE X (.Call (.Attribute o m apos) (e::es) [] pos) (zq3 C m sp [] E0 ta t):=by
  obtain⟨f,fd,a,b,G⟩:=F
  exact ztx he c a G hr (.all b) .nil zoo ha hst hpl ht
theorem zuh {pl:Sem Bool}(F:HasM X.prog X.w X.K X.mg X.base C m ps k sp) (c:Cls X.K C) (hr:Room k X.A) (he:PE X o ta)
    (ht:eval (.Call (.Attribute o m apos) [] [] pos) X.env=(do
      let ov ←eval o X.env
      standAt apos.atName
      let (f,first) ←holding [ov] (getMethod ov m pl)
      callWith pos f first (backTo pos (starEach [] X.env)) (backToKw pos (keywordEach [] X.env))):=by rfl) :
    PE X (.Call (.Attribute o m apos) [] [] pos) (zq3 C m sp [] E0 ta tNil):=by
  obtain⟨f,fd,a,b,G⟩:=F
  exact zq5 he c a G hr (.all b) .nil zoo ht
theorem zo4 (F:HasM X.prog X.w X.K X.mg X.base C "__init__" ps k sp) (hmk:PySem.W.makesIn X.K C=true) (hk:PySem.W.keepIn X.K (.ref C)=true) (hr:Room (k+1) X.A) (hg:Gl X x) (hm:X.mg x=some (.ref C)) (hdb:(x == ("__debug__" : Str))=false:=by decide) :
    PE X (.Call (.Name x p) [] [] pos) (zq4 C sp [] E0 tNil):=by
  obtain⟨f,fd,a,b,G⟩:=F
  exact zq6 ⟨hmk,a.at_,a.fn,hk⟩ G hr hg hm (.all b) .nil zoo hdb
end
theorem zro {K:PySem.W.Frag}{b1 b2:Bool}{l1 l2:Addr}{xs ys:List V}{own:List Str}{ix:List Nat}{te:TE}{σ:St}{H1:Hp}{D:Addr}{Q:VK}(f:V->V->V) (hD:H1 D=none)
    (h1:∀H',Same H1 H'->SqV K b1 H' l1 xs) (h2:∀H',Same H1 H'->SqV K b2 H' l2 ys) (hl:xs.length=ys.length) (hz:xs.length<=sizeLine)
    (he:∀(i:Nat) x y,xs[i]? = some x->ys[i]? = some y->∀H' (Q':VK),Same H1 H'->(∀H'',Same H' H''->Q' (f x y) H'')->te (((st0 own ix σ).set 0 (some x)).set 1 (some y)) H' Q')
    (hQ:∀H',Same H1 H'->H' D=some (.lst (List.zipWith f xs ys))->Q (.ref D) H'):zkv own ix (Itz K b1 b2 l1 l2) (gTup K 2 (ztn (za6 0) (ztn (za6 1) gNil))) tYes te σ H1 D Q:=by
  refine⟨fun i m σ' zs H'=>m=xs.length-i/\i<=xs.length/\(∀z z',(σ'.set 0 z).set 1 z'=((st0 own ix σ).set 0 z).set 1 z')/\zs=List.zipWith f (xs.take i) (ys.take i)/\Same H1 H'/\H' D=some (.lst zs),
    ⟨xs.length,by simp,Nat.zero_le _,fun _ _=>rfl,by simp,Same.new hD,zb⟩,?_⟩
  rintro i m σ' zs H' ⟨rfl,hi,hσ,rfl,hs,hDy⟩
  refine⟨hDy,?_⟩
  by_cases hlt:i<xs.length
  · have hlt2:i<ys.length:=by omega
    have ex:xs[i]? = some xs[i]:=List.getElem?_eq_getElem hlt
    have ey:ys[i]? = some ys[i]:=List.getElem?_eq_getElem hlt2
    refine .inr ⟨⟨xs,ys,xs[i],ys[i],h1 _ hs,h2 _ hs,ex,ey⟩,?_,fun v H2 y=>?_⟩
    · rw[List.length_zipWith,List.length_take,List.length_take];omega
    · obtain⟨T,x,y,hT,rfl,rfl,hxy⟩:=y
      obtain⟨e1,e2⟩:=hxy xs ys (h1 _ hs) (h2 _ hs)
      have sT:=Same.new (o:=.tup [x,y]) hT
      have sA:=hs.trans sT
      refine⟨T,[x,y],rfl,SqT.of zb,rfl,x,_,rfl,y,_,rfl,rfl,?_⟩
      unfold tYes
      dsimp only
      rw[if_pos rfl,hσ]
      refine he i x y e1 e2 _ _ sA fun H'' hs'=>⟨hs' D _ (sT D _ hDy),xs.length-(i+1),by omega,rfl,hlt,fun z z'=>?_,?_,(sA.trans hs').upd hD,zb⟩
      · have:∀(l:St) (a b c d:Option V),((((l.set 0 a).set 1 b).set 0 c).set 1 d)=(l.set 0 c).set 1 d:=fun l a b c d=>by
          cases l with
          | nil=>rfl
          | cons p l=>
            cases l with
            | nil=>rfl
            | cons q l=>rfl
        exact this ..
      · rw[List.take_add_one,List.take_add_one,e1,e2,List.zipWith_append (by simp;omega)];rfl
  · have e:i=xs.length:=by omega
    subst e
    refine .inl ⟨⟨xs,ys,h1 _ hs,h2 _ hs,.inl (Nat.le_refl _)⟩,hQ _ hs ?_⟩
    rw[List.take_length,hl,List.take_length] at hDy
    exact hDy
theorem kdt_mk {K:PySem.W.Frag}{h:Heap}{mg:Str->Option Value}{w:World}(X:K.In h) (G:h.Ns mainGlobals mg) {x:Str}{a:Addr}{es:Array DictEntry}{ep:Nat}{l:List (Str×List V)}(e:PySem.W.nsIn K mainGlobals x=some (some (.ref a)))
    (lk:K.lookup a=some { cls:=.type "dict",data:=.dict es ep }) (ke:KEnts w K es.toList l) (nm:(a == sysModules)=false) (nd:(l.map (·.1)).Nodup):∃a,mg x=some (.ref a)/\KDT w K a l:=
  ⟨a,PySem.W.mg_of X G e,⟨es,ep,lk,ke⟩,nm,nd⟩
section
variable {X:Cx}(K:PySem.W.Frag) (h:X.K=K)
include h
theorem zui {elts:List Expr}{ct:Nat}{tpos:Pos}{e1 e2:Expr}{ta:TA}{p pos:Pos}(b1 b2:Bool) (hg:Gl X "zip") (hm:X.mg "zip" = none) (ha:PA X [e1,e2] ta) (hs:starEach [e1,e2] X.env = [(false,eval e1 X.env),(false,eval e2 X.env)]:=by rfl) (hs2:starEach [e2] X.env = [(false,eval e2 X.env)]:=by rfl) :
    PI X (.Tuple elts ct tpos) (.Call (.Name "zip" p) [e1,e2] [] pos) (iZip K b1 b2 ta):=h▸zwp b1 b2 hg hm ha hs hs2
end
def zuj (n i:Nat) (p:Prop):Prop:=∃m',m'<n-i/\m'=n-(i+1)/\i+1<=n/\p
theorem zh0 {n i:Nat}{p:Prop}(h:i<n) (q:p):zuj n i p:=⟨n-(i+1),by omega,rfl,h,q⟩
theorem zfq {α:Type}{xs:List α}{i:Nat}{x:α}(h:xs[i]? = some x):i<xs.length:=(List.getElem?_eq_some_iff.mp h).1
theorem zde {J:It}{xs:List V}{P:Hp->Prop}{own:List Str}{ix:List Nat}{g:TG}{tc:TT}{te:TE}{σ:St}{H1:Hp}{D:Addr}{Q:VK}(F:Fix J xs P)
    (R:Nat->St->List V->Hp->Prop) (h0:R 0 (st0 own ix σ) [] (upd H1 D (.lst [])))
    (hP:∀i σ' ys H',R i σ' ys H'->P H'/\H' D=some (.lst ys)/\ys.length<=i) (hz:xs.length<=sizeLine)
    (hs:∀i x σ' ys H',xs[i]? = some x->R i σ' ys H'->g x σ' H' fun σ3 H3=>tc σ3 H3 fun b H4=>
      if b=true then te σ3 H4 fun y H5=>H5 D=some (.lst ys)/\zuj xs.length i (R (i+1) σ3 (ys++[y]) (upd H5 D (.lst (ys++[y])))) else H4 D=some (.lst ys)/\zuj xs.length i (R (i+1) σ3 ys H4))
    (hQ:∀σ' ys H',R xs.length σ' ys H'->Q (.ref D) H'):zkv own ix J g tc te σ H1 D Q:=by
  refine⟨fun i m σ' ys H'=>m=xs.length-i/\i<=xs.length/\R i σ' ys H',⟨xs.length,by simp,Nat.zero_le _,h0⟩,?_⟩
  rintro i m σ' ys H' ⟨rfl,hi,r⟩
  obtain⟨p1,p2,p3⟩:=hP i σ' ys H' r
  refine⟨p2,?_⟩
  by_cases hlt:i<xs.length
  · refine .inr ⟨F.go i _ p1 hlt,by omega,fun x H2 y=>?_⟩
    obtain⟨e,y'⟩:=F.yld i _ x H2 p1 y
    subst e
    exact hs i x σ' ys _ (y' hlt) r
  · have e:i=xs.length:=by omega
    subst e
    exact .inl ⟨F.stop _ _ p1 (Nat.le_refl _),hQ σ' ys H' r⟩
end L2
namespace Dm
open PySem PySem.NumText
abbrev co (x:Str):List Nat:=x.cps.toList
theorem zb1 (x:Str):(co x).length=x.length:=by simp[Str.length]
theorem zc2 {x y:Str}(h:co x=co y):x=y:=by
  cases x with
  | mk a=>cases y with
    | mk b=>
      have:a=b:=by
        have h:a.toList=b.toList:=h
        exact Array.toList_inj.mp h
      rw[this]
theorem zwq (l:List Nat):co ⟨l.toArray⟩=l:=by simp[co]
theorem zuk (x:Str) (c:Nat):(0+1<=x.length&&Builtin.Str.subAt x ⟨#[c]⟩ 0)=decide ((co x).head? = some c):=by
  obtain⟨a⟩:=x
  obtain⟨l⟩:=a
  cases l with
  | nil=>simp[co,Str.length]
  | cons d r=>
    show (decide (0+1<=((d::r).toArray).size)&&(((d::r).toArray.extract 0 (0+1)) == #[c]))=decide ((d::r).head? = some c)
    have e1:decide (0+1<=((d::r).toArray).size)=true:=decide_eq_true (by simp)
    rw[e1,Bool.true_and]
    have e2:((d::r).toArray.extract 0 (0+1)) = #[d]:=by simp
    rw[e2]
    by_cases h:d=c
    · subst h;simp
    · have:¬(d::r).head? = some c:=by simp[h]
      rw[decide_eq_false this]
      simp[h]
theorem zhc (x:Str) (c:Nat):Txt.startswith x ⟨#[c]⟩=decide ((co x).head? = some c):=zuk x c
def sIx' (n d:Nat):Option Int->Nat
  | none=>d
  | some i=>if i<0 then (max (i+(n:Int)) 0).toNat else min i.toNat n
theorem zxw (l:List Nat) (i k:Nat):((List.range k).map fun m=>i+m).filterMap (fun j=>l[j]?)=(l.drop i).take k:=by
  induction k generalizing i with
  | zero=>simp
  | succ k ih=>
    rw[List.range_succ_eq_map,List.map_cons,List.map_map]
    have e:((List.range k).map ((fun m=>i+m) ∘ Nat.succ))=(List.range k).map fun m=>(i+1)+m:=by
      apply List.map_congr_left
      intro a _
      simp only [Function.comp,Nat.succ_eq_add_one];omega
    rw[e,List.filterMap_cons]
    simp only [Nat.add_zero]
    rw[ih (i+1)]
    cases h:l[i]? with
    | none=>
      have hl:l.length<=i:=List.getElem?_eq_none_iff.mp h
      rw[List.drop_eq_nil_of_le hl,List.drop_eq_nil_of_le (by omega)];simp
    | some v=>
      obtain⟨hi,e⟩:=List.getElem?_eq_some_iff.mp h
      rw[List.drop_eq_getElem_cons hi,List.take_succ_cons,e]
def zrp (n:Nat) (d:Int):Option Int->Int
  | none=>d
  | some i=>max 0 (min (if i<0 then i+(n:Int) else i) n)
theorem zl3 (n d:Nat) (hd:d<=n) (o:Option Int):zrp n d o=((sIx' n d o:Nat):Int):=by
  cases o with
  | none=>rfl
  | some i=>simp only [sIx',zrp];split<;>omega
theorem zul (n d:Nat) (hd:d<=n) (o:Option Int):sIx' n d o<=n:=by
  cases o with
  | none=>exact hd
  | some i=>simp only [sIx'];split<;>omega
theorem zhd (lo hi:Option Int) (n:Nat):Builtin.Str.strSliceIndices lo hi 1 n=(List.range (sIx' n n hi-sIx' n 0 lo)).map fun m=>sIx' n 0 lo+m:=by
  have:Builtin.Str.strSliceIndices lo hi 1 n=sliceRange (zrp n 0 lo) (zrp n n hi) 1:=by
    cases lo<;>cases hi<;>rfl
  rw[this,show (0:Int)=((0:Nat):Int) from rfl,zl3 n 0 (Nat.zero_le _),zl3 n n (Nat.le_refl _)]
  unfold sliceRange
  simp only [show (1:Int) > 0 by decide,if_true,Int.one_mul,Int.ediv_one]
  have ec:(if ((sIx' n 0 lo:Nat):Int)<((sIx' n n hi:Nat):Int) then ((sIx' n n hi:Nat):Int)-((sIx' n 0 lo:Nat):Int)+1-1 else 0).toNat=sIx' n n hi-sIx' n 0 lo:=by
    split<;>omega
  rw[ec]
  apply List.map_congr_left
  intro a _
  omega
theorem zl4 (x:Str) (lo hi:Option Int):co (Txt.slice x lo hi)=((co x).drop (sIx' x.length 0 lo)).take (sIx' x.length x.length hi-sIx' x.length 0 lo):=by
  have key:(Builtin.Str.strSliceIndices lo hi 1 x.length).filterMap (x.cps[·]?)=((co x).drop (sIx' x.length 0 lo)).take (sIx' x.length x.length hi-sIx' x.length 0 lo):=by
    rw[zhd,←zxw (co x)]
    congr 1
    funext j
    simp[co]
  unfold Txt.slice
  split
  · rename_i h
    have hl:(Builtin.Str.strSliceIndices lo hi 1 x.length).length=x.length:=by
      simpa using h
    rw[zhd,List.length_map,List.length_range] at hl
    have h1:=zul x.length x.length (Nat.le_refl _) hi
    have h2:sIx' x.length 0 lo=0\/x.length=0:=by omega
    have h3:=zb1 x
    rcases h2 with h2 | h2
    · rw[hl,h2,List.drop_zero,List.take_of_length_le (by omega)]
    · have:co x = []:=List.length_eq_zero_iff.mp (by omega)
      rw[this];simp
  · rw[zwq];exact key
theorem zk2 (x:Str):co (Txt.slice x (some 1) none)=(co x).drop 1:=by
  rw[zl4]
  have h:=zb1 x
  simp only [sIx']
  rw[if_neg (by decide)]
  cases e:co x with
  | nil=>simp
  | cons c r=>
    rw[e,List.length_cons] at h
    have e1:min (1:Int).toNat x.length=1:=by
      show min 1 x.length=1
      omega
    rw[e1,List.take_of_length_le (by simp;omega)]
def NAMES:Str:="abcdefghijklmnopqrstuvwxyz0123456789-"
def FIGS:Str:="0123456789"
def zh1 (l:List Nat) (sg:Str):Bool:=l.all fun c=>decide (c∈co sg)
def za4 (x:Str):Bool:=decide (1<=x.length)&&decide (x.length<=12)&&zh1 (co x) NAMES
def figs:List Nat->List Nat
  | []=>[]
  | c::r=>if c=45 then r else c::r
theorem zdx (r:List Nat):figs (45::r)=r:=by unfold figs;exact if_pos rfl
theorem zdy {c:Nat}(r:List Nat) (h:c≠45):figs (c::r)=c::r:=by unfold figs;exact if_neg h
def ZERO:Str:="0"
def zc3 (x:Str):Bool:=decide (1<=(figs (co x)).length)&&decide ((figs (co x)).length<=60)&&zh1 (figs (co x)) FIGS && !(decide ((figs (co x)).head? = some 48) && !decide (x=ZERO))
def numI (x:Str):Int:=if (co x).head? = some 45 then 0-((digitsVal (figs (co x)):Nat):Int) else ((digitsVal (figs (co x)):Nat):Int)
theorem zl5 (c:Nat):c∈co FIGS↔48<=c/\c<=57:=by
  have e:co FIGS=List.range' 48 10:=by decide +kernel
  rw[e,List.mem_range'_1]
  exact⟨fun h=>⟨h.1,Nat.le_of_lt_succ h.2⟩,fun h=>⟨h.1,Nat.lt_succ_of_le h.2⟩⟩
theorem zjm {l:List Nat}(h:zh1 l FIGS=true):AllDigits l:=fun c hc=>by
  have:=List.all_eq_true.mp h c hc
  exact (zl5 c).mp (of_decide_eq_true this)
theorem zdi {l:List Nat}(h:AllDigits l):zh1 l FIGS=true:=List.all_eq_true.mpr fun c hc=>decide_eq_true ((zl5 c).mpr (h c hc))
theorem zrq {x:Str}(h:zc3 x=true):intText? x=some (numI x)/\x.length<=61:=by
  unfold zc3 at h
  simp only [Bool.and_eq_true,decide_eq_true_eq] at h
  obtain⟨⟨⟨h1,h2⟩,h3⟩,_⟩:=h
  have hd:=zjm h3
  have hl:=zb1 x
  unfold numI
  cases e:co x with
  | nil=>rw[e] at h1;simp[figs] at h1
  | cons c r=>
    rw[e] at h1 h2 hd hl
    rw[List.length_cons] at hl
    by_cases hc:c=45
    · subst hc
      rw[zdx] at h1 h2 hd
      rw[zdx,if_pos (by rfl),Int.zero_sub]
      exact⟨intText_neg e hd (by intro z;rw[z] at h1;simp at h1) (by omega),by omega⟩
    · rw[zdy r hc] at h1 h2 hd
      rw[zdy r hc,if_neg (by simp[hc])]
      rw[List.length_cons] at h2
      have hne:x.cps.toList≠[]:=by
        show co x≠[]
        rw[e];simp
      have hd':AllDigits x.cps.toList:=by
        show AllDigits (co x)
        rw[e];exact hd
      have q:=intText_digits hd' hne (by omega)
      have q':intText? x=some ((digitsVal (co x):Nat):Int):=q
      rw[e] at q'
      exact⟨q',by omega⟩
def dg (m:Nat):List Nat:=(Nat.toDigits 10 m).map Char.toNat
theorem zfr (t:String):co (Str.ofString t)=t.toList.map Char.toNat:=by rw[Str.ofString_eq_toList]
theorem zhe (m:Nat):co (Str.ofString (toString ((m:Nat):Int)))=dg m:=by
  rw[zfr]
  show (Nat.repr m).toList.map Char.toNat=_
  rw[Nat.toList_repr];rfl
theorem zhf (m:Nat):co (Str.ofString (toString (Int.negSucc m)))=45::dg (m+1):=by
  rw[zfr]
  show ("-" ++ Nat.repr (m+1)).toList.map Char.toNat=_
  rw[String.toList_append,List.map_append,Nat.toList_repr]
  try rfl
theorem zhg:∀d:Nat,d<10->(Nat.digitChar d).toNat=d+48:=by decide
theorem zum {m:Nat}(h:m<10):dg m = [m+48]:=by
  unfold dg
  rw[Nat.toDigits_of_lt_base h,List.map_cons,List.map_nil,zhg m h]
theorem zun {m:Nat}(h:10<=m):dg m=dg (m / 10)++[m%10+48]:=by
  have hm:m%10<10:=Nat.mod_lt m (by decide)
  unfold dg
  rw[Nat.toDigits_of_base_le (by decide) h,List.map_append,List.map_cons,List.map_nil,zhg _ hm]
theorem zs2 (m:Nat):digitsVal (dg m)=m:=by
  induction m using Nat.strongRecOn with
  | _ m ih=>
    by_cases h:m<10
    · rw[zum h]
      show 0 * 10+(m+48-48)=m
      omega
    · rw[zun (by omega)]
      have:=ih (m / 10) (by omega)
      unfold digitsVal at this ⊢
      rw[List.foldl_append,this]
      show m / 10 * 10+(m%10+48-48)=m
      omega
theorem zo5 (m:Nat):AllDigits (dg m):=by
  induction m using Nat.strongRecOn with
  | _ m ih=>
    by_cases h:m<10
    · rw[zum h]
      intro c hc
      rw[List.mem_singleton] at hc
      omega
    · rw[zun (by omega)]
      intro c hc
      rcases List.mem_append.mp hc with hc | hc
      · exact ih (m / 10) (by omega) c hc
      · rw[List.mem_singleton] at hc
        omega
theorem zs3 {m k:Nat}(hk:1<=k) (h:m<10 ^ k):(dg m).length<=k:=by
  unfold dg
  rw[List.length_map]
  exact (Nat.length_toDigits_le_iff (by decide) hk).mpr h
theorem zo6 (m:Nat):1<=(dg m).length:=by
  unfold dg
  rw[List.length_map]
  exact Nat.length_toDigits_pos
theorem zo7 (m:Nat) (h:0<m):∃c r,dg m=c::r/\49<=c/\c<=57:=by
  induction m using Nat.strongRecOn with
  | _ m ih=>
    by_cases h1:m<10
    · exact⟨m+48,[],zum h1,by omega,by omega⟩
    · obtain⟨c,r,e,h2,h3⟩:=ih (m / 10) (by omega) (by omega)
      exact⟨c,r++[m%10+48],by rw[zun (by omega),e];rfl,h2,h3⟩
theorem zfs (n:Int) (h1:n.natAbs<10 ^ 60):zc3 (Str.ofString (toString n))=true/\numI (Str.ofString (toString n))=n/\(Str.ofString (toString n)).length<=61:=by
  have hl:=zb1 (Str.ofString (toString n))
  unfold zc3 numI
  cases n with
  | ofNat m=>
    have e:co (Str.ofString (toString (Int.ofNat m)))=dg m:=zhe m
    have h1:m<10 ^ 60:=h1
    have p:=zs3 (by decide) h1
    have p1:=zo6 m
    rw[e] at hl
    by_cases hm:m=0
    · subst hm
      have z:Str.ofString (toString (Int.ofNat 0))=ZERO:=by decide +kernel
      rw[z]
      refine⟨by decide +kernel,by decide +kernel,by decide +kernel⟩
    · obtain⟨c,r,ed,h2,h3⟩:=zo7 m (by omega)
      have hc:c≠45:=by omega
      have ef:figs (dg m)=dg m:=by rw[ed,zdy r hc]
      rw[e,ef]
      refine⟨?_,?_,by omega⟩
      · rw[decide_eq_true p1,decide_eq_true p,zdi (zo5 m),ed]
        have:¬(c::r).head? = some 48:=by
          intro z
          have:c=48:=Option.some.inj z
          omega
        rw[decide_eq_false this];rfl
      · rw[zs2,if_neg]
        · rfl
        · rw[ed]
          intro z
          have:c=45:=Option.some.inj z
          omega
  | negSucc m=>
    have e:co (Str.ofString (toString (Int.negSucc m)))=45::dg (m+1):=zhf m
    have h1:m+1<10 ^ 60:=h1
    have p:=zs3 (by decide) h1
    have p1:=zo6 (m+1)
    rw[e,List.length_cons] at hl
    rw[e,zdx]
    obtain⟨c,r,ed,h2,h3⟩:=zo7 (m+1) (by omega)
    refine⟨?_,?_,by omega⟩
    · rw[decide_eq_true p1,decide_eq_true p,zdi (zo5 (m+1)),ed]
      have:¬(c::r).head? = some 48:=by
        intro z
        have:c=48:=Option.some.inj z
        omega
      rw[decide_eq_false this];rfl
    · rw[zs2,if_pos (by rfl)]
      omega
def zk3 (ns:List Int) (i:Int):Int:=ns.getD i.toNat 0
def pt (c k m:Int):Int:=(c%99991+17) * (48271+7919 * k)%65537 * (k+3)%8191%m
theorem zcx (c k m:Int) (h:0<m):0<=pt c k m/\pt c k m<m:=⟨Int.emod_nonneg _ (by omega),Int.emod_lt_of_pos _ h⟩
def nmI (one at':Int) (k j:Nat):Int:=if (j:Int)=at' then pt one ((j:Int)+2) 37+k else pt one ((j:Int)+2) 37
def nmN (one at':Int) (k j:Nat):Nat:=(co NAMES).getD (nmI one at' k j%37).toNat 0
def nmC (one at':Int) (k size:Nat):List Nat:=(List.range size).map (nmN one at' k)
theorem zo8:(co NAMES).length=37:=by decide +kernel
theorem zrr:(co NAMES).Nodup:=by decide +kernel
theorem ix37 (z:Int):0<=z%37/\(z%37).toNat<(co NAMES).length:=by
  have h1:=Int.emod_nonneg z (show (37:Int)≠0 by decide)
  have h2:=Int.emod_lt_of_pos z (show (0:Int)<37 by decide)
  rw[zo8]
  omega
theorem zuo (one at':Int) (k j:Nat):nmN one at' k j∈co NAMES:=by
  unfold nmN
  have h:=(ix37 (nmI one at' k j)).2
  rw[List.getD_eq_getElem?_getD,List.getElem?_eq_getElem h]
  exact List.getElem_mem h
theorem zo9 {i j:Nat}(hi:i<(co NAMES).length) (hj:j<(co NAMES).length) (h:(co NAMES).getD i 0=(co NAMES).getD j 0):i=j:=by
  rw[List.getD_eq_getElem?_getD,List.getD_eq_getElem?_getD,List.getElem?_eq_getElem hi,List.getElem?_eq_getElem hj] at h
  have h:(co NAMES)[i]=(co NAMES)[j]:=h
  exact (List.getElem_inj zrr).mp h
theorem zdp (one at':Int) (k size:Nat):(nmC one at' k size).length=size:=by unfold nmC;simp
theorem zpa {one at':Int}{k size j:Nat}(h:j<size):(nmC one at' k size)[j]? = some (nmN one at' k j):=by
  unfold nmC
  rw[List.getElem?_map,List.getElem?_range h];rfl
def zbo (l:List Nat):Str:=⟨l.toArray⟩
theorem zas (l:List Nat):co (zbo l)=l:=zwq l
theorem zjn {l m:List Nat}(h:zbo l=zbo m):l=m:=by
  have:=congrArg co h
  rwa [zas,zas] at this
theorem zl6 {x:Str}(h1:1<=(co x).length) (h2:(co x).length<=12) (h3:∀c∈co x,c∈co NAMES):za4 x=true:=by
  rw[zb1] at h1 h2
  unfold za4
  rw[decide_eq_true h1,decide_eq_true h2]
  show zh1 (co x) NAMES=true
  exact List.all_eq_true.mpr fun c hc=>decide_eq_true (h3 c hc)
theorem zpb {one at':Int}{k size c:Nat}(h:c∈nmC one at' k size):c∈co NAMES:=by
  obtain⟨j,_,rfl⟩:=List.mem_map.mp h
  exact zuo ..
theorem zc4 {f:Nat->Str}{n:Nat}(h:∀i j,i<n->j<n->f i=f j->i=j):((List.range n).map f).Nodup:=by
  unfold List.Nodup
  rw[List.pairwise_map]
  refine List.Pairwise.imp_of_mem (R:=(·≠·)) (fun {a b} ha hb hab e=>?_) List.nodup_range
  exact hab (h a b (List.mem_range.mp ha) (List.mem_range.mp hb) e)
theorem zwr:(Str.ofString "" : Str)=zbo []:=by decide +kernel
theorem zjo (l m:List Nat):zbo l++zbo m=zbo (l++m):=by
  apply zc2
  show (l.toArray++m.toArray).toList=(l++m).toArray.toList
  simp
theorem zc5 (l:List Nat):(zbo l).length=l.length:=by show l.toArray.size=_;simp
theorem zm2 (l:List Nat) (z:Int) (h0:0<=z) (h1:z<=l.length):Txt.slice (zbo l) none (some z)=zbo (l.take z.toNat):=by
  apply zc2
  rw[zl4,zas,zas,zc5]
  simp only [sIx']
  rw[if_neg (by omega),List.drop_zero,Nat.sub_zero]
  congr 1
  omega
end Dm
namespace Dm
open PySem PySem.NumText L2
def zh2:List Str:=["over","cuts","fills","same"]
def zan (z:Int):Prop:=z.natAbs<10 ^ 60
inductive TieOk (us:List Str):List V->Prop where
  | plain {kd x y:Str}(hk:kd∈zh2) (hx:x∈us) (hy:y∈us):TieOk us [.str kd,.str x,.str y]
  | after {x y:Str}{n:Int}(hx:x∈us) (hy:y∈us) (h0:0<=n) (h1:zan n):TieOk us [.str "after",.str x,.str y,.int n]
theorem TieOk.mono {us us':List Str}{ws:List V}(h:TieOk us ws) (s:∀x∈us,x∈us'):TieOk us' ws:=by
  cases h with
  | plain hk hx hy=>exact .plain hk (s _ hx) (s _ hy)
  | after hx hy h0 h1=>exact .after (s _ hx) (s _ hy) h0 h1
theorem zh3 {x:Str}(h:za4 x=true):x.length<=12:=by
  unfold za4 at h
  simp only [Bool.and_eq_true,decide_eq_true_eq] at h
  exact h.1.2
theorem zrs:∀k∈zh2,k.length<=100:=by decide +kernel
theorem TieOk.words {us:List Str}{ws:List V}(h:TieOk us ws) (hu:∀x∈us,za4 x=true):(∀v∈ws,Wd v)/\ws.length<=5/\∃x r,ws = .str x::r:=by
  have nm:∀x∈us,Wd (.str x):=fun x hx=>.inl ⟨x,rfl,Nat.le_trans (zh3 (hu x hx)) (by decide)⟩
  cases h with
  | plain hk hx hy=>
    refine⟨fun v hv=>?_,by simp,_,_,rfl⟩
    simp only [List.mem_cons,List.not_mem_nil,or_false] at hv
    rcases hv with rfl | rfl | rfl
    · exact .inl ⟨_,rfl,zrs _ hk⟩
    · exact nm _ hx
    · exact nm _ hy
  | after hx hy h0 h1=>
    refine⟨fun v hv=>?_,by simp,_,_,rfl⟩
    simp only [List.mem_cons,List.not_mem_nil,or_false] at hv
    rcases hv with rfl | rfl | rfl | rfl
    · exact .inl ⟨_,rfl,by decide +kernel⟩
    · exact nm _ hx
    · exact nm _ hy
    · exact .inr ⟨_,rfl,h1⟩
abbrev Tups (H:Hp):List Addr->List (List V)->Prop:=Paired fun a ws=>H a=some (.tup ws)
theorem Tups.same {H H':Hp}(s:Same H H'):∀{as:List Addr}{wss:List (List V)},Tups H as wss->Tups H' as wss
  | _,_,.nil=>.nil
  | _,_,.cons h t=>.cons (s _ _ h) (Tups.same s t)
theorem Tups.get {H:Hp}:∀{as:List Addr}{wss:List (List V)}{a:Addr},Tups H as wss->a∈as->∃ws∈wss,H a=some (.tup ws)
  | _,_,_,.cons h t,ha=>by
    rcases List.mem_cons.mp ha with ha | ha
    · subst ha;exact⟨_,List.mem_cons_self ..,h⟩
    · obtain⟨ws,hw,e⟩:=Tups.get t ha
      exact⟨ws,List.mem_cons_of_mem _ hw,e⟩
theorem Tups.snoc {H:Hp}{a:Addr}{ws:List V}{as:List Addr}{wss:List (List V)}(t:Tups H as wss) (h:H a=some (.tup ws)):Tups H (as++[a]) (wss++[ws]):=Paired.snoc t h
theorem Tups.stay {H H':Hp}(s:∀b xs,H b=some (.tup xs)->H' b=some (.tup xs)):∀{as:List Addr}{wss:List (List V)},Tups H as wss->Tups H' as wss
  | _,_,.nil=>.nil
  | _,_,.cons h t=>.cons (s _ _ h) (Tups.stay s t)
theorem zax {H:Hp}{p:Addr}{xs ys:List V}(h:H p=some (.lst xs)):∀b zs,H b=some (.tup zs)->upd H p (.lst ys) b=some (.tup zs):=fun b zs e=>by
  rw[zn (zgk e h (by intro z;cases z))];exact e
theorem zws {x y:V}(hx:Wd x) (hy:Wd y):eqV x y=decide (x=y):=by
  rcases hx with ⟨a,rfl,_⟩ | ⟨a,rfl,_⟩<;>rcases hy with ⟨b,rfl,_⟩ | ⟨b,rfl,_⟩
  · show (a == b)=_
    by_cases h:a=b
    · subst h;simp
    · rw[decide_eq_false (fun z=>h (V.str.inj z))]
      exact beq_eq_false_iff_ne.mpr h
  · exact (decide_eq_false (fun z=>nomatch z)).symm
  · exact (decide_eq_false (fun z=>nomatch z)).symm
  · show (a == b)=_
    by_cases h:a=b
    · subst h;simp
    · rw[decide_eq_false (fun z=>h (V.int.inj z))]
      exact beq_eq_false_iff_ne.mpr h
theorem zs4 {xs ys:List V}(hx:∀v∈xs,Wd v) (hy:∀v∈ys,Wd v):eqL xs ys=decide (xs=ys):=by
  by_cases h:xs=ys
  · subst h
    rw[zrh fun x q=>(hx x q).flat,decide_eq_true rfl]
  · rw[decide_eq_false h]
    rw[←Bool.not_eq_true]
    intro q
    unfold eqL at q
    rw[Bool.and_eq_true] at q
    obtain⟨q1,q2⟩:=q
    have q2:xs.length=ys.length:=by simpa using q2
    apply h
    apply List.ext_getElem q2
    intro i h1 h2
    have:=List.all_eq_true.mp q1 i (List.mem_range.mpr (by omega))
    rw[List.getElem?_eq_getElem h1,List.getElem?_eq_getElem h2] at this
    have e:eqV xs[i] ys[i]=true:=this
    rw[zws (hx _ (List.getElem_mem h1)) (hy _ (List.getElem_mem h2))] at e
    exact of_decide_eq_true e
theorem Tups.at {H:Hp}:∀{as:List Addr}{wss:List (List V)}{i:Nat}{a:Addr},Tups H as wss->as[i]? = some a->∃ws,wss[i]? = some ws/\H a=some (.tup ws)
  | _,_,_,_,.nil,e=>by simp at e
  | _,_,0,_,.cons h _,e=>by simp at e;subst e;exact⟨_,rfl,h⟩
  | _,_,i+1,_,.cons _ t,e=>by
    obtain⟨ws,q,r⟩:=Tups.at (i:=i) t (by simpa using e)
    exact⟨ws,by simpa using q,r⟩
theorem Tups.len {H:Hp}{as:List Addr}{wss:List (List V)}(t:Tups H as wss):as.length=wss.length:=Paired.length t
theorem Tups.any {H:Hp}{as:List Addr}{wss:List (List V)}{ws:List V}(t:Tups H as wss):∀(e:V->Bool),(∀a vs,vs∈wss->H a=some (.tup vs)->e (.ref a)=decide (vs=ws))->(as.map V.ref).any e=decide (ws∈wss):=by
  intro e he
  induction t with
  | nil=>simp
  | @cons a vs as wss h t ih=>
    rw[List.map_cons,List.any_cons,he a vs (List.mem_cons_self ..) h,ih fun b us q r=>he b us (List.mem_cons_of_mem _ q) r]
    by_cases q:vs=ws
    · subst q;simp
    · rw[decide_eq_false q,Bool.false_or]
      have:ws∈vs::wss↔ws∈wss:=by
        rw[List.mem_cons]
        constructor
        · rintro (z | z)
          · exact absurd z.symm q
          · exact z
        · exact .inr
      exact decide_eq_decide.mpr this.symm
def tupE (H:Hp) (ws:List V):V->Bool
  | .ref a=>match H a with
    | some (.tup vs)=>decide (vs=ws)
    | _=>false
  | _=>false
theorem zh4 {H:Hp}{ws vs:List V}{a:Addr}(h:H a=some (.tup vs)):tupE H ws (.ref a)=decide (vs=ws):=by
  show (match H a with | some (.tup vs)=>decide (vs=ws) | _=>false)=_
  rw[h]
theorem Tups.anyE {H:Hp}{as:List Addr}{wss:List (List V)}{ws:List V}(t:Tups H as wss):(as.map V.ref).any (tupE H ws)=decide (ws∈wss):=t.any _ fun _ _ _ h=>zh4 h
theorem Tups.deq {K:PySem.W.Frag}{H:Hp}{n:Nat}{as:List Addr}{wss:List (List V)}{ws:List V}{p:Addr}(t:Tups H as wss) (hw:∀vs∈wss,∀v∈vs,Wd v) (hp:H p=some (.tup ws)) (hv:∀v∈ws,Wd v) :
    ∀z∈as.map V.ref,DEq K H (n+1) z (.ref p) (tupE H ws z):=by
  intro z hz
  obtain⟨a,ha,rfl⟩:=List.mem_map.mp hz
  obtain⟨vs,hvs,e⟩:=t.get ha
  rw[zh4 e,←zs4 (hw vs hvs) hv]
  exact DEq.flatT (SqT.of e) (SqT.of hp) (fun x q=>(hw vs hvs x q).flat) fun x q=>(hv x q).flat
def jc (s:List Nat):List (List Nat)->List Nat
  | []=>[]
  | [x]=>x
  | x::y::r=>x++s++jc s (y::r)
theorem zpc (s y:List Nat):∀(x:List Nat) (r:List (List Nat)),jc s (x::r++[y])=jc s (x::r)++s++y
  | x,[]=>rfl
  | x,z::r=>by
    show x++s++jc s (z::r++[y])=(x++s++jc s (z::r))++s++y
    rw[zpc s y z r]
    simp only [List.append_assoc]
theorem zs5 (s:List Nat):∀l:List (List Nat),(jc s l).length<=(l.map List.length).sum+l.length * s.length
  | []=>Nat.zero_le _
  | [x]=>by simp[jc]
  | x::y::r=>by
    have:=zs5 s (y::r)
    show (x++s++jc s (y::r)).length<=_
    rw[List.length_append,List.length_append,List.map_cons,List.sum_cons,List.length_cons,Nat.succ_mul]
    omega
theorem zdj (x y:Str):co (x++y)=co x++co y:=by
  show (x.cps++y.cps).toList=_
  simp
theorem zl7 (sep:Str):∀l:List Str,co (Txt.join sep l)=jc (co sep) (l.map co):=by
  have go:∀l:List Str,co (Str.join sep l)=jc (co sep) (l.map co):=by
    intro l
    induction l with
    | nil=>rfl
    | cons x r ih=>
      cases r with
      | nil=>rfl
      | cons y r=>
        show co (x++sep++Str.join sep (y::r))=co x++co sep++jc (co sep) ((y::r).map co)
        rw[zdj,zdj,ih]
  intro l
  cases l with
  | nil=>rfl
  | cons x r=>
    show co (Builtin.Str.glued sep (x::r))=_
    rw[StrLaws.glued_eq_join]
    exact go _
theorem zhh (sep:Str) (l:List Str):Txt.join sep l=zbo (jc (co sep) (l.map co)):=zc2 (by rw[zl7,zas])
theorem zh5:(Str.ofString " " : Str)=zbo [32]:=by decide +kernel
theorem zup:(Str.ofString "\n" : Str)=zbo [10]:=by decide +kernel
def zft (ws:List V):List Nat:=jc [32] (ws.map fun v=>co (za2 v))
def zba (ws:List V):Str:=zbo (zft ws)
theorem zh6 {v:V}(h:Wd v):(co (za2 v)).length<=100:=by
  rw[zb1]
  rcases h with ⟨x,rfl,hx⟩ | ⟨i,rfl,hi⟩
  · exact hx
  · exact Nat.le_trans (zfs i hi).2.2 (by decide)
theorem zpd {l:List (List Nat)}{k:Nat}(h:∀x∈l,x.length<=k):(l.map List.length).sum<=l.length * k:=by
  induction l with
  | nil=>simp
  | cons x r ih=>
    rw[List.map_cons,List.sum_cons,List.length_cons,Nat.succ_mul]
    have:=h x (List.mem_cons_self ..)
    have:=ih fun y hy=>h y (List.mem_cons_of_mem _ hy)
    omega
theorem zc6 {ws:List V}(h:∀v∈ws,Wd v) (hl:ws.length<=6):(zft ws).length<=606:=by
  have h1:=zs5 [32] (ws.map fun v=>co (za2 v))
  have h2:=zpd (l:=ws.map fun v=>co (za2 v)) (k:=100) fun x hx=>by
    obtain⟨v,hv,rfl⟩:=List.mem_map.mp hx
    exact zh6 (h v hv)
  rw[List.length_map] at h1 h2
  show (jc [32] _).length<=606
  have : [32].length=1:=rfl
  rw[this] at h1
  omega
theorem zm3 {v:V}{r:List V}{w:V}:zba (v::r++[w])=zba (v::r)++zbo [32]++za2 w:=by
  apply zc2
  rw[zdj,zdj,zas]
  unfold zba zft
  rw[zas,zas,List.map_append,List.map_cons,List.map_cons,List.map_nil]
  exact zpc _ _ _ _
theorem zpe {x:Str}:zba [.str x]=x:=zc2 (by unfold zba zft;rw[zas];rfl)
theorem zc7 (ws:List V):(zba ws).length=(zft ws).length:=zc5 _
theorem zm4 (ws:List V):Txt.join " " (ws.map za2)=zba ws:=by
  show Txt.join (Str.ofString " ") _=_
  rw[zhh,zh5,zas,List.map_map]
  rfl
def zjp (ls:List (List V)):Str:=zbo (jc [10] (ls.map zft))
theorem zhi (ls:List (List V)):Txt.join "\n" (ls.map zba)=zjp ls:=by
  show Txt.join (Str.ofString "\n") _=_
  rw[zhh,zup,zas,List.map_map]
  unfold zjp
  congr 2
def zbi (lo hi:Int) (us:List Str) (ts fs:List (List V)):List (List V):=[.str "dig",.int lo,.int hi]::(us.map (fun x=>[V.str "unit",V.str x])++ts++fs.map (V.str "find" :: ·))
structure TellOk (lo hi:Int) (us:List Str) (ts fs:List (List V)):Prop where
  lo:zan lo
  hi:zan hi
  u:us.length<=100/\∀x∈us,x.length<=100
  t:ts.length<=100/\∀ws∈ts,(∀v∈ws,Wd v)/\ws.length<=5/\∃x r,ws = .str x::r
  f:fs.length<=100/\∀ws∈fs,(∀v∈ws,Wd v)/\ws.length=4
theorem zhj {ls:List (List V)}(h:∀ws∈ls,(∀v∈ws,Wd v)/\ws.length<=6) (hl:ls.length<=400):((ls.map zba).map (·.length)).sum+(ls.map zba).length * (Str.ofString "\n" : Str).length<=16777216:=by
  have e:(Str.ofString "\n" : Str).length=1:=by decide +kernel
  rw[e,List.length_map]
  have h2:=zpd (l:=ls.map zft) (k:=606) fun x hx=>by
    obtain⟨v,hv,rfl⟩:=List.mem_map.mp hx
    exact zc6 (h v hv).1 (h v hv).2
  rw[List.length_map] at h2
  have e2:(ls.map zba).map (·.length)=(ls.map zft).map List.length:=by
    rw[List.map_map,List.map_map]
    apply List.map_congr_left
    intro x _
    exact zc7 x
  rw[e2]
  omega
theorem zm5 {ws:List V}(h:∀v∈ws,Wd v) (hl:ws.length<=6):((ws.map za2).map (·.length)).sum+(ws.map za2).length * (Str.ofString " " : Str).length<=16777216:=by
  have e:(Str.ofString " " : Str).length=1:=by decide +kernel
  rw[e,List.length_map]
  have h2:=zpd (l:=ws.map fun v=>co (za2 v)) (k:=100) fun x hx=>by
    obtain⟨v,hv,rfl⟩:=List.mem_map.mp hx
    exact zh6 (h v hv)
  rw[List.length_map] at h2
  have e2:(ws.map za2).map (·.length)=(ws.map fun v=>co (za2 v)).map List.length:=by
    rw[List.map_map,List.map_map]
    apply List.map_congr_left
    intro x _
    exact (zb1 _).symm
  rw[e2]
  omega
theorem TellOk.rows {lo hi:Int}{us:List Str}{ts fs:List (List V)}(h:TellOk lo hi us ts fs):∀ws∈zbi lo hi us ts fs,(∀v∈ws,Wd v)/\ws.length<=6:=by
  intro ws hw
  unfold zbi at hw
  rcases List.mem_cons.mp hw with rfl | hw
  · refine⟨fun v hv=>?_,by simp⟩
    simp only [List.mem_cons,List.not_mem_nil,or_false] at hv
    rcases hv with rfl | rfl | rfl
    · exact .inl ⟨_,rfl,by decide +kernel⟩
    · exact .inr ⟨_,rfl,h.lo⟩
    · exact .inr ⟨_,rfl,h.hi⟩
  · rcases List.mem_append.mp hw with hw | hw
    · rcases List.mem_append.mp hw with hw | hw
      · obtain⟨x,hx,rfl⟩:=List.mem_map.mp hw
        refine⟨fun v hv=>?_,by simp⟩
        simp only [List.mem_cons,List.not_mem_nil,or_false] at hv
        rcases hv with rfl | rfl
        · exact .inl ⟨_,rfl,by decide +kernel⟩
        · exact .inl ⟨_,rfl,h.u.2 x hx⟩
      · have:=h.t.2 ws hw
        exact⟨this.1,by omega⟩
    · obtain⟨f,hf,rfl⟩:=List.mem_map.mp hw
      have:=h.f.2 f hf
      refine⟨fun v hv=>?_,by simp;omega⟩
      rcases List.mem_cons.mp hv with rfl | hv
      · exact .inl ⟨_,rfl,by decide +kernel⟩
      · exact this.1 v hv
theorem TellOk.count {lo hi:Int}{us:List Str}{ts fs:List (List V)}(h:TellOk lo hi us ts fs):(zbi lo hi us ts fs).length<=400:=by
  unfold zbi
  simp only [List.length_cons,List.length_append,List.length_map]
  have:=h.u.1
  have:=h.t.1
  have:=h.f.1
  omega
def rowV (ws:List V):V:=.str (zba ws)
theorem zjq (x:Str):(Str.ofString "unit " : Str)++x=zba [.str "unit",.str x]:=by
  apply zc2
  rw[zdj]
  unfold zba zft
  rw[zas]
  show co (Str.ofString "unit ")++co x=co (Str.ofString "unit")++[32]++co x
  rw[show co (Str.ofString "unit ")=co (Str.ofString "unit")++[32] by decide +kernel]
def tupF (H:Hp) (g:List V->V):V->V
  | .ref a=>match H a with
    | some (.tup ws)=>g ws
    | _=>.non
  | _=>.non
theorem zea {H:Hp}{g:List V->V}{a:Addr}{ws:List V}(h:H a=some (.tup ws)):tupF H g (.ref a)=g ws:=by
  show (match H a with | some (.tup ws)=>g ws | _=>V.non)=_
  rw[h]
theorem Tups.mapF {H:Hp}{g:List V->V}:∀{as:List Addr}{wss:List (List V)},Tups H as wss->(as.map V.ref).map (tupF H g)=wss.map g
  | _,_,.nil=>rfl
  | _,_,.cons h t=>by rw[List.map_cons,List.map_cons,List.map_cons,zea h,Tups.mapF t]
theorem zs6 {lo hi:Int}(h1:zan lo) (h2:zan hi):∀v∈[V.str "dig",V.int lo,V.int hi],Wd v:=by
  intro v hv
  simp only [List.mem_cons,List.not_mem_nil,or_false] at hv
  rcases hv with rfl | rfl | rfl
  · exact .inl ⟨_,rfl,by decide +kernel⟩
  · exact .inr ⟨_,rfl,h1⟩
  · exact .inr ⟨_,rfl,h2⟩
theorem zs7 {lo hi:Int}(h1:zan lo) (h2:zan hi):∀v∈[V.int lo,V.int hi],Wd v:=fun v hv=>zs6 h1 h2 v (List.mem_cons_of_mem _ hv)
theorem zpf (ns:List Int) (lo hi:Option Int):∃cs:List Int,cutV (ns.map V.int) lo hi=cs.map V.int/\cs.length<=ns.length:=by
  refine⟨(ns.drop (HT.sIx (ns.map V.int).length 0 lo)).take (HT.sIx (ns.map V.int).length (ns.map V.int).length hi-HT.sIx (ns.map V.int).length 0 lo),?_,?_⟩
  · unfold cutV
    rw[List.map_take,List.map_drop]
  · rw[List.length_take,List.length_drop]
    omega
structure TellAt (K:PySem.W.Frag) (H:Hp) (pm pu pt pf:Addr) (lo hi:Int) (us:List Str) (ts fs:List (List V)) (at' af:List Addr):Prop where
  m:SqT K H pm [.int lo,.int hi]
  u:SqL K H pu (us.map V.str)
  t:SqL K H pt (at'.map V.ref)
  tt:Tups H at' ts
  f:SqL K H pf (af.map V.ref)
  ft:Tups H af fs
theorem zk4 {α:Type}{H:Hp}{g:α->List V}{ads:List Addr}{ps:List α}{i:Nat}{x:V}(t:Tups H ads (ps.map g)) (hx:(ads.map V.ref)[i]? = some x) :
    ∃q p,x = .ref q/\ps[i]? = some p/\ads[i]? = some q/\H q=some (.tup (g p)):=by
  rw[List.getElem?_map] at hx
  cases e:ads[i]? with
  | none=>rw[e] at hx;cases hx
  | some q=>
    rw[e] at hx
    cases hx
    obtain⟨ws,h1,h2⟩:=Paired.get' t e
    rw[List.getElem?_map] at h1
    cases e':ps[i]? with
    | none=>rw[e'] at h1;cases h1
    | some p=>
      rw[e'] at h1
      cases h1
      exact⟨q,p,rfl,rfl,rfl,h2⟩
theorem zwt {u v:V}{i:Int}(h0:0<=i) (h1:i<2):∃z,atI [u,v] i=some z/\(z=u\/z=v):=by
  have h:i=0\/i=1:=by omega
  rcases h with rfl | rfl
  · exact⟨u,rfl,.inl rfl⟩
  · exact⟨v,rfl,.inr rfl⟩
structure Tie where
  k:Str
  a:Str
  b:Str
  g:Option Int
def tieV (t:Tie):List V:=.str t.k :: .str t.a :: .str t.b::(match t.g with
  | some n=>[V.int n]
  | none=>[])
structure TOk (us:List Str) (t:Tie):Prop where
  ok:TieOk us (tieV t)
  a:t.a∈us
  b:t.b∈us
theorem zs8 (t:Tie):atI (tieV t) 1=some (.str t.a):=zcg (xs:=tieV t) (j:=1) rfl
theorem zs9 (t:Tie):atI (tieV t) 2=some (.str t.b):=zcg (xs:=tieV t) (j:=2) rfl
def dN (us:List Str) (lab:Str->Str):List (Key×V):=us.map fun x=>(Sum.inr x,V.str (lab x))
def dV (ks:List Str) (f:Str->V):List (Key×V):=ks.map fun x=>(Sum.inr x,f x)
structure Fnd where
  n:Str
  u:Str
  lo:Int
  hi:Int
def fndV (f:Fnd):List V:=[.str f.n,.str f.u,.int f.lo,.int f.hi]
structure FOk (us:List Str) (f:Fnd):Prop where
  n:za4 f.n=true
  u:f.u∈us
  le:f.lo<=f.hi
  lo:zan f.lo
  hi:zan f.hi
theorem TOk.mono {us us':List Str}{t:Tie}(h:TOk us t) (s:∀x∈us,x∈us'):TOk us' t:=⟨h.ok.mono s,s _ h.a,s _ h.b⟩
theorem FOk.mono {us us':List Str}{f:Fnd}(h:FOk us f) (s:∀x∈us,x∈us'):FOk us' f:=⟨h.n,s _ h.u,h.le,h.lo,h.hi⟩
theorem FOk.words {us:List Str}{f:Fnd}(h:FOk us f) (hu:∀x∈us,za4 x=true):∀v∈fndV f,Wd v:=by
  intro v hv
  simp[fndV] at hv
  rcases hv with rfl | rfl | rfl | rfl
  · exact .inl ⟨_,rfl,Nat.le_trans (zh3 h.n) (by decide)⟩
  · exact .inl ⟨_,rfl,Nat.le_trans (zh3 (hu _ h.u)) (by decide)⟩
  · exact .inr ⟨_,rfl,h.lo⟩
  · exact .inr ⟨_,rfl,h.hi⟩
theorem zdz {t u:Tie}(h:tieV t=tieV u):t=u:=by
  obtain⟨k,a,b,g⟩:=t
  obtain⟨k',a',b',g'⟩:=u
  unfold tieV at h
  simp only [List.cons.injEq,V.str.injEq] at h
  obtain⟨rfl,rfl,rfl,h⟩:=h
  cases g with
  | none=>
    cases g' with
    | none=>rfl
    | some n=>simp at h
  | some n=>
    cases g' with
    | none=>simp at h
    | some n'=>
      simp at h
      rw[h]
theorem zfu {c:Nat}:∀{a b p q:List Nat},c ∉ a->c ∉ b->a++c::p=b++c::q->a=b/\p=q
  | [],[],_,_,_,_,e=>⟨rfl,by simpa using e⟩
  | [],y::b,_,_,_,hb,e=>by
    have e1:c=y:=(List.cons.inj e).1
    exact absurd (by rw[e1];exact List.mem_cons_self ..) hb
  | x::a,[],_,_,ha,_,e=>by
    have e1:x=c:=(List.cons.inj e).1
    exact absurd (by rw[←e1];exact List.mem_cons_self ..) ha
  | x::a,y::b,p,q,ha,hb,e=>by
    obtain⟨e1,e2⟩:=List.cons.inj e
    obtain⟨r1,r2⟩:=zfu (fun z=>ha (List.mem_cons_of_mem _ z)) (fun z=>hb (List.mem_cons_of_mem _ z)) e2
    exact⟨by rw[e1,r1],r2⟩
theorem zta {c:Nat}:∀{l m:List (List Nat)},l≠[]->m≠[]->(∀x∈l,c ∉ x)->(∀x∈m,c ∉ x)->jc [c] l=jc [c] m->l=m
  | [],_,h,_,_,_,_=>absurd rfl h
  | _,[],_,h,_,_,_=>absurd rfl h
  | [x],[y],_,_,_,_,e=>by rw[show x=y from e]
  | [x],y::z::m,_,_,hl,_,e=>by
    have e:x=y++[c]++jc [c] (z::m):=e
    exact absurd (by rw[e];simp) (hl x (List.mem_cons_self ..))
  | x::w::l,[y],_,_,_,hm,e=>by
    have e:x++[c]++jc [c] (w::l)=y:=e
    exact absurd (by rw[←e];simp) (hm y (List.mem_cons_self ..))
  | x::w::l,y::z::m,_,_,hl,hm,e=>by
    have e:x++[c]++jc [c] (w::l)=y++[c]++jc [c] (z::m):=e
    rw[List.append_assoc,List.append_assoc] at e
    obtain⟨e1,e2⟩:=zfu (hl x (List.mem_cons_self ..)) (hm y (List.mem_cons_self ..)) e
    rw[e1,zta (List.cons_ne_nil _ _) (List.cons_ne_nil _ _) (fun u hu=>hl u (List.mem_cons_of_mem _ hu)) (fun u hu=>hm u (List.mem_cons_of_mem _ hu)) e2]
theorem zk5 {c:Nat}{ls:List (List Nat)}(h0:ls≠[]) (hf:∀x∈ls,c ∉ x):Txt.split (zbo (jc [c] ls)) ⟨#[c]⟩=ls.map zbo:=by
  have j:=StrLaws.join_split (zbo (jc [c] ls)) ⟨#[c]⟩
  have f:=StrLaws.split_free (zbo (jc [c] ls)) c
  have p:=PyProof.Rows.split_pos (zbo (jc [c] ls)) ⟨#[c]⟩
  generalize Txt.split (zbo (jc [c] ls)) ⟨#[c]⟩=ps at j f p
  have hne:ps≠[]:=by
    rintro rfl
    simp at p
  have e:jc [c] (ps.map co)=jc [c] ls:=by
    have:=congrArg co j
    rw[zas] at this
    rw[←this]
    cases ps with
    | nil=>exact absurd rfl hne
    | cons a r=>
      have:=zl7 ⟨#[c]⟩ (a::r)
      rw[show Txt.join ⟨#[c]⟩ (a::r)=Str.join ⟨#[c]⟩ (a::r) from StrLaws.glued_eq_join _ _] at this
      exact this.symm
  have e2:=zta (by simpa using hne) h0 (fun x hx=>by
    obtain⟨q,hq,rfl⟩:=List.mem_map.mp hx
    exact f q hq) hf e
  rw[←e2,List.map_map]
  refine (List.map_id' ps).symm.trans (List.map_congr_left fun x _=>?_)
  exact zc2 (by rw[Function.comp,zas])
theorem zpg:(Str.ofString " " : Str)=⟨#[32]⟩:=by decide +kernel
def zph (x:Str):List Str:=(Txt.split x " ").filter fun y=>!decide (y = "")
def zpi:List Str->Bool
  | []=>true
  | y::_=>Txt.startswith y ";"
theorem zk6:∀c∈co NAMES,c≠32/\c≠10/\c≠59:=by decide +kernel
theorem zbl {x:Str}(h:za4 x=true):(∀c∈co x,c≠32/\c≠10/\c≠59)/\co x≠[]:=by
  unfold za4 at h
  simp only [Bool.and_eq_true,decide_eq_true_eq] at h
  obtain⟨⟨h1,h2⟩,h3⟩:=h
  refine⟨fun c hc=>zk6 c (of_decide_eq_true (List.all_eq_true.mp h3 c hc)),fun z=>?_⟩
  rw[←zb1,z] at h1
  exact absurd h1 (by decide)
theorem zc8 (n:Int):(∀c∈co (Str.ofString (toString n)),c≠32/\c≠10/\c≠59)/\co (Str.ofString (toString n))≠[]:=by
  have d:∀m:Nat,∀c∈dg m,c≠32/\c≠10/\c≠59:=fun m c hc=>by
    have:=zo5 m c hc
    omega
  have e:∀m:Nat,dg m≠[]:=fun m z=>by
    have:=zo6 m
    rw[z] at this
    exact absurd this (by decide)
  cases n with
  | ofNat m=>
    have q:co (Str.ofString (toString (Int.ofNat m)))=dg m:=zhe m
    rw[q]
    exact⟨d m,e m⟩
  | negSucc m=>
    have q:co (Str.ofString (toString (Int.negSucc m)))=45::dg (m+1):=zhf m
    rw[q]
    refine⟨fun c hc=>?_,by simp⟩
    rcases List.mem_cons.mp hc with rfl | hc
    · decide
    · exact d _ c hc
def zl8:List Str:=["dig","unit","over","cuts","fills","after","same","find"]
theorem zjr:∀x∈zl8,(∀c∈co x,c≠32/\c≠10/\c≠59)/\co x≠[]:=by decide +kernel
inductive RowOk:List V->Prop where
  | dig {lo hi:Int}(hl:lo<=hi) (h1:zan lo) (h2:zan hi):RowOk [.str "dig",.int lo,.int hi]
  | unit {x:Str}(hx:za4 x=true):RowOk [.str "unit",.str x]
  | plain {kd x y:Str}(hk:kd∈zh2) (hx:za4 x=true) (hy:za4 y=true):RowOk [.str kd,.str x,.str y]
  | after {x y:Str}{n:Int}(hx:za4 x=true) (hy:za4 y=true) (h0:0<=n) (h1:zan n):RowOk [.str "after",.str x,.str y,.int n]
  | find {nm x:Str}{lo hi:Int}(hn:za4 nm=true) (hx:za4 x=true) (hl:lo<=hi) (h1:zan lo) (h2:zan hi):RowOk [.str "find",.str nm,.str x,.int lo,.int hi]
theorem zei:∀k∈zh2,k∈zl8:=by decide +kernel
theorem RowOk.signs {ws:List V}(h:RowOk ws):∀v∈ws,(∀c∈co (za2 v),c≠32/\c≠10/\c≠59)/\co (za2 v)≠[]:=by
  have F:∀x∈zl8,(∀c∈co (za2 (.str x)),c≠32/\c≠10/\c≠59)/\co (za2 (.str x))≠[]:=zjr
  cases h with
  | dig hl h1 h2=>
    intro v hv
    simp only [List.mem_cons,List.not_mem_nil,or_false] at hv
    rcases hv with rfl | rfl | rfl
    · exact F _ (by decide +kernel)
    · exact zc8 _
    · exact zc8 _
  | unit hx=>
    intro v hv
    simp only [List.mem_cons,List.not_mem_nil,or_false] at hv
    rcases hv with rfl | rfl
    · exact F _ (by decide +kernel)
    · exact zbl hx
  | plain hk hx hy=>
    intro v hv
    simp only [List.mem_cons,List.not_mem_nil,or_false] at hv
    rcases hv with rfl | rfl | rfl
    · exact F _ (zei _ hk)
    · exact zbl hx
    · exact zbl hy
  | after hx hy h0 h1=>
    intro v hv
    simp only [List.mem_cons,List.not_mem_nil,or_false] at hv
    rcases hv with rfl | rfl | rfl | rfl
    · exact F _ (by decide +kernel)
    · exact zbl hx
    · exact zbl hy
    · exact zc8 _
  | find hn hx hl h1 h2=>
    intro v hv
    simp only [List.mem_cons,List.not_mem_nil,or_false] at hv
    rcases hv with rfl | rfl | rfl | rfl | rfl
    · exact F _ (by decide +kernel)
    · exact zbl hn
    · exact zbl hx
    · exact zc8 _
    · exact zc8 _
theorem RowOk.ne {ws:List V}(h:RowOk ws):ws≠[]:=by cases h<;>simp
theorem TieOk.row {us:List Str}{ws:List V}(h:TieOk us ws) (hu:∀x∈us,za4 x=true):RowOk ws:=by
  cases h with
  | plain hk hx hy=>exact .plain hk (hu _ hx) (hu _ hy)
  | after hx hy h0 h1=>exact .after (hu _ hx) (hu _ hy) h0 h1
theorem zpj {α:Type}(xs:List α) (u v:α):atI (xs++[u,v]) (-2)=some u:=by
  have hl:(xs++[u,v]).length=xs.length+2:=by simp
  have e:ixN (xs++[u,v]).length (-2)=some xs.length:=by
    unfold ixN
    rw[hl,if_neg (by decide),if_pos (by omega)]
    congr 1
    omega
  unfold atI
  rw[e]
  simp
theorem zpk {α:Type}(xs:List α) (u v:α):atI (xs++[u,v]) (-1)=some v:=by
  have:=zhn (xs++[u]) v
  rwa [List.append_assoc] at this
def valF:V->V->V
  | .str kd,.str y=>if kd=(Str.ofString "name" : Str) then .str y else .int (numI y)
  | _,_=>.non
theorem ze4 (x:Str) (ks:List Str):inV (.str x) (ks.map V.str)=decide (x∈ks):=by
  unfold inV
  induction ks with
  | nil=>rfl
  | cons k r ih=>
    rw[List.map_cons,List.any_cons,ih]
    show ((k == x)||decide (x∈r))=_
    by_cases h:k=x
    · subst h;simp
    · rw[beq_eq_false_iff_ne.mpr h,Bool.false_or]
      exact decide_eq_decide.mpr ⟨fun z=>List.mem_cons_of_mem _ z,fun z=>(List.mem_cons.mp z).resolve_left fun e=>h e.symm⟩
def kW:V->Key
  | .str x=>.inr x
  | .int i=>.inl i
  | _=>.inl 0
theorem zxx {v:V}(h:Wd v):kV (kW v)=v:=by
  rcases h with ⟨x,rfl,_⟩ | ⟨i,rfl,_⟩<;>rfl
theorem zjs {ws:List V}(h:∀v∈ws,Wd v):(ws.map kW).map kV=ws:=by
  rw[List.map_map]
  refine (List.map_congr_left fun v hv=>?_).trans (List.map_id' ws)
  exact zxx (h v hv)
theorem zpl {ws vs:List V}(h1:∀v∈ws,Wd v) (h2:∀v∈vs,Wd v) (e:ws.map kW=vs.map kW):ws=vs:=by
  rw[←zjs h1,←zjs h2,e]
theorem zb6 {κ:Type} [DecidableEq κ] {kvs:List (κ×V)}{k:κ}(h:k ∉ kvs.map (·.1)):valV kvs k=none:=by
  unfold valV
  rw[Option.map_eq_none_iff,List.find?_eq_none]
  intro x hx e
  exact h (List.mem_map.mpr ⟨x,hx,by simpa using e⟩)
theorem zeb {κ:Type} [DecidableEq κ] {kvs:List (κ×V)}{k:κ}(h:k∈kvs.map (·.1)):(valV kvs k).isSome=true:=by
  rw[←ze3,List.any_eq_true]
  obtain⟨x,hx,e⟩:=List.mem_map.mp h
  exact⟨x,hx,decide_eq_true e⟩
theorem n_fu:¬(("frame" : Str) = "units"):=by decide +kernel
theorem n_ft:¬(("frame" : Str) = "ties"):=by decide +kernel
theorem n_fi:¬(("frame" : Str) = "finds"):=by decide +kernel
theorem n_ut:¬(("units" : Str) = "ties"):=by decide +kernel
theorem n_ui:¬(("units" : Str) = "finds"):=by decide +kernel
theorem n_ti:¬(("ties" : Str) = "finds"):=by decide +kernel
def rfl4 (fv:V) (du dt df:Addr):List (Str×V):=[("frame",fv),("units",.ref du),("ties",.ref dt),("finds",.ref df)]
theorem zpm (fv:V) (du dt df:Addr):putF "finds" (.ref df) (putF "ties" (.ref dt) (putF "units" (.ref du) (putF "frame" fv [])))=rfl4 fv du dt df:=by
  show putF "finds" (.ref df) (putF "ties" (.ref dt) (if ("frame" : Str) = "units" then _ else _))=_
  rw[if_neg n_fu]
  show putF "finds" (.ref df) (if ("frame" : Str) = "ties" then _ else (("frame" : Str),fv)::(if ("units" : Str) = "ties" then _ else _))=_
  rw[if_neg n_ft,if_neg n_ut]
  show (if ("frame" : Str) = "finds" then _ else (("frame" : Str),fv)::(if ("units" : Str) = "finds" then _ else (("units" : Str),V.ref du)::(if ("ties" : Str) = "finds" then _ else _)))=_
  rw[if_neg n_fi,if_neg n_ui,if_neg n_ti]
  rfl
theorem zrt {k x:Str}{v:V}{r:List (Str×V)}(h:k=x):List.lookup k ((x,v)::r)=some v:=by subst h;simp
theorem zgn {k x:Str}{v:V}{r:List (Str×V)}(h:¬k=x):List.lookup k ((x,v)::r)=List.lookup k r:=by
  rw[List.lookup_cons,beq_eq_false_iff_ne.mpr h]
theorem zwu (fv:V) (du dt df:Addr):(rfl4 fv du dt df).lookup ("frame" : Str)=some fv:=zrt rfl
theorem zjt (fv:V) (du dt df:Addr):(rfl4 fv du dt df).lookup ("units" : Str)=some (.ref du):=by
  unfold rfl4
  rw[zgn (fun z=>n_fu z.symm),zrt rfl]
theorem zhk (fv:V) (du dt df:Addr):(rfl4 fv du dt df).lookup ("ties" : Str)=some (.ref dt):=by
  unfold rfl4
  rw[zgn (fun z=>n_ft z.symm),zgn (fun z=>n_ut z.symm),zrt rfl]
theorem zej (fv:V) (du dt df:Addr):(rfl4 fv du dt df).lookup ("finds" : Str)=some (.ref df):=by
  unfold rfl4
  rw[zgn (fun z=>n_fi z.symm),zgn (fun z=>n_ui z.symm),zgn (fun z=>n_ti z.symm),zrt rfl]
theorem zch (fv:V) (du dt df:Addr) {m:Str}(h:m ∉ (["frame","units","ties","finds"]:List Str)):(rfl4 fv du dt df).lookup m=none:=by
  simp only [List.mem_cons,List.not_mem_nil,or_false,not_or] at h
  unfold rfl4
  rw[zgn h.1,zgn h.2.1,zgn h.2.2.1,zgn h.2.2.2];rfl
def dU (us:List Str):List (Key×V):=us.map fun x=>(Sum.inr x,V.bl true)
def dTi (ts:List (List V)):List (List Key×V):=ts.map fun ws=>(ws.map kW,V.bl true)
theorem dU_mem {us:List Str}{x:Str}:(Sum.inr x:Key)∈(dU us).map (·.1)↔x∈us:=by
  unfold dU
  rw[List.map_map]
  constructor
  · intro h
    obtain⟨y,hy,e⟩:=List.mem_map.mp h
    cases e;exact hy
  · intro h
    exact List.mem_map.mpr ⟨x,h,rfl⟩
theorem zuq {us:List Str}{x:Str}(h:x ∉ us):putK (dU us) (Sum.inr x:Key) (.bl true)=dU (us++[x]):=by
  rw[zhq _ (zb6 fun z=>h (dU_mem.mp z))]
  unfold dU
  rw[List.map_append];rfl
theorem zk7 {ts:List (List V)}{ws:List V}(h1:∀vs∈ts,∀v∈vs,Wd v) (h2:∀v∈ws,Wd v):ws.map kW∈(dTi ts).map (·.1)↔ws∈ts:=by
  unfold dTi
  rw[List.map_map]
  constructor
  · intro h
    obtain⟨y,hy,e⟩:=List.mem_map.mp h
    rw[←zpl (h1 y hy) h2 e];exact hy
  · intro h
    exact List.mem_map.mpr ⟨ws,h,rfl⟩
theorem zru {ts:List (List V)}{ws:List V}(h1:∀vs∈ts,∀v∈vs,Wd v) (h2:∀v∈ws,Wd v) (h:ws ∉ ts):putK (dTi ts) (ws.map kW) (.bl true)=dTi (ts++[ws]):=by
  rw[zhq _ (zb6 fun z=>h ((zk7 h1 h2).mp z))]
  unfold dTi
  rw[List.map_append];rfl
end Dm
namespace L2
open PySem PySem.Spec PyProof.Rows
theorem zm6 {o:Obj}{vs:Array Value}(h:o.data = .fields vs) (f:Array Value->Array Value):Obj.mapFields f o = { o with data:=.fields (f vs) }:=by
  obtain⟨c,d,dt,sl⟩:=o
  cases h
  rfl
structure Gone (fs:List Addr) (e T:Addr) (xs:List Addr) (oe:Obj) (vs:Array Value) (h h':Heap):Prop where
  keep:∀b o,b≠e->b ∉ fs->b ∉ xs->h.get? b=some o->h'.get? b=some o
  slot:∀b o,b∈fs->h.get? b=some o->∃sl,h'.get? b=some { o with slots:=sl }
  new:h.get? T=none
  exc:h'.get? e=some { oe with data:=.fields (vs.setIfInBounds 1 (.ref T)) }
  ent:∃oT ts,h'.get? T=some oT/\oT.data = .fields ts/\ts[3]? = some .none
section
variable {M:Model}{A:Around}{E:Value->Shared->Prop}{s:Shared}
theorem zpn {base:Heap}{env:Env}{outer:List Env}{L e:Addr}{oe:Obj}{vs:Array Value}{head:Value}{nx:Bool}{Q:Unit->Shared->Prop}
    (hfr:A.frames=some (env::outer)) (hl:s.heap.FunFrames base (env::outer)) (hf:env.frame=some L) (he:s.heap.get? e=some oe) (hd:oe.data = .fields vs) (hz:1<vs.size)
    (k:∀h',Gone (frs (env::outer)) e s.heap.objs.size [] oe vs s.heap h'->Q () { s with heap:=h' }) :
    wpAny M A (do let a ←frameOf env;let pl ←entryPlaceOf L nx;let b ←EntryCells.newEntry head a .none (rawInt L) .none pl;setField (.ref e) 1 b) (fun _ s'=>wpAny M A (setFlight (.ref e) none) Q E s') E s:=by
  have nf:∀b∈frs (env::outer),∃o,s.heap.get? b=some o/\∀us,o.data≠.fields us:=fun b hb=>(hl.mem hb).2
  have ne:e ∉ frs (env::outer):=fun hm=>by
    obtain⟨o,ho,hn⟩:=nf e hm
    rw[he] at ho
    cases ho
    exact hn vs hd
  refine wpAny_bind (wpAny_frameOf_fun hfr hl hf fun h1 s1=>?_)
  obtain⟨z1,k1,u1⟩:=s1
  refine wpAny_bind (wpAny_entryPlaceOf fun pl hpl=>?_)
  unfold EntryCells.newEntry newFields
  refine wpAny_bind (wpAny_newObj_type ?_ (hpl.sizeOk5 _ _ _ _ _))
  have e1:h1.get? e=some oe:=(k1 e ne).trans he
  generalize hN:({ cls:=.type "traceback",dict:=none,data:=.fields ([head,.ref L,.none,rawInt L,.none]++(if pl.isEmpty then List.replicate 6 Value.none else pl)).toArray }:Obj)=N
  have dN:N.data = .fields ([head,.ref L,.none,rawInt L,.none]++(if pl.isEmpty then List.replicate 6 Value.none else pl)).toArray:=by rw[←hN]
  generalize hts:([head,.ref L,.none,rawInt L,.none]++(if pl.isEmpty then List.replicate 6 Value.none else pl)).toArray=ts at dN
  have zt:3<ts.size:=by rw[←hts];simp
  have fN:N.isFreed=false:=Obj.isFreed_of_fields dN
  have e2:=Heap.get?_push_of_some (h:=h1) N e1
  refine wpAny_setField e2 hd hz ?_
  have Te:h1.objs.size≠e:=Nat.ne_of_gt (Heap.lt_size e1)
  have e3:=Heap.get?_update_self (Obj.mapFields (·.setIfInBounds 1 (Value.ref h1.objs.size))) e2 (Obj.isFreed_of_fields (Obj.data_mapFields hd _))
  rw[zm6 hd] at e3
  have t3:=(Heap.get?_update_other (h1.push N) (Obj.mapFields (·.setIfInBounds 1 (Value.ref h1.objs.size))) (Ne.symm Te)).trans (Heap.get?_push_size h1 fN)
  unfold setFlight
  refine wpAny_bind (wpAny_field e3 rfl (x:=.ref h1.objs.size) (by simp[hz]) ?_)
  rw[if_pos (show (Value.ref h1.objs.size != Value.none)=true from by simp)]
  refine wpAny_setField t3 dN zt (k _ ?_)
  have t4:=Heap.get?_update_self (Obj.mapFields (·.setIfInBounds 3 ((none:Option Addr).elim Value.none fun f=>rawInt f))) t3 (Obj.isFreed_of_fields (Obj.data_mapFields dN _))
  have oth:∀b o,b≠e->h1.get? b=some o->(((h1.push N).update e (Obj.mapFields (·.setIfInBounds 1 (Value.ref h1.objs.size)))).update h1.objs.size (Obj.mapFields (·.setIfInBounds 3 ((none:Option Addr).elim Value.none fun f=>rawInt f)))).get? b=some o:=fun b o hb q=>by
    rw[Heap.get?_update_other _ _ (Nat.ne_of_gt (Heap.lt_size q)),Heap.get?_update_other _ _ (Ne.symm hb)]
    exact Heap.get?_push_of_some _ q
  refine⟨fun b o hb hn _ q=>oth b o hb ((k1 b hn).trans q),fun b o hb q=>?_,Heap.get?_none_of_le (Nat.le_refl _),?_,?_⟩
  · obtain⟨sl,q1⟩:=u1 b o q
    exact⟨sl,oth b _ (fun z=>ne (z▸hb)) q1⟩
  · rw[Heap.get?_update_other _ _ Te,e3,z1]
  · rw[←z1]
    exact⟨_,_,t4,Obj.data_mapFields dN _,by simp[zt]⟩
end
def Fly (H:Hp) (h0 h:Heap) (e:Addr) (cls:Value) (dc:Option Addr):Prop:=
  ∃(oe:Obj) (vs:Array Value) (T:Addr) (oT:Obj) (ts:Array Value),h.get? e=some oe/\oe.cls=cls/\oe.dict=dc/\oe.data = .fields vs/\vs[1]? = some (.ref T)/\T≠e/\h.get? T=some oT/\oT.data = .fields ts/\ts[3]? = some .none/\
    H e=none/\H T=none/\h0.objs.size<=e/\h0.objs.size<=T
def CX1 (P:Program) (w:World):CXT:=fun outer H s E u s'=>∃(e:Addr) (cls:Value) (dc:Option Addr) (H':Hp),u = .ref e/\s'.os=s.os/\AllBare s'.gens/\Un (frs outer) [] H H' s.heap s'.heap/\HOk P w H' s'.heap/\
  Fly H' s.heap s'.heap e cls dc/\E cls dc H'
def HasX (P:Program) (w:World) (K:PySem.W.Frag) (mg:Str->Option Value) (base:Heap) (x:Str) (ps:List Str) (k:Nat) (sp:Sp):Prop:=
  ∃(f:Addr) (fd:FuncData),mg x=some (.ref f)/\PySem.W.keepIn K (.ref f)=true/\(∃oc od osl,K.lookup f=some ⟨oc,od,.func fd,osl⟩)/\(∀us:List Value,us.length=ps.length->bindArgs fd ⟨us,[]⟩=pure (ps.zip us))/\FnOk P w K mg base (CX1 P w) k f fd ps sp
def del (H:Hp) (e:Addr):Hp:=fun b=>if b=e then none else H b
section
variable {M:Model}{A:Around}{E:Value->Shared->Prop}{s:Shared}
theorem zpo {base:Heap}{env:Env}{outer:List Env}{L e T:Addr}{oe oT:Obj}{vs ts:Array Value}{Q:Unit->Shared->Prop}
    (hfr:A.frames=some (env::outer)) (hl:s.heap.FunFrames base (env::outer)) (hf:env.frame=some L) (he:s.heap.get? e=some oe) (hd:oe.data = .fields vs) (h1:vs[1]? = some (.ref T))
    (hT:s.heap.get? T=some oT) (dT:oT.data = .fields ts) (h3:ts[3]? = some .none) (ne:T≠e)
    (k:∀h',Gone (frs (env::outer)) e s.heap.objs.size [T] oe vs s.heap h'->Q () { s with heap:=h' }) :
    wpAny M A (noteFrame (.ref e) env) (fun _ s'=>wpAny M A (setFlight (.ref e) none) Q E s') E s:=by
  unfold noteFrame
  simp only [hf]
  refine wpAny_bind (wpAny_field he hd h1 ?_)
  rw[if_pos (show (Value.ref T != Value.none)=true from by simp)]
  refine wpAny_bind (wpAny_field hT dT h3 ?_)
  rw[if_neg (show ¬((Value.none == rawInt L)=true) from by simp[rawInt])]
  have z3:=(Array.getElem?_eq_some_iff.mp h3).1
  refine wpAny_bind (wpAny_setField hT dT z3 ?_)
  have oth:∀b,b≠T->(s.heap.update T (Obj.mapFields (·.setIfInBounds 3 Value.none))).get? b=s.heap.get? b:=fun b hb=>Heap.get?_update_other _ _ (Ne.symm hb)
  have self:=Heap.get?_update_self (Obj.mapFields (·.setIfInBounds 3 Value.none)) hT (Obj.isFreed_of_fields (Obj.data_mapFields dT _))
  have nf:T ∉ frs (env::outer):=fun hm=>by
    obtain⟨_,o,ho,hn⟩:=hl.mem hm
    rw[hT] at ho
    cases ho
    exact hn ts dT
  have sz:(s.heap.update T (Obj.mapFields (·.setIfInBounds 3 Value.none))).objs.size=s.heap.objs.size:=Heap.size_after_update ..
  refine zpn (s:={ s with heap:=s.heap.update T (Obj.mapFields (·.setIfInBounds 3 Value.none)) }) hfr (hl.of_keeps fun b o hb hn=>⟨o,(oth b fun z=>?_).trans hb,rfl⟩) hf ((oth e ne.symm).trans he) hd (Array.getElem?_eq_some_iff.mp h1).1 fun h' G=>?_
  · subst z
    rw[hT] at hb
    cases hb
    exact hn ts dT
  · have e1:(s.heap.update T (Obj.mapFields (·.setIfInBounds 3 Value.none))).objs.size=s.heap.objs.size:=sz
    have G:=G
    dsimp only at G
    rw[e1] at G
    refine k h' ⟨fun b o hb hn hx q=>G.keep b o hb hn (by simp) ((oth b fun z=>hx (by simp[z])).trans q),fun b o hb q=>G.slot b o hb ((oth b fun z=>nf (z▸hb)).trans q),Heap.get?_none_of_le (Nat.le_refl _),G.exc,G.ent⟩
end
def Met (X:Cx) (pins:List (Addr×Obj)) (H:Hp) (h:Heap) (e:Addr) (cls:Value) (dc:Option Addr):Prop:=
  ∃(oe:Obj) (vs:Array Value) (T:Addr) (oT:Obj) (ts:Array Value),h.get? e=some oe/\oe.cls=cls/\oe.dict=dc/\oe.data = .fields vs/\vs[1]? = some (.ref T)/\T≠e/\h.get? T=some oT/\oT.data = .fields ts/\ts[3]? = some .none/\FpOk X pins H e/\FpOk X pins H T
section
variable {X:Cx}{pins:List (Addr×Obj)}{σ:St}{H:Hp}{s:Shared}{E:XK}
theorem zur {Q:Unit->Shared->Prop}{E':Value->Shared->Prop}{u:Value}{s':Shared}(I:Inv X pins σ H s) (x2:X.stack=X.env::X.outer) (x3:X.env.frame=some X.env.locals) (h:CX1 X.prog X.w X.stack H s E u s')
    (k:∀e cls dc H' h',u = .ref e->Inv X pins σ H' { s' with heap:=h' }->Met X pins H' h' e cls dc->E cls dc H'->Q () { s' with heap:=h' }) :
    wpAny (model X.prog X.w) X.A (noteFrame u X.env) (fun _ s1=>wpAny (model X.prog X.w) X.A (setFlight u none) Q E' s1) E' s':=by
  obtain⟨e,cls,dc,H',rfl,os,bare,un,hok,fl,hE⟩:=h
  have I':=I.call' os un hok bare (ch:=[]) (fun b z=>absurd z (by simp))
  obtain⟨oe,vs,T,oT,ts,he,hc,hdc,hd,h1,hTe,hT,dT,h3,He,HT,ne,nT⟩:=fl
  have fr:=I'.ok.frames
  have st:=I'.stack
  rw[x2] at fr st
  refine zpo fr st x3 he hd h1 hT dT h3 hTe fun h' G=>?_
  have F1:FpOk X pins H' e:=I.fpOk ne He
  have F2:FpOk X pins H' T:=I.fpOk nT HT
  have sf:∀b∈frs (X.env::X.outer),H' b=none:=by
    have:=I'.stkFree
    rw[x2] at this
    exact this
  have U:Un (frs X.stack) [e,T] H' H' s'.heap h':=by
    rw[x2]
    refine⟨fun b o q n nf nx=>G.keep b o (fun z=>nx (by simp[z])) nf (fun z=>nx (by rw[List.mem_singleton.mp z];simp)) q,fun b o q n hb nx=>G.slot b o hb q,fun b o q n _=>n,fun b o q nx=>?_,fun _ _ z=>z,fun _ _ _ z=>z,fun _ ps z=>⟨#[],by rw[Array.append_empty];exact z⟩⟩
    by_cases hb:b∈frs (X.env::X.outer)
    · obtain⟨sl,z⟩:=G.slot b o hb q
      exact⟨_,z⟩
    · exact⟨o,G.keep b o (fun z=>nx (by simp[z])) hb (fun z=>nx (by rw[List.mem_singleton.mp z];simp)) q⟩
  have hok':HOk X.prog X.w H' h':=fun a o q=>by
    refine (hok a o q).stay (fun b u hb z=>?_) (fun _ z=>z) fun _ _ z=>z
    have Hb:H' b≠none:=by
      rcases hb with z | z
      · rw[z,q];simp
      · rw[z];simp
    exact G.keep b u (fun z=>Hb (z▸He)) (fun z=>Hb (sf b z)) (fun z=>Hb (by rw[List.mem_singleton.mp z];exact HT)) z
  have I2:Inv X pins σ H' { s' with heap:=h' }:=I'.call' (s':={ s' with heap:=h' }) (ch:=[e,T]) rfl U hok' I'.bare fun b hb=>by
    have F:FpOk X pins H' b:=by
      rcases List.mem_cons.mp hb with z | z
      · rw[z];exact F1
      · rw[List.mem_singleton.mp z];exact F2
    exact⟨F.2.2.2.1,F.2.1,F.2.2.2.2.1,F.2.2.2.2.2⟩
  obtain⟨oT',ts',t1,t2,t3⟩:=G.ent
  have hTn:s'.heap.objs.size≠e:=Nat.ne_of_gt (Heap.lt_size he)
  exact k e cls dc H' h' rfl I2 ⟨_,_,s'.heap.objs.size,oT',ts',G.exc,hc,hdc,rfl,by simp[(Array.getElem?_eq_some_iff.mp h1).1],hTn,t1,t2,t3,F1,I'.fpOk (Nat.le_refl _) (hok.fresh (Nat.le_refl _))⟩ hE
end
structure XCatch (K:PySem.W.Frag) (D:Addr):Prop where
  nt:PySem.W.instIn K (.ref D) (.type "tuple")=some false
  ty:PySem.W.isClsIn K D=true
  ex:PySem.W.mroIn K D (.type "BaseException")=some true
section
variable {M:Model}{A:Around}{E:Value->Shared->Prop}{s:Shared}{K:PySem.W.Frag}{e C D:Addr}{oe:Obj}{b:Bool}
theorem zrv {Q:Bool->Shared->Prop}(X:K.In s.heap) (he:s.heap.get? e=some oe) (hc:oe.cls = .ref C) (cd:XCatch K D) (hs:PySem.W.mroIn K C (.ref D)=some b) (h:Q b s):wpAny M A (excMatches (.ref e) (.ref D)) Q E s:=by
  have L1:=PySem.W.looks_instIn (M:=M) X cd.nt
  have L3:=PySem.W.looks_mroIn (M:=M) X cd.ex
  have L4:=PySem.W.looks_mroIn (M:=M) X hs
  have L5:PySem.W.Looks M s.heap (typeOf (.ref e)) (.ref C):=hc▸(PySem.W.Looks.ld he).andThen .now
  unfold excMatches
  refine wpAny_bind (L1.here ?_)
  dsimp only
  rw[if_neg (by decide)]
  refine wpAny_bind (wpAny_pure ?_)
  simp only [List.forIn_cons,List.forIn_nil]
  have L6:PySem.W.Looks M s.heap (isExcClass (.ref D)) true:=by
    unfold isExcClass
    refine PySem.W.Looks.andThen (a:=true) ?_ ?_
    · obtain⟨c,hc⟩:=Option.isSome_iff_exists.mp cd.ty
      unfold PySem.W.clsIn at hc
      split at hc
      · rename_i hk
        exact (PySem.W.Looks.ld (part:=_) (X _ _ hk)).andThen .now
      · cases hc
    · exact L3
  refine wpAny_bind (wpAny_bind (wpAny_bind (L6.here ?_)))
  rw[if_neg (by decide)]
  refine wpAny_pure (wpAny_pure (wpAny_bind (L5.here (wpAny_bind (wpAny_bind (wpAny_bind (L4.here ?_)))))))
  cases b with
  | true=>rw[if_pos rfl];exact wpAny_pure (wpAny_pure (wpAny_pure h))
  | false=>rw[if_neg (by decide)];exact wpAny_pure (wpAny_pure (wpAny_pure h))
end
def Cx.inTry (X:Cx) (pn:List (Addr×Obj)) (xe:Value->Shared->Prop):Cx:={ X with pn:=pn,xe:=xe }
def Cx.inSuite (X:Cx) (v:Value) (xe:Value->Shared->Prop):Cx:={ X with A:=X.A.mark (some v),calm:=false,xe:=xe }
structure XFn (X:Cx):Prop where
  st:X.stack=X.env::X.outer
  fr:X.env.frame=some X.env.locals
  ex:X.ex = []
def zwv (X:Cx) (Es:St->XK):Prop:=∀(pins:List (Addr×Obj)) (σ:St) (H:Hp) (s:Shared) (u:Value) (s':Shared),Inv X pins σ H s->CX1 X.prog X.w X.stack H s (Es σ) u s'->X.xe u s'
abbrev TH:=Ends->St->Addr->Option Addr->Hp->Prop
def PH (X:Cx) (hs:List ExceptHandler) (th:TH):Prop:=
  ∀(pins:List (Addr×Obj)) (s:Shared) (σ:St) (H:Hp) (D:Ends) (e C:Addr) (dc:Option Addr),Inv X pins σ H s->Met X pins H s.heap e (.ref C) dc->th D σ C dc H->wpAny (model X.prog X.w) X.A (handleBy (.ref e) X.env hs) (SP X pins D) X.xe s
def zxy:TH:=fun _ _ _ _ _=>False
def thNo (K:PySem.W.Frag) (Dc:Addr) (ts:TS) (thr:TH):TH:=fun D σ C dc H=>∃b,PySem.W.mroIn K C (.ref Dc)=some b/\
  if b=true then ts D σ H else thr D σ C dc H
def sTry (tb:(St->XK)->TS) (th:TH):TS:=fun D σ H=>tb (fun σ' cls dc H'=>∃C,cls = .ref C/\th D σ' C dc H') D σ H
def zww (sp:Sp) (dvs:List V) (Es:St->XK) (t:TA):TE:=fun σ H Q=>t σ H fun vs H1=>sp (vs++dvs) H1 Q (Es σ)
section
variable {X:Cx}{pins:List (Addr×Obj)}{σ:St}{H:Hp}{s:Shared}
theorem zju {v:Value}{xe:Value->Shared->Prop}(I:Inv X pins σ H s):Inv (X.inSuite v xe) pins σ H s:=
  ⟨⟨I.ok.mod,I.ok.kind,I.ok.glob,I.ok.blt,I.ok.above,I.ok.inj,I.ok.has,I.ok.cab,(fun z=>absurd z Bool.false_ne_true),I.ok.frames,I.ok.stk,I.ok.exf,I.ok.bs,I.ok.bsz,I.ok.noex,I.ok.exfs,I.ok.funs,I.ok.frf⟩,
    I.os,I.bare,I.base,I.loc,I.cell,I.free,I.freeC,I.pin,I.hok,I.len⟩
theorem zcq {v:Value}{xe:Value->Shared->Prop}(ok:X.Ok) (I:Inv (X.inSuite v xe) pins σ H s):Inv X pins σ H s:=⟨ok,I.os,I.bare,I.base,I.loc,I.cell,I.free,I.freeC,I.pin,I.hok,I.len⟩
theorem zus {xe:Value->Shared->Prop}(I:Inv X pins σ H s):Inv (X.inTry (X.pn++pins) xe) [] σ H s:=
  ⟨⟨I.ok.mod,I.ok.kind,I.ok.glob,I.ok.blt,I.ok.above,I.ok.inj,I.ok.has,I.ok.cab,I.ok.hd,I.ok.frames,I.ok.stk,I.ok.exf,I.ok.bs,I.ok.bsz,I.ok.noex,I.ok.exfs,I.ok.funs,I.ok.frf⟩,
    I.os,I.bare,I.base,I.loc,I.cell,I.free,I.freeC,fun p hp=>I.pin p ((List.mem_append.mp hp).elim id fun z=>absurd z (by simp)),I.hok,I.len⟩
theorem zc9 {pins':List (Addr×Obj)}{xe:Value->Shared->Prop}(ok:X.Ok) (I:Inv (X.inTry (X.pn++pins) xe) pins' σ H s):Inv X pins σ H s:=
  ⟨ok,I.os,I.bare,I.base,I.loc,I.cell,I.free,I.freeC,fun p hp=>I.pin p (List.mem_append_left _ hp),I.hok,I.len⟩
end
section
variable {X:Cx}{CX:CXT}{k i:Nat}{f Dc:Addr}{ps:List Str}{sp:Sp}{x n:Str}{p pos hpos:Pos}{e:Expr}{es:List Expr}{t:TA}{Es:St->XK}{b₀:Stmt}{suite body:List Stmt}{h₀:ExceptHandler}{rest hs:List ExceptHandler}{ts:TS}{thr th:TH}{tb:(St->XK)->TS}
theorem zwx (F:HasX X.prog X.w X.K X.mg X.base x ps k sp) (xe:zwv X Es) (hr:Room k X.A) (hg:Gl X x) (ha:PA X (e::es) t) (hdb:(x == ("__debug__" : Str))=false:=by decide)
    (he:starEach (e::es) X.env=(false,eval e X.env)::starEach es X.env:=by rfl) (hpl:(backTo pos (starEach es X.env)).any (·.1)=false:=by rfl):PE X (.Call (.Name x p) (e::es) [] pos) (zww sp [] Es t):=by
  obtain⟨f,fd,a,kp,_,b,G⟩:=F
  intro pins s σ H Q I h
  refine wpAny_Call_Name_kw (zcn I hg a ?_ hdb)
  refine PySem.W.callWith_K (h₀:=X.base) I.ok.mod.kin kp (thn (ha pos pins s σ H _ I h) fun us s1 ⟨vs,H1,I1,r,q⟩=>⟨I1.kIn,?_⟩) he hpl
  have r2:Vals (vs++[]) (us++[]):=r.append .nil
  have hl:(us++[]).length=ps.length:=by rw[←r2.length];exact G.len _ _ _ _ q
  refine wpAny_call (codeAny_mono (G.run X.A X.stack s1 H1 ⟨us,[]⟩ (us++[]) (vs++[]) Q (Es σ) hr I1.env0 ((Binds.all b) s1 us I1.kIn hl) r2 q) fun r s' hq=>?_)
  cases r with
  | error e=>exact xe pins σ H1 s1 e s' I1 hq
  | ok fl=>
    cases fl with
    | ret u=>exact I1.after hq
    | next=>exact False.elim hq
    | brk=>exact False.elim hq
    | cont=>exact False.elim hq
theorem zwy (x:XFn X) (hb:∀pn xe (Es:St->XK),zwv (X.inTry pn xe) Es->PSs (X.inTry pn xe) body (tb Es)) (hh:PH X (h₀::hs) th):PS X (.Try body (h₀::hs) [] [] pos) (sTry tb th):=by
  intro pins s σ H D I h
  refine wpAny_Try_except ?_
  refine wpAny_mono (hb (X.pn++pins) (fun e s₁=>wpAny (model X.prog X.w) X.A (noteFrame e X.env) (fun _ s₂=>wpAny (model X.prog X.w) X.A (setFlight e none) (fun _ s₃=>wpAny (model X.prog X.w) X.A (handleBy e X.env (h₀::hs)) (SP X pins D) X.xe s₃) X.xe s₂) X.xe s₁)
    (fun σ' cls dc H'=>∃C,cls = .ref C/\th D σ' C dc H') (fun pins' σ' H' s' u s'' I' hcx=>?_) [] s σ H D (zus I) h) (fun fl s1 q=>?_) fun _ _ z=>z
  · refine zur (zc9 I.ok I') x.st x.fr hcx fun e cls dc H2 h' hu I2 met hE=>?_
    subst hu
    obtain⟨C,rfl,hth⟩:=hE
    exact hh pins _ σ' H2 D e C dc I2 met hth
  · cases fl with
    | next=>
      obtain⟨σ',H',J,q⟩:=q
      exact wpAny_execs_nil ⟨σ',H',zc9 I.ok J,q⟩
    | brk=>
      obtain⟨σ',H',J,q⟩:=q
      exact⟨σ',H',zc9 I.ok J,q⟩
    | cont=>
      obtain⟨σ',H',J,q⟩:=q
      exact⟨σ',H',zc9 I.ok J,q⟩
    | ret u=>
      obtain⟨v,σ',H',J,r,q⟩:=q
      exact⟨v,σ',H',zc9 I.ok J,r,q⟩
theorem zwz:PH X [] zxy:=fun _ _ _ _ _ _ _ _ _ _ h=>h.elim
theorem zxz (xf:XFn X) (hg:Gl X x) (hm:X.mg x=some (.ref Dc)) (cd:XCatch X.K Dc)
    (hsu:∀v xe,PSs (X.inSuite v xe) (b₀::suite) ts) (hr:PH X rest thr) (hdb:(x == ("__debug__" : Str))=false:=by decide) :
    PH X (.ExceptHandler (some (.Name x p)) none (b₀::suite) hpos::rest) (thNo X.K Dc ts thr):=by
  intro pins s σ H D e C dc I met h
  obtain⟨oe,vs,T,oT,tvs,he,hc,hdc,hd,h1,hTe,hT,dT,h3,F1,F2⟩:=met
  obtain⟨b,hb,h⟩:=h
  refine wpAny_handleBy_cons (codeAny_handlers_test (zcn (X:=X.inSuite (.ref e) X.xe) (zju I) hg hm ?_ hdb)) (by intro q;cases q)
  refine zrv (K:=X.K) I.kIn he hc cd hb ?_
  cases b with
  | false=>
    rw[if_neg (by decide)] at h
    exact hr pins s σ H D e C dc I ⟨oe,vs,T,oT,tvs,he,hc,hdc,hd,h1,hTe,hT,dT,h3,F1,F2⟩ h
  | true=>
    rw[if_pos rfl] at h
    refine codeAny_handlers_suite ?_
    refine wpAny_setFlight_none he hd h1 hT dT (Array.getElem?_eq_some_iff.mp h3).1 ?_
    have oth:∀b,b≠T->(s.heap.update T (Obj.mapFields (·.setIfInBounds 3 .none))).get? b=s.heap.get? b:=fun b hb=>Heap.get?_update_other _ _ (Ne.symm hb)
    have I1:Inv X pins σ H { s with heap:=s.heap.update T (Obj.mapFields (·.setIfInBounds 3 .none)) }:=I.turnedL (t':=s.toks) (ch:=[T]) (fun b o hb q=>by rw[oth b (fun z=>hb (by simp[z]))];exact q) fun b hb=>by rw[List.mem_singleton.mp hb];exact F2
    refine thn (hsu (.ref e) _ pins _ _ _ D (zju I1) h) fun fl s3 q=>?_
    cases fl with
    | next=>
      obtain⟨σ',H',J,q⟩:=q
      exact⟨_,H',zcq I.ok J,q⟩
    | brk=>
      obtain⟨σ',H',J,q⟩:=q
      exact⟨_,H',zcq I.ok J,q⟩
    | cont=>
      obtain⟨σ',H',J,q⟩:=q
      exact⟨_,H',zcq I.ok J,q⟩
    | ret u=>
      obtain⟨v,σ',H',J,r,q⟩:=q
      exact⟨v,_,H',zcq I.ok J,r,q⟩
end
end L2
namespace L2
end L2
namespace L2
open PySem
end L2
namespace L2
open PySem PySem.Spec PyProof.Rows
end L2
namespace L2
open PySem
end L2
namespace L2
open PySem PySem.Spec PyProof.Rows
end L2
namespace HT
open PySem PySem.Spec PyProof.Rows PySem.Calls
section
variable {prog:Program}{w:World}{A:Around}{E:Value->Shared->Prop}{s:Shared}
theorem getItem_tuple_all {t sl:Addr}{items:Array Value}{vl vu:Value}{lo hi:Option Int}{Q:Value->Shared->Prop}(ht:IsTup s.heap t items) (hs:s.heap.IsSliceOf sl vl vu .none) (pl:IsPart vl lo) (pu:IsPart vu hi)
    (hw:sIx items.size 0 lo=0/\sIx items.size items.size hi=items.size) (h:Q (.ref t) s):wpAny (model prog w) A (getItem (.ref t) (.ref sl)) Q E s:=by
  obtain⟨os,hos,hcs,hds⟩:=id hs
  have hTs:s.TypeIs (.ref sl) "slice":=⟨os,hos,hcs⟩
  unfold getItem
  try with_reducible refine wpAny_holding ?_
  first | refine wpAny_bind (wpAny_pure ?_) | skip
  refine wpAny_bind (wpAny_sequenceKey ht.typeIs (by decide) ?_)
  refine wpAny_bind (wpAny_callSpecial?_slot (name:=Str.ofString "__getitem__") ht.typeIs PyProof.Rows.slot_tuple_getitem
    (wpAny_call_entry PyProof.Rows.slot_tuple_getitem ht.typeIs entry_tuple_getitem ?_ (args_tuple_getitem _ _)))
  show wpAny _ _ (Builtin.Tuple.tupleItemsOf (.ref t) >>= _) _ _ s
  refine wpAny_bind (tupleItemsOf_ ht ?_)
  refine wpAny_bind (wpAny_typeOf hTs ?_)
  rw[if_pos (by decide)]
  refine wpAny_bind (zct hs pl pu ?_)
  have hyes:(((sIx items.size 0 lo:Nat):Int) == 0&&(1:Int) == 1&&(sIx items.size items.size hi-sIx items.size 0 lo) == items.size)=true:=by
    rw[hw.1,hw.2]
    simp
  show wpAny _ _ (if (((sIx items.size 0 lo:Nat):Int) == 0&&(1:Int) == 1&&(sIx items.size items.size hi-sIx items.size 0 lo) == items.size)=true then _ else _) _ _ s
  rw[if_pos hyes]
  refine wpAny_bind (m:=Builtin.Tuple.tupleIsExact (.ref t)) (wpAny_bind (wpAny_typeOf ht.typeIs (wpAny_pure ?_)))
  rw[if_pos (by decide)]
  refine wpAny_bind (wpAny_rule ?_)
  first
    | exact wpAny_pure ⟨_,rfl,wpAny_pure h⟩
    | exact wpAny_bind (wpAny_pure (wpAny_pure ⟨_,rfl,wpAny_pure h⟩))
end
end HT
namespace L2
open PySem PySem.Spec PyProof.Rows
section
variable {X:Cx}
def rSlW (K:PySem.W.Frag):V->Option Int->Option Int->Hp->VK->Prop:=fun x lo hi H Q=>∃a xs,x = .ref a/\SqT K H a xs/\
  ((HT.sIx xs.length 0 lo=0/\HT.sIx xs.length xs.length hi=xs.length)->Q (.ref a) H)/\
  (¬(HT.sIx xs.length 0 lo=0/\HT.sIx xs.length xs.length hi=xs.length)->∀p,H p=none->Q (.ref p) (upd H p (.tup (cutV xs lo hi))))
theorem zut {K:PySem.W.Frag}(hK:X.K=K):SlR X (rSlW K):=by
  subst hK
  intro pins s σ H x v vl vu lo hi sl Q I rx hs pl pu h
  obtain⟨a,xs,rfl,hx,q1,q2⟩:=h
  by_cases hw:HT.sIx xs.length 0 lo=0/\HT.sIx xs.length xs.length hi=xs.length
  · cases rx
    obtain⟨its,r,ht,hz⟩:=I.tuple hx
    have hlen:its.toArray.size=xs.length:=by rw[List.size_toArray];exact r.length.symm
    refine⟨"tuple",_,PyProof.Rows.slot_tuple_getitem.lookup,ht.typeIs,?_⟩
    exact HT.getItem_tuple_all ht hs pl pu (by rw[hlen];exact hw) ⟨.ref a,H,I,rfl,q1 hw⟩
  · exact zsu pins s σ H _ v vl vu lo hi sl Q I rx hs pl pu ⟨a,xs,rfl,hx,hw,q2 hw⟩
end
def dd (val:Nat->Str):Nat->List Str
  | 0=>[]
  | i+1=>if val i∈dd val i then dd val i else dd val i++[val i]
theorem zpp {c:TT}{t u:TS}{D:Ends}{σ:St}{H:Hp}(P:St->Prop) (b:Bool) (ht:∀Q':Bool->Hp->Prop,Q' b H->c σ H Q') (h1:b=true->∃σ1,P σ1/\(D.nx σ1 H->t D σ H)) (h2:b=false->∃σ2,P σ2/\(D.nx σ2 H->u D σ H))
    (hn:∀σ',P σ'->D.nx σ' H):tIfS c t u D σ H:=by
  refine zwn b ht ?_
  cases b with
  | true=>
    obtain⟨σ1,p,h⟩:=h1 rfl
    exact iteT (h (hn _ p))
  | false=>
    obtain⟨σ2,p,h⟩:=h2 rfl
    exact iteF (h (hn _ p))
section
variable {X:Cx}{tg:Expr}
theorem Inv.frozen {pins:List (Addr×Obj)}{σ:St}{H:Hp}{s:Shared}{a:Addr}{kvs:List (Key×V)}(I:Inv X pins σ H s) (h:H a=some (.dK kvs)):∃ob,Inv X pins σ (upd H a (.frz ob (.dK kvs))) s:=by
  obtain⟨o,e⟩:∃o,s.heap.get? a=some o:=by
    obtain⟨_,_,_,_,o,_,_,e,_⟩:=I.hok a _ h
    exact⟨o,e⟩
  have ok:=I.hok a _ h
  refine⟨o,I.write (e:=a) (h':=s.heap) (t':=s.toks) (by rw[h];trivial) (.inl rfl) (fun b u _ q=>q) ⟨o,e⟩ ⟨e,?_⟩⟩
  obtain⟨z,hd,vs,r⟩:=ok
  exact⟨z,hd,vs,r⟩
end
def Itv (a:Addr) (ob:Obj) (kvs:List (Key×V)):It:=
  ⟨fun i H=>H a=some (.frz ob (.dK kvs))/\i<kvs.length,fun i H x H'=>H'=H/\∃kv,kvs[i]? = some kv/\x=kv.2,fun i H=>H a=some (.frz ob (.dK kvs))/\kvs.length<=i⟩
theorem zpq {P:Program}{w:World}{K:PySem.W.Frag}{tg:Expr}(a it:Addr) {ob:Obj}{kvs:List (Key×V)}{es:Array DictEntry}{ep:Nat}(hd:ob.data = .dict es ep):Turn P w K tg (Itv a ob kvs) [it] it (fun i h=>h.IsValIter it a i kvs.length ep) where
  mem:=by simp
  obj:=fun i h st b hb=>by
    have e:b=it:=by simpa using hb
    subst e
    obtain⟨o,e,c,d⟩:=st
    exact⟨o,e,fun v z=>by rw[d] at z;cases z⟩
  keep:=fun i h h' st k=>st.at fun o e=>k it (by simp) o e
  item:=by
    intro X hP hw hK hc i pins s σ H E I hf st hg
    subst hP hw hK
    obtain⟨hq,hx⟩:=hg
    obtain⟨e0,z,hs,vs,rel,o,es',ep',e,ex,dt,kk,pr,nd⟩:=I.hok a _ hq
    rw[e0] at e
    cases e
    rw[hd] at dt
    cases dt
    have l1:kvs.length=vs.length:=Paired.length rel
    obtain⟨f0,f1,f2,f3,f4,f5⟩:=hf it (by simp)
    have ek:kvs[i]? = some kvs[i]:=List.getElem?_eq_getElem hx
    obtain⟨w',hw,rw'⟩:=Paired.get' rel ek
    rw[l1] at st
    refine wpAny_pyNext_values_item (k:=w'.1) (v:=w'.2) st (show s.heap.DictAt (za3 X.prog X.w) a vs ep from ⟨ob,es,e0,ex,hd,kk,pr,nd⟩) (by rw[hw]) fun h' st' sb=>?_
    have I1:Inv X pins σ H { s with heap:=h' }:=I.turned (t':=s.toks) (fun b o hb e=>(sb.2 b hb).trans e) f0 f1 f3 f4 f5
    obtain⟨oi,ei,ci,di⟩:=id st'
    exact⟨_,rfl,zmn (s:={ s with heap:=h' }) ei ci di (by decide) ⟨kvs[i].2,H,I1,rw'.2,⟨rfl,_,ek,rfl⟩,(by show h'.IsValIter it a (i+1) kvs.length ep;rw[l1];exact st'),fun b hb=>(hf b hb).1⟩⟩
  done:=by
    intro X hP hw hK hc i pins s σ H E I hf st hg
    subst hP hw hK
    obtain⟨hq,hx⟩:=hg
    obtain⟨e0,z,hs,vs,rel,o,es',ep',e,ex,dt,kk,pr,nd⟩:=I.hok a _ hq
    rw[e0] at e
    cases e
    rw[hd] at dt
    cases dt
    have l1:kvs.length=vs.length:=Paired.length rel
    obtain⟨f0,f1,f2,f3,f4,f5⟩:=hf it (by simp)
    rw[l1] at st
    exact wpAny_pyNext_values_end (I.ok.hd hc) st (show s.heap.DictAt (za3 X.prog X.w) a vs ep from ⟨ob,es,e0,ex,hd,kk,pr,nd⟩) (List.getElem?_eq_none (by omega)) fun h' eb=>⟨rfl,I.turned (t':=s.toks) (fun b o hb e=>eb b o hb e) f0 f1 f3 f4 f5⟩
  self:=fun _ _ _ _ _ st h=>wpAny_pyIter_valiter st h
section
variable {X:Cx}{tg:Expr}
def zx0 (tl:TE):TI:=fun σ H R=>tl σ H fun x H1=>∃p a kvs,x = .ref p/\H1 p=some (vwO p a)/\H1 a=some (.dK kvs)/\∀ob,R (Itv a ob kvs) (upd H1 a (.frz ob (.dK kvs)))
theorem zuu {l:Expr}{tl:TE}(hl:PE X l tl):PI X tg l (zx0 tl):=by
  intro pins s σ H R I h
  refine thn (hl pins s σ H _ I h) fun v s1 hq0=>?_
  obtain⟨x,H1,I1,r1,q1⟩:=hq0
  obtain⟨p,a,kvs,e,hv,hq,q⟩:=q1
  subst e
  cases r1
  have npa:p≠a:=fun z=>by rw[z,hq] at hv;cases hv
  obtain⟨ob,I2⟩:=I1.frozen hq
  have q:=q ob
  have hq2:upd H1 a (.frz ob (.dK kvs)) a=some (.frz ob (.dK kvs)):=zb
  have hv2:upd H1 a (.frz ob (.dK kvs)) p=some (vwO p a):=by rw[zn npa];exact hv
  generalize upd H1 a (.frz ob (.dK kvs))=H2 at q I2 hq2 hv2
  obtain⟨e0,z,hs,vs,rel,o,es,ep,e,ex,dt,kk,pr,nd⟩:=I2.hok a _ hq2
  rw[e0] at e
  cases e
  obtain⟨hvw,_,_⟩:=I2.hok p _ hv2
  have l1:kvs.length=vs.length:=Paired.length rel
  refine wpAny_pyIter_values hvw (show s1.heap.DictAt (za3 X.prog X.w) a vs ep from ⟨ob,es,e0,ex,dt,kk,pr,nd⟩) ?_
  refine⟨s1.heap.objs.size,[s1.heap.objs.size],_,_,H2,rfl,I2.kept (t':=s1.toks) fun b o e=>Heap.get?_push_of_some _ e,zpq a _ dt,(by rw[l1];exact⟨_,Heap.get?_push_size _ rfl,rfl,rfl⟩),fun b hb=>?_,q⟩
  have e:b=s1.heap.objs.size:=by simpa using hb
  subst e
  exact I2.fpOk (Nat.le_refl _) (I2.hok.fresh (Nat.le_refl _))
theorem zrw {a:Addr}{ob:Obj}{kvs:List (Key×V)}:Fix (Itv a ob kvs) (kvs.map fun kv=>kv.2) (fun H=>H a=some (.frz ob (.dK kvs))):=
  ⟨fun i H h hi=>⟨h,by simpa using hi⟩,fun i H x H' h y=>⟨y.1,fun _=>by obtain⟨kv,h1,h2⟩:=y.2;rw[List.getElem?_map,h1,h2];rfl⟩,fun i H h hi=>⟨h,by simpa using hi⟩⟩
end
abbrev IS:=Int×Str
end L2
namespace L2
open PySem PySem.W PyProof.Rows
end L2
namespace L2
open PySem PySem.Spec PyProof.Rows
section
variable {X:Cx}
theorem zjv (K:PySem.W.Frag) (hK:X.K=K) (hc:X.calm=true):zco X (.builtin "any") (fun xs H Q=>∃(a:Addr) (bs:List Bool),xs = [V.ref a]/\SqL K H a (bs.map V.bl)/\Q (.bl (bs.any id)) H):=by
  subst hK
  intro pins s σ H xs us Q I r h
  obtain⟨a,bs,rfl,ha,q⟩:=h
  obtain⟨u,rfl,ru⟩:=zdg r
  cases ru
  obtain⟨its,rv,pl,hz⟩:=I.list ha
  have e:its=bs.map Value.bool:=zdo rv
  subst e
  have hl:=pl.isList
  have hlt:a<s.heap.objs.size:=by obtain⟨_,e,_⟩:=hl;exact Heap.lt_size e
  refine call_any_walk (wpAny_pyIter_list hl ?_)
  refine⟨s.heap.objs.size,[s.heap.objs.size,a],[s.heap.objs.size],(bs.map Value.bool).toArray.size,_,_,fun i=>(bs[i]?).getD false,rfl,Walks.list (A:=X.A.in1) (I.ok.hd hc) _ a (Nat.ne_of_lt hlt) (bs.map Value.bool).toArray,
    ⟨⟨_,Heap.get?_push_size _ rfl,rfl,rfl⟩,hl.push _⟩,fun i v s' Q' E' hP hQ=>?_,fun h' tk hk=>?_⟩
  · have hP':(bs.map Value.bool)[i]? = some v:=by simpa using hP
    rw[List.getElem?_map] at hP'
    cases e:bs[i]? with
    | none=>rw[e] at hP';cases hP'
    | some b=>
      rw[e] at hP'
      cases hP'
      simp only [e,Option.getD_some] at hQ
      exact wpAny_truthy_bool hQ
  · have e:((List.range (bs.map Value.bool).toArray.size).any fun i=>(bs[i]?).getD false)=bs.any id:=by
      rw[Bool.eq_iff_iff,List.any_eq_true,List.any_eq_true]
      have z:(bs.map Value.bool).toArray.size=bs.length:=by simp
      rw[z]
      constructor
      · rintro ⟨i,hi,h⟩
        have hi:=List.mem_range.mp hi
        rw[List.getElem?_eq_getElem hi] at h
        exact⟨bs[i],List.getElem_mem hi,h⟩
      · rintro ⟨b,hb,h⟩
        obtain⟨i,hi,rfl⟩:=List.mem_iff_getElem.mp hb
        refine⟨i,List.mem_range.mpr hi,?_⟩
        rw[List.getElem?_eq_getElem hi]
        exact h
    rw[e]
    refine⟨.bl (bs.any id),H,I.kept fun b o q'=>?_,rfl,q⟩
    have hb:=Heap.lt_size q'
    exact hk b o (fun z=>absurd (List.mem_singleton.mp z) (Nat.ne_of_lt hb)) (Heap.get?_push_of_some _ q')
end
open Sem (wp)
namespace Rv
end Rv
section
variable {P:Program}{w:World}{K:PySem.W.Frag}{mg:Str->Option Value}{base:Heap}
theorem Has.x {x:Str}{ps:List Str}{k:Nat}{sp:Sp}(F:Has P w K mg base x ps k sp):HasX P w K mg base x ps k sp:=by
  obtain⟨f,fd,a,kp,lk,b,F⟩:=F
  refine⟨f,fd,a,kp,lk,b,F.len,fun A outer s H args us vs Q E hr he hb hv hs=>?_⟩
  refine codeAny_mono (F.run A outer s H args us vs Q E hr he hb hv hs) fun r s' hq=>?_
  cases r with
  | ok fl=>
    cases fl with
    | ret u=>exact hq
    | next=>exact False.elim hq
    | brk=>exact False.elim hq
    | cont=>exact False.elim hq
  | error e=>exact False.elim hq
end
section
variable {X:Cx}
theorem zrx {ys:List Str}(nd:ys.Nodup) {i j:Nat}{z:Str}(h1:ys[i]? = some z) (h2:ys[j]? = some z):i=j:=by
  obtain⟨a,ea⟩:=List.getElem?_eq_some_iff.mp h1
  obtain⟨b,eb⟩:=List.getElem?_eq_some_iff.mp h2
  have pw:=List.pairwise_iff_getElem.mp nd
  rcases Nat.lt_trichotomy i j with c | c | c
  · exact absurd (ea.trans eb.symm) (pw i j a b c)
  · exact c
  · exact absurd (eb.trans ea.symm) (pw j i b a c)
end
end L2
theorem Dm63.erase_map {α β:Type}(f:α->β):∀(l:List α) (i:Nat),(l.map f).eraseIdx i=(l.eraseIdx i).map f
  | [],_=>by simp
  | x::r,0=>by simp
  | x::r,i+1=>by
    rw[List.map_cons,List.eraseIdx_cons_succ,List.eraseIdx_cons_succ,List.map_cons,Dm63.erase_map f r i]
namespace PySem
open Sem (wp)
section
variable {prog:Program}{w:World}{K:Type} [DecidableEq K] (knd:HeapKind prog w K) (d a:Addr)
theorem erase_is {α:Type}{xs:List (K×α)}{k:K}:∀{j:Nat}{p:α},(xs.map (·.1)).Nodup->xs[j]? = some (k,p)->xs.eraseIdx j=xs.filter fun x=>decide (x.1≠k):=by
  induction xs with
  | nil=>intro j p _ h;simp at h
  | cons x r ih=>
    intro j p hn h
    rw[List.map_cons,List.nodup_cons] at hn
    cases j with
    | zero=>
      have e:x=(k,p):=by simpa using h
      subst e
      rw[List.eraseIdx_cons_zero,List.filter_cons_of_neg (by simp)]
      refine (List.filter_eq_self.mpr fun y hy=>?_).symm
      refine decide_eq_true fun z=>hn.1 ?_
      exact List.mem_map.mpr ⟨y,hy,z⟩
    | succ j=>
      rw[List.getElem?_cons_succ] at h
      rw[List.eraseIdx_cons_succ,ih hn.2 h,List.filter_cons_of_pos]
      refine decide_eq_true fun z=>hn.1 ?_
      rw[z]
      exact List.mem_map.mpr ⟨(k,p),List.mem_of_getElem? h,rfl⟩
theorem zfv :
    MeetsIn prog w (Builtin.«dict.pop» ⟨[.ref d,.ref a],[]⟩) (fun A R s=>knd.room A.in1/\∃(k:K) (xs:List (K×Addr×Value)) (j:Nat) (p:Addr×Value),knd.is s.heap k a/\s.heap.DictOfH knd d xs/\xs.length<=sizeLine/\xs[j]? = some (k,p)/\
      ∀h',h'.DictOfH knd d (xs.filter fun x=>decide (x.1≠k))->Heap.SameBut d s.heap h'->R (.ok (.ret p.2)) { s with heap:=h',toks:=s.toks+knd.draws k }):=
  .of_wp fun A R s ⟨hu,k,xs,j,p,hkey,hm,hsz,hj,h⟩=>by
    have ty:=hm.typeIs
    obtain⟨o,es,ep,ho,hc,hd,he,his,hn⟩:=hm
    have hes:=size_of_entries he
    have hjl:j<xs.length:=(List.getElem?_eq_some_iff.mp hj).1
    unfold Builtin.«dict.pop»
    refine wpAny_bind ?_
    unfold Builtin.Dict.keyAndDefault
    refine wpAny_bind (wpAny_notOrdered_dict ty ?_)
    show wpAny _ _ (pure (d,Value.ref a,none)) _ _ s
    refine wpAny_pure ?_
    have hne:es.isEmpty=false:=by
      rw[Array.isEmpty_eq_false_iff]
      intro z
      rw[z] at hes
      simp at hes
      omega
    have hk:(keyPart (Value.ref a)).isSome=false:=rfl
    simp only [hk,Bool.false_eq_true,if_false]
    refine wpAny_bind (wpAny_dictEntries ho hd ?_)
    refine wpAny_bind (wpAny_pure ?_)
    simp only [hne,Bool.false_eq_true,if_false]
    refine wpAny_bind ?_
    unfold Builtin.Dict.takeOut
    refine wpAny_holding ?_
    refine wpAny_bind (knd.pyHash hu hkey (wpAny_bind (wpAny_dictFind_heap (s:={ s with toks:=s.toks+knd.draws k }) hu hkey ho hd he his hn (fun z=>absurd hj (z j p)) fun j' p' hj'=>?_)))
    have ej:j'=j:=by
      obtain⟨l1,e1⟩:=List.getElem?_eq_some_iff.mp hj
      obtain⟨l2,e2⟩:=List.getElem?_eq_some_iff.mp hj'
      have m1:(xs.map (·.1))[j]? = some k:=by rw[List.getElem?_map,hj];rfl
      have m2:(xs.map (·.1))[j']? = some k:=by rw[List.getElem?_map,hj'];rfl
      have pw:=List.pairwise_iff_getElem.mp hn
      obtain⟨a1,b1⟩:=List.getElem?_eq_some_iff.mp m1
      obtain⟨a2,b2⟩:=List.getElem?_eq_some_iff.mp m2
      rcases Nat.lt_trichotomy j' j with c | c | c
      · exact absurd (b2.trans b1.symm) (pw j' j a2 a1 c)
      · exact c
      · exact absurd (b1.trans b2.symm) (pw j j' a1 a2 c)
    subst ej
    rw[hj] at hj'
    cases hj'
    refine wpAny_bind (wpAny_dictEntries (s:={ s with toks:=s.toks+knd.draws k }) ho hd ?_)
    rw[entry_at he j',hj]
    refine wpAny_bind (wpAny_updateDictKeys (hz:=by omega) (s:={ s with toks:=s.toks+knd.draws k }) ho hd (wpAny_pure ?_))
    simp only [Option.map_some,Option.isNone_some,Bool.false_eq_true,if_false]
    refine wpAny_bind (wpAny_letGo (wpAny_pure ⟨_,rfl,h _ ⟨_,_,ep+1,Heap.get?_update_self _ ho (Obj.isFreed_of_dict (Obj.data_mapDictKeys hd _)),hc.mapDictKeys _,Obj.data_mapDictKeys hd _,?_,?_,?_⟩ (Heap.SameBut.update ..)⟩))
    · rw[←erase_is hn hj,←Dm63.erase_map,←he]
      obtain⟨l⟩:=es
      simp
    · intro x hx
      exact knd.keeps (his x ((List.mem_filter.mp hx).1)) ho hd (Heap.SameBut.update ..)
    · exact hn.sublist (List.filter_sublist.map _)
end
end PySem
namespace L2
open PySem PySem.Spec PyProof.Rows
section
variable {X:Cx}
theorem KT.drop {H:Hp}{kvs:List (List Key×V)}{xs:List (List Key×Addr×Value)}(r:KT H kvs xs) (k:List Key):KT H (zdt kvs k) (xs.filter fun x=>decide (x.1≠k)):=by
  unfold zdt
  induction r with
  | nil=>exact .nil
  | @cons p q ps qs h t ih=>
    obtain⟨h1,h2,h3⟩:=h
    by_cases c:p.1=k
    · rw[List.filter_cons_of_neg (by simpa using c),List.filter_cons_of_neg (by rw[←h1];simpa using c)]
      exact ih
    · rw[List.filter_cons_of_pos (by simpa using c),List.filter_cons_of_pos (by rw[←h1];simpa using c)]
      exact .cons ⟨h1,h2,h3⟩ ih
theorem KT.find {H:Hp}{kvs:List (List Key×V)}{xs:List (List Key×Addr×Value)}(r:KT H kvs xs) {k:List Key}{v:V}(l:valV kvs k=some v):∃(j:Nat) (p:Addr×Value),xs[j]? = some (k,p)/\RelV v p.2:=by
  induction r with
  | nil=>cases l
  | @cons p q ps qs h t ih=>
    obtain⟨h1,h2,h3⟩:=h
    by_cases c:p.1=k
    · rw[zdu c] at l
      cases l
      refine⟨0,q.2,?_,h3⟩
      rw[List.getElem?_cons_zero,←c,h1]
    · rw[zdv c] at l
      obtain⟨j,p',e,r'⟩:=ih l
      exact⟨j+1,p',by rw[List.getElem?_cons_succ];exact e,r'⟩
theorem zw0 {pins:List (Addr×Obj)}{s:Shared}{σ:St}{H:Hp}{a b:Addr}{kvs:List (List Key×V)}{k:List Key}{v:V}{A:Around}{E:Value->Shared->Prop}{Q:Value->Shared->Prop}(hu:A.units+1<cLine) (I:Inv X pins σ H s) (e:H a=some (.dT kvs)) (eb:H b=some (.tup (k.map kV))) (l:valV kvs k=some v)
    (h:∀w' s',Inv X pins σ (upd H a (.dT (zdt kvs k))) s'->RelV v w'->Q w' s'):wpAny (model X.prog X.w) A (call (.builtin "dict.pop") [.ref a,.ref b]) Q E s:=by
  obtain⟨z,hd,xs,rel,dd⟩:=zwd I.hok e
  have hz:xs.length<=sizeLine:=by rw[←Paired.length rel];exact z
  obtain⟨j,p,hj,rp⟩:=KT.find rel l
  refine call_meetsIn PySem.F.slot_dict_pop dd.typeIs PySem.F.entry_dict_pop (PySem.F.args_dict_pop_2 _ _) (zfv (tupleKind (za3 X.prog X.w)) a b)
    ⟨tupleKind_room_in1 hu,k,xs,j,p,zg8 I.hok eb,dd,hz,hj,fun h' dd' hs=>h p.2 _ ?_ rp⟩
  obtain⟨q,es,ep,hq,h2,h3,h4,_,h5⟩:=dd'
  refine zfi I (by rw[e];exact True.intro) hs ⟨q,hq⟩ ⟨Nat.le_trans (zhr kvs k) z,hd,_,(KT.drop rel k).keeps fun c ys ec=>?_,q,es,ep,hq,h2,h3,h4,h5⟩
  rw[zn (zgk ec e (fun z=>nomatch z))]
  exact ec
def zw1 (td ty:TE):TE:=fun σ H Q=>td σ H fun x H1=>∃a,x = .ref a/\IsD H1 a/\ty σ H1 fun y H2=>∃kvs k b v,H2 a=some (.dT kvs)/\y = .ref b/\H2 b=some (.tup (k.map kV))/\valV kvs k=some v/\Q v (upd H2 a (.dT (zdt kvs k)))
theorem zry {o e:Expr}{apos cpos:Pos}{td ty:TE}(hu:X.A.units+1<cLine) (ho:PE X o td) (he:PE X e ty) (m:M1 X o "pop" apos e cpos):PE X (.Call (.Attribute o "pop" apos) [e] [] cpos) (zw1 td ty):=by
  intro pins s σ H Q I h
  refine wpAny_Call_method m.base m.few m.line PySem.F.plainAttrs_dict PySem.F.slot_dict_pop PySem.F.type_dict_pop (thn (ho pins s σ H _ I h) fun u s1 hq0=>?_)
  obtain⟨x,H1,I1,rx,a,ex,d,q1⟩:=hq0
  subst ex
  obtain rfl:u=Value.ref a:=rx
  obtain⟨t1,t2,_⟩:=zsz I1 d
  refine⟨t1,t2,?_⟩
  rw[m.trees]
  refine Calls.callWith_builtin rfl (Calls.evalArgs_plain (Calls.spliced_cons (thn (he pins s1 σ H1 _ I1 q1) fun iv s2 ⟨y,H2,I2,ry,kvs,k,b,v,ea,ey,eb,l,q2⟩=>Calls.spliced_nil ?_)))
  subst ey
  cases (show iv=Value.ref b from ry)
  exact zw0 hu I2 ea eb l fun w' s3 I3 rw'=>⟨v,_,I3,rw',q2⟩
theorem zpr:MtM X "list.remove" (fun x vs H Q=>∃(l:Addr) (ys:List Str) (z:Str) (j:Nat),x = .ref l/\vs = [.str z]/\H l=some (.lst (ys.map V.str))/\ys[j]? = some z/\ys.Nodup/\Q .non (upd H l (.lst ((ys.eraseIdx j).map V.str)))):=by
  intro pins s σ H x vs v us Q I rx rv h
  obtain⟨l,ys,z,j,rfl,rfl,hH,hj,nd,q⟩:=h
  cases rx
  obtain⟨u,rfl,ru⟩:=zdg rv
  obtain⟨t,rfl⟩:=ru
  obtain⟨hz,its,n,r,hl,e⟩:=I.lstM hH
  have fl:(ys.map V.str).all zcw=true:=by rw[List.all_map];exact List.all_eq_true.mpr fun _ _=>rfl
  rw[List.length_map] at hl hz
  obtain⟨jl,ej⟩:=List.getElem?_eq_some_iff.mp hj
  have val:∀m (hm:m<its.length),∃y t',ys[m]? = some y/\its[m]=Value.str y t':=fun m hm=>by
    have h1:(ys.map V.str)[m]? = some (.str (ys[m]'(by omega))):=by rw[List.getElem?_map,List.getElem?_eq_getElem (by omega)];rfl
    obtain⟨w,hw,rw'⟩:=r.get h1
    obtain⟨_,ew⟩:=List.getElem?_eq_some_iff.mp hw
    obtain⟨t',rfl⟩:=rw'
    exact⟨_,t',List.getElem?_eq_getElem (by omega),ew⟩
  have key:∀a:Str,(a.cps.toList == z.cps.toList)=decide (a=z):=fun a=>by
    by_cases c:a=z
    · subst c;simp
    · rw[decide_eq_false c]
      refine Bool.eq_false_iff.mpr fun w=>c ?_
      have w:a.cps.toList=z.cps.toList:=by simpa using w
      cases a;cases z
      simp at w
      simp[w]
  let E:Value->Bool:=fun y=>match y with | .str a _=>a.cps.toList == z.cps.toList | _=>false
  have he:∀y,y∈its.toArray->MeetsSeq.EqGives y (.str z t) (E y):=fun y hy=>by
    have hy:y∈its:=by simpa using hy
    obtain⟨m,hm,rfl⟩:=List.getElem_of_mem hy
    obtain⟨a,t',_,ea⟩:=val m hm
    rw[ea]
    exact SeqRoads2.EqGives.str a z t' t
  have hit:E (its.toArray[j]'(by rw[List.size_toArray];omega))=true:=by
    obtain⟨a,t',h1,h2⟩:=val j (by omega)
    rw[hj] at h1
    cases h1
    rw[List.getElem_toArray,h2]
    show (z.cps.toList == z.cps.toList)=true
    rw[key,decide_eq_true rfl]
  have hno:∀m (hm:m<its.toArray.size),m<j->E its.toArray[m]=false:=fun m hm hlt=>by
    rw[List.size_toArray] at hm
    obtain⟨a,t',h1,h2⟩:=val m hm
    rw[List.getElem_toArray,h2]
    show (a.cps.toList == z.cps.toList)=false
    rw[key]
    refine decide_eq_false fun c=>?_
    rw[c] at h1
    have:=zrx nd h1 hj
    omega
  refine call_meets F.slot_list_remove ⟨_,e,rfl⟩ F.entry_list_remove (F.args_list_remove_2 _ _) (MeetsSeq.list_remove l its.toArray n (.str z t) E he j (by rw[List.size_toArray];omega) hit hno (by rw[List.size_toArray];omega)) ⟨e,?_⟩
  refine⟨.non,_,I.lset (its':=its.eraseIdx j) hH e ?_ (r.eraseIdx j) ?_,rfl,?_⟩
  · show its.toArray.eraseIdxIfInBounds j=(its.eraseIdx j).toArray
    rw[List.eraseIdxIfInBounds_toArray]
  · rw[List.length_eraseIdx,List.length_map]
    split<;>omega
  · rw[Dm63.erase_map]
    exact q
theorem zps {C:Addr}{ps:List Str}{k:Nat}{sp:Sp}{x:Str}{p pos:Pos}{e:Expr}{es:List Expr}{t:TA}(F:HasM X.prog X.w X.K X.mg X.base C "__init__" ps k sp) (hmk:PySem.W.makesIn X.K C=true) (hk:PySem.W.keepIn X.K (.ref C)=true) (hr:Room (k+1) X.A) (hg:Gl X x) (hm:X.mg x=some (.ref C)) (ha:PA X (e::es) t) (hdb:(x == ("__debug__" : Str))=false:=by decide)
    (he:starEach (e::es) X.env=(false,eval e X.env)::starEach es X.env:=by rfl) (hpl:(backTo pos (starEach es X.env)).any (·.1)=false:=by rfl) :
    PE X (.Call (.Name x p) (e::es) [] pos) (zq4 C sp [] E0 t):=by
  obtain⟨f,fd,a,b,G⟩:=F
  exact zty ⟨hmk,a.at_,a.fn,hk⟩ G hr hg hm (.all b) .nil zoo ha hdb he hpl
end
section
variable {X:Cx}
inductive IsDk:HO->Prop where
  | k {kvs:List (Key×V)}:IsDk (.dK kvs)
  | t {kvs:List (List Key×V)}:IsDk (.dT kvs)
theorem Inv.thaw {pins:List (Addr×Obj)}{σ:St}{H:Hp}{s:Shared}{a:Addr}{ob:Obj}{u:HO}(I:Inv X pins σ H s) (e:H a=some (.frz ob u)) (hu:IsDk u) (nb:∀o v,X.H₀ a≠some (.frz o v)):Inv X pins σ (upd H a u) s:=by
  have na:∀b,H b=none->b≠a:=fun b n z=>by rw[z,e] at n;cases n
  have nt:∀b xs,H b=some (.tup xs)->b≠a:=fun b xs q z=>by rw[z,e] at q;cases q
  have no:∀b c,H b=some (.own c)->b≠a:=fun b c q z=>by rw[z,e] at q;cases q
  have nl:∀b ps,H b=some (.tbl ps)->b≠a:=fun b ps q z=>by rw[z,e] at q;cases q
  refine⟨I.ok,I.os,I.bare,⟨I.base.keep,I.base.slot,fun b o q n hx=>?_,I.base.there,fun b xs q=>?_,fun b o v q=>?_,fun b ps q=>?_⟩,I.loc,I.cell,?_,fun x c q=>?_,fun p hp=>?_,fun b w q=>?_,I.len⟩
  · have h:=I.base.free b o q n hx
    rw[zn (na b h)]
    exact h
  · have h:=I.base.tups b xs q
    rw[zn (nt b xs h)]
    exact h
  · have h:=I.base.frzs b o v q
    have ne:b≠a:=fun z=>by rw[z] at q;exact nb o v q
    rw[zn ne]
    exact h
  · obtain⟨m,h⟩:=I.base.tbls b ps q
    refine⟨m,?_⟩
    rw[zn (nl b _ h)]
    exact h
  · rw[zn (na _ I.free)]
    exact I.free
  · have h:=I.freeC x c q
    rw[zn (na _ h)]
    exact h
  · obtain⟨h1,h2,h3⟩:=I.pin p hp
    exact⟨h1,by rw[zn (na _ h2)];exact h2,h3⟩
  · by_cases c:b=a
    · subst c
      rw[zb] at q
      cases q
      exact (I.hok b _ e).2.stay (fun c v _ r=>r) (fun c r=>by rw[zn (no c b r)];exact r) fun c xs r=>by rw[zn (nt c xs r)];exact r
    · rw[zn c] at q
      exact (I.hok b w q).stay (fun c v _ r=>r) (fun c r=>by rw[zn (no c b r)];exact r) fun c xs r=>by rw[zn (nt c xs r)];exact r
def zx1 (te:TE):TE:=fun σ H Q=>∃a u,H a=some u/\IsDk u/\te σ H fun v H'=>∃ob w,H' a=some (.frz ob w)/\IsDk w/\Q v (upd H' a w)
theorem zpt {e:Expr}{te:TE}(h:PE X e te):PE X e (zx1 te):=by
  intro pins s σ H Q I q
  obtain⟨a,u,ha,hu,q⟩:=q
  have nb:∀o v,X.H₀ a≠some (.frz o v):=fun o v z=>by
    have:=I.base.frzs a o v z
    rw[ha] at this
    cases this
    cases hu
  refine thn (h pins s σ H _ I q) fun v s1 hq0=>?_
  obtain⟨x,H1,I1,r1,ob,w,e1,hw,q1⟩:=hq0
  exact⟨x,_,I1.thaw e1 hw nb,r1,q1⟩
theorem Inv.frozenT {pins:List (Addr×Obj)}{σ:St}{H:Hp}{s:Shared}{a:Addr}{kvs:List (List Key×V)}(I:Inv X pins σ H s) (h:H a=some (.dT kvs)):∃ob,s.heap.get? a=some ob/\Inv X pins σ (upd H a (.frz ob (.dT kvs))) s:=by
  obtain⟨o,e⟩:∃o,s.heap.get? a=some o:=by
    obtain⟨_,_,_,_,o,_,_,e,_⟩:=I.hok a _ h
    exact⟨o,e⟩
  have ok:=I.hok a _ h
  refine⟨o,e,I.write (e:=a) (h':=s.heap) (t':=s.toks) (by rw[h];trivial) (.inl rfl) (fun b u _ q=>q) ⟨o,e⟩ ⟨e,?_⟩⟩
  obtain⟨z,hd,xs,r,dd⟩:=ok
  refine⟨z,hd,xs,KT.keeps r fun c ys ec=>?_,dd⟩
  rw[zn (zgk ec h (fun z=>nomatch z))]
  exact ec
def ItdT (a:Addr) (ob:Obj) (kvs:List (List Key×V)) (as:List Addr):It:=
  ⟨fun i H=>H a=some (.frz ob (.dT kvs))/\i<as.length,fun i H x H'=>H'=H/\∃b,as[i]? = some b/\x = .ref b,fun i H=>H a=some (.frz ob (.dT kvs))/\as.length<=i⟩
theorem zm7 {P:Program}{w:World}{K:PySem.W.Frag}{tg:Expr}(a it:Addr) {ob:Obj}{kvs:List (List Key×V)}{as:List Addr}{es:Array DictEntry}{ep:Nat}(hd:ob.data = .dict es ep) (hl:es.toList.map (·.key)=as.map Value.ref):Turn P w K tg (ItdT a ob kvs as) [it] it (fun i h=>h.IsKeyIter it a i es.size ep) where
  mem:=by simp
  obj:=fun i h st b hb=>by
    have e:b=it:=by simpa using hb
    subst e
    obtain⟨o,e,c,d⟩:=st
    exact⟨o,e,fun v z=>by rw[d] at z;cases z⟩
  keep:=fun i h h' st k=>st.at fun o e=>k it (by simp) o e
  item:=by
    intro X hP hw hK hc i pins s σ H E I hf st hg
    subst hP hw hK
    obtain⟨hq,hx⟩:=hg
    obtain⟨e0,z,hs,vs,rel,o,es',ep',e,ex,dt,kk,nd⟩:=I.hok a _ hq
    rw[e0] at e
    cases e
    have ls:es.size=as.length:=by have:=congrArg List.length hl;simpa using this
    have hi:i<es.size:=by omega
    have hen:es[i]? = some es[i]:=Array.getElem?_eq_getElem hi
    obtain⟨f0,f1,f2,f3,f4,f5⟩:=hf it (by simp)
    refine zl2 st ⟨ob,e0,ex,hd⟩ hen fun h' st' sb=>?_
    have I1:Inv X pins σ H { s with heap:=h' }:=I.turned (t':=s.toks) (fun b o hb e=>(sb.2 b hb).trans e) f0 f1 f3 f4 f5
    obtain⟨oi,ei,ci,di⟩:=id st'
    have ek:as[i]? = some as[i]:=List.getElem?_eq_getElem hx
    have ekey:es[i].key=Value.ref as[i]:=by
      have h1:(es.toList.map (·.key))[i]? = some es[i].key:=by rw[List.getElem?_map,Array.getElem?_toList,hen];rfl
      have h2:(as.map Value.ref)[i]? = some (Value.ref as[i]):=by rw[List.getElem?_map,ek];rfl
      rw[hl,h2] at h1
      exact (Option.some.inj h1).symm
    exact⟨_,rfl,zmn (s:={ s with heap:=h' }) ei ci di (by decide) ⟨.ref as[i],H,I1,by rw[ekey];rfl,⟨rfl,_,ek,rfl⟩,st',fun b hb=>(hf b hb).1⟩⟩
  done:=by
    intro X hP hw hK hc i pins s σ H E I hf st hg
    subst hP hw hK
    obtain⟨hq,hx⟩:=hg
    obtain⟨e0,z,hs,vs,rel,o,es',ep',e,ex,dt,kk,nd⟩:=I.hok a _ hq
    rw[e0] at e
    cases e
    have ls:es.size=as.length:=by have:=congrArg List.length hl;simpa using this
    obtain⟨f0,f1,f2,f3,f4,f5⟩:=hf it (by simp)
    exact zoy (I.ok.hd hc) st ⟨ob,e0,ex,hd⟩ (by omega) fun h' eb=>⟨rfl,I.turned (t':=s.toks) (fun b o hb e=>eb b o hb e) f0 f1 f3 f4 f5⟩
  self:=fun _ _ _ _ _ st h=>wpAny_pyIter_keyiter st h
variable {tg:Expr}
def zw2 (tl:TE):TI:=fun σ H R=>tl σ H fun x H1=>∃a kvs,x = .ref a/\H1 a=some (.dT kvs)/\∀ob as,zfn H1 as kvs->R (ItdT a ob kvs as) (upd H1 a (.frz ob (.dT kvs)))
theorem zrz {l:Expr}{tl:TE}(hl:PE X l tl):PI X tg l (zw2 tl):=by
  intro pins s σ H R I h
  refine thn (hl pins s σ H _ I h) fun v s1 hq0=>?_
  obtain⟨x,H1,I1,r1,q1⟩:=hq0
  obtain⟨a,kvs,e,hq,q⟩:=q1
  subst e
  cases r1
  obtain⟨z,hs,xs,rel,o,es,ep,e,ex,dt,he,nd⟩:=I1.hok a _ hq
  obtain⟨ob,e0,I2⟩:=I1.frozenT hq
  rw[e0] at e
  have eo:ob=o:=Option.some.inj e
  rw[←eo] at ex dt
  refine zl1 hs ⟨ob,e0,ex,dt⟩ ?_
  refine⟨s1.heap.objs.size,[s1.heap.objs.size],_,_,_,rfl,I2.kept (t':=s1.toks) fun b o e=>Heap.get?_push_of_some _ e,zm7 a _ (as:=xs.map fun x=>x.2.1) dt ?_,⟨_,Heap.get?_push_size _ rfl,rfl,rfl⟩,fun b hb=>?_,q ob _ (zd9 rel)⟩
  · rw[he,List.map_map,List.map_map]
    rfl
  · have e:b=s1.heap.objs.size:=by simpa using hb
    subst e
    exact I2.fpOk (Nat.le_refl _) (I2.hok.fresh (Nat.le_refl _))
theorem zpu {a:Addr}{ob:Obj}{kvs:List (List Key×V)}{as:List Addr}:Fix (ItdT a ob kvs as) (as.map V.ref) (fun H=>H a=some (.frz ob (.dT kvs))):=
  ⟨fun i H h hi=>⟨h,by simpa using hi⟩,fun i H x H' h y=>⟨y.1,fun hi=>by
    obtain⟨b,hb,rfl⟩:=y.2
    rw[List.getElem?_map,hb];rfl⟩,fun i H h hi=>⟨h,by simpa using hi⟩⟩
end
end L2
namespace Dm
open PySem PySem.NumText L2
def dFn (fs:List Fnd) (af:List Addr):List (Key×V):=List.zipWith (fun f a=>((Sum.inr f.n:Key),V.ref a)) fs af
theorem zh7 {κ:Type} [DecidableEq κ] {kvs:List (κ×V)}{k:κ}{v:V}{j:Nat}(hn:(kvs.map (·.1)).Nodup) (hj:kvs[j]? = some (k,v)):zdt kvs k=kvs.eraseIdx j:=(PySem.erase_is hn hj).symm
theorem zpv (us:List Str):(dU us).map (·.1)=us.map (Sum.inr:Str->Key):=by unfold dU;rw[List.map_map];rfl
theorem zec {α β:Type}{f:α->β}(inj:∀x y,f x=f y->x=y) {l:List α}(h:l.Nodup):(l.map f).Nodup:=by
  unfold List.Nodup at *
  rw[List.pairwise_map]
  exact h.imp fun hab e=>hab (inj _ _ e)
theorem zuv {us:List Str}{x:Str}{j:Nat}(nd:us.Nodup) (hj:us[j]? = some x):zdt (dU us) (Sum.inr x:Key)=dU (us.eraseIdx j):=by
  rw[zh7 (j:=j) (v:=.bl true) (by rw[zpv];exact zec (fun a b e=>Sum.inr.inj e) nd) (by unfold dU;rw[List.getElem?_map,hj];rfl)]
  unfold dU
  rw[Dm63.erase_map]
theorem zr0 {ts:List Tie}{t:Tie}{j:Nat}(hw:∀vs∈ts.map tieV,∀v∈vs,Wd v) (nd:ts.Nodup) (inj:∀x y:Tie,tieV x=tieV y->x=y) (hj:ts[j]? = some t):zdt (dTi (ts.map tieV)) ((tieV t).map kW)=dTi ((ts.eraseIdx j).map tieV):=by
  have ek:(dTi (ts.map tieV)).map (·.1)=ts.map fun t=>(tieV t).map kW:=by unfold dTi;rw[List.map_map,List.map_map];rfl
  rw[zh7 (j:=j) (v:=.bl true) ?_ (by unfold dTi;rw[List.getElem?_map,List.getElem?_map,hj];rfl)]
  · unfold dTi
    rw[←Dm63.erase_map,←Dm63.erase_map]
  · rw[ek]
    unfold List.Nodup at *
    rw[List.pairwise_map]
    refine nd.imp_of_mem fun {a b} ha hb hab e=>hab (inj a b ?_)
    exact zpl (hw _ (List.mem_map.mpr ⟨a,ha,rfl⟩)) (hw _ (List.mem_map.mpr ⟨b,hb,rfl⟩)) e
theorem zl9 {fs:List Fnd}{af:List Addr}(h:af.length=fs.length):(dFn fs af).map (·.1)=fs.map fun f=>(Sum.inr f.n:Key):=by
  unfold dFn
  induction fs generalizing af with
  | nil=>cases af<;>rfl
  | cons f r ih=>
    cases af with
    | nil=>simp at h
    | cons a r'=>rw[List.zipWith_cons_cons,List.map_cons,List.map_cons,ih (by simpa using h)]
theorem ze5 {fs:List Fnd}{af:List Addr}(h:af.length=fs.length):(dFn fs af).map (·.2)=af.map V.ref:=by
  unfold dFn
  induction fs generalizing af with
  | nil=>cases af with
    | nil=>rfl
    | cons a r=>simp at h
  | cons f r ih=>
    cases af with
    | nil=>simp at h
    | cons a r'=>rw[List.zipWith_cons_cons,List.map_cons,List.map_cons,ih (by simpa using h)]
theorem zma {fs:List Fnd}{af:List Addr}{j:Nat}{f:Fnd}{a:Addr}(hf:fs[j]? = some f) (ha:af[j]? = some a):(dFn fs af)[j]? = some (Sum.inr f.n,.ref a):=by
  unfold dFn
  rw[List.getElem?_zipWith,hf,ha]
theorem zmb {fs:List Fnd}{af:List Addr}(h:af.length=fs.length) (nd:(fs.map Fnd.n).Nodup):((dFn fs af).map (·.1)).Nodup:=by
  rw[zl9 h]
  have:=zec (f:=(Sum.inr:Str->Key)) (fun a b e=>Sum.inr.inj e) nd
  rwa [List.map_map] at this
theorem zk8 {fs:List Fnd}{af:List Addr}(h:af.length=fs.length) {x:Str}:(Sum.inr x:Key)∈(dFn fs af).map (·.1)↔x∈fs.map Fnd.n:=by
  rw[zl9 h,List.mem_map,List.mem_map]
  constructor
  · rintro ⟨f,hf,e⟩
    exact⟨f,hf,Sum.inr.inj e⟩
  · rintro ⟨f,hf,e⟩
    exact⟨f,hf,by rw[e]⟩
theorem zh8 {κ:Type} [DecidableEq κ] {kvs:List (κ×V)}{k:κ}{v:V}:∀{j:Nat},(kvs.map (·.1)).Nodup->kvs[j]? = some (k,v)->valV kvs k=some v:=by
  induction kvs with
  | nil=>intro j _ h;simp at h
  | cons p r ih=>
    intro j hn h
    rw[List.map_cons,List.nodup_cons] at hn
    cases j with
    | zero=>
      have e:p=(k,v):=by simpa using h
      subst e
      exact zdu rfl
    | succ j=>
      rw[List.getElem?_cons_succ] at h
      have:¬p.1=k:=fun z=>hn.1 (List.mem_map.mpr ⟨(k,v),List.mem_of_getElem? h,z.symm⟩)
      rw[zdv this]
      exact ih hn.2 h
theorem zpw {fs:List Fnd}:∀{af:List Addr}(j:Nat),(dFn fs af).eraseIdx j=dFn (fs.eraseIdx j) (af.eraseIdx j):=by
  induction fs with
  | nil=>intro af j;simp[dFn]
  | cons f r ih=>
    intro af j
    cases af with
    | nil=>simp[dFn]
    | cons a r'=>
      cases j with
      | zero=>simp[dFn]
      | succ j=>
        show (_::dFn r r').eraseIdx (j+1)=_::dFn (r.eraseIdx j) (r'.eraseIdx j)
        rw[List.eraseIdx_cons_succ,ih]
theorem zr1 {fs:List Fnd}{af:List Addr}{j:Nat}{f:Fnd}(h:af.length=fs.length) (nd:(fs.map Fnd.n).Nodup) (hf:fs[j]? = some f):zdt (dFn fs af) (Sum.inr f.n:Key)=dFn (fs.eraseIdx j) (af.eraseIdx j):=by
  have hj:=(List.getElem?_eq_some_iff.mp hf).1
  rw[zh7 (j:=j) (zmb h nd) (zma hf (List.getElem?_eq_getElem (by omega))),zpw]
theorem zuw {fs:List Fnd}{af:List Addr}{f:Fnd}{a:Addr}(h:af.length=fs.length) (hn:f.n ∉ fs.map Fnd.n):putK (dFn fs af) (Sum.inr f.n:Key) (.ref a)=dFn (fs++[f]) (af++[a]):=by
  rw[zhq _ (zb6 fun z=>hn ((zk8 h).mp z))]
  unfold dFn
  rw[List.zipWith_append (by omega)]
  rfl
theorem zux {κ:Type} [DecidableEq κ] {kvs:List (κ×V)}{k:κ}{v w:V}:∀{j:Nat},(kvs.map (·.1)).Nodup->kvs[j]? = some (k,w)->putK kvs k v=kvs.set j (k,v):=by
  have go:∀(kvs:List (κ×V)) (j:Nat),(kvs.map (·.1)).Nodup->kvs[j]? = some (k,w)->kvs.map (fun kv=>if kv.1=k then (kv.1,v) else kv)=kvs.set j (k,v):=by
    intro kvs
    induction kvs with
    | nil=>intro j _ h;simp at h
    | cons p r ih=>
      intro j hn h
      rw[List.map_cons,List.nodup_cons] at hn
      cases j with
      | zero=>
        have e:p=(k,w):=by simpa using h
        subst e
        rw[List.map_cons,if_pos rfl,List.set_cons_zero]
        congr 1
        refine (List.map_congr_left fun y hy=>?_).trans (List.map_id r)
        have:¬y.1=k:=fun z=>hn.1 (List.mem_map.mpr ⟨y,hy,z⟩)
        rw[if_neg this];rfl
      | succ j=>
        rw[List.getElem?_cons_succ] at h
        have:¬p.1=k:=fun z=>hn.1 (List.mem_map.mpr ⟨(k,w),List.mem_of_getElem? h,z.symm⟩)
        rw[List.map_cons,if_neg this,List.set_cons_succ,ih j hn.2 h]
  intro j hn h
  unfold putK
  rw[if_pos (List.any_eq_true.mpr ⟨(k,w),List.mem_of_getElem? h,decide_eq_true rfl⟩),go kvs j hn h]
theorem zuy {fs:List Fnd}{f:Fnd}{a:Addr}:∀{af:List Addr}(j:Nat),af.length=fs.length->(dFn fs af).set j (Sum.inr f.n,.ref a)=dFn (fs.set j f) (af.set j a):=by
  induction fs with
  | nil=>intro af j _;simp[dFn]
  | cons g r ih=>
    intro af j h
    cases af with
    | nil=>simp at h
    | cons b r'=>
      cases j with
      | zero=>simp[dFn]
      | succ j=>
        show (_::dFn r r').set (j+1) _=_::dFn (r.set j f) (r'.set j a)
        rw[List.set_cons_succ,ih j (by simpa using h)]
theorem zuz {fs:List Fnd}{af:List Addr}{j:Nat}{f f':Fnd}{a:Addr}(h:af.length=fs.length) (nd:(fs.map Fnd.n).Nodup) (hf:fs[j]? = some f) (en:f'.n=f.n):putK (dFn fs af) (Sum.inr f.n:Key) (.ref a)=dFn (fs.set j f') (af.set j a):=by
  have hj:=(List.getElem?_eq_some_iff.mp hf).1
  rw[zux (j:=j) (zmb h nd) (zma hf (List.getElem?_eq_getElem (by omega))),←en,zuy j h]
structure DigAt (C:Addr) (H:Hp) (p pm du dt df:Addr) (lo hi:Int) (us:List Str) (ts:List Tie) (fs:List Fnd) (af:List Addr):Prop where
  ob:∃dx,H p=some (.ins C dx (rfl4 (.ref pm) du dt df))
  m:H pm=some (.tup [.int lo,.int hi])
  u:H du=some (.dK (dU us))
  t:H dt=some (.dT (dTi (ts.map tieV)))
  f:H df=some (.dK (dFn fs af))
  ft:Tups H af (fs.map fndV)
  nu:du≠df
structure DigOk (us:List Str) (ts:List Tie) (fs:List Fnd):Prop where
  nd:us.Nodup
  nm:∀x∈us,za4 x=true
  tok:∀t∈ts,TOk us t
  tnd:ts.Nodup
  fok:∀f∈fs,FOk us f
  fnd:(fs.map Fnd.n).Nodup
section
variable {C:Addr}{H H':Hp}{p pm du dt df:Addr}{lo hi:Int}{us us':List Str}{ts ts':List Tie}{fs fs':List Fnd}{af af':List Addr}
theorem DigOk.tw (h:DigOk us ts fs):∀vs∈ts.map tieV,∀v∈vs,Wd v:=fun vs hv=>by
  obtain⟨u,hu,rfl⟩:=List.mem_map.mp hv
  exact ((h.tok u hu).ok.words h.nm).1
theorem DigAt.flen (h:DigAt C H p pm du dt df lo hi us ts fs af):af.length=fs.length:=by have:=h.ft.len;rw[List.length_map] at this;exact this
theorem DigAt.same (h:DigAt C H p pm du dt df lo hi us ts fs af) (s:Same H H'):DigAt C H' p pm du dt df lo hi us ts fs af:=by
  obtain⟨dx,e⟩:=h.ob
  exact⟨⟨dx,s _ _ e⟩,s _ _ h.m,s _ _ h.u,s _ _ h.t,s _ _ h.f,h.ft.same s,h.nu⟩
theorem DigAt.lst (h:DigAt C H p pm du dt df lo hi us ts fs af) {q:Addr}{xs ys:List V}(e:H q=some (.lst xs)):DigAt C (upd H q (.lst ys)) p pm du dt df lo hi us ts fs af:=by
  obtain⟨dx,e1⟩:=h.ob
  have st:∀b o,H b=some o->o≠.lst xs->upd H q (.lst ys) b=some o:=fun b o eb ne=>by
    rw[zn (fun z=>?_)]
    · exact eb
    · rw[z,e] at eb
      exact ne (Option.some.inj eb).symm
  exact⟨⟨dx,st _ _ e1 (by intro z;cases z)⟩,st _ _ h.m (by intro z;cases z),st _ _ h.u (by intro z;cases z),st _ _ h.t (by intro z;cases z),st _ _ h.f (by intro z;cases z),h.ft.stay (fun b xs eb=>st _ _ eb (by intro z;cases z)),h.nu⟩
theorem DigAt.setU (h:DigAt C H p pm du dt df lo hi us ts fs af):DigAt C (upd H du (.dK (dU us'))) p pm du dt df lo hi us' ts fs af:=by
  obtain⟨dx,e1⟩:=h.ob
  have st:∀b o,H b=some o->o≠.dK (dU us)->upd H du (.dK (dU us')) b=some o:=fun b o eb ne=>by
    rw[zn (fun z=>?_)]
    · exact eb
    · rw[z,h.u] at eb
      exact ne (Option.some.inj eb).symm
  exact⟨⟨dx,st _ _ e1 (by intro z;cases z)⟩,st _ _ h.m (by intro z;cases z),zb,st _ _ h.t (by intro z;cases z),by rw[zn h.nu.symm];exact h.f,h.ft.stay (fun b xs eb=>st _ _ eb (by intro z;cases z)),h.nu⟩
theorem DigAt.setT (h:DigAt C H p pm du dt df lo hi us ts fs af):DigAt C (upd H dt (.dT (dTi (ts'.map tieV)))) p pm du dt df lo hi us ts' fs af:=by
  obtain⟨dx,e1⟩:=h.ob
  have st:∀b o,H b=some o->o≠.dT (dTi (ts.map tieV))->upd H dt (.dT (dTi (ts'.map tieV))) b=some o:=fun b o eb ne=>by
    rw[zn (fun z=>?_)]
    · exact eb
    · rw[z,h.t] at eb
      exact ne (Option.some.inj eb).symm
  exact⟨⟨dx,st _ _ e1 (by intro z;cases z)⟩,st _ _ h.m (by intro z;cases z),st _ _ h.u (by intro z;cases z),zb,st _ _ h.f (by intro z;cases z),h.ft.stay (fun b xs eb=>st _ _ eb (by intro z;cases z)),h.nu⟩
theorem DigAt.setF (h:DigAt C H p pm du dt df lo hi us ts fs af) (ft:Tups H af' (fs'.map fndV)):DigAt C (upd H df (.dK (dFn fs' af'))) p pm du dt df lo hi us ts fs' af':=by
  obtain⟨dx,e1⟩:=h.ob
  have st:∀b o,H b=some o->o≠.dK (dFn fs af)->upd H df (.dK (dFn fs' af')) b=some o:=fun b o eb ne=>by
    rw[zn (fun z=>?_)]
    · exact eb
    · rw[z,h.f] at eb
      exact ne (Option.some.inj eb).symm
  exact⟨⟨dx,st _ _ e1 (by intro z;cases z)⟩,st _ _ h.m (by intro z;cases z),by rw[zn h.nu];exact h.u,st _ _ h.t (by intro z;cases z),zb,ft.stay (fun b xs eb=>st _ _ eb (by intro z;cases z)),h.nu⟩
end
inductive Deed where
  | unit (x:Str)
  | drop (x:Str)
  | tie (t:Tie)
  | untie (t:Tie)
  | find (f:Fnd)
  | move (n x:Str)
  | lose (n:Str)
structure SD where
  us:List Str
  ts:List Tie
  fs:List Fnd
def byT (x:Str) (t:Tie):Bool:=inV (.str x) [.str t.a,.str t.b]
def byF (x:Str) (f:Fnd):Bool:=decide (V.str x=V.str f.u)
def zh9 (ts:List Tie) (fs:List Fnd) (x:Str):Bool:=ts.any (byT x)||fs.any (byF x)
inductive After:Deed->SD->SD->Prop where
  | unit {s:SD}{x:Str}(h:x ∉ s.us):After (.unit x) s ⟨s.us++[x],s.ts,s.fs⟩
  | drop {s:SD}{x:Str}{j:Nat}(h:s.us[j]? = some x) (hu:zh9 s.ts s.fs x=false):After (.drop x) s ⟨s.us.eraseIdx j,s.ts,s.fs⟩
  | tie {s:SD}{t:Tie}(h1:t.a∈s.us) (h2:t.b∈s.us) (h3:t ∉ s.ts):After (.tie t) s ⟨s.us,s.ts++[t],s.fs⟩
  | untie {s:SD}{t:Tie}{j:Nat}(h:s.ts[j]? = some t):After (.untie t) s ⟨s.us,s.ts.eraseIdx j,s.fs⟩
  | find {s:SD}{f:Fnd}(h1:f.n ∉ s.fs.map Fnd.n) (h2:f.u∈s.us):After (.find f) s ⟨s.us,s.ts,s.fs++[f]⟩
  | move {s:SD}{f:Fnd}{x:Str}{j:Nat}(h:s.fs[j]? = some f) (h2:x∈s.us):After (.move f.n x) s ⟨s.us,s.ts,s.fs.set j ⟨f.n,x,f.lo,f.hi⟩⟩
  | lose {s:SD}{f:Fnd}{j:Nat}(h:s.fs[j]? = some f):After (.lose f.n) s ⟨s.us,s.ts,s.fs.eraseIdx j⟩
inductive DeedOk (xs ms:List Str):Deed->Prop where
  | unit {x:Str}(h:x∈xs):DeedOk xs ms (.unit x)
  | drop {x:Str}(h:x∈xs):DeedOk xs ms (.drop x)
  | tie {t:Tie}(h:TOk xs t):DeedOk xs ms (.tie t)
  | untie {t:Tie}(h:TOk xs t):DeedOk xs ms (.untie t)
  | find {f:Fnd}(h:FOk xs f) (hm:f.n∈ms):DeedOk xs ms (.find f)
  | move {n x:Str}(hm:n∈ms) (h:x∈xs):DeedOk xs ms (.move n x)
  | lose {n:Str}(hm:n∈ms):DeedOk xs ms (.lose n)
theorem TOk.into {xs us:List Str}{t:Tie}(h:TOk xs t) (h1:t.a∈us) (h2:t.b∈us):TOk us t:=by
  obtain⟨k,a,b,g⟩:=t
  refine⟨?_,h1,h2⟩
  have:=h.ok
  unfold tieV at this ⊢
  cases g with
  | none=>
    cases this with
    | plain hk _ _=>exact .plain hk h1 h2
  | some g=>
    cases this with
    | after _ _ g0 g1=>exact .after h1 h2 g0 g1
theorem After.ok {xs ms:List Str}{d:Deed}{s s':SD}(nm:∀x∈xs,za4 x=true) (h:After d s s') (hd:DeedOk xs ms d) (ok:DigOk s.us s.ts s.fs):DigOk s'.us s'.ts s'.fs:=by
  cases h with
  | @unit _ x h=>
    cases hd with
    | unit hx=>
      refine⟨?_,fun y hy=>?_,fun t ht=>(ok.tok t ht).mono fun y hy=>List.mem_append_left _ hy,ok.tnd,fun f hf=>?_,ok.fnd⟩
      · rw[List.nodup_append]
        exact⟨ok.nd,by simp,fun a ha b hb e=>by simp at hb;subst hb;subst e;exact h ha⟩
      · rcases List.mem_append.mp hy with hy | hy
        · exact ok.nm y hy
        · have:y=x:=by simpa using hy
          rw[this];exact nm _ hx
      · have:=ok.fok f hf
        exact⟨this.n,List.mem_append_left _ this.u,this.le,this.lo,this.hi⟩
  | @drop _ x j h hu=>
    have sub:=List.eraseIdx_sublist s.us j
    have keep:∀y∈s.us,y≠x->y∈s.us.eraseIdx j:=fun y hy ne=>by
      obtain⟨i,hi,e⟩:=List.getElem_of_mem hy
      rw[List.mem_eraseIdx_iff_getElem]
      refine⟨i,hi,fun z=>ne ?_,e⟩
      subst z
      rw[List.getElem?_eq_getElem hi,e] at h
      exact Option.some.inj h
    have hno:∀t∈s.ts,t.a≠x/\t.b≠x:=fun t ht=>by
      have h1:s.ts.any (byT x)=false:=by
        unfold zh9 at hu
        simp only [Bool.or_eq_false_iff] at hu
        exact hu.1
      have h2:byT x t=false:=by
        rw[List.any_eq_false] at h1
        exact Bool.eq_false_iff.mpr (h1 t ht)
      constructor
      · intro z
        rw[←z] at h2
        unfold byT inV at h2
        simp[eqV] at h2
      · intro z
        rw[←z] at h2
        unfold byT inV at h2
        simp[eqV] at h2
    have hnf:∀f∈s.fs,f.u≠x:=fun f hf z=>by
      have h1:s.fs.any (byF x)=false:=by
        unfold zh9 at hu
        simp only [Bool.or_eq_false_iff] at hu
        exact hu.2
      rw[List.any_eq_false] at h1
      refine h1 f hf ?_
      unfold byF
      rw[z]
      exact decide_eq_true rfl
    refine⟨ok.nd.sublist sub,fun y hy=>ok.nm y (sub.subset hy),fun t ht=>?_,ok.tnd,fun f hf=>?_,ok.fnd⟩
    · have:=ok.tok t ht
      exact this.into (keep _ this.a (hno t ht).1) (keep _ this.b (hno t ht).2)
    · have:=ok.fok f hf
      exact⟨this.n,keep _ this.u (hnf f hf),this.le,this.lo,this.hi⟩
  | @tie _ t h1 h2 h3=>
    cases hd with
    | tie ht=>
      refine⟨ok.nd,ok.nm,fun u hu=>?_,?_,ok.fok,ok.fnd⟩
      · rcases List.mem_append.mp hu with hu | hu
        · exact ok.tok u hu
        · have:u=t:=by simpa using hu
          rw[this];exact ht.into h1 h2
      · rw[List.nodup_append]
        exact⟨ok.tnd,by simp,fun a ha b hb e=>by simp at hb;subst hb;subst e;exact h3 ha⟩
  | @untie _ t j h=>
    have sub:=List.eraseIdx_sublist s.ts j
    exact⟨ok.nd,ok.nm,fun u hu=>ok.tok u (sub.subset hu),ok.tnd.sublist sub,ok.fok,ok.fnd⟩
  | @find _ f h1 h2=>
    cases hd with
    | find hf=>
      refine⟨ok.nd,ok.nm,ok.tok,ok.tnd,fun g hg=>?_,?_⟩
      · rcases List.mem_append.mp hg with hg | hg
        · exact ok.fok g hg
        · have:g=f:=by simpa using hg
          rw[this];exact⟨hf.n,h2,hf.le,hf.lo,hf.hi⟩
      · show ((s.fs++[f]).map Fnd.n).Nodup
        rw[List.map_append,List.nodup_append]
        exact⟨ok.fnd,by simp,fun a ha b hb e=>by simp at hb;subst hb;subst e;exact h1 ha⟩
  | @move _ f x j h h2=>
    have hf:=ok.fok f (List.mem_of_getElem? h)
    refine⟨ok.nd,ok.nm,ok.tok,ok.tnd,fun g hg=>?_,?_⟩
    · rcases List.mem_or_eq_of_mem_set hg with hg | hg
      · exact ok.fok g hg
      · rw[hg];exact⟨hf.n,h2,hf.le,hf.lo,hf.hi⟩
    · show ((s.fs.set j ⟨f.n,x,f.lo,f.hi⟩).map Fnd.n).Nodup
      rw[List.map_set]
      have:(s.fs.map Fnd.n).set j f.n=s.fs.map Fnd.n:=by
        apply List.ext_getElem?
        intro i
        rw[List.getElem?_set]
        split
        · rename_i e
          subst e
          split
          · rw[List.getElem?_map,h];rfl
          · rename_i hl
            rw[List.length_map] at hl
            exact absurd (List.getElem?_eq_some_iff.mp h).1 hl
        · rfl
      rw[this]
      exact ok.fnd
  | @lose _ f j h=>
    have sub:=List.eraseIdx_sublist s.fs j
    exact⟨ok.nd,ok.nm,ok.tok,ok.tnd,fun g hg=>ok.fok g (sub.subset hg),ok.fnd.sublist (sub.map _)⟩
theorem After.len {d:Deed}{s s':SD}(h:After d s s'):s'.us.length<=s.us.length+1/\s'.ts.length<=s.ts.length+1/\s'.fs.length<=s.fs.length+1:=by
  have e1:∀j,(s.us.eraseIdx j).length<=s.us.length:=fun j=>(List.eraseIdx_sublist _ j).length_le
  have e2:∀j,(s.ts.eraseIdx j).length<=s.ts.length:=fun j=>(List.eraseIdx_sublist _ j).length_le
  have e3:∀j,(s.fs.eraseIdx j).length<=s.fs.length:=fun j=>(List.eraseIdx_sublist _ j).length_le
  cases h with
  | unit h=>exact⟨by simp,by simp,by simp⟩
  | @drop _ x j h hu=>exact⟨Nat.le_succ_of_le (e1 j),by simp,by simp⟩
  | tie h1 h2 h3=>exact⟨by simp,by simp,by simp⟩
  | @untie _ t j h=>exact⟨by simp,Nat.le_succ_of_le (e2 j),by simp⟩
  | find h1 h2=>exact⟨by simp,by simp,by simp⟩
  | move h h2=>exact⟨by simp,by simp,by simp⟩
  | @lose _ f j h=>exact⟨by simp,by simp,Nat.le_succ_of_le (e3 j)⟩
theorem zmc {H:Hp}{af:List Addr}{fs:List Fnd}{f f':Fnd}{b:Addr}(t:Tups H af (fs.map fndV)) {j:Nat}(h:fs[j]? = some f) (eb:H b=some (.tup (fndV f'))):Tups H (af.set j b) ((fs.set j f').map fndV):=by
  induction fs generalizing af j with
  | nil=>simp at h
  | cons g r ih=>
    cases t with
    | cons h1 t1=>
      cases j with
      | zero=>exact .cons eb t1
      | succ j=>exact .cons h1 (ih t1 (by simpa using h))
theorem zdf {α:Type}{v:α->List V}{H:Hp}{af:List Addr}{fs:List α}(t:Tups H af (fs.map v)) {j:Nat}:Tups H (af.eraseIdx j) ((fs.eraseIdx j).map v):=by
  induction fs generalizing af j with
  | nil=>cases t;simp;exact .nil
  | cons g r ih=>
    cases t with
    | cons h1 t1=>
      cases j with
      | zero=>exact t1
      | succ j=>exact .cons h1 (ih t1)
abbrev Ln:=Str->List (Str×Addr)
structure LsAt (K:PySem.W.Frag) (H:Hp) (pu pt pf:Addr) (s:SD) (at' ag:List Addr):Prop where
  u:H pu=some (.lst (s.us.map V.str))
  t:H pt=some (.lst (at'.map V.ref))
  tt:Tups H at' (s.ts.map tieV)
  f:H pf=some (.lst (ag.map V.ref))
  ff:Tups H ag (s.fs.map fndV)
  n1:pu≠pt
  n2:pu≠pf
  n3:pt≠pf
section
variable {K:PySem.W.Frag}{H H':Hp}{pu pt pf:Addr}{s:SD}{at' ag:List Addr}
theorem LsAt.same (h:LsAt K H pu pt pf s at' ag) (e:Same H H'):LsAt K H' pu pt pf s at' ag:=⟨e _ _ h.u,e _ _ h.t,h.tt.same e,e _ _ h.f,h.ff.same e,h.n1,h.n2,h.n3⟩
theorem LsAt.tlen (h:LsAt K H pu pt pf s at' ag):at'.length=s.ts.length:=by have:=h.tt.len;rw[List.length_map] at this;exact this
theorem LsAt.flen (h:LsAt K H pu pt pf s at' ag):ag.length=s.fs.length:=by have:=h.ff.len;rw[List.length_map] at this;exact this
end
theorem zfw {xs:List Str}:(xs.map V.str).all zcw=true:=by rw[List.all_map];exact List.all_eq_true.mpr fun _ _=>rfl
section
variable {K:PySem.W.Frag}{H:Hp}{pu pt pf:Addr}{s:SD}{at' ag:List Addr}
theorem LsAt.setU (h:LsAt K H pu pt pf s at' ag) (us:List Str):LsAt K (upd H pu (.lst (us.map V.str))) pu pt pf ⟨us,s.ts,s.fs⟩ at' ag:=
  ⟨zb,by rw[zn h.n1.symm];exact h.t,h.tt.stay (zax h.u),by rw[zn h.n2.symm];exact h.f,h.ff.stay (zax h.u),h.n1,h.n2,h.n3⟩
theorem LsAt.setT (h:LsAt K H pu pt pf s at' ag) (ts:List Tie) (at2:List Addr) (tt:Tups H at2 (ts.map tieV)):LsAt K (upd H pt (.lst (at2.map V.ref))) pu pt pf ⟨s.us,ts,s.fs⟩ at2 ag:=
  ⟨by rw[zn h.n1];exact h.u,zb,tt.stay (zax h.t),by rw[zn h.n3.symm];exact h.f,h.ff.stay (zax h.t),h.n1,h.n2,h.n3⟩
theorem LsAt.setF (h:LsAt K H pu pt pf s at' ag) (fs:List Fnd) (ag2:List Addr) (ff:Tups H ag2 (fs.map fndV)):LsAt K (upd H pf (.lst (ag2.map V.ref))) pu pt pf ⟨s.us,s.ts,fs⟩ at' ag2:=
  ⟨by rw[zn h.n2];exact h.u,by rw[zn h.n3];exact h.t,h.tt.stay (zax h.f),zb,ff.stay (zax h.f),h.n1,h.n2,h.n3⟩
end
theorem zr2 {H:Hp}{at':List Addr}{ts:List Tie}{t:Tie}{j:Nat}{a:Addr}(tt:Tups H at' (ts.map tieV)) (h:ts[j]? = some t) (ha:at'[j]? = some a):tupE H (tieV t) (.ref a)=true:=by
  obtain⟨ws,h2,h3⟩:=Paired.get' tt ha
  rw[List.getElem?_map,h] at h2
  cases h2
  rw[zh4 h3]
  exact decide_eq_true rfl
theorem zpx {H:Hp}{at':List Addr}{ts:List Tie}{t:Tie}{j:Nat}(tt:Tups H at' (ts.map tieV)) (nd:ts.Nodup) (h:ts[j]? = some t) (m:Nat) (y:V) (hm:m<j) (hy:(at'.map V.ref)[m]? = some y):tupE H (tieV t) y=false:=by
  rw[List.getElem?_map] at hy
  cases e:at'[m]? with
  | none=>rw[e] at hy;cases hy
  | some a=>
    rw[e] at hy
    cases hy
    obtain⟨ws,h2,h3⟩:=Paired.get' tt e
    rw[List.getElem?_map] at h2
    cases e2:ts[m]? with
    | none=>rw[e2] at h2;cases h2
    | some u=>
      rw[e2] at h2
      cases h2
      rw[zh4 h3]
      refine decide_eq_false fun z=>?_
      have eu:=zdz z
      subst eu
      obtain⟨a1,b1⟩:=List.getElem?_eq_some_iff.mp e2
      obtain⟨a2,b2⟩:=List.getElem?_eq_some_iff.mp h
      exact List.pairwise_iff_getElem.mp nd m j a1 a2 hm (b1.trans b2.symm)
theorem zpy {n j:Nat}(h:j<n):ixN n (j:Int)=some j:=by
  unfold ixN
  rw[if_pos (by omega),if_pos (by omega),Int.toNat_natCast]
theorem zmd {n j:Nat}(h:j<n):seqIndex? (j:Int) n=some j:=(zkq (zpy h)).1
theorem After.sub {xs ms:List Str}{d:Deed}{s s':SD}(h:After d s s') (hd:DeedOk xs ms d) (sub:∀x∈s.us,x∈xs):∀x∈s'.us,x∈xs:=by
  cases h with
  | @unit _ x h=>
    intro y hy
    cases hd with
    | unit hx=>
      rcases List.mem_append.mp hy with hy | hy
      · exact sub y hy
      · have:y=x:=by simpa using hy
        rw[this];exact hx
  | @drop _ x j h hu=>exact fun y hy=>sub y ((List.eraseIdx_sublist _ j).subset hy)
  | tie h1 h2 h3=>exact sub
  | untie h=>exact sub
  | find h1 h2=>exact sub
  | move h h2=>exact sub
  | lose h=>exact sub
end Dm
namespace L2
open PySem PySem.Spec PyProof.Rows
end L2
namespace Dm
open PySem PySem.NumText L2
end Dm
namespace L2
open PySem
end L2
namespace L2
open PySem PySem.Spec PyProof.Rows
section
variable {P:Program}{w:World}{K:PySem.W.Frag}{mg:Str->Option Value}{base:Heap}
def HasML (P:Program) (w:World) (K:PySem.W.Frag) (mg:Str->Option Value) (base:Heap) (CX:CXT) (C:Addr) (m:Str) (ps:List Str) (k:Nat) (sp:Sp):Prop:=
  ∃(f:Addr) (fd:FuncData),Meth K C m f/\(∃oc od osl,K.lookup f=some ⟨oc,od,.func fd,osl⟩)/\(∀us:List Value,us.length=ps.length->bindArgs fd ⟨us,[]⟩=pure (ps.zip us))/\FnOk P w K mg base CX k f fd ps sp
theorem DfM.hasL0 {C:Addr}{qual m:Str}{st:Stmt}{N ps:List Str}{k:Nat}{sp:Sp}(D:DfM K C qual m st ps) (S:FnScope N ps (zj st)) (len:∀vs H Q E,sp vs H Q E->vs.length=ps.length)
    (hbody:∀(f:Addr) (cdv:Value) (A:Around) (outer:List Env) (s:Shared) (H:Hp) (vs:List V) (Q:VK) (E:XK),Room k (A.deeper (envOfC qual (zj st) s.heap.objs.size f cdv))->sp vs H Q E->
      ∃t,PSs (cxOf CX0 P w K mg base N qual (zj st) f cdv A outer s H E).nox (zam st) t/\t { nx:=fun _ H'=>Q .non H',rt:=Q } (zd5 N vs) H):HasML P w K mg base CX0 C m ps (k+1) sp:=by
  obtain⟨f,fd,F,a,b⟩:=D
  obtain⟨oc,od,kV,doc,pm,an,cdv,ct,osl,e,lk,hcd⟩:=id F.ex
  exact⟨f,fd,a,⟨oc,od,osl,e▸lk⟩,b,F.ok S len (hbody f)⟩
theorem HasML.m {C:Addr}{m:Str}{ps:List Str}{k:Nat}{sp:Sp}(F:HasML P w K mg base CX0 C m ps k sp):HasM P w K mg base C m ps k sp:=by
  obtain⟨f,fd,a,_,b,F⟩:=F
  exact⟨f,fd,a,b,F⟩
end
section
open SeqAt
theorem zpz (l:Addr) (items:Array Value) (n:Nat) (x:Value) (e:Value->Bool) (j:Nat) (hj:j<items.size) (hit:e items[j]=true) (hs1:items.size<=sizeLine) (k:Nat) :
    ∀i:Nat,j-i=k->i<=j->(∀m (hm:m<items.size),i<=m->m<j->e items[m]=false)->Meets (Builtin.«list.remove.loop» ⟨[.ref l,x,rawInt i],[]⟩)
      (fun A R s=>s.heap.get? l=some { cls:=.type "list",dict:=none,data:=.seq items n,slots:=#[] }/\(∀y,y∈items->EqAt A.in1 s y x (e y))/\R (.ok (.ret .none)) { s with heap:=s.heap.update l (Obj.mapSeq fun xs=>xs.eraseIdxIfInBounds j) }):=by
  induction k with
  | zero=>
    intro i hk hij hno prog w A R s h
    obtain⟨hp,g,d,tk,os⟩:=s
    obtain⟨hl,he,h⟩:=h
    have eij:i=j:=by omega
    subst eij
    wp_walk using wpAny_loadPart' hl
    rw[show items[((i:Nat):Int).toNat]? = some items[i] by simp[hj]]
    refine wpAny_bind (he _ (Array.getElem_mem hj) prog w _ _ ?_)
    rw[hit]
    have hz':(items.eraseIdxIfInBounds i).size<=sizeLine+1:=Nat.le_trans (MeetsSeq.size_erased items _) (Nat.le_succ_of_le hs1)
    wp_walk using (wpAny_updateSeq hl rfl (hz:=hs1) (_hz':=hz')),wpAny_loadPart' hl
    simpa using h
  | succ k ih=>
    intro i hk hij hno prog w A R s h
    obtain⟨hp,g,d,tk,os⟩:=s
    obtain⟨hl,he,h⟩:=h
    have hlt:i<items.size:=by omega
    wp_walk using wpAny_loadPart' hl
    rw[show items[((i:Nat):Int).toNat]? = some items[i] by simp[hlt]]
    refine wpAny_bind (he _ (Array.getElem_mem hlt) prog w _ _ ?_)
    rw[hno i hlt (Nat.le_refl _) (by omega)]
    wp_walk
    rw[show ((i:Int)+1)=((i+1:Nat):Int) by push_cast;rfl]
    exact⟨plainId_quiet MeetsSeq.plain_remove_loop _,codeAny_builtin MeetsSeq.entry_remove_loop (by
      rw[Around.under_plainId MeetsSeq.plain_remove_loop _]
      exact ih (i+1) (by omega) (by omega) (fun m hm h1 h2=>hno m hm (by omega) h2) prog w A R _ ⟨hl,he,h⟩)⟩
theorem zp0 (l:Addr) (items:Array Value) (n:Nat) (x:Value) (e:Value->Bool) (j:Nat) (hj:j<items.size) (hit:e items[j]=true) (hno:∀m (hm:m<items.size),m<j->e items[m]=false) (hs1:items.size<=sizeLine) :
    Meets (Builtin.«list.remove» ⟨[.ref l,x],[]⟩)
      (fun A R s=>s.heap.get? l=some { cls:=.type "list",dict:=none,data:=.seq items n,slots:=#[] }/\(∀y,y∈items->EqAt A.in1 s y x (e y))/\R (.ok (.ret .none)) { s with heap:=s.heap.update l (Obj.mapSeq fun xs=>xs.eraseIdxIfInBounds j) }):=by
  intro prog w A R s h
  obtain⟨hp,g,d,tk,os⟩:=s
  obtain⟨hl,he,h⟩:=h
  wp_walk using wpAny_loadPart' hl
  exact⟨plainId_quiet MeetsSeq.plain_remove_loop _,codeAny_builtin MeetsSeq.entry_remove_loop (by
    rw[Around.under_plainId MeetsSeq.plain_remove_loop _]
    exact zpz l items n x e j hj hit hs1 _ 0 rfl (Nat.zero_le _) (fun m hm _ h2=>hno m hm h2) prog w A R _ ⟨hl,he,h⟩)⟩
end
section
variable {X:Cx}
theorem zm8 (K:PySem.W.Frag) (hK:X.K=K) (hu:X.A.units+10<cLine):MtM X "list.remove" (fun x vs H Q=>∃(l:Addr) (xs:List V) (z:V) (e:V->Bool) (j:Nat) (y:V),x = .ref l/\vs = [z]/\H l=some (.lst xs)/\(∀y∈xs,DEq K H 8 y z (e y))/\xs[j]? = some y/\e y=true/\(∀(m:Nat) y,m<j->xs[m]? = some y->e y=false)/\Q .non (upd H l (.lst (xs.eraseIdx j)))):=by
  subst hK
  intro pins s σ H x vs v us Q I rx rv h
  obtain⟨l,xs,z,e,j,y,rfl,rfl,hH,hd,hj,hy,hno,q⟩:=h
  cases rx
  obtain⟨u,rfl,ru⟩:=zdg rv
  obtain⟨hz,its,n,r,hl,el⟩:=I.lstM hH
  have h1:=zc1 X.A
  have items:∀b,b∈its.toArray->SeqAt.EqAt X.A.in1 s b u (absE e b):=fun b hb=>by
    obtain⟨x',hx',rz⟩:=zkw r (by simpa using hb)
    rw[zhu rz]
    exact ((hd x' hx').at I rz ru (A:=X.A.in1) (by omega)).1
  have hjl:=(List.getElem?_eq_some_iff.mp hj).1
  have val:∀(m:Nat) (hm:m<its.length) y',xs[m]? = some y'->absE e its[m]=e y':=fun m hm y' h=>by
    obtain⟨w',hw,rw'⟩:=r.get h
    obtain⟨_,ew⟩:=List.getElem?_eq_some_iff.mp hw
    rw[ew]
    exact zhu rw'
  refine call_meets F.slot_list_remove ⟨_,el,rfl⟩ F.entry_list_remove (F.args_list_remove_2 _ _) (zp0 l its.toArray n u (absE e) j (by rw[List.size_toArray];omega) ?_ (fun m hm hlt=>?_) (by rw[List.size_toArray];omega)) ⟨el,items,?_⟩
  · rw[List.getElem_toArray,val j (by omega) y hj,hy]
  · rw[List.size_toArray] at hm
    rw[List.getElem_toArray,val m hm _ (List.getElem?_eq_getElem (by omega))]
    exact hno m _ hlt (List.getElem?_eq_getElem (by omega))
  refine⟨.non,_,I.lset (its':=its.eraseIdx j) hH el ?_ (r.eraseIdx j) ?_,rfl,q⟩
  · show its.toArray.eraseIdxIfInBounds j=(its.eraseIdx j).toArray
    rw[List.eraseIdxIfInBounds_toArray]
  · have:=zff xs j
    omega
end
structure CompScopeK (scope osc:Scope) (cap:List Str):Prop where
  kind:scope.kind = .function
  nd:(scope.names.map (·.1)).Nodup
  loc:∀y∈scope.names,y.2 = .local->scope.names.lookup y.1=some .local
  free:∀y∈scope.names,y.2 = .free->osc.names.lookup y.1=some .cell\/osc.names.lookup y.1=some .free
  cap:∀x∈cap,scope.names.lookup x=some .free
def newC (scope:Scope) (C:Addr):List (Str×Addr):=cellsFrom (C+1) scope.names []
def cxK (X:Cx) (N:List Str) (scope:Scope) (C:Addr) (s:Shared) (H:Hp) (ex:List Addr):Cx where
  prog:=X.prog
  w:=X.w
  K:=X.K
  mg:=X.mg
  base:=X.base
  A:=X.A
  N:=N
  s₀:=s
  H₀:=H
  env:=compEnvC scope (newC scope C++zbg X.env.cells scope.names []) C X.env
  outer:=X.stack
  stack:=X.stack
  ex:=ex
  fn:=fun x=>scope.names.lookup x == some .cell
  calm:=X.calm
  pn:=[]
  xe:=fun _ _=>False
theorem zda:∀(names:List (Str×NameKind)) (n:Nat) (acc:List (Str×Addr)),cellsFrom n names acc=cellsFrom n names []++acc
  | [],_,_=>rfl
  | (x,k)::r,n,acc=>by
    unfold cellsFrom
    split
    · rw[zda r (n+1) ((x,n)::acc),zda r (n+1) [(x,n)],List.append_assoc]
      rfl
    · exact zda r n acc
theorem zfx:∀(names:List (Str×NameKind)) (n:Nat) (x:Str) (c:Addr),(x,c)∈cellsFrom n names []->(x,NameKind.cell)∈names
  | [],_,_,_,h=>by cases h
  | (y,k)::r,n,x,c,h=>by
    unfold cellsFrom at h
    split at h
    · rename_i hk
      rw[zda] at h
      rcases List.mem_append.mp h with h | h
      · exact List.mem_cons_of_mem _ (zfx r _ x c h)
      · have e:(x,c)=(y,n):=by simpa using h
        have hk:k = .cell:=by simpa using hk
        cases e
        rw[hk]
        exact List.mem_cons_self ..
    · exact List.mem_cons_of_mem _ (zfx r _ x c h)
theorem zme {α:Type}{l m:List (Str×α)}{x:Str}{c:α}(h:(l++m).lookup x=some c):l.lookup x=some c\/(l.lookup x=none/\m.lookup x=some c):=by
  induction l with
  | nil=>exact .inr ⟨rfl,h⟩
  | cons p r ih=>
    obtain⟨y,d⟩:=p
    by_cases e:x=y
    · subst e
      left
      rw[List.cons_append] at h
      simpa using h
    · rw[List.cons_append,zaq e] at h
      rw[zaq e]
      exact ih h
theorem zjw {α:Type}{l m:List (Str×α)}{x:Str}(h:l.lookup x=none):(l++m).lookup x=m.lookup x:=by
  induction l with
  | nil=>rfl
  | cons p r ih=>
    obtain⟨y,d⟩:=p
    by_cases e:x=y
    · subst e;simp at h
    · rw[zaq e] at h
      rw[List.cons_append,zaq e]
      exact ih h
theorem zjx {α:Type}{l m:List (Str×α)}{x:Str}{c:α}(h:l.lookup x=some c):(l++m).lookup x=some c:=by
  induction l with
  | nil=>cases h
  | cons p r ih=>
    obtain⟨y,d⟩:=p
    by_cases e:x=y
    · subst e
      rw[List.cons_append]
      simpa using h
    · rw[zaq e] at h
      rw[List.cons_append,zaq e]
      exact ih h
theorem zm9 {names:List (Str×NameKind)}(nd:(names.map (·.1)).Nodup) {x:Str}{k k':NameKind}(h:(x,k)∈names) (h':(x,k')∈names):k=k':=by
  induction names with
  | nil=>cases h
  | cons p r ih=>
    rw[List.map_cons,List.nodup_cons] at nd
    rcases List.mem_cons.mp h with e | h
    · rcases List.mem_cons.mp h' with e' | h'
      · rw[←e] at e'
        exact ((Prod.mk.injEq ..▸e').2).symm
      · exact absurd (List.mem_map.mpr ⟨_,h',by rw[←e]⟩) nd.1
    · rcases List.mem_cons.mp h' with e' | h'
      · exact absurd (List.mem_map.mpr ⟨_,h,by rw[←e']⟩) nd.1
      · exact ih nd.2 h h'
theorem zk9 {X:Cx}{pins:List (Addr×Obj)}{σ:St}{H:Hp}{s:Shared}{scope:Scope}{cap:List Str}(I:Inv X pins σ H s) (S:CompScopeK scope X.env.scope cap) :
    closureFor scope X.env=pure (zbg X.env.cells scope.names []):=
  zcu fun x hx hf=>I.ok.has x.1 (S.free x hx hf)
theorem zp6 {X:Cx}{pins:List (Addr×Obj)}{σ:St}{H:Hp}{s:Shared}{scope:Scope}{own cap:List Str}{ix:List Nat}{fp:List Addr}{h₁:Heap}{m:Str->Option Value}{tk:Nat}
    (I:Inv X pins σ H s) (S:CompScopeK scope X.env.scope cap) (hix:ix.map (fun i=>X.N[i]?)=cap.map some) (hf:∀b∈fp,FpOk X pins H b) (hlt:∀b∈fp,b<s.heap.objs.size)
    (hn:h₁.Ns s.heap.objs.size m) (hk:∀b o,s.heap.get? b=some o->h₁.get? b=some o) (hc:CellsOk h₁ (s.heap.objs.size+1) (newC scope s.heap.objs.size)) :
    Inv (cxK X (own++cap) scope s.heap.objs.size s H fp) [] (st0 own ix σ) H { s with heap:=h₁,toks:=tk }:=by
  have sub:∀y d,(zbg X.env.cells scope.names []).lookup y=some d->X.env.cells.lookup y=some d:=zci _ _ _ (fun y d h=>by cases h)
  have has:∀y c,(y,NameKind.free)∈scope.names->X.env.cells.lookup y=some c->(zbg X.env.cells scope.names []).lookup y=some c:=fun y c hy hc=>zd6 _ hc _ _ (fun y d h=>by cases h) (.inl hy)
  have two:∀y d,(newC scope s.heap.objs.size++zbg X.env.cells scope.names []).lookup y=some d->((y,d)∈newC scope s.heap.objs.size/\s.heap.objs.size<d)\/(X.env.cells.lookup y=some d/\d<s.heap.objs.size):=fun y d h=>by
    rcases zme h with h | ⟨_,h⟩
    · have hm:=PySem.mem_of_lookup h
      exact .inl ⟨hm,(hc.empty _ _ hm).2⟩
    · have h:=sub _ _ h
      obtain⟨v,o,ho,_⟩:=I.cell y d h
      exact .inr ⟨h,Heap.lt_size ho⟩
  have hlen:ix.length=cap.length:=by
    have:=congrArg List.length hix
    simpa using this
  refine⟨⟨I.mod,S.kind,I.ok.glob,I.ok.blt,Nat.le_refl _,fun x y c e1 e2=>?_,fun x hx=>?_,fun x c z e=>?_,I.ok.hd,I.ok.frames,.inl rfl,fun b hb=>⟨Nat.ne_of_lt (hlt b hb),fun x c e=>?_⟩,I.bs,
      Nat.le_trans I.ok.bsz I.sz,fun b o e hb=>?_,fun b hb z=>?_,I.stack,I.stkFree⟩,rfl,I.bare,Un.kept hk,⟨m,hn,fun i x v e1 e2 e3=>?_⟩,fun x c e=>?_,I.hok.fresh (Nat.le_refl _),fun x c e=>?_,fun p hp=>absurd (show p∈([]:List (Addr×Obj)) from hp) (by simp),I.hok.kept hk,?_⟩
  · rcases two _ _ e1 with ⟨m1,l1⟩ | ⟨m1,l1⟩
    · rcases two _ _ e2 with ⟨m2,l2⟩ | ⟨m2,l2⟩
      · exact name_of_addr hc.apart m1 m2
      · exact absurd l2 (Nat.lt_asymm l1)
    · rcases two _ _ e2 with ⟨m2,l2⟩ | ⟨m2,l2⟩
      · exact absurd l2 (Nat.lt_asymm l1)
      · exact I.ok.inj x y c m1 m2
  · have e:=zbp X.env x scope.names
    have e':(relabel scope X.env).names.lookup x=_:=e
    have hx':(relabel scope X.env).names.lookup x=some .cell\/(relabel scope X.env).names.lookup x=some .free:=hx
    show ∃c,(newC scope s.heap.objs.size++zbg X.env.cells scope.names []).lookup x=some c
    cases q:(newC scope s.heap.objs.size).lookup x with
    | some c=>exact⟨c,zjx q⟩
    | none=>
      rw[zjw q]
      cases q2:scope.names.lookup x with
      | none=>
        rw[q2] at e'
        rw[e'] at hx'
        rcases hx' with h | h<;>cases h
      | some kd=>
        rw[q2] at e'
        have mm:=PySem.mem_of_lookup q2
        cases kd with
        | free=>
          obtain⟨c,hc⟩:=I.ok.has x (S.free _ mm rfl)
          exact⟨c,has x c mm hc⟩
        | cell=>
          have:=PySem.W.cellsFrom_some (n:=s.heap.objs.size+1) (names:=scope.names) (acc:=[]) (x:=x) (.inl q2)
          unfold newC at q
          rw[q] at this
          cases this
        | _=>
          rw[e'] at hx'
          rcases hx' with h | h<;>cases h
  · have q2:scope.names.lookup x=some .cell:=by simpa[cxK] using z
    rcases two _ _ e with ⟨m1,l1⟩ | ⟨m1,l1⟩
    · exact Nat.le_of_lt l1
    · have hs:=PySem.W.cellsFrom_some (x:=x) scope.names (s.heap.objs.size+1) [] (.inl q2)
      obtain⟨c',hc'⟩:=Option.isSome_iff_exists.mp hs
      have e3:(newC scope s.heap.objs.size++zbg X.env.cells scope.names []).lookup x=some c':=zjx hc'
      have e4:(newC scope s.heap.objs.size++zbg X.env.cells scope.names []).lookup x=some c:=e
      rw[e3] at e4
      cases e4
      have:=(hc.empty _ _ (PySem.mem_of_lookup hc')).2
      exact absurd l1 (Nat.not_lt.mpr (Nat.le_of_succ_le this))
  · rcases two _ _ e with ⟨m1,l1⟩ | ⟨m1,l1⟩
    · have:=hlt b hb
      exact fun z=>absurd (z▸l1) (Nat.lt_asymm this)
    · exact (hf b hb).2.2.2.2.1 x c m1
  · obtain⟨f0,f1,f2,f3,f4,f5⟩:=hf b hb
    rcases f3 with z | z
    · exact I.ok.noex b o e z
    · exact absurd (Nat.lt_of_lt_of_le (Nat.lt_of_lt_of_le (Heap.lt_size e) I.ok.bsz) z) (Nat.lt_irrefl _)
  · obtain⟨f0,f1,f2,f3,f4,f5⟩:=hf b hb
    rcases List.mem_cons.mp (I.stkSub b z) with z | z
    · exact f1 z
    · exact f2 z
  · have e1:(own++cap)[i]? = some x:=e1
    unfold st0 at e2
    by_cases hi:i<own.length
    · rw[List.getElem?_append_left (by simpa using hi),List.getElem?_map] at e2
      cases q:own[i]? with
      | none=>rw[q] at e2;cases e2
      | some y=>rw[q] at e2;cases e2
    · rw[List.getElem?_append_right (by simpa using hi)] at e1
      rw[List.getElem?_append_right (by simpa using hi),List.length_map,List.getElem?_map] at e2
      generalize i-own.length=j at e1 e2
      cases q:ix[j]? with
      | none=>rw[q] at e2;cases e2
      | some k=>
        rw[q] at e2
        have e2:(σ[k]?).join=some v:=Option.some.inj e2
        have eσ:σ[k]? = some (some v):=by
          cases q2:σ[k]? with
          | none=>rw[q2] at e2;cases e2
          | some o=>rw[q2] at e2;exact congrArg some e2
        have eN:X.N[k]? = some x:=by
          have:=congrArg (fun l=>l[j]?) hix
          simp only [List.getElem?_map,q,e1,Option.map_some] at this
          exact Option.some.inj this
        have hfr:=S.cap x (List.mem_of_getElem? e1)
        have hmem:=PySem.mem_of_lookup hfr
        have hout:=S.free _ hmem rfl
        have hnew:(newC scope s.heap.objs.size).lookup x=none:=by
          cases q3:(newC scope s.heap.objs.size).lookup x with
          | none=>rfl
          | some c=>
            have:=zm9 S.nd (zfx _ _ _ _ (PySem.mem_of_lookup q3)) hmem
            cases this
        obtain⟨m0,hn0,hl⟩:=I.loc
        obtain⟨u,r,l⟩:=hl k x v eN eσ (.inr hout)
        rcases l with ⟨kd,_⟩ | ⟨kd,c,e,z⟩
        · have kd:X.env.scope.names.lookup x=some .local:=kd
          rcases hout with ho | ho<;>(have ho:X.env.scope.names.lookup x=_:=ho;rw[kd] at ho;cases ho)
        · exact⟨u,r,.inr ⟨zc0 hfr,c,(zjw hnew).trans (has x c hmem e),z.keeps hk⟩⟩
  · rcases two _ _ e with ⟨m1,l1⟩ | ⟨m1,l1⟩
    · exact⟨none,(hc.empty _ _ m1).1⟩
    · obtain⟨v,q⟩:=I.cell x c m1
      exact⟨v,q.keeps hk⟩
  · rcases two _ _ e with ⟨m1,l1⟩ | ⟨m1,l1⟩
    · exact I.hok.fresh (Nat.le_of_lt l1)
    · exact I.freeC x c m1
  · show (st0 own ix σ).length=(own++cap).length
    unfold st0
    simp[hlen]
theorem zp7 {X:Cx}{pins:List (Addr×Obj)}{σ σ':St}{H H':Hp}{s s':Shared}{scope:Scope}{N:List Str}{fp:List Addr}{h':Heap}
    (I:Inv X pins σ H s) (hf:∀b∈fp,FpOk X pins H b) (J:Inv (cxK X N scope s.heap.objs.size s H fp) [] σ' H' s') (hs:Heap.SameBut s.heap.objs.size s'.heap h'):Inv X pins σ H' { s' with heap:=h' }:=by
  have ne:∀b o,s.heap.get? b=some o->b≠s.heap.objs.size:=fun b o e=>Nat.ne_of_lt (Heap.lt_size e)
  have B:Un (frs X.stack) fp H H' s.heap s'.heap:=J.base
  refine I.call' (s':={ s' with heap:=h' }) (ch:=fp) J.os ⟨fun b o e n hb hx=>?_,fun b o e n hb hx=>?_,B.free,fun b o e hx=>?_,B.tups,B.frzs,B.tbls⟩ (fun b ob e=>?_) J.bare fun b hb=>?_
  · exact (hs.2 b (ne b o e)).trans (B.keep b o e n hb hx)
  · obtain⟨sl,e1⟩:=B.slot b o e n hb hx
    exact⟨sl,(hs.2 b (ne b o e)).trans e1⟩
  · obtain⟨o',e1⟩:=B.there b o e hx
    exact⟨o',(hs.2 b (ne b o e)).trans e1⟩
  · have fr:H' s.heap.objs.size=none:=J.free
    refine (J.hok b ob e).stay (fun c w' hc q=>(hs.2 c ?_).trans q) (fun _ q=>q) fun _ _ q=>q
    rintro rfl
    rcases hc with hc | hc
    · rw[←hc,fr] at e;cases e
    · rw[fr] at hc;cases hc
  · obtain⟨f0,f1,f2,f3,f4,f5⟩:=hf b hb
    exact⟨f3,f1,f4,f5⟩
theorem zr3 {M:Model}{A:Around}{E:Value->Shared->Prop}{s:Shared}{scope:Scope}{globals:Addr}{cl:List (Str×Addr)}{qual:Str}{outer:Env}{Q:Env->Shared->Prop}
    (h:Q { scope:=scope,locals:=s.heap.objs.size,globals:=globals,cells:=newC scope s.heap.objs.size++cl,qual:=qual,func:=none,code:=outer.code,frame:=outer.frame,builtins:=outer.builtins } { s with heap:=pushCells (s.heap.push { cls:=.type "dict",data:=.dict #[] }) scope.names }) :
    wpAny M A (newFunctionEnv scope globals cl [] qual none .none (some outer)) Q E s:=by
  simp only [newFunctionEnv,Option.isSome_some,if_true]
  refine wpAny_bind (wpAny_alloc ?_)
  refine wpAny_bind (wpAny_layCells _ (fun name kind cells=>by cases hkc:kind == NameKind.cell<;>simp[hkc]) _ _ _ _ ?_)
  rw[show ({ s with heap:=s.heap.push { cls:=.type "dict",data:=.dict #[] } }:Shared).heap.objs.size=s.heap.objs.size+1 from Heap.size_push ..,zda]
  refine wpAny_bind ?_
  rw[List.forIn_nil]
  exact wpAny_pure (wpAny_pure h)
section
variable {X:Cx}{tg iter elt:Expr}{ifs:List Expr}{scope:Scope}{pos:Pos}{own cap:List Str}{ix:List Nat}{wi:TI}{g:TG}{tc:TT}{te:TE}
theorem zp8 {pins:List (Addr×Obj)}{σ:St}{s:Shared}{E:Value->Shared->Prop}{RR:Value->Addr->Result->Shared->Prop}{Q:VK}
    (hc:X.calm=true) (S:CompScopeK scope X.env.scope cap) (hix:ix.map (fun i=>X.N[i]?)=cap.map some)
    (hg:∀C s H ex,PG (cxK X (own++cap) scope C s H ex) tg g) (ht:∀C s H ex,PIf (cxK X (own++cap) scope C s H ex) ifs tc) (he:∀C s H ex,PE (cxK X (own++cap) scope C s H ex) elt te)
    {itv:Value}(h:PIE X pins σ tg (fun J H1=>∀D,H1 D=none->zkv own ix J g tc te σ H1 D Q) itv s)
    (hR:∀(D C:Addr) (s':Shared) (H':Hp) (m:Str->Option Value),s'.heap.Ns C m->FpOk X pins H' C->(∀h',Heap.SameBut C s'.heap h'->Inv X pins σ H' { s' with heap:=h' })->Q (.ref D) H'->RR (.ref D) C (.ok .next) s') :
    wpAny (model X.prog X.w) X.A (newList []) (fun acc s₃=>wpAny (model X.prog X.w) X.A (newFunctionEnv scope X.env.globals (zbg X.env.cells scope.names []) [] X.env.qual none .none (some X.env)) (fun cenv s₄=>
      codeAny (model X.prog X.w) X.A (.compStart (.ListComp elt [⟨tg,iter,ifs,0⟩] scope pos) 0 itv acc { cenv with scope:=relabel scope X.env }) (RR acc cenv.locals) s₄) E s₃) E s:=by
  obtain⟨it,fp,tn,J,H2,rfl,I2,T,st2,f2,q2⟩:=h
  refine wpAny_newObj_type (zr3 ?_)
  dsimp only
  have hD:H2 s.heap.objs.size=none:=I2.hok.fresh (Nat.le_refl _)
  obtain⟨W,⟨m0,w0⟩,turn⟩:=q2 s.heap.objs.size hD
  have I3:Inv X pins σ (upd H2 s.heap.objs.size (.lst [])) { s with heap:=s.heap.push { cls:=.type "list",data:=.seq ([]:List Value).toArray } }:=I2.lnew (t':=s.toks) (its:=[]) .nil (Nat.zero_le _)
  have ltD:∀b∈fp,b<s.heap.objs.size:=fun b hb=>by
    obtain⟨o,e,_⟩:=T.obj 0 _ st2 b hb
    exact Heap.lt_size e
  have f3:∀b∈fp,FpOk X pins (upd H2 s.heap.objs.size (.lst [])) b:=fun b hb=>⟨by rw[zn (Nat.ne_of_lt (ltD b hb))];exact (f2 b hb).1,(f2 b hb).2⟩
  generalize hH:s.heap.push { cls:=.type "list",data:=.seq ([]:List Value).toArray } = H3 at I3 ⊢
  have sz:H3.objs.size=s.heap.objs.size+1:=by rw[←hH,Heap.size_push]
  obtain⟨h₁,eh₁⟩:∃h₁,h₁=pushCells (H3.push { cls:=.type "dict",data:=.dict #[] }) scope.names:=⟨_,rfl⟩
  have hns₁:h₁.Ns H3.objs.size (fun _=>none):=by rw[eh₁];exact (Heap.Ns.new H3 (.type "dict")).keeps (pushCells_keeps _ _)
  have up:∀b o,H3.get? b=some o->h₁.get? b=some o:=fun b o e=>by rw[eh₁];exact pushCells_keeps _ _ b o (Heap.get?_push_of_some _ e)
  have hcok:CellsOk h₁ (H3.objs.size+1) (newC scope H3.objs.size):=by
    have ok:=cellsFrom_ok scope.names (H3.push { cls:=.type "dict",data:=.dict #[] }) (H3.objs.size+1) [] ⟨fun _ _ hm=>(nomatch hm),List.Pairwise.nil⟩ (by rw[Heap.size_push];exact Nat.le_refl _)
    rw[Heap.size_push] at ok
    rw[eh₁]
    exact ok
  rw[←eh₁]
  have old:∀b o,s.heap.get? b=some o->h₁.get? b=some o:=fun b o e=>up b o (by rw[←hH];exact Heap.get?_push_of_some _ e)
  have lt3:∀b∈fp,b<({ s with heap:=H3 }:Shared).heap.objs.size:=fun b hb=>by show b<H3.objs.size;rw[sz];exact Nat.lt_succ_of_lt (ltD b hb)
  have cellne:∀b∈fp,∀x c,(newC scope H3.objs.size++zbg X.env.cells scope.names []).lookup x=some c->c≠b:=fun b hb x c e=>by
    rcases zme e with e | ⟨_,e⟩
    · have l1:=(hcok.empty _ _ (PySem.mem_of_lookup e)).2
      have l2:b<H3.objs.size:=lt3 b hb
      exact fun z=>absurd (Nat.lt_of_lt_of_le (Nat.lt_succ_self _) (z▸l1)) (Nat.lt_asymm l2)
    · exact (f2 b hb).2.2.2.2.1 x c (zci _ _ _ (fun y d h=>by cases h) _ _ e)
  have st4:tn 0 h₁:=T.keep _ _ _ st2 fun b _ o e=>old b o e
  have stat:∀{H':Hp},(∀b∈fp,H' b=none)->∀b∈fp,FpOk (cxK X (own++cap) scope H3.objs.size { s with heap:=H3 } (upd H2 s.heap.objs.size (.lst [])) fp) [] H' b:=fun hn b hb=>
    ⟨hn b hb,Nat.ne_of_lt (lt3 b hb),fun z=>(List.mem_cons.mp (I3.stkSub b z)).elim (f2 b hb).2.1 (f2 b hb).2.2.1,.inl hb,fun x c e=>cellne b hb x c e,fun p hp=>absurd (show p∈([]:List (Addr×Obj)) from hp) (by simp)⟩
  have loop:∀s₄:Shared,s₄ = { s with heap:=h₁,toks:=s.toks+([]:List (Str×Value)).length }->
      codeAny (model X.prog X.w) X.A (.compLoop (.ListComp elt [⟨tg,iter,ifs,0⟩] scope pos) 0 (.ref it) (.ref s.heap.objs.size) (compEnvC scope (newC scope H3.objs.size++zbg X.env.cells scope.names []) H3.objs.size X.env))
        (RR (.ref s.heap.objs.size) H3.objs.size) s₄:=by
    rintro s₄ rfl
    have I4:=zp6 (own:=own) (fp:=fp) (tk:=s.toks+([]:List (Str×Value)).length) I3 S hix f3 lt3 hns₁ up hcok
    refine zb3 (fun n s'=>∃i σ' ys H',Inv (cxK X (own++cap) scope H3.objs.size { s with heap:=H3 } (upd H2 s.heap.objs.size (.lst [])) fp) [] σ' H' s'/\tn i s'.heap/\(∀b∈fp,H' b=none)/\W i n σ' ys H') ?_ m0
      ⟨0,_,[],_,I4,st4,fun b hb=>(f3 b hb).1,w0⟩
    rintro n s5 ⟨i,σ5,ys,H5,I5,st5,fr5,w5⟩
    obtain⟨hD5,turn5⟩:=turn i n σ5 ys H5 w5
    rcases turn5 with ⟨stop,q⟩ | ⟨go,hz,step⟩
    · refine thn (T.done (cxK X (own++cap) scope H3.objs.size { s with heap:=H3 } (upd H2 s.heap.objs.size (.lst [])) fp) rfl rfl rfl hc i [] s5 σ5 H5 _ I5 (stat fr5) st5 stop) fun r s6 hq0=>?_
      obtain⟨hr,I6⟩:=hq0
      subst hr
      obtain⟨m6,hn6,_⟩:=I6.loc
      exact hR _ _ s6 H5 m6 hn6 (I3.fpOk (Nat.le_refl _) I6.free) (fun h' hs=>zp7 I3 f3 I6 hs) q
    · refine thn (T.item (cxK X (own++cap) scope H3.objs.size { s with heap:=H3 } (upd H2 s.heap.objs.size (.lst [])) fp) rfl rfl rfl hc i [] s5 σ5 H5 _ I5 (stat fr5) st5 go) fun r s6 hq0=>?_
      obtain⟨u,hr,h6⟩:=hq0
      subst hr
      refine thn h6 fun _ s7 hq0=>?_
      obtain⟨x,H7,I7,r7,y7,st7,fr7⟩:=hq0
      have I7':=I7.pinned (stat fr7) (T.obj _ _ st7)
      refine wpAny_mono (hg _ _ _ _ _ s7 σ5 H7 x u _ I7' r7 (step x H7 y7)) (fun _ s8 hq0=>?_) fun _ _ z=>False.elim z
      obtain⟨σ8,H8,I8,q8⟩:=hq0
      refine wpAny_mono (ht _ _ _ _ _ s8 σ8 H8 _ I8 q8) (fun ok s9 hq0=>?_) fun _ _ z=>False.elim z
      obtain⟨H9,I9,q9⟩:=hq0
      have again:∀{s':Shared}{σ':St}{H':Hp}{ys':List V}{m':Nat},Inv (cxK X (own++cap) scope H3.objs.size { s with heap:=H3 } (upd H2 s.heap.objs.size (.lst [])) fp) ([]++zg4 fp s7.heap) σ' H' s'->m'<n->W (i+1) m' σ' ys' H'->
          ∃m,m<n/\∃i σ' ys H',Inv (cxK X (own++cap) scope H3.objs.size { s with heap:=H3 } (upd H2 s.heap.objs.size (.lst [])) fp) [] σ' H' s'/\tn i s'.heap/\(∀b∈fp,H' b=none)/\W i m σ' ys H':=fun {s' σ' H' ys' m'} I' hm w'=>by
        refine⟨m',hm,i+1,σ',ys',H',I'.unpinned,T.keep _ _ _ st7 fun b hb o e=>(I'.pin (b,o) (List.mem_append_right _ (List.mem_append_right _ (zb5 hb e)))).1,fun b hb=>?_,w'⟩
        obtain⟨o,e,d⟩:=T.obj _ _ st7 b hb
        exact (I'.pin (b,o) (List.mem_append_right _ (List.mem_append_right _ (zb5 hb e)))).2.1
      cases ok with
      | false=>
        rw[if_neg Bool.false_ne_true] at q9 ⊢
        obtain⟨_,m',hm,w'⟩:=q9
        exact again I9 hm w'
      | true=>
        rw[if_pos rfl] at q9 ⊢
        refine wpAny_mono (he _ _ _ _ _ s9 σ8 H9 _ I9 q9) (fun v s10 hq0=>?_) fun _ _ z=>False.elim z
        obtain⟨y,H10,I10,r10,hD10,m',hm,w'⟩:=hq0
        refine wpAny_mono (zbu (X:=cxK X (own++cap) scope H3.objs.size { s with heap:=H3 } (upd H2 s.heap.objs.size (.lst [])) fp) _ s10 σ8 H10 (.ref s.heap.objs.size) [y] (.ref s.heap.objs.size) [v] (fun _ H'=>H'=upd H10 s.heap.objs.size (.lst (ys++[y]))) I10 rfl (.cons r10 .nil) ⟨_,ys,y,rfl,rfl,hD10,hz,rfl⟩)
          (fun _ s11 ⟨_,H11,I11,_,e11⟩=>?_) fun _ _ z=>False.elim z
        subst e11
        exact again I11 hm w'
  exact codeAny_compStart_list (loop _ rfl) (T.self _ 0 _ _ _ st4 (loop _ rfl))
theorem zr4 {osc:Scope}(hc:X.calm=true) (S':CompScopeK scope osc cap) (hix:ix.map (fun i=>X.N[i]?)=cap.map some) (hi:PI X tg iter wi)
    (hg:∀C s H ex,PG (cxK X (own++cap) scope C s H ex) tg g) (ht:∀C s H ex,PIf (cxK X (own++cap) scope C s H ex) ifs tc) (he:∀C s H ex,PE (cxK X (own++cap) scope C s H ex) elt te)
    (hs:∀x,foldedSetIterable iter X.env x=pure x:=by intro _;rfl) (ho:X.env.scope=osc:=by rfl):PE X (.ListComp elt [⟨tg,iter,ifs,0⟩] scope pos) (zrf own ix wi g tc te):=by
  have S:CompScopeK scope X.env.scope cap:=ho▸S'
  intro pins s σ H Q I h
  rw[eval_ListComp]
  refine wpAny_comprehension_free (use:=none) rfl hs (zk9 I S) S.kind S.loc (thn (hi pins s σ H _ I h) fun xv s₁ h₁=>thn h₁ fun itv s₂ h₂=>?_)
  refine zp8 (RR:=fun acc C=>compPost (model X.prog X.w) X.A X.xe none (EP X pins σ Q) acc C) hc S hix hg ht he h₂ fun D C s' H' m hn _ hI q=>?_
  exact⟨m,hn,fun h' hs'=>⟨.ref D,H',hI h' hs',rfl,q⟩⟩
theorem zla {osc:Scope}{env:Env}{x:Str}(h:osc.names.lookup x=some .cell\/osc.names.lookup x=some .free):(relabel osc env).names.lookup x=some .cell\/(relabel osc env).names.lookup x=some .free:=by
  rcases h with h | h
  · have e:=zbp env x osc.names
    rw[h] at e
    have e':(relabel osc env).names.lookup x=_:=e
    rw[e']
    exact .inl rfl
  · exact zc0 h
theorem zr5 {osc:Scope}(hc:X.calm=true) (S':CompScopeK scope osc cap) (hix:ix.map (fun i=>X.N[i]?)=cap.map some) (hi:PI X tg iter wi)
    (hg:∀C s H ex,PG (cxK X (own++cap) scope C s H ex) tg g) (ht:∀C s H ex,PIf (cxK X (own++cap) scope C s H ex) ifs tc) (he:∀C s H ex,PE (cxK X (own++cap) scope C s H ex) elt te)
    (hs:∀x,foldedSetIterable iter X.env x=pure x:=by intro _;rfl) (ho:∃e,X.env.scope=relabel osc e:=by exact⟨_,rfl⟩):PE X (.ListComp elt [⟨tg,iter,ifs,0⟩] scope pos) (zrf own ix wi g tc te):=by
  obtain⟨e,ho⟩:=ho
  exact zr4 hc ⟨S'.kind,S'.nd,S'.loc,fun y hy hf=>by rw[ho];exact zla (S'.free y hy hf),S'.cap⟩ hix hi hg ht he hs rfl
end
def zw3 (st:Stmt) (i:Nat):Scope:=
  match (zam st).getD i (.Pass ⟨0,0,0,0⟩) with
  | .Return (some (.ListComp _ _ sc _)) _=>sc
  | .Assign _ (.ListComp _ _ sc _) _=>sc
  | _=>zj st
end L2
namespace Dm
open PySem PySem.NumText L2
structure Dg where
  p:Addr
  pm:Addr
  pg:Addr
  du:Addr
  dt:Addr
  df:Addr
  lo:Int
  hi:Int
structure Lw where
  ps:Addr
  pu:Addr
  pt:Addr
  pf:Addr
def DAp (a b:Dg):Prop:=a.du≠b.du/\a.du≠b.df/\a.df≠b.du/\a.df≠b.df/\a.dt≠b.dt
def LAp (a b:Lw):Prop:=(a.pu≠b.pu/\a.pu≠b.pt/\a.pu≠b.pf)/\(a.pt≠b.pu/\a.pt≠b.pt/\a.pt≠b.pf)/\(a.pf≠b.pu/\a.pf≠b.pt/\a.pf≠b.pf)
theorem DAp.symm {a b:Dg}(h:DAp a b):DAp b a:=⟨h.1.symm,h.2.2.1.symm,h.2.1.symm,h.2.2.2.1.symm,h.2.2.2.2.symm⟩
theorem LAp.symm {a b:Lw}(h:LAp a b):LAp b a:=by
  obtain⟨⟨a1,a2,a3⟩,⟨b1,b2,b3⟩,c1,c2,c3⟩:=h
  exact⟨⟨a1.symm,b1.symm,c1.symm⟩,⟨a2.symm,b2.symm,c2.symm⟩,a3.symm,b3.symm,c3.symm⟩
theorem zr6 (x:Str):zbo (co x)=x:=zc2 (by rw[zas])
structure PassLn (y:Str):Prop where
  pass:zpi (zph y)=true
  feed:10 ∉ co y
  len:y.length<=900
instance (y:Str):Decidable (PassLn y):=decidable_of_iff (zpi (zph y)=true/\10 ∉ co y/\y.length<=900) ⟨fun h=>⟨h.1,h.2.1,h.2.2⟩,fun h=>⟨h.pass,h.feed,h.len⟩⟩
inductive Say where
  | deed (d:Deed)
  | dig (lo hi:Int)
  | tell
def sayW:Say->List V
  | .deed (.unit x)=>[.str "unit",.str x]
  | .deed (.drop x)=>[.str "drop",.str x]
  | .deed (.tie t)=>tieV t
  | .deed (.untie t)=>.str "untie" :: tieV t
  | .deed (.find f)=>.str "find" :: fndV f
  | .deed (.move n x)=>[.str "move",.str n,.str x]
  | .deed (.lose n)=>[.str "lose",.str n]
  | .dig lo hi=>[.str "dig",.int lo,.int hi]
  | .tell=>[.str "tell"]
def sayT (s:Say):Str:=zba (sayW s)
inductive SayAt (H:Hp) (p:Addr):Say->Prop
  | unit {x:Str}(e:H p=some (.tup [.str "unit",.str x])):SayAt H p (.deed (.unit x))
  | drop {x:Str}(e:H p=some (.tup [.str "drop",.str x])):SayAt H p (.deed (.drop x))
  | tie {t:Tie}(e:H p=some (.tup (tieV t))):SayAt H p (.deed (.tie t))
  | untie {t:Tie}{a:Addr}(e:H p=some (.tup [.str "untie",.ref a])) (ea:H a=some (.tup (tieV t))):SayAt H p (.deed (.untie t))
  | find {f:Fnd}(e:H p=some (.tup (.str "find" :: fndV f))):SayAt H p (.deed (.find f))
  | move {n x:Str}(e:H p=some (.tup [.str "move",.str n,.str x])):SayAt H p (.deed (.move n x))
  | lose {n:Str}(e:H p=some (.tup [.str "lose",.str n])):SayAt H p (.deed (.lose n))
  | dig {lo hi:Int}(e:H p=some (.tup [.str "dig",.int lo,.int hi])):SayAt H p (.dig lo hi)
  | tell (e:H p=some (.tup [.str "tell"])):SayAt H p .tell
inductive SayOk:Say->Prop
  | unit {x:Str}(h:za4 x=true):SayOk (.deed (.unit x))
  | drop {x:Str}(h:za4 x=true):SayOk (.deed (.drop x))
  | tie {t:Tie}(h:RowOk (tieV t)):SayOk (.deed (.tie t))
  | untie {t:Tie}(h:RowOk (tieV t)):SayOk (.deed (.untie t))
  | find {f:Fnd}(h:RowOk (.str "find" :: fndV f)):SayOk (.deed (.find f))
  | move {n x:Str}(h1:za4 n=true) (h2:za4 x=true):SayOk (.deed (.move n x))
  | lose {n:Str}(h:za4 n=true):SayOk (.deed (.lose n))
  | dig {lo hi:Int}(h:RowOk [.str "dig",.int lo,.int hi]):SayOk (.dig lo hi)
  | tell:SayOk .tell
def zjy (v:V):Prop:=32 ∉ co (za2 v)/\10 ∉ co (za2 v)/\Wd v
theorem zb7 {x:Str}(h:za4 x=true):zjy (.str x):=⟨fun z=>((zbl h).1 32 z).1 rfl,fun z=>((zbl h).1 10 z).2.1 rfl,.inl ⟨x,rfl,by
  unfold za4 at h
  simp only [Bool.and_eq_true,decide_eq_true_eq] at h
  omega⟩⟩
theorem zck {x:Str}(h:32 ∉ co x/\10 ∉ co x/\x.length<=100):zjy (.str x):=⟨h.1,h.2.1,.inl ⟨x,rfl,h.2.2⟩⟩
theorem zd0 {ws:List V}(h:RowOk ws) (hw:∀v∈ws,Wd v):∀v∈ws,zjy v:=fun v hv=>⟨fun z=>((h.signs v hv).1 32 z).1 rfl,fun z=>((h.signs v hv).1 10 z).2.1 rfl,hw v hv⟩
theorem RowOk.wd {ws:List V}(h:RowOk ws):∀v∈ws,Wd v:=by
  have F:∀x∈zl8,x.length<=100:=by decide +kernel
  have nm:∀{x:Str},za4 x=true->Wd (.str x):=fun h=>(zb7 h).2.2
  cases h with
  | dig hl h1 h2=>
    intro v hv
    simp only [List.mem_cons,List.not_mem_nil,or_false] at hv
    rcases hv with rfl | rfl | rfl
    · exact .inl ⟨_,rfl,by decide +kernel⟩
    · exact .inr ⟨_,rfl,h1⟩
    · exact .inr ⟨_,rfl,h2⟩
  | unit hx=>
    intro v hv
    simp only [List.mem_cons,List.not_mem_nil,or_false] at hv
    rcases hv with rfl | rfl
    · exact .inl ⟨_,rfl,by decide +kernel⟩
    · exact nm hx
  | plain hk hx hy=>
    intro v hv
    simp only [List.mem_cons,List.not_mem_nil,or_false] at hv
    rcases hv with rfl | rfl | rfl
    · exact .inl ⟨_,rfl,F _ (zei _ hk)⟩
    · exact nm hx
    · exact nm hy
  | after hx hy h0 h1=>
    intro v hv
    simp only [List.mem_cons,List.not_mem_nil,or_false] at hv
    rcases hv with rfl | rfl | rfl | rfl
    · exact .inl ⟨_,rfl,by decide +kernel⟩
    · exact nm hx
    · exact nm hy
    · exact .inr ⟨_,rfl,h1⟩
  | find hn hx hl h1 h2=>
    intro v hv
    simp only [List.mem_cons,List.not_mem_nil,or_false] at hv
    rcases hv with rfl | rfl | rfl | rfl | rfl
    · exact .inl ⟨_,rfl,by decide +kernel⟩
    · exact nm hn
    · exact nm hx
    · exact .inr ⟨_,rfl,h1⟩
    · exact .inr ⟨_,rfl,h2⟩
theorem SayOk.plain {s:Say}(h:SayOk s):sayW s≠[]/\(sayW s).length<=6/\∀v∈sayW s,zjy v:=by
  have L:∀{t:Tie},(tieV t).length<=4:=fun {t}=>by
    unfold tieV
    cases t.g<;>simp
  cases h with
  | unit h=>
    refine⟨List.cons_ne_nil _ _,by show 2<=6;decide,fun v hv=>?_⟩
    rcases List.mem_cons.mp hv with rfl | hv
    · exact zck (by decide +kernel)
    · rw[List.mem_singleton.mp hv];exact zb7 h
  | drop h=>
    refine⟨List.cons_ne_nil _ _,by show 2<=6;decide,fun v hv=>?_⟩
    rcases List.mem_cons.mp hv with rfl | hv
    · exact zck (by decide +kernel)
    · rw[List.mem_singleton.mp hv];exact zb7 h
  | @tie t h=>exact⟨h.ne,Nat.le_trans (L (t:=t)) (by decide),zd0 h h.wd⟩
  | @untie t h=>
    refine⟨List.cons_ne_nil _ _,Nat.succ_le_succ (Nat.le_trans (L (t:=t)) (by decide)),fun v hv=>?_⟩
    rcases List.mem_cons.mp hv with rfl | hv
    · exact zck (by decide +kernel)
    · exact zd0 h h.wd v hv
  | find h=>exact⟨h.ne,by show 5<=6;decide,zd0 h h.wd⟩
  | move h1 h2=>
    refine⟨List.cons_ne_nil _ _,by show 3<=6;decide,fun v hv=>?_⟩
    rcases List.mem_cons.mp hv with rfl | hv
    · exact zck (by decide +kernel)
    · rcases List.mem_cons.mp hv with rfl | hv
      · exact zb7 h1
      · rw[List.mem_singleton.mp hv];exact zb7 h2
  | lose h=>
    refine⟨List.cons_ne_nil _ _,by show 2<=6;decide,fun v hv=>?_⟩
    rcases List.mem_cons.mp hv with rfl | hv
    · exact zck (by decide +kernel)
    · rw[List.mem_singleton.mp hv];exact zb7 h
  | dig h=>exact⟨h.ne,by show 3<=6;decide,zd0 h h.wd⟩
  | tell=>
    refine⟨List.cons_ne_nil _ _,by decide,fun v hv=>?_⟩
    rw[List.mem_singleton.mp hv]
    exact zck (by decide +kernel)
theorem zfy {ws:List V}(h0:ws≠[]) (h:∀v∈ws,zjy v):Txt.split (zba ws) " " = ws.map za2:=by
  have:=zk5 (c:=32) (ls:=ws.map fun v=>co (za2 v)) (by simpa using h0) (fun x hx=>by
    obtain⟨v,hv,rfl⟩:=List.mem_map.mp hx
    exact (h v hv).1)
  rw[←zpg,List.map_map] at this
  refine this.trans (List.map_congr_left fun v _=>zr6 _)
theorem SayOk.len {s:Say}(h:SayOk s):(sayT s).length<=606:=by
  unfold sayT
  rw[zc7]
  exact zc6 (fun v hv=>(h.plain.2.2 v hv).2.2) h.plain.2.1
structure DeskAt (CK C:Addr) (H:Hp) (k pd pm du dt df:Addr) (lo hi:Int) (s:SD) (af:List Addr):Prop where
  ob:∃dx,H k=some (.ins CK dx [("dig",.ref pd)])
  dig:DigAt C H pd pm du dt df lo hi s.us s.ts s.fs af
theorem DeskAt.same {CK C:Addr}{H H':Hp}{k pd pm du dt df:Addr}{lo hi:Int}{s:SD}{af:List Addr}(h:DeskAt CK C H k pd pm du dt df lo hi s af) (e:Same H H'):DeskAt CK C H' k pd pm du dt df lo hi s af:=by
  obtain⟨dx,h1⟩:=h.ob
  exact⟨⟨dx,e _ _ h1⟩,h.dig.same e⟩
theorem DigAt.put {C:Addr}{H:Hp}{p pm du dt df:Addr}{lo hi:Int}{us:List Str}{ts:List Tie}{fs:List Fnd}{af:List Addr}(R:DigAt C H p pm du dt df lo hi us ts fs af) {b C' dx:Addr}{gs:List (Str×V)}{o:HO}(n:b≠p) (e:H b=some (.ins C' dx gs)):DigAt C (upd H b o) p pm du dt df lo hi us ts fs af:=by
  obtain⟨dy,h⟩:=R.ob
  have st:∀{c:Addr}{u:HO},H c=some u->(∀d l,u≠.ins C' d l)->upd H b o c=some u:=fun {c u} ec hu=>by
    rw[zn (fun z=>by rw[z,e] at ec;exact hu _ _ (Option.some.inj ec).symm)]
    exact ec
  exact⟨⟨dy,by rw[zn n.symm];exact h⟩,st R.m (fun _ _ z=>nomatch z),st R.u (fun _ _ z=>nomatch z),st R.t (fun _ _ z=>nomatch z),st R.f (fun _ _ z=>nomatch z),R.ft.stay (fun c xs ec=>st ec (fun _ _ z=>nomatch z)),R.nu⟩
theorem zia {lo hi:Int}{s:SD}(h1:zan lo) (h2:zan hi) (ok:DigOk s.us s.ts s.fs) (l1:s.us.length<=100) (l2:s.ts.length<=100) (l3:s.fs.length<=100):TellOk lo hi s.us (s.ts.map tieV) (s.fs.map fndV):=by
  have nl:∀{x:Str},za4 x=true->x.length<=100:=fun {x} h=>by
    unfold za4 at h
    simp only [Bool.and_eq_true,decide_eq_true_eq] at h
    omega
  refine⟨h1,h2,⟨l1,fun x hx=>nl (ok.nm x hx)⟩,⟨by rw[List.length_map];exact l2,fun ws hw=>?_⟩,⟨by rw[List.length_map];exact l3,fun ws hw=>?_⟩⟩
  · obtain⟨t,ht,rfl⟩:=List.mem_map.mp hw
    refine⟨ok.tw _ hw,?_,?_⟩
    · obtain⟨kd,a,b,g⟩:=t
      cases g<;>(unfold tieV;simp)
    · obtain⟨kd,a,b,g⟩:=t
      cases g<;>exact⟨_,_,rfl⟩
  · obtain⟨f,hf,rfl⟩:=List.mem_map.mp hw
    exact⟨(ok.fok f hf).words ok.nm,rfl⟩
theorem zd1 (a:Str) {ws:List V}(h:ws≠[]):zba (.str a::ws)=a++Str.ofString " " ++ zba ws:=by
  apply zc2
  unfold zba zft
  rw[zas,zdj,zdj,zas,zh5,zas]
  cases ws with
  | nil=>exact absurd rfl h
  | cons v r=>rfl
theorem zib (a:Str):zba [.str a]=a:=by
  apply zc2
  unfold zba zft
  rw[zas]
  rfl
structure StAt (K:PySem.W.Frag) (H:Hp) (ps pm pu pt pf:Addr) (xs:List Str) (s:SD) (n:Nat):Prop where
  tup:H ps=some (.tup [.ref pm,.ref pu,.ref pt,.ref pf])
  ls:∃at' ag,LsAt K H pu pt pf s at' ag
  ok:DigOk s.us s.ts s.fs
  sub:∀x∈s.us,x∈xs
  len:s.us.length<=n/\s.ts.length<=n/\s.fs.length<=n
def Kp3 (H H':Hp) (pu pt pf:Addr):Prop:=∀b o,H b=some o->b≠pu->b≠pt->b≠pf->H' b=some o
theorem StAt.same {K:PySem.W.Frag}{H H':Hp}{ps pm pu pt pf:Addr}{xs:List Str}{s:SD}{n:Nat}(h:StAt K H ps pm pu pt pf xs s n) (e:Same H H'):StAt K H' ps pm pu pt pf xs s n:=by
  obtain⟨at',ag,hl⟩:=h.ls
  exact⟨e _ _ h.tup,⟨at',ag,hl.same e⟩,h.ok,h.sub,h.len⟩
theorem StAt.le {K:PySem.W.Frag}{H:Hp}{ps pm pu pt pf:Addr}{xs:List Str}{s:SD}{n m:Nat}(h:StAt K H ps pm pu pt pf xs s n) (e:n<=m):StAt K H ps pm pu pt pf xs s m:=
  ⟨h.tup,h.ls,h.ok,h.sub,Nat.le_trans h.len.1 e,Nat.le_trans h.len.2.1 e,Nat.le_trans h.len.2.2 e⟩
theorem StAt.next {K:PySem.W.Frag}{H H':Hp}{ps pm pu pt pf:Addr}{xs ms:List Str}{s s':SD}{n:Nat}{d:Deed}(h:StAt K H ps pm pu pt pf xs s n) (nm:∀x∈xs,za4 x=true) (hA:After d s s') (hd:DeedOk xs ms d) (ls:∃at' ag,LsAt K H' pu pt pf s' at' ag) (tp:H' ps=some (.tup [.ref pm,.ref pu,.ref pt,.ref pf])):StAt K H' ps pm pu pt pf xs s' (n+1):=by
  obtain⟨a1,a2,a3⟩:=hA.len
  obtain⟨b1,b2,b3⟩:=h.len
  exact⟨tp,ls,After.ok nm hA hd h.ok,After.sub hA hd h.sub,by omega,by omega,by omega⟩
theorem zr7 {us:List Str}{f:Fnd}(h:FOk us f) (hu:∀x∈us,za4 x=true):RowOk (.str "find" :: fndV f):=.find h.n (hu _ h.u) h.le h.lo h.hi
structure DkI (CK C:Addr) (H:Hp) (k:Addr) (A:Dg) (s:SD):Prop where
  desk:∃af,DeskAt CK C H k A.p A.pm A.du A.dt A.df A.lo A.hi s af
  yr:zan A.lo/\zan A.hi
structure SnI (K:PySem.W.Frag) (H:Hp) (A:Dg) (B:Lw) (xs:List Str) (s:SD) (n:Nat):Prop where
  st:StAt K H B.ps A.pg B.pu B.pt B.pf xs s n
  fr:H A.pg=some (.tup [.int A.lo,.int A.hi])
section
variable {CK C:Addr}{K:PySem.W.Frag}{H H':Hp}{k k':Addr}{A A':Dg}{B B':Lw}{xs:List Str}{s s':SD}{n n':Nat}
theorem DkI.same (h:DkI CK C H k A s) (e:Same H H'):DkI CK C H' k A s:=by
  obtain⟨af,d⟩:=h.desk
  exact⟨⟨af,d.same e⟩,h.yr⟩
theorem SnI.same (h:SnI K H A B xs s n) (e:Same H H'):SnI K H' A B xs s n:=⟨h.st.same e,e _ _ h.fr⟩
theorem SnI.le {m:Nat}(h:SnI K H A B xs s n) (e:n<=m):SnI K H A B xs s m:=⟨h.st.le e,h.fr⟩
theorem SnI.keep (h:SnI K H A B xs s n) (tp:∀b ys,H b=some (.tup ys)->H' b=some (.tup ys)) (ku:∀ys,H B.pu=some (.lst ys)->H' B.pu=some (.lst ys)) (kt:∀ys,H B.pt=some (.lst ys)->H' B.pt=some (.lst ys)) (kf:∀ys,H B.pf=some (.lst ys)->H' B.pf=some (.lst ys)):SnI K H' A B xs s n:=by
  obtain⟨at',ag,L⟩:=h.st.ls
  exact⟨⟨tp _ _ h.st.tup,⟨at',ag,ku _ L.u,kt _ L.t,L.tt.stay tp,kf _ L.f,L.ff.stay tp,L.n1,L.n2,L.n3⟩,h.st.ok,h.st.sub,h.st.len⟩,tp _ _ h.fr⟩
theorem zfz {b q:Addr}{o:HO}{ys:List V}(e:H b=some o) (e':H q=some (.lst ys)) (n:∀zs,o≠.lst zs):b≠q:=zgk e e' (fun z=>n _ z)
theorem zb2 {b q:Addr}{o o':HO}(e:H b=some o) (e':H q=some o') (n:o≠o'):b≠q:=fun z=>n (by rw[z,e'] at e;exact (Option.some.inj e).symm)
theorem DkI.kp3 (h:DkI CK C H k A s) (S:SnI K H A' B xs s' n) (kp:Kp3 H H' B.pu B.pt B.pf):DkI CK C H' k A s:=by
  obtain⟨af,⟨dx,e⟩,R⟩:=h.desk
  obtain⟨dy,e1⟩:=R.ob
  obtain⟨at',ag,L⟩:=S.st.ls
  have go:∀b o,H b=some o->(∀zs,o≠.lst zs)->H' b=some o:=fun b o e nz=>kp b o e (zfz e L.u nz) (zfz e L.t nz) (zfz e L.f nz)
  exact⟨⟨af,⟨dx,go _ _ e (fun _ z=>nomatch z)⟩,⟨dy,go _ _ e1 (fun _ z=>nomatch z)⟩,go _ _ R.m (fun _ z=>nomatch z),go _ _ R.u (fun _ z=>nomatch z),go _ _ R.t (fun _ z=>nomatch z),go _ _ R.f (fun _ z=>nomatch z),R.ft.stay (fun _ _ e=>go _ _ e (fun _ z=>nomatch z)),R.nu⟩,h.yr⟩
theorem SnI.tup3 (S:SnI K H A B xs s n) (kp:Kp3 H H' B.pu B.pt B.pf):∀b ys,H b=some (.tup ys)->H' b=some (.tup ys):=by
  obtain⟨at',ag,L⟩:=S.st.ls
  exact fun b ys e=>kp b _ e (zfz e L.u (fun _ z=>nomatch z)) (zfz e L.t (fun _ z=>nomatch z)) (zfz e L.f (fun _ z=>nomatch z))
theorem SnI.kp3 (h:SnI K H A B xs s n) (S:SnI K H A' B' xs s' n') (la:LAp B B') (kp:Kp3 H H' B'.pu B'.pt B'.pf):SnI K H' A B xs s n:=by
  obtain⟨⟨a1,a2,a3⟩,⟨b1,b2,b3⟩,c1,c2,c3⟩:=la
  exact h.keep (S.tup3 kp) (fun _ e=>kp _ _ e a1 a2 a3) (fun _ e=>kp _ _ e b1 b2 b3) (fun _ e=>kp _ _ e c1 c2 c3)
theorem DkI.lst (h:DkI CK C H k A s) {q:Addr}{ws zs:List V}(e:H q=some (.lst ws)):DkI CK C (upd H q (.lst zs)) k A s:=by
  obtain⟨af,⟨dx,e0⟩,R⟩:=h.desk
  exact⟨⟨af,⟨dx,by rw[zn (zfz e0 e (fun _ z=>nomatch z))];exact e0⟩,R.lst e⟩,h.yr⟩
theorem SnI.lst (h:SnI K H A B xs s n) {q:Addr}{ws zs:List V}(e:H q=some (.lst ws)) (n1:q≠B.pu) (n2:q≠B.pt) (n3:q≠B.pf):SnI K (upd H q (.lst zs)) A B xs s n:=
  h.keep (zax e) (fun _ e=>by rw[zn n1.symm];exact e) (fun _ e=>by rw[zn n2.symm];exact e) (fun _ e=>by rw[zn n3.symm];exact e)
theorem DkI.kpD (h:DkI CK C H k A s) (S:DkI CK C H k' A' s') (da:DAp A A') (kp:∀b o,H b=some o->b≠A'.du->b≠A'.dt->b≠A'.df->H' b=some o):DkI CK C H' k A s:=by
  obtain⟨af,⟨dx,e⟩,R⟩:=h.desk
  obtain⟨dy,e1⟩:=R.ob
  obtain⟨_,_,R'⟩:=S.desk
  obtain⟨d1,d2,d3,d4,d5⟩:=da
  have go:∀b o,H b=some o->(∀z,o≠.dK z)->(∀z,o≠.dT z)->H' b=some o:=fun b o e n1 n2=>kp b o e (zb2 e R'.u (n1 _)) (zb2 e R'.t (n2 _)) (zb2 e R'.f (n1 _))
  exact⟨⟨af,⟨dx,go _ _ e (fun _ z=>nomatch z) (fun _ z=>nomatch z)⟩,⟨dy,go _ _ e1 (fun _ z=>nomatch z) (fun _ z=>nomatch z)⟩,go _ _ R.m (fun _ z=>nomatch z) (fun _ z=>nomatch z),kp _ _ R.u d1 (zb2 R.u R'.t (fun z=>nomatch z)) d2,kp _ _ R.t (zb2 R.t R'.u (fun z=>nomatch z)) d5 (zb2 R.t R'.f (fun z=>nomatch z)),kp _ _ R.f d3 (zb2 R.f R'.t (fun z=>nomatch z)) d4,R.ft.stay (fun _ _ e=>go _ _ e (fun _ z=>nomatch z) (fun _ z=>nomatch z)),R.nu⟩,h.yr⟩
theorem DkI.lstD (S:DkI CK C H k' A' s') (kp:∀b o,H b=some o->b≠A'.du->b≠A'.dt->b≠A'.df->H' b=some o):(∀b ys,H b=some (.lst ys)->H' b=some (.lst ys))/\∀b ys,H b=some (.tup ys)->H' b=some (.tup ys):=by
  obtain⟨_,_,R'⟩:=S.desk
  exact⟨fun b ys e=>kp _ _ e (zb2 e R'.u (fun z=>nomatch z)) (zb2 e R'.t (fun z=>nomatch z)) (zb2 e R'.f (fun z=>nomatch z)),fun b ys e=>kp _ _ e (zb2 e R'.u (fun z=>nomatch z)) (zb2 e R'.t (fun z=>nomatch z)) (zb2 e R'.f (fun z=>nomatch z))⟩
theorem DkI.kpO (h:DkI CK C H k A s) (S:DkI CK C H k' A' s') (nk:k≠k') (kp:∀b o,H b=some o->b≠k'->H' b=some o):DkI CK C H' k A s:=by
  obtain⟨af,⟨dx,e⟩,R⟩:=h.desk
  obtain⟨dy,e1⟩:=R.ob
  obtain⟨_,⟨dz,e'⟩,R'⟩:=S.desk
  have go:∀b o,H b=some o->(∀c d l,o≠.ins c d l)->H' b=some o:=fun b o e n1=>kp b o e (zb2 e e' (n1 _ _ _))
  refine⟨⟨af,⟨dx,kp _ _ e nk⟩,⟨dy,kp _ _ e1 (zb2 e1 e' (fun z=>?_))⟩,go _ _ R.m (fun _ _ _ z=>nomatch z),go _ _ R.u (fun _ _ _ z=>nomatch z),go _ _ R.t (fun _ _ _ z=>nomatch z),go _ _ R.f (fun _ _ _ z=>nomatch z),R.ft.stay (fun _ _ e=>go _ _ e (fun _ _ _ z=>nomatch z)),R.nu⟩,h.yr⟩
  injection z with _ _ z
  have:=congrArg List.length z
  exact absurd this (by unfold rfl4;simp)
theorem DkI.lstO (S:DkI CK C H k' A' s') (kp:∀b o,H b=some o->b≠k'->H' b=some o):(∀b ys,H b=some (.lst ys)->H' b=some (.lst ys))/\∀b ys,H b=some (.tup ys)->H' b=some (.tup ys):=by
  obtain⟨_,⟨dz,e'⟩,_⟩:=S.desk
  exact⟨fun b ys e=>kp _ _ e (zb2 e e' (fun z=>nomatch z)),fun b ys e=>kp _ _ e (zb2 e e' (fun z=>nomatch z))⟩
end
def duo (j:Bool) (a b:Addr):List V:=if j then [.ref b,.ref a] else [.ref a,.ref b]
def ixB (j:Bool):Int:=if j then 1 else 0
theorem zf0 (j:Bool) (a b:Addr):atI (duo j a b) (ixB j)=some (.ref a):=by cases j<;>rfl
def Off6 (b:Addr) (B0 B1:Lw):Prop:=(b≠B0.pu/\b≠B0.pt/\b≠B0.pf)/\b≠B1.pu/\b≠B1.pt/\b≠B1.pf
theorem Off6.symm {b:Addr}{B0 B1:Lw}(h:Off6 b B0 B1):Off6 b B1 B0:=⟨h.2,h.1⟩
structure Fx (H:Hp) (j:Bool) (pn pk pdk pst pc k k':Addr) (B B':Lw) (xs ms:List Str) (cs:List Int):Prop where
  n:H pn=some (.lst (xs.map V.str))
  m:H pk=some (.lst (ms.map V.str))
  d:H pdk=some (.lst (duo j k k'))
  s:H pst=some (.lst (duo j B.ps B'.ps))
  c:H pc=some (.lst (cs.map V.int))
  on:Off6 pn B B'
  om:Off6 pk B B'
  od:Off6 pdk B B'
  os:Off6 pst B B'
  oc:Off6 pc B B'
  ns:pst≠pn/\pst≠pk/\pst≠pdk/\pst≠pc
theorem Fx.symm {H:Hp}{j:Bool}{pn pk pdk pst pc k k':Addr}{B B':Lw}{xs ms:List Str}{cs:List Int}(h:Fx H j pn pk pdk pst pc k k' B B' xs ms cs):Fx H (!j) pn pk pdk pst pc k' k B' B xs ms cs:=
  ⟨h.n,h.m,by rw[h.d];cases j<;>rfl,by rw[h.s];cases j<;>rfl,h.c,h.on.symm,h.om.symm,h.od.symm,h.os.symm,h.oc.symm,h.ns⟩
theorem Fx.stay {H H':Hp}{j:Bool}{pn pk pdk pst pc k k':Addr}{B B':Lw}{xs ms:List Str}{cs:List Int}(h:Fx H j pn pk pdk pst pc k k' B B' xs ms cs) (st:∀b ys,H b=some (.lst ys)->H' b=some (.lst ys)):Fx H' j pn pk pdk pst pc k k' B B' xs ms cs:=
  ⟨st _ _ h.n,st _ _ h.m,st _ _ h.d,st _ _ h.s,st _ _ h.c,h.on,h.om,h.od,h.os,h.oc,h.ns⟩
theorem Fx.kp3 {H H':Hp}{j:Bool}{pn pk pdk pst pc k k':Addr}{B B':Lw}{xs ms:List Str}{cs:List Int}(h:Fx H j pn pk pdk pst pc k k' B B' xs ms cs) (kp:Kp3 H H' B.pu B.pt B.pf):Fx H' j pn pk pdk pst pc k k' B B' xs ms cs:=
  have st:∀b ys,H b=some (.lst ys)->Off6 b B B'->H' b=some (.lst ys):=fun b ys e o=>kp _ _ e o.1.1 o.1.2.1 o.1.2.2
  ⟨st _ _ h.n h.on,st _ _ h.m h.om,st _ _ h.d h.od,st _ _ h.s h.os,st _ _ h.c h.oc,h.on,h.om,h.od,h.os,h.oc,h.ns⟩
structure Two (CK C:Addr) (K:PySem.W.Frag) (H:Hp) (j:Bool) (pn pk pdk pst pc k k':Addr) (xs ms:List Str) (cs:List Int) (A A':Dg) (B B':Lw) (s s':SD) (n:Nat):Prop where
  d:DkI CK C H k A s
  t:SnI K H A B xs s n
  d':DkI CK C H k' A' s'
  t':SnI K H A' B' xs s' n
  nk:k≠k'
  da:DAp A A'
  la:LAp B B'
  fx:Fx H j pn pk pdk pst pc k k' B B' xs ms cs
section
variable {CK C:Addr}{K:PySem.W.Frag}{H H':Hp}{j:Bool}{pn pk pdk pst pc k k':Addr}{xs ms:List Str}{cs:List Int}{A A':Dg}{B B':Lw}{s s':SD}{n:Nat}
theorem Two.symm (h:Two CK C K H j pn pk pdk pst pc k k' xs ms cs A A' B B' s s' n):Two CK C K H (!j) pn pk pdk pst pc k' k xs ms cs A' A B' B s' s n:=
  ⟨h.d',h.t',h.d,h.t,h.nk.symm,h.da.symm,h.la.symm,h.fx.symm⟩
theorem Two.same (h:Two CK C K H j pn pk pdk pst pc k k' xs ms cs A A' B B' s s' n) (e:Same H H'):Two CK C K H' j pn pk pdk pst pc k k' xs ms cs A A' B B' s s' n:=
  ⟨h.d.same e,h.t.same e,h.d'.same e,h.t'.same e,h.nk,h.da,h.la,h.fx.stay (fun _ _ x=>e _ _ x)⟩
end
def sd0:SD:=⟨[],[],[]⟩
inductive How (xs:List Str) (A:Dg) (S:SD):Say->Dg->SD->Prop
  | tell:How xs A S .tell A S
  | deed {d:Deed}{ms:List Str}{S2:SD}(ok:SayOk (.deed d)) (hd:DeedOk xs ms d) (ha:After d S S2):How xs A S (.deed d) A S2
  | dig {lo hi:Int}{pg:Addr}(ok:SayOk (.dig lo hi)) (y:zan lo/\zan hi):How xs A S (.dig lo hi) ⟨A.p,A.pm,pg,A.du,A.dt,A.df,lo,hi⟩ sd0
structure Mid (CK C:Addr) (K:PySem.W.Frag) (H:Hp) (j:Bool) (pn pk pdk pst pc k k':Addr) (xs ms:List Str) (cs:List Int) (A A2 A':Dg) (B B':Lw) (s s2 s':SD) (n:Nat) (sy:Say):Prop where
  d:DkI CK C H k A s
  t:SnI K H A2 B xs s2 (n+1)
  d':DkI CK C H k' A' s'
  t':SnI K H A' B' xs s' (n+1)
  nk:k≠k'
  da:DAp A A'
  la:LAp B B'
  fx:Fx H j pn pk pdk pst pc k k' B B' xs ms cs
  ok:DigOk s.us s.ts s.fs
  len:s.us.length<=n/\s.ts.length<=n/\s.fs.length<=n
  how:How xs A s sy A2 s2
section
variable {CK C:Addr}{K:PySem.W.Frag}{H H':Hp}{j:Bool}{pn pk pdk pst pc k k':Addr}{xs ms:List Str}{cs:List Int}{A A2 A':Dg}{B B2 B':Lw}{s s2 s':SD}{n:Nat}{sy:Say}
theorem Mid.toTell (h:Mid CK C K H j pn pk pdk pst pc k k' xs ms cs A A A' B B' s s s' n sy):Two CK C K H j pn pk pdk pst pc k k' xs ms cs A A' B B' s s' (n+1):=
  ⟨h.d,h.t,h.d',h.t',h.nk,h.da,h.la,h.fx⟩
theorem Mid.toDeed (h:Mid CK C K H j pn pk pdk pst pc k k' xs ms cs A A A' B B' s s2 s' n sy) {af':List Addr}(D:DeskAt CK C H' k A.p A.pm A.du A.dt A.df A.lo A.hi s2 af') (kp:∀b o,H b=some o->b≠A.du->b≠A.dt->b≠A.df->H' b=some o):Two CK C K H' j pn pk pdk pst pc k k' xs ms cs A A' B B' s2 s' (n+1):=
  have lt:=h.d.lstD kp
  ⟨⟨⟨af',D⟩,h.d.yr⟩,h.t.keep lt.2 (fun _ e=>lt.1 _ _ e) (fun _ e=>lt.1 _ _ e) (fun _ e=>lt.1 _ _ e),h.d'.kpD h.d h.da.symm kp,h.t'.keep lt.2 (fun _ e=>lt.1 _ _ e) (fun _ e=>lt.1 _ _ e) (fun _ e=>lt.1 _ _ e),h.nk,h.da,h.la,h.fx.stay lt.1⟩
theorem Mid.toDig {lo hi:Int}{pg:Addr}(h:Mid CK C K H j pn pk pdk pst pc k k' xs ms cs A ⟨A.p,A.pm,pg,A.du,A.dt,A.df,lo,hi⟩ A' B B' s sd0 s' n sy) (y:zan lo/\zan hi) {pd pm du dt df:Addr}(f2:H du=none) (f3:H dt=none) (f4:H df=none) (D:DeskAt CK C H' k pd pm du dt df lo hi sd0 []) (kp:∀b o,H b=some o->b≠k->H' b=some o):Two CK C K H' j pn pk pdk pst pc k k' xs ms cs ⟨pd,pm,pg,du,dt,df,lo,hi⟩ A' B B' sd0 s' (n+1):=by
  have lt:=h.d.lstO kp
  obtain⟨_,_,R'⟩:=h.d'.desk
  have t:=h.t.keep lt.2 (fun _ e=>lt.1 _ _ e) (fun _ e=>lt.1 _ _ e) (fun _ e=>lt.1 _ _ e)
  exact⟨⟨⟨[],D⟩,y⟩,⟨t.st,t.fr⟩,h.d'.kpO h.d h.nk.symm kp,h.t'.keep lt.2 (fun _ e=>lt.1 _ _ e) (fun _ e=>lt.1 _ _ e) (fun _ e=>lt.1 _ _ e),h.nk,⟨(zc R'.u f2).symm,(zc R'.f f2).symm,(zc R'.u f4).symm,(zc R'.f f4).symm,(zc R'.t f3).symm⟩,h.la,h.fx.stay lt.1⟩
theorem Two.mid3 (h:Two CK C K H j pn pk pdk pst pc k k' xs ms cs A A' B B' s s' n) (kp:Kp3 H H' B.pu B.pt B.pf) (O:StAt K H' B.ps A.pg B.pu B.pt B.pf xs s2 (n+1)) (hw:How xs A s sy A s2):Mid CK C K H' j pn pk pdk pst pc k k' xs ms cs A A A' B B' s s2 s' n sy:=
  ⟨h.d.kp3 h.t kp,⟨O,h.t.tup3 kp _ _ h.t.fr⟩,h.d'.kp3 h.t kp,(h.t'.kp3 h.t h.la.symm kp).le (Nat.le_succ _),h.nk,h.da,h.la,h.fx.kp3 kp,h.t.st.ok,h.t.st.len,hw⟩
theorem Two.mid0 (h:Two CK C K H j pn pk pdk pst pc k k' xs ms cs A A' B B' s s' n):Mid CK C K H j pn pk pdk pst pc k k' xs ms cs A A A' B B' s s s' n .tell:=
  ⟨h.d,h.t.le (Nat.le_succ _),h.d',h.t'.le (Nat.le_succ _),h.nk,h.da,h.la,h.fx,h.t.st.ok,h.t.st.len,.tell⟩
theorem Mid.same (h:Mid CK C K H j pn pk pdk pst pc k k' xs ms cs A A2 A' B B' s s2 s' n sy) (e:Same H H'):Mid CK C K H' j pn pk pdk pst pc k k' xs ms cs A A2 A' B B' s s2 s' n sy:=
  ⟨h.d.same e,h.t.same e,h.d'.same e,h.t'.same e,h.nk,h.da,h.la,h.fx.stay (fun _ _ x=>e _ _ x),h.ok,h.len,h.how⟩
theorem Two.midD (h:Two CK C K H j pn pk pdk pst pc k k' xs ms cs A A' B B' s s' n) (e:Same H H') (fu:H B2.pu=none) (ft:H B2.pt=none) (ff:H B2.pf=none) {lo hi:Int}{pg:Addr}(t:SnI K H' ⟨A.p,A.pm,pg,A.du,A.dt,A.df,lo,hi⟩ B2 xs sd0 0) (ok:SayOk (.dig lo hi)) (y:zan lo/\zan hi):Mid CK C K (upd H' pst (.lst (duo j B2.ps B'.ps))) j pn pk pdk pst pc k k' xs ms cs A ⟨A.p,A.pm,pg,A.du,A.dt,A.df,lo,hi⟩ A' B2 B' s sd0 s' n (.dig lo hi):=by
  obtain⟨_,_,L'⟩:=h.t'.st.ls
  have fr:∀{b:Addr}{o:HO},H b=some o->b≠B2.pu/\b≠B2.pt/\b≠B2.pf:=fun e=>⟨zc e fu,zc e ft,zc e ff⟩
  have es:=e _ _ h.fx.s
  have o:=fr h.fx.s
  have l1:=fr L'.u
  have l2:=fr L'.t
  have l3:=fr L'.f
  refine⟨(h.d.same e).lst es,(t.le (Nat.zero_le _)).lst es o.1 o.2.1 o.2.2,(h.d'.same e).lst es,((h.t'.same e).lst es h.fx.os.2.1 h.fx.os.2.2.1 h.fx.os.2.2.2).le (Nat.le_succ _),h.nk,h.da,LAp.symm ⟨l1,l2,l3⟩,⟨?_,?_,?_,zb,?_,⟨fr h.fx.n,h.fx.on.2⟩,⟨fr h.fx.m,h.fx.om.2⟩,⟨fr h.fx.d,h.fx.od.2⟩,⟨o,h.fx.os.2⟩,⟨fr h.fx.c,h.fx.oc.2⟩,h.fx.ns⟩,h.t.st.ok,h.t.st.len,.dig ok y⟩
  · rw[zn h.fx.ns.1.symm];exact e _ _ h.fx.n
  · rw[zn h.fx.ns.2.1.symm];exact e _ _ h.fx.m
  · rw[zn h.fx.ns.2.2.1.symm];exact e _ _ h.fx.d
  · rw[zn h.fx.ns.2.2.2.symm];exact e _ _ h.fx.c
theorem SayOk.long (h:SayOk sy) (n:sy≠.tell):2<=(sayW sy).length:=by
  have L:∀t:Tie,2<=(tieV t).length:=fun t=>by
    unfold tieV
    cases t.g<;>simp
  cases h with
  | tell=>exact absurd rfl n
  | @tie t _=>exact L t
  | @untie t _=>exact Nat.le_succ_of_le (L t)
  | unit _=>exact Nat.le_refl 2
  | drop _=>exact Nat.le_refl 2
  | find _=>show 2<=5;decide
  | move _ _=>show 2<=3;decide
  | lose _=>exact Nat.le_refl 2
  | dig _=>show 2<=3;decide
theorem SayOk.ne_tell (h:SayOk sy) (n:sy≠.tell):sayT sy≠Str.ofString "tell":=fun z=>by
  have e:=zfy h.plain.1 h.plain.2.2
  unfold sayT at z
  rw[z] at e
  have e2:=congrArg List.length e
  rw[List.length_map] at e2
  have e3:(Txt.split (Str.ofString "tell") " ").length=1:=by decide +kernel
  rw[e3] at e2
  have:=h.long n
  omega
end
theorem zw4 {i:Int}(h0:0<=i) (h1:i<2):∃j,i=ixB j:=by
  have:i=0\/i=1:=by omega
  rcases this with rfl | rfl
  · exact⟨false,rfl⟩
  · exact⟨true,rfl⟩
end Dm
namespace L2
open PySem Dm
theorem zw5 {c:TT}{t u:TS}{D:Ends}{σ:St}{H:Hp}(P:Hp->Prop) (b:Bool) (ht:∀Q':Bool->Hp->Prop,(∀H',P H'->Q' b H')->c σ H Q') (hs:∀H',P H'->if b=true then t D σ H' else u D σ H'):tIfS c t u D σ H:=ht _ hs
theorem zr8 {a b:TS}{D:Ends}{σ:St}{H:Hp}(P:St->Hp->Prop) (h1:∀D':Ends,(∀σ' H',P σ' H'->D'.nx σ' H')->a D' σ H) (h2:∀σ' H',P σ' H'->b D σ' H'):tSeq a b D σ H:=h1 _ h2
end L2
namespace L2
open PySem PySem.Spec PyProof.Rows
theorem zu0 {X:Cx}{i:Nat}{x:Str}{es:List Expr}{lp:Pos}{te:TE}{pos pos':Pos}(hN:X.N.Nodup) (hi:X.N[i]? = some x) (hx:Loc X.env.scope x) (he:PE X (.List es lp) te) (hf:X.fn x=true\/X.env.scope.names.lookup x=some .local:=by first | exact .inl rfl | exact .inr rfl | assumption) :
    PS X (.Assign [.Name x pos'] (.List es lp) pos) (tAsg te (za6 i)):=zav hN hi hx he
section
variable {X:Cx}{es es':List Expr}{te:TE}{t:TA}{pos:Pos}
theorem zic {x1:_}(ha:PE X (.Tuple es' x1 pos) te) (hr:PA X es t):PA X (.Tuple es' x1 pos::es) (zbb te t):=za ha hr
theorem zid (ha:PE X (.List es' pos) te) (hr:PA X es t):PA X (.List es' pos::es) (zbb te t):=za ha hr
end
theorem ztb {X:Cx}{a b:Int}{i j k l:_}{p1 p2 p3 p4 p5 p6 p7:Pos}:PE X (.Tuple [.Tuple [.Constant (.int a) i p1,.Constant (.int b) j p2] k p3,.List [] p4,.List [] p5,.List [] p6] l p7) (tTup (zbb (tTup (zbb (tC (.int a)) (zbb (tC (.int b)) tNil))) (zbb (tLst tNil) (zbb (tLst tNil) (zbb (tLst tNil) tNil))))):=zbc (zic (zbc (za zf (za zf zd))) (zid (zbn zd) (zid (zbn zd) (zid (zbn zd) zd))))
theorem zw6 {X:Cx}{i:Nat}{x:Str}{e1 e2:List Expr}{k1 k2:_}{lp p1 p2:Pos}{t1 t2:TE}{pos pos':Pos}(hN:X.N.Nodup) (hi:X.N[i]? = some x) (hx:Loc X.env.scope x) (h1:PE X (.Tuple e1 k1 p1) t1) (h2:PE X (.Tuple e2 k2 p2) t2) (hf:X.fn x=true\/X.env.scope.names.lookup x=some .local:=by first | exact .inl rfl | exact .inr rfl | assumption):PS X (.Assign [.Name x pos'] (.List [.Tuple e1 k1 p1,.Tuple e2 k2 p2] lp) pos) (tAsg (tLst (zbb t1 (zbb t2 tNil))) (za6 i)):=zu0 hN hi hx (zbn (zic h1 (zic h2 zd)))
theorem zx2 {X:Cx}{i:Nat}{x:Str}{a b:Int}{i1 i2 i3 i4 j1 j2 j3 j4:_}{p1 p2 p3 p4 p5 p6 p7 q1 q2 q3 q4 q5 q6 q7 lp pos pos':Pos}(hN:X.N.Nodup) (hi:X.N[i]? = some x) (hx:Loc X.env.scope x) (hf:X.fn x=true\/X.env.scope.names.lookup x=some .local):PS X (.Assign [.Name x pos'] (.List [.Tuple [.Tuple [.Constant (.int a) i1 p1,.Constant (.int b) i2 p2] i3 p3,.List [] p4,.List [] p5,.List [] p6] i4 p7,.Tuple [.Tuple [.Constant (.int a) j1 q1,.Constant (.int b) j2 q2] j3 q3,.List [] q4,.List [] q5,.List [] q6] j4 q7] lp) pos) (tAsg (tLst (zbb (tTup (zbb (tTup (zbb (tC (.int a)) (zbb (tC (.int b)) tNil))) (zbb (tLst tNil) (zbb (tLst tNil) (zbb (tLst tNil) tNil))))) (zbb (tTup (zbb (tTup (zbb (tC (.int a)) (zbb (tC (.int b)) tNil))) (zbb (tLst tNil) (zbb (tLst tNil) (zbb (tLst tNil) tNil))))) tNil))) (za6 i)):=@zw6 _ _ _ _ _ _ _ _ _ _ _ _ _ _ hN hi hx (@ztb _ _ _ _ _ _ _ _ _ _ _ _ _ _) (@ztb _ _ _ _ _ _ _ _ _ _ _ _ _ _) hf
end L2
namespace Dm
open PySem PySem.NumText L2
theorem zr9 {one at':Int}{k k' size:Nat}(h0:0<=at') (h1:at'<size) (hk:k<37) (hk':k'<37) (h:nmC one at' k size=nmC one at' k' size):k=k':=by
  have hj:at'.toNat<size:=by omega
  have e1:=zpa (one:=one) (at':=at') (k:=k) hj
  have e2:=zpa (one:=one) (at':=at') (k:=k') hj
  rw[h,e2] at e1
  have e:nmN one at' k' at'.toNat=nmN one at' k at'.toNat:=Option.some.inj e1
  unfold nmN at e
  have q:=zo9 (ix37 _).2 (ix37 _).2 e
  have a1:=(ix37 (nmI one at' k' at'.toNat)).1
  have a2:=(ix37 (nmI one at' k at'.toNat)).1
  have q2:nmI one at' k' at'.toNat%37=nmI one at' k at'.toNat%37:=by omega
  unfold nmI at q2
  rw[if_pos (Int.toNat_of_nonneg h0),if_pos (Int.toNat_of_nonneg h0)] at q2
  omega
def zie (n:Nat) (one at':Int) (size:Nat):List Str:=(List.range n).map fun k=>zbo (nmC one at' k size)
def zf1 (n:Nat) (one at':Int) (size:Nat):List Str:=(List.range n).map fun k=>zbo ((nmC one at' 0 size).take (size-k))
theorem zna {n:Nat}{one at':Int}{size:Nat}(hn:n<=37) (h0:0<=at') (h1:at'<size) (h2:1<=size) (h3:size<=12):(zie n one at' size).Nodup/\(∀x∈zie n one at' size,za4 x=true)/\(zie n one at' size).length=n:=by
  refine⟨zc4 fun i j hi hj e=>zr9 h0 h1 (by omega) (by omega) (zjn e),fun x hx=>?_,by unfold zie;simp⟩
  obtain⟨k,_,rfl⟩:=List.mem_map.mp hx
  exact zl6 (by rw[zas,zdp];exact h2) (by rw[zas,zdp];exact h3) fun c hc=>by rw[zas] at hc;exact zpb hc
theorem znb {n:Nat}{one at':Int}{size:Nat}(h2:n<=size) (h3:size<=12):(zf1 n one at' size).Nodup/\(∀x∈zf1 n one at' size,za4 x=true)/\(zf1 n one at' size).length=n:=by
  refine⟨zc4 fun i j hi hj e=>?_,fun x hx=>?_,by unfold zf1;simp⟩
  · have e:=congrArg List.length (zjn e)
    rw[List.length_take,List.length_take,zdp] at e
    omega
  · obtain⟨k,hk,rfl⟩:=List.mem_map.mp hx
    have hk:=List.mem_range.mp hk
    refine zl6 ?_ ?_ fun c hc=>?_
    · rw[zas,List.length_take,zdp];omega
    · rw[zas,List.length_take,zdp];omega
    · rw[zas] at hc
      exact zpb (List.mem_of_mem_take hc)
abbrev Tr:=Tie×Addr
abbrev Rw:=Str->List (Str×Tr)
abbrev Chn:=Int×Str×List Tr
variable {R:Rw}{F G:Str->IS->Prop}{k:Str}{keys:List Str}
end Dm
namespace L2
open PySem PySem.Spec PyProof.Rows
end L2
namespace LK81
open PySem L2 Dm PySem.NumText
def top (i:Nat):Stmt:=PySem.Challenge.pw_digmatrix_k81_rows_of_deeds.main.body.getD i (.Pass ⟨0,0,0,0⟩)
def l_FORMS:List (Str×List V):=[("dig",[V.str "year",V.str "year"]),("unit",[V.str "name"]),("over",[V.str "name",V.str "name"]),("cuts",[V.str "name",V.str "name"]),("fills",[V.str "name",V.str "name"]),("after",[V.str "name",V.str "name",V.str "gap"]),("same",[V.str "name",V.str "name"]),("find",[V.str "name",V.str "name",V.str "year",V.str "year"])]
def l_DEEDS:List (Str×List V):=[("drop",[V.str "name"]),("move",[V.str "name",V.str "name"]),("lose",[V.str "name"])]
def l_QUESTIONS:List (Str×List V):=[("order",[]),("spans",[]),("date",[V.str "name",V.str "year"]),("draw",[]),("tell",[]),("round",[])]
structure Tx (K:PySem.W.Frag) (mg:Str->Option Value) (w:World) (C_Dig:Addr) (C_Desk:Addr) (zk:Addr) (zg:Addr) (zq:Addr) (zo:Addr) (zh:Addr) (zp:Addr) (zy:Addr) (zm:Addr) (zr:Addr) (zz:Addr) (zv:Addr) (zaa:Addr) (zw:Addr) (zab:Addr) (zx:Addr):Prop where
  zte:mg "Dig" = some (.ref C_Dig)
  zaw:Cls K C_Dig
  ztf:PySem.W.makesIn K C_Dig=true
  ztg:PySem.W.keepIn K (.ref C_Dig)=true
  zeo:NoAttr K C_Dig "frame"
  zbt:NoAttr K C_Dig "units"
  zbq:NoAttr K C_Dig "ties"
  za8:NoAttr K C_Dig "finds"
  zgv:DfM K C_Dig "Dig.__init__" "__init__" (zau (top 17) 0) ["self","first","last"]
  zgw:DfM K C_Dig "Dig.add_unit" "add_unit" (zau (top 17) 1) ["self","name"]
  zgd:DfM K C_Dig "Dig.drop_unit" "drop_unit" (zau (top 17) 2) ["self","name"]
  zit:DfM K C_Dig "Dig.add_tie" "add_tie" (zau (top 17) 3) ["self","tie"]
  zgx:DfM K C_Dig "Dig.drop_tie" "drop_tie" (zau (top 17) 4) ["self","tie"]
  zgy:DfM K C_Dig "Dig.add_find" "add_find" (zau (top 17) 5) ["self","name","unit","low","high"]
  zge:DfM K C_Dig "Dig.move_find" "move_find" (zau (top 17) 6) ["self","name","unit"]
  zgf:DfM K C_Dig "Dig.drop_find" "drop_find" (zau (top 17) 7) ["self","name"]
  ziu:DfM K C_Dig "Dig.telling" "telling" (zau (top 17) 8) ["self"]
  zgg:DfM K C_Dig "Dig.seek_unit" "seek_unit" (zau (top 17) 9) ["self","name"]
  zgh:DfM K C_Dig "Dig.seek_find" "seek_find" (zau (top 17) 10) ["self","name"]
  ziv:DfM K C_Dig "Dig.is_used" "is_used" (zau (top 17) 11) ["self","name"]
  zqn:mg "Desk" = some (.ref C_Desk)
  zcr:Cls K C_Desk
  zqo:PySem.W.makesIn K C_Desk=true
  zqp:PySem.W.keepIn K (.ref C_Desk)=true
  zcs:NoAttr K C_Desk "dig"
  zgi:DfM K C_Desk "Desk.__init__" "__init__" (zau (top 84) 0) ["self"]
  zno:DfM K C_Desk "Desk.say" "say" (zau (top 84) 1) ["self","row"]
  zvl:mg "DigError" = some (.ref zk)
  zj9:mg "TextError" = some (.ref zg)
  zka:XCatch K zg
  zxb:mg "BadRow" = some (.ref zq)
  zvp:mg "BadName" = some (.ref zo)
  zth:mg "BadNumber" = some (.ref zh)
  zvq:mg "BadSpan" = some (.ref zp)
  zxg:mg "Round" = some (.ref zy)
  zvm:mg "NoDating" = some (.ref zm)
  zxc:mg "NoYear" = some (.ref zr)
  zxh:mg "Twice" = some (.ref zz)
  zxd:mg "NoUnit" = some (.ref zv)
  zxi:mg "NoTie" = some (.ref zaa)
  zxe:mg "NoFind" = some (.ref zw)
  zxj:mg "InUse" = some (.ref zab)
  zxf:mg "NoDeed" = some (.ref zx)
  zqq:Df K mg "is_name" (top 41) ["text"]
  ziw:Df K mg "read_number" (top 42) ["text"]
  zkb:Df K mg "is_made_of" (top 43) ["text","signs"]
  zkc:Df K mg "show_words" (top 49) ["words"]
  znp:Df K mg "show_tie" (top 50) ["tie"]
  zgz:Df K mg "show_telling" (top 51) ["telling"]
  zkd:Df K mg "read_entry" (top 52) ["words","row"]
  zlg:Df K mg "read_form" (top 53) ["form","words","row"]
  zke:Df K mg "read_value" (top 54) ["kind","word","row"]
  znq:Df K mg "read_row" (top 77) ["row"]
  zkf:Df K mg "read_words" (top 78) ["words"]
  znr:Df K mg "read_tie" (top 79) ["words"]
  zqr:Df K mg "do_deed" (top 80) ["dig","deed"]
  zsp:Df K mg "answer" (top 81) ["telling","question"]
  zg0:Df K mg "_law_cell_at" (top 86) ["_law_script","_law_k"]
  zlh:Df K mg "_law_part" (top 87) ["_law_cell","_law_k","_law_many"]
  zkg:Df K mg "_law_names" (top 88) ["_law_one","_law_other","_law_many"]
  zns:Df K mg "_law_tie" (top 89) ["_law_names_here","_law_cell"]
  zli:Df K mg "_law_find" (top 90) ["_law_marks","_law_units","_law_many","_law_cell"]
  zkh:Df K mg "_law_frame" (top 91) ["_law_cell"]
  zlj:Df K mg "_law_line" (top 92) ["_law_row"]
  zlk:Df K mg "_law_text" (top 93) ["_law_stands"]
  zki:Df K mg "_law_added" (top 94) ["_law_stands","_law_names_here","_law_marks","_law_cell"]
  zkj:Df K mg "_law_taken" (top 95) ["_law_stands","_law_cell"]
  zx6:Df K mg "law" (top 96) ["_law_script"]
  zqs:∃u,mg "FIGURES" = some u/\RelV (.str "0123456789") u
  zkk:∃u,mg "NAME_SIGNS" = some u/\RelV (.str "abcdefghijklmnopqrstuvwxyz0123456789-") u
  zg1:∃u,mg "LONGEST_NAME" = some u/\RelV (.int 12) u
  zg2:∃u,mg "MOST_FIGURES" = some u/\RelV (.int 60) u
  zvn:∃a,mg "FORMS" = some (.ref a)/\KDT w K a l_FORMS
  zkl:∃u,mg "FIRST_YEAR" = some u/\RelV (.int 0) u
  zll:∃u,mg "LAST_YEAR" = some u/\RelV (.int 9999) u
  zvo:∃a,mg "DEEDS" = some (.ref a)/\KDT w K a l_DEEDS
  zgj:∃a,mg "QUESTIONS" = some (.ref a)/\KDT w K a l_QUESTIONS
  min:mg "min" = none
  list:mg "list" = none
  all:mg "all" = none
  any:mg "any" = none
  int:mg "int" = none
  range:mg "range" = none
  len:mg "len" = none
  max:mg "max" = none
  tuple:mg "tuple" = none
  isinstance:mg "isinstance" = none
  str:mg "str" = none
  zip:mg "zip" = none
theorem Tx.ex {K:PySem.W.Frag}{mg:Str->Option Value}{w:World}{C_Dig:Addr}{C_Desk:Addr}{zk:Addr}{zg:Addr}{zq:Addr}{zo:Addr}{zh:Addr}{zp:Addr}{zy:Addr}{zm:Addr}{zr:Addr}{zz:Addr}{zv:Addr}{zaa:Addr}{zw:Addr}{zab:Addr}{zx:Addr}(T:Tx K mg w C_Dig C_Desk zk zg zq zo zh zp zy zm zr zz zv zaa zw zab zx):∃C_Dig,∃C_Desk,∃zk,∃zg,∃zq,∃zo,∃zh,∃zp,∃zy,∃zm,∃zr,∃zz,∃zv,∃zaa,∃zw,∃zab,∃zx,Tx K mg w C_Dig C_Desk zk zg zq zo zh zp zy zm zr zz zv zaa zw zab zx:=⟨_,_,_,_,_,_,_,_,_,_,_,_,_,_,_,_,_,T⟩
theorem znc:FnScope ["text"] ["text"] (zj (top 41)):=⟨rfl,rfl,rfl,by decide +kernel,rfl,by decide +kernel,by decide +kernel⟩
theorem sc_read_number:FnScope ["text","figures"] ["text"] (zj (top 42)):=⟨rfl,rfl,rfl,by decide +kernel,rfl,by decide +kernel,by decide +kernel⟩
theorem zif:FnScope ["text","signs"] ["text","signs"] (zj (top 43)):=⟨rfl,rfl,rfl,by decide +kernel,rfl,by decide +kernel,by decide +kernel⟩
theorem zig:FnScope ["words"] ["words"] (zj (top 49)):=⟨rfl,rfl,rfl,by decide +kernel,rfl,by decide +kernel,by decide +kernel⟩
theorem zlb:FnScope ["tie"] ["tie"] (zj (top 50)):=⟨rfl,rfl,rfl,by decide +kernel,rfl,by decide +kernel,by decide +kernel⟩
theorem sc_show_telling:FnScope ["telling","lines"] ["telling"] (zj (top 51)):=⟨rfl,rfl,rfl,by decide +kernel,rfl,by decide +kernel,by decide +kernel⟩
theorem zih:FnScope ["words","row"] ["words","row"] (zj (top 52)):=⟨rfl,rfl,rfl,by decide +kernel,rfl,by decide +kernel,by decide +kernel⟩
theorem sc_read_form:FnScope ["form","words","row","values"] ["form","words","row"] (zj (top 53)):=⟨rfl,rfl,rfl,by decide +kernel,rfl,by decide +kernel,by decide +kernel⟩
theorem sc_read_value:FnScope ["kind","word","row","number"] ["kind","word","row"] (zj (top 54)):=⟨rfl,rfl,rfl,by decide +kernel,rfl,by decide +kernel,by decide +kernel⟩
theorem zlc:FnScope ["row"] ["row"] (zj (top 77)):=⟨rfl,rfl,rfl,by decide +kernel,rfl,by decide +kernel,by decide +kernel⟩
theorem zii:FnScope ["words"] ["words"] (zj (top 78)):=⟨rfl,rfl,rfl,by decide +kernel,rfl,by decide +kernel,by decide +kernel⟩
theorem zld:FnScope ["words"] ["words"] (zj (top 79)):=⟨rfl,rfl,rfl,by decide +kernel,rfl,by decide +kernel,by decide +kernel⟩
theorem znd:FnScope ["dig","deed"] ["dig","deed"] (zj (top 80)):=⟨rfl,rfl,rfl,by decide +kernel,rfl,by decide +kernel,by decide +kernel⟩
theorem zp9:FnScope ["telling","question"] ["telling","question"] (zj (top 81)):=⟨rfl,rfl,rfl,by decide +kernel,rfl,by decide +kernel,by decide +kernel⟩
theorem zf2:FnScope ["_law_script","_law_k"] ["_law_script","_law_k"] (zj (top 86)):=⟨rfl,rfl,rfl,by decide +kernel,rfl,by decide +kernel,by decide +kernel⟩
theorem zjz:FnScope ["_law_cell","_law_k","_law_many"] ["_law_cell","_law_k","_law_many"] (zj (top 87)):=⟨rfl,rfl,rfl,by decide +kernel,rfl,by decide +kernel,by decide +kernel⟩
theorem sc__law_names:FnScope ["_law_one","_law_other","_law_many","_law_signs","_law_size","_law_at","_law_names_here","_law_k","_law_name","_law_j","_law_number"] ["_law_one","_law_other","_law_many"] (zj (top 88)):=⟨rfl,rfl,rfl,by decide +kernel,rfl,by decide +kernel,by decide +kernel⟩
theorem sc__law_tie:FnScope ["_law_names_here","_law_cell","_law_one","_law_other","_law_kind","_law_gap"] ["_law_names_here","_law_cell"] (zj (top 89)):=⟨rfl,rfl,rfl,by decide +kernel,rfl,by decide +kernel,by decide +kernel⟩
theorem sc__law_find:FnScope ["_law_marks","_law_units","_law_many","_law_cell","_law_low","_law_high"] ["_law_marks","_law_units","_law_many","_law_cell"] (zj (top 90)):=⟨rfl,rfl,rfl,by decide +kernel,rfl,by decide +kernel,by decide +kernel⟩
theorem sc__law_frame:FnScope ["_law_cell","_law_some"] ["_law_cell"] (zj (top 91)):=⟨rfl,rfl,rfl,by decide +kernel,rfl,by decide +kernel,by decide +kernel⟩
theorem sc__law_line:FnScope ["_law_row","_law_line_here","_law_part_here"] ["_law_row"] (zj (top 92)):=⟨rfl,rfl,rfl,by decide +kernel,rfl,by decide +kernel,by decide +kernel⟩
theorem sc__law_text:FnScope ["_law_stands","_law_lines","_law_unit","_law_tie_here","_law_find_here"] ["_law_stands"] (zj (top 93)):=⟨rfl,rfl,rfl,by decide +kernel,rfl,by decide +kernel,by decide +kernel⟩
theorem sc__law_added:FnScope ["_law_stands","_law_names_here","_law_marks","_law_cell","_law_frame_here","_law_units","_law_ties","_law_finds","_law_fresh","_law_spare","_law_way","_law_tie_here"] ["_law_stands","_law_names_here","_law_marks","_law_cell"] (zj (top 94)):=⟨rfl,rfl,rfl,by decide +kernel,rfl,by decide +kernel,by decide +kernel⟩
theorem sc__law_taken:FnScope ["_law_stands","_law_cell","_law_frame_here","_law_units","_law_ties","_law_finds","_law_way","_law_used","_law_free","_law_k","_law_to"] ["_law_stands","_law_cell"] (zj (top 95)):=⟨rfl,rfl,rfl,by decide +kernel,rfl,by decide +kernel,by decide +kernel⟩
theorem sc_law:FnScope ["_law_script","_law_names_here","_law_marks","_law_desks","_law_stands","_law_cell","_law_k","_law_way","_law_row"] ["_law_script"] (zj (top 96)):=⟨rfl,rfl,rfl,by decide +kernel,rfl,by decide +kernel,by decide +kernel⟩
theorem zf3:FnScope ["self","first","last"] ["self","first","last"] (zj (zau (top 17) 0)):=⟨rfl,rfl,rfl,by decide +kernel,rfl,by decide +kernel,by decide +kernel⟩
theorem zf4:FnScope ["self","name"] ["self","name"] (zj (zau (top 17) 1)):=⟨rfl,rfl,rfl,by decide +kernel,rfl,by decide +kernel,by decide +kernel⟩
theorem zeq:FnScope ["self","name"] ["self","name"] (zj (zau (top 17) 2)):=⟨rfl,rfl,rfl,by decide +kernel,rfl,by decide +kernel,by decide +kernel⟩
theorem zgo:FnScope ["self","tie"] ["self","tie"] (zj (zau (top 17) 3)):=⟨rfl,rfl,rfl,by decide +kernel,rfl,by decide +kernel,by decide +kernel⟩
theorem zf5:FnScope ["self","tie"] ["self","tie"] (zj (zau (top 17) 4)):=⟨rfl,rfl,rfl,by decide +kernel,rfl,by decide +kernel,by decide +kernel⟩
theorem zf6:FnScope ["self","name","unit","low","high"] ["self","name","unit","low","high"] (zj (zau (top 17) 5)):=⟨rfl,rfl,rfl,by decide +kernel,rfl,by decide +kernel,by decide +kernel⟩
theorem zer:FnScope ["self","name","unit"] ["self","name","unit"] (zj (zau (top 17) 6)):=⟨rfl,rfl,rfl,by decide +kernel,rfl,by decide +kernel,by decide +kernel⟩
theorem zes:FnScope ["self","name"] ["self","name"] (zj (zau (top 17) 7)):=⟨rfl,rfl,rfl,by decide +kernel,rfl,by decide +kernel,by decide +kernel⟩
theorem zgp:FnScope ["self"] ["self"] (zj (zau (top 17) 8)):=⟨rfl,rfl,rfl,by decide +kernel,rfl,by decide +kernel,by decide +kernel⟩
theorem zet:FnScope ["self","name"] ["self","name"] (zj (zau (top 17) 9)):=⟨rfl,rfl,rfl,by decide +kernel,rfl,by decide +kernel,by decide +kernel⟩
theorem zeu:FnScope ["self","name"] ["self","name"] (zj (zau (top 17) 10)):=⟨rfl,rfl,rfl,by decide +kernel,rfl,by decide +kernel,by decide +kernel⟩
theorem sc_Dig_is_used:FnScope ["self","name","by_tie"] ["self","name"] (zj (zau (top 17) 11)):=⟨rfl,rfl,rfl,by decide +kernel,rfl,by decide +kernel,by decide +kernel⟩
theorem zev:FnScope ["self"] ["self"] (zj (zau (top 84) 0)):=⟨rfl,rfl,rfl,by decide +kernel,rfl,by decide +kernel,by decide +kernel⟩
theorem sc_Desk_say:FnScope ["self","row","deed"] ["self","row"] (zj (zau (top 84) 1)):=⟨rfl,rfl,rfl,by decide +kernel,rfl,by decide +kernel,by decide +kernel⟩
section
variable {P:Program}{w:World}{K:PySem.W.Frag}{mg:Str->Option Value}{base:Heap}{C_Dig:Addr}{C_Desk:Addr}{zk:Addr}{zg:Addr}{zq:Addr}{zo:Addr}{zh:Addr}{zp:Addr}{zy:Addr}{zm:Addr}{zr:Addr}{zz:Addr}{zv:Addr}{zaa:Addr}{zw:Addr}{zab:Addr}{zx:Addr}
local macro_rules | `(tactic| walk_at "rd")=>`(tactic| repeat (first | refine⟨_,rfl,?_⟩ | refine⟨_,_,rfl,rfl,?_⟩ | refine⟨_,_,_,rfl,?_⟩))
local macro_rules | `(tactic| walk_at "rd")=>`(tactic| repeat (first | refine⟨_,rfl,?_⟩ | refine⟨_,_,rfl,rfl,?_⟩ | refine⟨_,_,_,rfl,?_⟩))
def zu1:Sp:=fun vs H Q _=>∃(a:Addr) (ns:List Int) (i:Int),vs = [.ref a,.int i]/\SqL K H a (ns.map V.int)/\0<=i/\Q (.int (zk3 ns i)) H
theorem zb0 (T:Tx K mg w C_Dig C_Desk zk zg zq zo zh zp zy zm zr zz zv zaa zw zab zx):Has P w K mg base "_law_cell_at" ["_law_script","_law_k"] 1 (zu1 (K:=K)):=by
  refine T.zg0.has zf2 (fun vs H Q E h=>?_) (fun f cdv A outer s H vs Q E hr h=>?_)
  · obtain⟨a,ns,i,rfl,_⟩:=h;rfl
  · obtain⟨a,ns,i,rfl,ha,h0,k⟩:=h
    refine⟨_,(ze (zay (zad zn5 (pv 1) (za1 (zar K rfl) (by rfl) T.len boot_len (za (pv 0) zd)) (zak _)) (zi (zal (zah (zac K rfl) (pv 0) (pv 1) (fun _ _=>rfl)))) zai)
      (zi (zal zf))),?_⟩
    refine⟨_,rfl,_,rfl,a,_,rfl,.inl ha,_,_,rfl,rfl,_,rfl,?_⟩
    refine ite2 (fun c=>?_) (fun c=>?_)
    · have c:=of_decide_eq_true c
      rw[List.length_map] at c
      have hi:i.toNat<ns.length:=by omega
      refine⟨_,rfl,_,rfl,a,_,i,.int (zk3 ns i),rfl,rfl,ha,?_,k⟩
      have e:zk3 ns i=ns[i.toNat]:=by unfold zk3;rw[List.getD_eq_getElem?_getD,List.getElem?_eq_getElem hi];rfl
      have:=zcg (xs:=ns.map V.int) (j:=i.toNat) (v:=.int (zk3 ns i)) (by rw[e];simp[hi])
      rw[Int.toNat_of_nonneg h0] at this
      exact this
    · have c:¬i<((ns.map V.int).length:Int):=fun z=>c (decide_eq_true z)
      rw[List.length_map] at c
      have e:zk3 ns i=0:=by unfold zk3;rw[List.getD_eq_getElem?_getD,List.getElem?_eq_none (by omega)];rfl
      rw[e] at k
      exact k
def zu2:Sp:=fun vs H Q _=>∃c k m:Int,vs = [.int c,.int k,.int m]/\0<m/\Q (.int (pt c k m)) H
theorem zae (T:Tx K mg w C_Dig C_Desk zk zg zq zo zh zp zy zm zr zz zv zaa zw zab zx):Has P w K mg base "_law_part" ["_law_cell","_law_k","_law_many"] 1 zu2:=by
  refine T.zlh.has zjz (fun vs H Q E h=>?_) (fun f cdv A outer s H vs Q E hr h=>?_)
  · obtain⟨c,i,m,rfl,_⟩:=h;rfl
  · obtain⟨c,i,m,rfl,hm,k⟩:=h
    refine⟨_,(zi (zal (zaz zee (zaz zee (zaz zi0 (zaz zee (zaz zi0 (zaz zdh (zaz zee (pv 0) zf) zf) (zaz zdh zf (zaz zi0 zf (pv 1)))) zf) (zaz zdh (pv 1) zf)) zf) (pv 2)))),?_⟩
    have b1:=Int.emod_nonneg c (show (99991:Int)≠0 by decide)
    have b2:=Int.emod_lt_of_pos c (show (0:Int)<99991 by decide)
    have b3:=Int.emod_nonneg ((c%99991+17) * (48271+7919 * i)) (show (65537:Int)≠0 by decide)
    have b4:=Int.emod_lt_of_pos ((c%99991+17) * (48271+7919 * i)) (show (0:Int)<65537 by decide)
    walk_at "rd"
    refine⟨(by decide:(0:Int)<99991),?_⟩
    walk_at "rd"
    refine⟨.inl ⟨by decide,by decide⟩,?_⟩
    walk_at "rd"
    refine⟨.inl ⟨by omega,by omega⟩,?_⟩
    walk_at "rd"
    refine⟨(by decide:(0:Int)<65537),?_⟩
    walk_at "rd"
    refine⟨.inl ⟨by omega,by omega⟩,?_⟩
    walk_at "rd"
    refine⟨(by decide:(0:Int)<8191),?_⟩
    walk_at "rd"
    exact⟨hm,k⟩
theorem at37 (z:Int) (one at':Int) (k j:Nat) (h:z=nmI one at' k j):atI NAMES.cps.toList (z%37)=some (nmN one at' k j):=by
  obtain⟨h0,h1⟩:=ix37 z
  subst h
  have:=zcg (xs:=co NAMES) (j:=(nmI one at' k j%37).toNat) (v:=nmN one at' k j) (by unfold nmN;rw[List.getD_eq_getElem?_getD,List.getElem?_eq_getElem h1];rfl)
  rw[Int.toNat_of_nonneg h0] at this
  exact this
def cutF (l:List Nat) (size:Int):V->V
  | .int z=>.str (Txt.slice (zbo l) none (some (size-z)))
  | _=>.non
def zsa:Sp:=fun vs H Q _=>∃(one other:Int) (n:Nat),vs = [.int one,.int other,.int n]/\n<=37/\∀(p:Addr) (xs:List Str) (H':Hp),xs.length=n->xs.Nodup->(∀x∈xs,za4 x=true)->H p=none->H' p=some (.lst (xs.map V.str))->Same H H'->Q (.ref p) H'
set_option maxHeartbeats 4000000 in
theorem zek (T:Tx K mg w C_Dig C_Desk zk zg zq zo zh zp zy zm zr zz zv zaa zw zab zx):Has P w K mg base "_law_names" ["_law_one","_law_other","_law_many"] 2 zsa:=by
  refine T.zkg.has sc__law_names (fun vs H Q E h=>?_) (fun f cdv A outer s H vs Q E hr h=>?_)
  · obtain⟨one,other,n,rfl,_⟩:=h;rfl
  · obtain⟨one,other,n,rfl,hn37,k⟩:=h
    refine⟨_,(ze (zav (i:=3) sc__law_names.nd rfl (Or.inl rfl) zaf)
      (ze (zav (i:=4) sc__law_names.nd rfl (Or.inr rfl) (zaz zdh zf (zao (zae T) (hr.mono (by decide)) (by rfl) (za (pv 0) (za zf (za zf zd))))))
      (ze (zav (i:=5) sc__law_names.nd rfl (Or.inl rfl) (zao (zae T) (hr.mono (by decide)) (by rfl) (za (pv 1) (za zf (za (pv 4) zd)))))
      (ze (zav (i:=6) sc__law_names.nd rfl (Or.inr rfl) (zbn zd))
      (ze (ze8 PassesOwn.never rfl (ze7 (by rfl) T.range (za (pv 2) zd)) (zap (i:=7) sc__law_names.nd rfl (Or.inl rfl)) (ze (zav (i:=8) sc__law_names.nd rfl (Or.inl rfl) zaf)
        (ze (ze8 PassesOwn.never rfl (ze7 (by rfl) T.range (za (pv 4) zd)) (zap (i:=9) sc__law_names.nd rfl (Or.inl rfl)) (ze (zav (i:=10) sc__law_names.nd rfl (Or.inl rfl) (zao (zae T) (hr.mono (by decide)) (by rfl) (za (pv 0) (za (zaz zdh (pv 9) zf) (za zf zd)))))
          (ze (zay (zad zbv (pv 9) (pv 5) (zak _)) (zi (zav (i:=10) sc__law_names.nd rfl (Or.inl rfl) (zaz zdh (pv 10) (pv 7)))) zai)
          (zi (zav (i:=8) sc__law_names.nd rfl (Or.inl rfl) (zaz za7 (pv 8) (zah zv9 (pv 3) (zaz zee (pv 10) zf) (fun _ _=>rfl))))))))
        (zi (zat (zbr K rfl PySem.F.plainAttrs_list PySem.F.slot_list_append PySem.F.type_list_append zbu (pv 6) (za (pv 8) zd)))))))
      (ze (zay (PW.pt (zcz (zad zxo (pv 4) (pv 2) (zak _)) (zb8 (zad zbv (zaz zee (pv 1) zf) zf (zak _))))) (zi (zal (zcc (own:=["_law_k"]) (cap:=["_law_names_here","_law_size"]) (ix:=[6,4]) (osc:=zj (top 88)) rfl ⟨rfl,by decide +kernel,by decide +kernel,by decide +kernel,by decide +kernel⟩ rfl (ze7 (by rfl) T.range (za (pv 2) zd)) (fun _ _ _ _=>zap (i:=0) (show List.Nodup (["_law_k","_law_names_here","_law_size"]:List Str) by decide +kernel) rfl (Or.inl rfl)) (fun _ _ _ _=>zbw) (fun _ _ _ _=>(zb4 zs1 (zah (zac K rfl) (pv 1) zf (fun _ _=>rfl)) zdm (zcb (zaz zv2 (pv 2) (pv 0)))))))) zai)
      (zi (zal (pv 6))))))))),?_⟩
    walk_at "rd"
    refine⟨by decide,?_⟩
    walk_at "rd"
    obtain⟨s1,s2⟩:=zcx one 0 12 (by decide)
    have hs:∃size:Nat,1+pt one 0 12=(size:Int)/\1<=size/\size<=12:=⟨(1+pt one 0 12).toNat,by omega,by omega,by omega⟩
    obtain⟨size,es,z1,z2⟩:=hs
    rw[es]
    refine⟨by omega,?_⟩
    obtain⟨a1,a2⟩:=zcx other 1 (size:Int) (by omega)
    generalize pt other 1 (size:Int)=at' at a1 a2
    refine⟨by decide,fun p hp=>?_⟩
    refine⟨_,rfl,(n:Int),rfl,by omega,by omega,ziz (lo:=0) (n:=n) (fun i σ H'=>∃v7 v8 v9 v10,σ = [some (.int one),some (.int other),some (.int n),some (.str NAMES),some (.int size),some (.int at'),some (.ref p),v7,v8,v9,v10]/\Same H H'/\
      H' p=some (.lst (((List.range i).map fun k=>zbo (nmC one at' k size)).map V.str))) ⟨none,none,none,none,(by rw[←es];rfl),Same.new hp,zb⟩ ?_ ?_⟩
    · rintro i σ H1 hi ⟨v7,v8,v9,v10,rfl,q1,q2⟩
      simp only [Int.zero_add]
      refine⟨_,rfl,(size:Int),rfl,by omega,by omega,ziz (lo:=0) (n:=size) (fun j σ H2=>∃v9 v10,σ = [some (.int one),some (.int other),some (.int n),some (.str NAMES),some (.int size),some (.int at'),some (.ref p),some (.int i),some (.str (zbo ((List.range j).map (nmN one at' i)))),v9,v10]/\H2=H1)
        ⟨v9,v10,by rw[zwr];rfl,rfl⟩ ?_ ?_⟩
      · rintro j σ H2 hj ⟨v9,v10,rfl,rfl⟩
        simp only [Int.zero_add]
        walk_at "rd"
        refine⟨by decide,?_⟩
        refine⟨_,rfl,_,rfl,rfl,_,rfl,?_⟩
        refine ite2 (fun c=>?_) (fun c=>?_)
        all_goals
          walk_at "rd"
          refine⟨(by decide:(0:Int)<37),NAMES,_,nmN one at' i j,rfl,rfl,by decide,?_,?_⟩
        · refine at37 _ one at' i j ?_
          have c:=of_decide_eq_true c
          have c:(j:Int)=at':=V.int.inj c
          unfold nmI
          rw[if_pos c]
        · refine⟨_,_,rfl,rfl,?_,some (.int j),some (.int (pt one ((j:Int)+2) 37+i)),?_,rfl⟩
          · rw[zc5,List.length_map,List.length_range]
            exact Nat.le_trans (show j+1<=100 by omega) (by decide)
          · rw[show (⟨#[nmN one at' i j]⟩:Str)=zbo [nmN one at' i j] from rfl,zjo,List.range_succ,List.map_append]
            rfl
        · refine at37 _ one at' i j ?_
          have c:¬(j:Int)=at':=fun z=>c (decide_eq_true (congrArg V.int z))
          unfold nmI
          rw[if_neg c]
        · refine⟨_,_,rfl,rfl,?_,some (.int j),some (.int (pt one ((j:Int)+2) 37)),?_,rfl⟩
          · rw[zc5,List.length_map,List.length_range]
            exact Nat.le_trans (show j+1<=100 by omega) (by decide)
          · rw[show (⟨#[nmN one at' i j]⟩:Str)=zbo [nmN one at' i j] from rfl,zjo,List.range_succ,List.map_append]
            rfl
      · rintro σ H2 ⟨v9,v10,rfl,rfl⟩
        refine⟨_,rfl,.inl ⟨rfl,_,SqL.of q2⟩,_,rfl,p,_,_,rfl,rfl,q2,?_,?_⟩
        · rw[List.length_map,List.length_map,List.length_range]
          exact zbe (by omega)
        · refine⟨_,_,_,_,rfl,q1.upd hp,?_⟩
          rw[zb,List.range_succ,List.map_append,List.map_append]
          rfl
    · rintro σ H1 ⟨v7,v8,v9,v10,rfl,q1,q2⟩
      obtain⟨n1,n2,n3⟩:=zna (n:=n) hn37 (one:=one) a1 a2 z1 z2
      have fin:Q (.ref p) H1:=k p _ H1 n3 n1 n2 hp q2 q1
      refine⟨_,rfl,_,rfl,_,_,rfl,rfl,_,rfl,?_⟩
      refine ite2 (fun c=>?_) (fun c=>?_)
      · have c:=of_decide_eq_true c
        walk_at "rd"
        refine⟨(by decide:(0:Int)<2),?_⟩
        refine⟨rfl,_,rfl,?_⟩
        refine ite2 (fun c2=>?_) (fun c2=>?_)
        · obtain⟨m1,m2,m3⟩:=znb (n:=n) (one:=one) (at':=at') (size:=size) (by omega) z2
          refine⟨_,rfl,(n:Int),rfl,by omega,by omega,fun D hD=>?_⟩
          have npD:p≠D:=zc q2 hD
          refine zfm (zub (lo:=0) (n:=n)) (fun _=>true) (cutF (nmC one at' 0 size) size) (fun _=>trivial) (by rw[List.length_map,List.length_range];exact zaj (by omega)) (fun v hv ys Q' q=>q) (fun v hv _ ys Q' q=>?_) ?_
          · obtain⟨z,hz,rfl⟩:=List.mem_map.mp hv
            refine⟨_,rfl,p,_,0,.str (zbo (nmC one at' 0 size)),rfl,rfl,SqL.of (by rw[zn npD];exact q2),(by have hz:=List.mem_range.mp hz;exact zcg (j:=0) (by rw[List.getElem?_map,List.getElem?_map,List.getElem?_range (by omega)];rfl)),?_⟩
            refine⟨_,rfl,_,rfl,_,_,rfl,rfl,_,rfl,_,rfl,?_,q⟩
            rw[zc5,zdp]
            exact Nat.le_trans z2 (by decide)
          · refine k D _ _ m3 m1 m2 (q1.free hD) ?_ (q1.trans (Same.new hD))
            rw[zb]
            congr 2
            unfold zf1
            rw[List.filter_eq_self.mpr (fun _ _=>rfl),List.map_map,List.map_map]
            apply List.map_congr_left
            intro i hi
            have hi:=List.mem_range.mp hi
            show V.str (Txt.slice (zbo (nmC one at' 0 size)) none (some ((size:Int)-(0+(i:Int)))))=V.str (zbo ((nmC one at' 0 size).take (size-i)))
            rw[zm2 _ _ (by omega) (by rw[zdp];omega)]
            congr 3
            omega
        · exact⟨_,rfl,fin⟩
      · exact iteF ⟨_,rfl,fin⟩
theorem zne {l:List Nat}{f:Nat->Bool}:(l.map f).all id=l.all f:=by rw[List.all_map];rfl
def inF (sg:Str):V->V
  | .str z=>.bl (!(Builtin.Str.occurrences sg z 0 sg.length 1).isEmpty)
  | _=>.non
theorem zx3 (l:List V):l.filter (fun _=>true)=l:=List.filter_eq_self.mpr fun _ _=>rfl
theorem zsb (x sg:Str):(((co x).map L2.sg).filter fun _=>true).map (inF sg)=((co x).map fun c=>decide (c∈co sg)).map V.bl:=by
  rw[zx3,List.map_map,List.map_map]
  apply List.map_congr_left
  intro c _
  show V.bl (!(Builtin.Str.occurrences sg ⟨#[c]⟩ 0 sg.length 1).isEmpty)=V.bl (decide (c∈sg.cps.toList))
  rw[StrLaws.found_one]
def zu3:Sp:=fun vs H Q _=>∃x sg,vs = [.str x,.str sg]/\x.length<=1000/\∀H',Same H H'->Q (.bl (zh1 (co x) sg)) H'
theorem zel (T:Tx K mg w C_Dig C_Desk zk zg zq zo zh zp zy zm zr zz zv zaa zw zab zx):Has P w K mg base "is_made_of" ["text","signs"] 1 zu3:=by
  refine T.zkb.has zif (fun vs H Q E h=>?_) (fun f cdv A outer s H vs Q E hr h=>?_)
  · obtain⟨x,sg,rfl,_⟩:=h;rfl
  · obtain⟨x,sg,rfl,hl,k⟩:=h
    refine⟨_,(zi (zal (za1 (zm0 K rfl rfl) (by rfl) T.all PyProof.Rows.boot_all (za (zcc (own:=["sign"]) (cap:=["signs"]) (ix:=[1]) (osc:=zj (top 43)) rfl ⟨rfl,by decide +kernel,by decide +kernel,by decide +kernel,by decide +kernel⟩ rfl (zwi (pv 0)) (fun _ _ _ _=>zap (i:=0) (show List.Nodup (["sign","signs"]:List Str) by decide +kernel) rfl (Or.inl rfl)) (fun _ _ _ _=>zbw) (fun _ _ _ _=>(zfa zn6 (pv 0) (pv 1) (by with_unfolding_all rfl)))) zd)))),?_⟩
    refine⟨_,rfl,x,rfl,fun D hD=>?_⟩
    refine zfm (zuc (x:=x)) (fun _=>true) (inF sg) (fun _=>trivial) (by rw[List.length_map,zb1];exact zaj hl) (fun v hv ys Q' q=>q) (fun v hv _ ys Q' q=>?_) ?_
    · obtain⟨c,_,rfl⟩:=List.mem_map.mp hv
      exact⟨_,rfl,_,rfl,_,_,rfl,rfl,q⟩
    · refine⟨D,(co x).map fun c=>decide (c∈co sg),rfl,.inl (.inl ?_),?_⟩
      · rw[zb,zsb]
      · rw[zne]
        exact k _ (Same.new hD)
def zu4:Sp:=fun vs H Q _=>∃x,vs = [.str x]/\x.length<=1000/\∀H',Same H H'->Q (.bl (za4 x)) H'
theorem zqa (T:Tx K mg w C_Dig C_Desk zk zg zq zo zh zp zy zm zr zz zv zaa zw zab zx):Has P w K mg base "is_name" ["text"] 2 zu4:=by
  refine T.zqq.has znc (fun vs H Q E h=>?_) (fun f cdv A outer s H vs Q E hr h=>?_)
  · obtain⟨x,rfl,_⟩:=h;rfl
  · obtain⟨x,rfl,hl,k⟩:=h
    obtain⟨u_NAME_SIGNS,h_NAME_SIGNS,r_NAME_SIGNS⟩:=T.zkk
    obtain⟨u_LONGEST_NAME,h_LONGEST_NAME,r_LONGEST_NAME⟩:=T.zg1
    refine⟨_,(zi (zal (zsq (zqy zqx zqx zf (za1 zeg (by rfl) T.len boot_len (za (pv 0) zd)) (zd3 (v:=.int 12) (by rfl) h_LONGEST_NAME r_LONGEST_NAME)) (znz (zao (zel T) (hr.mono (by decide)) (by rfl) (za (pv 0) (za (zd3 (v:=.str "abcdefghijklmnopqrstuvwxyz0123456789-") (by rfl) h_NAME_SIGNS r_NAME_SIGNS) zd))))))),?_⟩
    refine⟨_,rfl,x,rfl,zaj hl,_,_,rfl,rfl,_,rfl,?_⟩
    by_cases c1:1<=x.length
    · rw[decide_eq_true (show (1:Int)<=(x.length:Int) by omega)]
      refine iteT ⟨_,_,rfl,rfl,_,rfl,?_⟩
      by_cases c2:x.length<=12
      · rw[decide_eq_true (show (x.length:Int)<=12 by omega)]
        refine iteT ⟨_,rfl,x,NAMES,rfl,hl,fun H' s'=>?_⟩
        have:=k H' s'
        unfold za4 at this
        rw[decide_eq_true c1,decide_eq_true c2] at this
        exact this
      · rw[decide_eq_false (show ¬(x.length:Int)<=12 by omega)]
        refine iteF ?_
        have:=k H (Same.refl H)
        unfold za4 at this
        rw[decide_eq_false c2,Bool.and_false,Bool.false_and] at this
        exact this
    · rw[decide_eq_false (show ¬(1:Int)<=(x.length:Int) by omega)]
      refine iteF ⟨_,rfl,iteF ?_⟩
      have:=k H (Same.refl H)
      unfold za4 at this
      rw[decide_eq_false c1,Bool.false_and,Bool.false_and] at this
      exact this
def numV (x:Str):V:=if zc3 x=true then .int (numI x) else .non
def zw7:Sp:=fun vs H Q _=>∃x,vs = [.str x]/\x.length<=1000/\∀H',Same H H'->Q (numV x) H'
theorem zu5 {x:Str}(h:zc3 x=false):numV x = .non:=by unfold numV;rw[h];exact if_neg Bool.false_ne_true
theorem zij {x:Str}(h:zc3 x=true):numV x = .int (numI x):=if_pos h
theorem zsc:(Str.ofString "-" : Str)=⟨#[45]⟩:=by decide +kernel
theorem zero_is:(Str.ofString "0" : Str)=⟨#[48]⟩:=by decide +kernel
theorem zik {x:Str}(h:(co x).head? = some 45):figs (co x)=(co x).drop 1:=by
  cases e:co x with
  | nil=>rw[e] at h;cases h
  | cons c r=>
    rw[e] at h
    have h:c=45:=Option.some.inj h
    subst h
    rw[zdx];rfl
theorem zil {x:Str}(h:¬(co x).head? = some 45):figs (co x)=co x:=by
  cases e:co x with
  | nil=>rfl
  | cons c r=>
    rw[e] at h
    exact zdy r fun z=>h (by rw[z];rfl)
theorem zu6 (l:List Nat):(figs l).length<=l.length:=by
  cases l with
  | nil=>exact Nat.le_refl _
  | cons c r=>
    by_cases h:c=45
    · subst h;rw[zdx];exact Nat.le_succ _
    · rw[zdy r h];exact Nat.le_refl _
theorem zj0 {x:Str}(h:¬(1<=(figs (co x)).length/\(figs (co x)).length<=60)):zc3 x=false:=by
  unfold zc3
  by_cases h1:1<=(figs (co x)).length
  · rw[decide_eq_false (fun z=>h ⟨h1,z⟩),Bool.and_false,Bool.false_and,Bool.false_and]
  · rw[decide_eq_false h1,Bool.false_and,Bool.false_and,Bool.false_and]
theorem znf {x:Str}(h:zh1 (figs (co x)) FIGS=false):zc3 x=false:=by
  unfold zc3
  rw[h,Bool.and_false,Bool.false_and]
theorem zqb {x:Str}(h1:1<=(figs (co x)).length) (h2:(figs (co x)).length<=60) (h3:zh1 (figs (co x)) FIGS=true):zc3 x = !(decide ((figs (co x)).head? = some 48) && !decide (x=ZERO)):=by
  unfold zc3
  rw[decide_eq_true h1,decide_eq_true h2,h3];rfl
theorem zim (T:Tx K mg w C_Dig C_Desk zk zg zq zo zh zp zy zm zr zz zv zaa zw zab zx):Has P w K mg base "read_number" ["text"] 2 zw7:=by
  refine T.ziw.has sc_read_number (fun vs H Q E h=>?_) (fun f cdv A outer s H vs Q E hr h=>?_)
  · obtain⟨x,rfl,_⟩:=h;rfl
  · obtain⟨x,rfl,hl,k⟩:=h
    obtain⟨u_FIGURES,h_FIGURES,r_FIGURES⟩:=T.zqs
    obtain⟨u_MOST_FIGURES,h_MOST_FIGURES,r_MOST_FIGURES⟩:=T.zg2
    refine⟨_,(ze (zav (i:=1) sc_read_number.nd rfl (Or.inl rfl) (zqv (zg3 (zbr K rfl PySem.F.plainAttrs_str PySem.F.slot_str_startswith PySem.F.type_str_startswith zjc (pv 0) (za zaf zd))) (zb4 zs1 (pv 0) (zcb zf) zdm) (pv 0)))
      (ze (zay (zln (zqz zqx zqx zf (za1 zeg (by rfl) T.len boot_len (za (pv 1) zd)) (zd3 (v:=.int 60) (by rfl) h_MOST_FIGURES r_MOST_FIGURES))) (zi (zal znx)) zai)
      (ze (zay (zln (zg3 (zao (zel T) (hr.mono (by decide)) (by rfl) (za (pv 1) (za (zd3 (v:=.str "0123456789") (by rfl) h_FIGURES r_FIGURES) zd))))) (zi (zal znx)) zai)
      (ze (zay (PW.pt (zcz (zg3 (zbr K rfl PySem.F.plainAttrs_str PySem.F.slot_str_startswith PySem.F.type_str_startswith zjc (pv 1) (za zaf zd))) (zb8 (zad zmq (pv 0) zaf (zak _))))) (zi (zal znx)) zai)
      (zi (zal (zca zor (by rfl) T.int PyProof.Rows.boot_int (za (pv 0) zd)))))))),?_⟩
    refine⟨_,rfl,rfl,x,_,rfl,rfl,_,rfl,?_⟩
    have key:∀R:V->Hp->Prop,(∀y,co y=figs (co x)->R (.str y) H)->(if Txt.startswith x (Str.ofString "-")=true then tSl rSlS (tVar 0) (zv6 (tC (.int 1))) zof (zd5 ["text","figures"] [.str x]) H R else tVar 0 (zd5 ["text","figures"] [.str x]) H R):=fun R hR=>by
      rw[zsc,zhc]
      by_cases c:(co x).head? = some 45
      · rw[decide_eq_true c]
        exact iteT ⟨_,rfl,_,rfl,x,rfl,zaj hl,hR _ (by rw[zk2,zik c])⟩
      · rw[decide_eq_false c]
        exact iteF ⟨_,rfl,hR x (zil c).symm⟩
    refine key _ fun y hy=>?_
    have hyl:y.length=(figs (co x)).length:=by rw[←zb1,hy]
    have hyl2:y.length<=1000:=by rw[hyl];exact Nat.le_trans (zu6 _) (by rw[zb1];exact hl)
    have no:zc3 x=false->∀H',Same H H'->Q .non H':=fun z H' s'=>by
      have:=k H' s'
      rw[zu5 z] at this
      exact this
    refine⟨_,rfl,y,rfl,zaj hyl2,_,_,rfl,rfl,_,rfl,?_⟩
    by_cases c1:1<=y.length
    · rw[decide_eq_true (show (1:Int)<=(y.length:Int) by omega)]
      refine iteT ⟨_,_,rfl,rfl,_,rfl,?_⟩
      by_cases c2:y.length<=60
      · rw[decide_eq_true (show (y.length:Int)<=60 by omega)]
        refine iteF ⟨_,rfl,y,FIGS,rfl,hyl2,fun H1 s1=>⟨_,rfl,?_⟩⟩
        rw[hy]
        cases c3:zh1 (figs (co x)) FIGS with
        | false=>exact iteT (no (znf c3) H1 s1)
        | true=>
          refine iteF ⟨_,rfl,rfl,y,_,rfl,rfl,_,rfl,?_⟩
          have ok:=zqb (by omega) (by omega) c3
          rw[zero_is,zhc,hy]
          have fin:zc3 x=true->∀H',Same H H'->tRet (tCB (fun xs H Q=>∃x n,xs = [V.str x]/\PySem.intText? x=some n/\x.length<=640/\Q (.int n) H) (zbb (tVar 0) tNil)) { nx:=fun _ H'=>Q .non H',rt:=Q } [some (.str x),some (.str y)] H':=fun z H' s'=>by
            obtain⟨e1,e2⟩:=zrq z
            refine⟨_,rfl,x,numI x,rfl,e1,Nat.le_trans e2 (by decide),?_⟩
            have:=k H' s'
            rw[zij z] at this
            exact this
          by_cases c4:(figs (co x)).head? = some 48
          · rw[decide_eq_true c4] at ok ⊢
            refine iteT ⟨_,rfl,rfl,_,rfl,?_⟩
            by_cases c5:x=ZERO
            · rw[decide_eq_true c5] at ok
              rw[decide_eq_true (show V.str x=V.str (⟨#[48]⟩:Str) by rw[c5];exact congrArg V.str zero_is)]
              exact iteF (fin ok H1 s1)
            · rw[decide_eq_false c5] at ok
              rw[decide_eq_false (show ¬V.str x=V.str (⟨#[48]⟩:Str) from fun z=>c5 ((V.str.inj z).trans zero_is.symm))]
              exact iteT (no ok H1 s1)
          · rw[decide_eq_false c4] at ok ⊢
            exact iteF (iteF (fin ok H1 s1))
      · rw[decide_eq_false (show ¬(y.length:Int)<=60 by omega)]
        exact iteT (no (zj0 (by omega)) H (Same.refl H))
    · rw[decide_eq_false (show ¬(1:Int)<=(y.length:Int) by omega)]
      exact iteF ⟨_,rfl,iteT (no (zj0 (by omega)) H (Same.refl H))⟩
inductive ValOk:Str->V->Prop where
  | name {x:Str}(h:za4 x=true):ValOk "name" (.str x)
  | year {n:Int}(h:zan n):ValOk "year" (.int n)
  | gap {n:Int}(h0:0<=n) (h:zan n):ValOk "gap" (.int n)
def zsd:Sp:=fun vs H Q _=>∃(kd:Str) (v r:V),vs = [.str kd,.str (za2 v),r]/\ValOk kd v/\∀H',Same H H'->Q v H'
theorem sne {a b:String}(h:¬(Str.ofString a:Str)=Str.ofString b):decide (V.str (Str.ofString a)=V.str (Str.ofString b))=false:=decide_eq_false fun z=>h (V.str.inj z)
theorem zj1 (T:Tx K mg w C_Dig C_Desk zk zg zq zo zh zp zy zm zr zz zv zaa zw zab zx):Has P w K mg base "read_value" ["kind","word","row"] 3 zsd:=by
  refine T.zke.has sc_read_value (fun vs H Q E h=>?_) (fun f cdv A outer s H vs Q E hr h=>?_)
  · obtain⟨kd,v,r,rfl,_⟩:=h;rfl
  · obtain⟨kd,v,r,rfl,hv,k⟩:=h
    refine⟨_,(ze (zay (zad zbv (pv 0) zaf (zak _)) (ze (zay (zln (zg3 (zao (zqa T) (hr.mono (by decide)) (by rfl) (za (pv 1) zd)))) (zi za0) zai)
        (zi (zal (pv 1)))) zai)
      (ze (zav (i:=3) sc_read_value.nd rfl (Or.inl rfl) (zao (zim T) (hr.mono (by decide)) (by rfl) (za (pv 1) zd)))
      (ze (zay (PW.pt (ztm (zcy (zvw (pv 3))) (zny (PW.pt (zcz (zad zbv (pv 0) zaf (zak _)) (zb8 (zad zn5 (pv 3) zf (zak _)))))))) (zi za0) zai)
      (zi (zal (pv 3)))))),?_⟩
    cases hv with
    | name h=>
      rename_i x
      have lx:=zh3 h
      refine⟨_,rfl,rfl,_,rfl,?_⟩
      rw[decide_eq_true rfl]
      refine iteT ⟨_,rfl,x,rfl,by omega,fun H1 s1=>⟨_,rfl,?_⟩⟩
      rw[h]
      exact iteF ⟨_,rfl,k _ s1⟩
    | year h=>
      rename_i n
      obtain⟨o1,o2,o3⟩:zc3 (za2 (.int n))=true/\numI (za2 (.int n))=n/\(za2 (.int n)).length<=61:=zfs n h
      refine⟨_,rfl,rfl,_,rfl,?_⟩
      rw[sne (by decide +kernel)]
      refine iteF ⟨_,rfl,_,rfl,by omega,fun H1 s1=>?_⟩
      rw[zij o1,o2]
      refine⟨_,rfl,_,rfl,?_⟩
      rw[decide_eq_false (fun z=>nomatch z)]
      refine iteF ⟨_,rfl,rfl,_,rfl,?_⟩
      rw[sne (by decide +kernel)]
      exact iteF (iteF ⟨_,rfl,k _ s1⟩)
    | gap h0 h=>
      rename_i n
      obtain⟨o1,o2,o3⟩:zc3 (za2 (.int n))=true/\numI (za2 (.int n))=n/\(za2 (.int n)).length<=61:=zfs n h
      refine⟨_,rfl,rfl,_,rfl,?_⟩
      rw[sne (by decide +kernel)]
      refine iteF ⟨_,rfl,_,rfl,by omega,fun H1 s1=>?_⟩
      rw[zij o1,o2]
      refine⟨_,rfl,_,rfl,?_⟩
      rw[decide_eq_false (fun z=>nomatch z)]
      refine iteF ⟨_,rfl,rfl,_,rfl,?_⟩
      rw[decide_eq_true rfl]
      refine iteT ⟨_,rfl,_,_,rfl,rfl,_,rfl,?_⟩
      rw[decide_eq_false (by omega)]
      exact iteF ⟨_,rfl,k _ s1⟩
structure FrmOk (ks:List Str) (vs:List V):Prop where
  len:ks.length<=4
  short:∀x∈ks,x.length<=100
  vals:Paired ValOk ks vs
  years:(Str.ofString "year" : Str)∈ks->∃pre lo hi,vs=pre++[.int lo,.int hi]/\lo<=hi
theorem ztc {kd:Str}{v:V}(h:ValOk kd v):valF (.str kd) (.str (za2 v))=v:=by
  cases h with
  | name h=>
    rename_i x
    show (if (Str.ofString "name" : Str)=Str.ofString "name" then V.str x else V.int (numI x))=V.str x
    exact if_pos rfl
  | year h=>
    rename_i n
    show (if (Str.ofString "year" : Str)=Str.ofString "name" then V.str (za2 (.int n)) else V.int (numI (Str.ofString (toString n))))=V.int n
    rw[if_neg (by decide +kernel),(zfs _ h).2.1]
  | gap h0 h=>
    rename_i n
    show (if (Str.ofString "gap" : Str)=Str.ofString "name" then V.str (za2 (.int n)) else V.int (numI (Str.ofString (toString n))))=V.int n
    rw[if_neg (by decide +kernel),(zfs _ h).2.1]
theorem zqc:∀{ks:List Str}{vs:List V},Paired ValOk ks vs->List.zipWith valF (ks.map V.str) (vs.map fun v=>V.str (za2 v))=vs
  | _,_,.nil=>rfl
  | _,_,.cons h t=>by rw[List.map_cons,List.map_cons,List.zipWith_cons_cons,ztc h,zqc t]
def zu7:Sp:=fun vs H Q _=>∃(ad a:Addr) (kd:Str) (ks:List Str) (us:List V) (r:V),vs = [.ref ad,.ref a,r]/\(∀H',SqT K H' ad (ks.map V.str))/\SqL K H a ((V.str kd::us).map fun v=>V.str (za2 v))/\
  FrmOk ks us/\∀(p:Addr) (H':Hp),H p=none->H' p=some (.tup (.str kd::us))->Same H H'->Q (.ref p) H'
theorem zu8 {ks:List Str}(h:∀x∈ks,x.length<=100):∀v∈ks.map V.str,Wd v:=by
  intro v hv
  obtain⟨x,hx,rfl⟩:=List.mem_map.mp hv
  exact .inl ⟨x,rfl,h x hx⟩
set_option maxHeartbeats 4000000 in
theorem zdq (T:Tx K mg w C_Dig C_Desk zk zg zq zo zh zp zy zm zr zz zv zaa zw zab zx):Has P w K mg base "read_form" ["form","words","row"] 4 (zu7 (K:=K)):=by
  refine T.zlg.has sc_read_form (fun vs H Q E h=>?_) (fun f cdv A outer s H vs Q E hr h=>?_)
  · obtain⟨ad,a,kd,ks,us,r,rfl,_⟩:=h;rfl
  · obtain⟨ad,a,kd,ks,vs,r,rfl,kt,ha,⟨h4,hsh,hv,hy⟩,k⟩:=h
    refine⟨_,(ze (zay (zad zmq (za1 (zar K rfl) (by rfl) T.len boot_len (za (pv 1) zd)) (zaz zdh (za1 (zar K rfl) (by rfl) T.len boot_len (za (pv 0) zd)) zf) (zak _)) (zi za0) zai)
      (ze (zht (i:=3) (own:=["kind","word"]) (cap:=["row"]) (ix:=[2]) (osc:=zj (top 53)) rfl sc_read_form.nd rfl rfl rfl ⟨rfl,by decide +kernel,by decide +kernel,by decide +kernel,by decide +kernel⟩ rfl (zui K rfl true false (by rfl) T.zip (za (pv 0) (za (zb4 (zhv K rfl) (pv 1) (zcb zf) zdm) zd))) (fun _ _ _ _=>zk0 (n:=2) K rfl rfl (zbx (zap (i:=0) (show List.Nodup (["kind","word","row"]:List Str) by decide +kernel) rfl (Or.inl rfl)) (zbx (zap (i:=1) (show List.Nodup (["kind","word","row"]:List Str) by decide +kernel) rfl (Or.inl rfl)) zko))) (fun _ _ _ _=>zbw) (fun _ _ _ _=>(zao (zj1 T) (hr.mono (by decide)) (by rfl) (za (pv 0) (za (pv 1) (za (pv 2) zd))))))
      (ze (zay (PW.pt (zcz (zad (zkz K rfl (hu10 hr)) (zb4 (zut (K:=K) rfl) (pv 0) (zcb (zkp ze9 zf)) zdm) (zbc (za zaf (za zaf zd))) (zak _)) (zb8 (zad ztr (zah (zac K rfl) (pv 3) (zkp ze9 zf) (fun _ _=>rfl)) (zah (zac K rfl) (pv 3) (zkp ze9 zf) (fun _ _=>rfl)) (zak _))))) (zi za0) zai)
      (zi (zal (zaz (zce K rfl) (zbc (za (zah (zac K rfl) (pv 1) zf (fun _ _=>rfl)) zd)) (zca (zgm K rfl) (by rfl) T.tuple PyProof.Rows.boot_tuple (za (pv 3) zd)))))))),?_⟩
    have hl:ks.length=vs.length:=Paired.length hv
    refine⟨_,rfl,a,_,rfl,.inl ha,_,rfl,ad,_,rfl,.inr (kt H),_,_,rfl,rfl,rfl,_,rfl,?_⟩
    rw[decide_eq_true (by simp only [List.length_map,List.length_cons];congr 1;omega)]
    refine iteF ?_
    refine⟨_,rfl,_,rfl,_,rfl,a,_,rfl,ha,fun p hp=>?_⟩
    have s1:=Same.new (o:=.lst (cutV ((V.str kd::vs).map fun v=>V.str (za2 v)) (some 1) none)) hp
    have e1:upd H p (.lst (cutV ((V.str kd::vs).map fun v=>V.str (za2 v)) (some 1) none)) p=some (.lst (vs.map fun v=>V.str (za2 v))):=by rw[zb,List.map_cons,zd8]
    generalize upd H p (.lst (cutV ((V.str kd::vs).map fun v=>V.str (za2 v)) (some 1) none))=H1 at s1 e1
    refine⟨ad,p,_,_,rfl,kt H1,SqL.of e1,fun D hD=>?_⟩
    refine zro (xs:=ks.map V.str) (ys:=vs.map fun v=>V.str (za2 v)) valF hD (fun H' s=>kt H') (fun H' s=>s.seq (SqL.of e1)) (by simp only [List.length_map];exact hl) (zaj (by rw[List.length_map];omega)) (fun i x y ex ey H' Q' s hQ=>?_) (fun H2 s2 hD2=>?_)
    · rw[List.getElem?_map] at ex ey
      cases ek:ks[i]? with
      | none=>rw[ek] at ex;cases ex
      | some kd'=>
        obtain⟨v,ev,hkv⟩:=Paired.get' hv ek
        rw[ek] at ex
        rw[ev] at ey
        cases ex
        cases ey
        rw[ztc hkv] at hQ
        exact⟨_,rfl,_,rfl,_,rfl,kd',v,r,rfl,hkv,hQ⟩
    rw[zqc hv] at hD2
    have q2:=s1.trans s2
    dsimp only [za6]
    refine zbz false (fun Q' hQ=>?_) (fun H3 t3=>iteF ?_)
    · have yr:(Str.ofString "year" : Str).length<=100:=by decide +kernel
      have wy:∀v∈[V.str "year",V.str "year"],Wd v:=fun v hv=>by
        simp at hv
        subst hv
        exact .inl ⟨_,rfl,yr⟩
      have fin:∀(t:Addr) (zs:List V) (H4:Hp),Same H2 H4->SqT K H4 t zs->(∀z∈zs,z∈ks.map V.str)->∀p2,H4 p2=none->∃b,DEq K (upd H4 p2 (.tup [.str "year",.str "year"])) 8 (.ref t) (.ref p2) b/\(b=true->(Str.ofString "year" : Str)∈ks):=by
        intro t zs H4 s4 ht hz p2 hp2
        have wz:∀v∈zs,Wd v:=fun v hv=>zu8 hsh v (hz v hv)
        refine⟨_,DEq.flatT (n:=7) ((Same.new hp2).tup ht) (SqT.of zb) (fun x hx=>(wz x hx).flat) (fun x hx=>(wy x hx).flat),fun z=>?_⟩
        rw[zs4 wz wy] at z
        have z:=of_decide_eq_true z
        have:=hz (.str "year") (by rw[z];simp)
        obtain⟨x,hx,e⟩:=List.mem_map.mp this
        have e:=V.str.inj e
        subst e
        exact hx
      refine⟨_,rfl,_,rfl,_,rfl,ad,_,rfl,kt H2,fun hw=>?W,fun hw p9 hp9=>?C⟩
      case' W=>
        obtain⟨t,et⟩:∃t,t=ad:=⟨_,rfl⟩
        obtain⟨H4,eH⟩:∃H4,H4=H2:=⟨_,rfl⟩
        have s4:Same H2 H4:=by rw[eH];exact (Same.refl _)
        have hd4:=s4 _ _ hD2
        have fin:=fin t (ks.map V.str) H4 s4 (by rw[et];exact kt H4) (fun z h=>h)
        rw[←eH,←et]
      case' C=>
        have s4:Same H2 (upd H2 p9 (.tup (cutV (ks.map V.str) (some (-2)) none))):=Same.new hp9
        have e4:upd H2 p9 (.tup (cutV (ks.map V.str) (some (-2)) none)) p9=some (.tup (cutV (ks.map V.str) (some (-2)) none)):=zb
        obtain⟨t,et⟩:∃t,t=p9:=⟨_,rfl⟩
        rw[←et]
        rw[←et] at e4 s4
        generalize upd H2 t (.tup (cutV (ks.map V.str) (some (-2)) none))=H4 at s4 e4
        have hd4:=s4 _ _ hD2
        have fin:=fin t _ H4 s4 (SqT.of e4) (fun z h=>List.mem_of_mem_drop (List.mem_of_mem_take h))
      all_goals
        refine⟨(by show 2<=sizeLine;decide),fun p2 hp2=>?_⟩
        obtain⟨b,hb,hb'⟩:=fin p2 hp2
        have t5:=Same.new (o:=.tup [.str "year",.str "year"]) hp2
        refine⟨t,p2,b,rfl,rfl,hb,_,rfl,?_⟩
        refine ite2 (fun c=>?_) (fun c=>hQ _ (s4.trans t5))
        obtain⟨pre,lo,hi,rfl,hlo⟩:=hy (hb' c)
        have hd5:=t5 _ _ hd4
        refine⟨_,rfl,_,rfl,D,_,_,_,rfl,rfl,SqL.of hd5,zpj _ _ _,_,rfl,_,rfl,D,_,_,_,rfl,rfl,SqL.of hd5,zpk _ _ _,_,_,rfl,rfl,_,rfl,?_⟩
        rw[decide_eq_false (by omega)]
        exact hQ _ (s4.trans t5)
    have hD3:=t3 _ _ hD2
    have q3:=q2.trans t3
    refine⟨_,rfl,a,_,_,_,rfl,rfl,q3.seq ha,zep,(by show 1<=sizeLine;decide),fun p1 hp1=>?_⟩
    have s3:=Same.new (o:=.tup [.str kd]) hp1
    refine⟨_,rfl,D,_,rfl,.inl ⟨SqL.of (s3 _ _ hD3),fun p2 hp2=>?_⟩⟩
    have s4:=s3.trans (Same.new (o:=.tup vs) hp2)
    refine⟨p1,p2,_,_,rfl,rfl,SqT.of (Same.new hp2 _ _ zb),SqT.of zb,by simp,zaj (by show 1+vs.length<=1000;omega),fun z=>?_,fun _ p3 hp3=>?_⟩
    · subst z
      exact k p1 _ (q3.free hp1) (Same.new hp2 _ _ zb) (q3.trans s4)
    · exact k p3 _ ((q3.trans s4).free hp3) zb ((q3.trans s4).trans (Same.new hp3))
theorem zu9 {ws:List V}(h:RowOk ws):∃kd ks vs,ws = .str kd::vs/\(kd,ks.map V.str)∈l_FORMS/\FrmOk ks vs:=by
  have sh:∀x∈([Str.ofString "name",Str.ofString "year",Str.ofString "gap"]:List Str),x.length<=100:=by decide +kernel
  cases h with
  | dig hl h1 h2=>exact⟨"dig",["year","year"],_,rfl,by simp[l_FORMS],⟨by decide,fun x hx=>sh x (by simp at hx;simp[hx]),.cons (.year h1) (.cons (.year h2) .nil),fun _=>⟨[],_,_,rfl,hl⟩⟩⟩
  | unit hx=>exact⟨"unit",["name"],_,rfl,by simp[l_FORMS],⟨by decide,fun x hx=>sh x (by simp at hx;simp[hx]),.cons (.name hx) .nil,fun z=>absurd z (by decide +kernel)⟩⟩
  | plain hk hx hy=>
    rename_i kd x y
    refine⟨kd,["name","name"],_,rfl,?_,⟨by decide,fun x hx=>sh x (by simp at hx;simp[hx]),.cons (.name hx) (.cons (.name hy) .nil),fun z=>absurd z (by decide +kernel)⟩⟩
    unfold zh2 at hk
    simp only [List.mem_cons,List.not_mem_nil,or_false] at hk
    rcases hk with rfl | rfl | rfl | rfl<;>simp[l_FORMS]
  | after hx hy h0 h1=>exact⟨"after",["name","name","gap"],_,rfl,by simp[l_FORMS],⟨by decide,fun x hx=>sh x (by simp at hx;rcases hx with rfl | rfl<;>simp),.cons (.name hx) (.cons (.name hy) (.cons (.gap h0 h1) .nil)),fun z=>absurd z (by decide +kernel)⟩⟩
  | find hn hx hl h1 h2=>exact⟨"find",["name","name","year","year"],_,rfl,by simp[l_FORMS],⟨by decide,fun x hx=>sh x (by simp at hx;rcases hx with rfl | rfl<;>simp),.cons (.name hn) (.cons (.name hx) (.cons (.year h1) (.cons (.year h2) .nil))),fun _=>⟨[.str _,.str _],_,_,rfl,hl⟩⟩⟩
theorem zse {kd:Str}{ks:List V}(h:(kd,ks)∈l_FORMS):decide (kd∈l_FORMS.map (·.1))=true:=decide_eq_true (List.mem_map.mpr ⟨_,h,rfl⟩)
def zsf:Sp:=fun vs H Q _=>∃(a:Addr) (ws:List V) (r:V),vs = [.ref a,r]/\SqL K H a (ws.map fun v=>V.str (za2 v))/\RowOk ws/\∀(p:Addr) (H':Hp),H p=none->H' p=some (.tup ws)->Same H H'->Q (.ref p) H'
theorem zem (T:Tx K mg w C_Dig C_Desk zk zg zq zo zh zp zy zm zr zz zv zaa zw zab zx):Has P w K mg base "read_entry" ["words","row"] 5 (zsf (K:=K)):=by
  refine T.zkd.has zih (fun vs H Q E h=>?_) (fun f cdv A outer s H vs Q E hr h=>?_)
  · obtain⟨a,ws,r,rfl,_⟩:=h;rfl
  · obtain⟨a,ws,r,rfl,ha,hw,k⟩:=h
    obtain⟨a_FORMS,m_FORMS,k_FORMS⟩:=T.zvn
    refine⟨_,(ze (zay (zcy (zo3 k_FORMS (by rfl) m_FORMS (zah (zac K rfl) (pv 0) zf (fun _ _=>rfl)))) (zi za0) zai)
      (zi (zal (zao (zdq T) (hr.mono (by decide)) (by rfl) (za (zk1 k_FORMS (by rfl) m_FORMS (zah (zac K rfl) (pv 0) zf (fun _ _=>rfl)) (fun _ _=>rfl)) (za (pv 0) (za (pv 1) zd))))))),?_⟩
    obtain⟨kd,ks,vs,rfl,hf,frm⟩:=zu9 hw
    refine⟨_,rfl,a,_,_,_,rfl,rfl,ha,zep,kd,rfl,_,rfl,?_⟩
    rw[zse hf]
    refine iteF ?_
    refine⟨_,rfl,a,_,_,_,rfl,rfl,ha,zep,kd,_,rfl,hf,fun ad kt=>?_⟩
    exact⟨_,rfl,_,rfl,ad,a,kd,ks,vs,r,rfl,fun H'=>kt.sq H',ha,frm,k⟩
theorem ze6 {t:Tie}(h:RowOk (tieV t)):t.k∈([Str.ofString "over",Str.ofString "cuts",Str.ofString "fills",Str.ofString "same",Str.ofString "after"]:List Str):=by
  obtain⟨kd,a,b,g⟩:=t
  cases g with
  | none=>
    generalize e:tieV ⟨kd,a,b,none⟩=ws at h
    cases h with
    | plain hk hx hy=>
      have e : [V.str kd,.str a,.str b]=_:=e
      simp only [List.cons.injEq,V.str.injEq] at e
      rw[e.1]
      unfold zh2 at hk
      simp only [List.mem_cons,List.not_mem_nil,or_false] at hk ⊢
      rcases hk with h | h | h | h
      · exact .inl h
      · exact .inr (.inl h)
      · exact .inr (.inr (.inl h))
      · exact .inr (.inr (.inr (.inl h)))
    | dig=>have e : [V.str kd,.str a,.str b]=_:=e;simp at e
    | unit=>have e : [V.str kd,.str a,.str b]=_:=e;simp at e
    | after=>have e : [V.str kd,.str a,.str b]=_:=e;simp at e
    | find=>have e : [V.str kd,.str a,.str b]=_:=e;simp at e
  | some g=>
    generalize e:tieV ⟨kd,a,b,some g⟩=ws at h
    cases h with
    | plain hk hx hy=>have e : [V.str kd,.str a,.str b,.int g]=_:=e;simp at e
    | dig=>have e : [V.str kd,.str a,.str b,.int g]=_:=e;simp at e
    | unit=>have e : [V.str kd,.str a,.str b,.int g]=_:=e;simp at e
    | after=>
      have e : [V.str kd,.str a,.str b,.int g]=_:=e
      simp only [List.cons.injEq,V.str.injEq] at e
      rw[e.1]
      simp
    | find=>have e : [V.str kd,.str a,.str b,.int g]=_:=e;simp at e
theorem zcd (t:Tie):∃r,tieV t = .str t.k::r:=by
  obtain⟨kd,a,b,g⟩:=t
  cases g<;>exact⟨_,rfl⟩
def zva:Sp:=fun vs H Q _=>∃(a:Addr) (t:Tie),vs = [.ref a]/\SqL K H a ((tieV t).map fun v=>V.str (za2 v))/\RowOk (tieV t)/\∀(p:Addr) (H':Hp),H' p=some (.tup (tieV t))->Same H H'->Q (.ref p) H'
theorem zd2:∀k∈([Str.ofString "over",Str.ofString "cuts",Str.ofString "fills",Str.ofString "same",Str.ofString "after"]:List Str),inV (.str k) [.str (Str.ofString "dig"),.str (Str.ofString "unit"),.str (Str.ofString "find")]=false/\¬k=Str.ofString "untie"/\¬k∈l_DEEDS.map (·.1)/\¬k∈l_QUESTIONS.map (·.1)/\¬k=Str.ofString "dig"/\¬k=Str.ofString "unit"/\¬k=Str.ofString "drop"/\¬k=Str.ofString "find"/\¬k=Str.ofString "move"/\¬k=Str.ofString "lose":=by decide +kernel
set_option maxHeartbeats 4000000 in
theorem zng (T:Tx K mg w C_Dig C_Desk zk zg zq zo zh zp zy zm zr zz zv zaa zw zab zx):Has P w K mg base "read_tie" ["words"] 6 (zva (K:=K)):=by
  refine T.znr.has zld (fun vs H Q E h=>?_) (fun f cdv A outer s H vs Q E hr h=>?_)
  · obtain⟨a,t,rfl,_⟩:=h;rfl
  · obtain⟨a,t,rfl,ha,hw,k⟩:=h
    refine⟨_,(ze (zay (PW.pt (ztm (zad (zkz K rfl (hu10 hr)) (pv 0) (zbn zd) (zak _)) (zny (zad (zhb K rfl) (zah (zac K rfl) (pv 0) zf (fun _ _=>rfl)) (zbc (za zaf (za zaf (za zaf zd)))) (by with_unfolding_all rfl))))) (zi za0) zai)
      (zi (zal (zao (zem T) (hr.mono (by decide)) (by rfl) (za (pv 0) (za zf zd)))))),?_⟩
    obtain⟨r,er⟩:=zcd t
    have hk:=zd2 _ (ze6 hw)
    refine zbz false (fun Q' hQ=>?_) (fun H1 s1=>iteF ?_)
    · refine⟨_,rfl,by decide,fun e he=>?_⟩
      have t1:=Same.new (o:=.lst []) he
      refine⟨a,e,_,rfl,rfl,DEq.nilL (t1.seq ha) (SqL.of zb),_,rfl,?_⟩
      rw[decide_eq_false (by rw[er];simp)]
      refine iteF ?_
      have ha1:=t1.seq ha
      rw[er] at ha1
      refine⟨_,rfl,a,_,_,_,rfl,rfl,ha1,zep,by show 3<=sizeLine;decide,fun b hb=>?_⟩
      have t2:=Same.new (o:=.tup [.str (Str.ofString "dig"),.str (Str.ofString "unit"),.str (Str.ofString "find")]) hb
      refine⟨b,_,rfl,.inr (SqT.of zb),rfl,rfl,_,rfl,?_⟩
      rw[if_neg (by decide),show inV ((fun v=>V.str (za2 v)) (V.str t.k)) [.str (Str.ofString "dig"),.str (Str.ofString "unit"),.str (Str.ofString "find")]=false from hk.1]
      exact hQ _ (t1.trans t2)
    try unfold zcv
    try dsimp only
    exact⟨_,rfl,a,tieV t,_,rfl,s1.seq ha,hw,fun p H' _ e s=>k p H' e (s1.trans s)⟩
theorem zed:∀x∈([Str.ofString "name"]:List Str),x.length<=100:=by decide +kernel
theorem zvb {sy:Say}(ok:SayOk sy):∃kd r,sayW sy = .str kd::r/\((∃t,sy = .deed (.untie t)/\kd=Str.ofString "untie"/\RowOk (tieV t))\/(¬kd=Str.ofString "untie"/\
    ((∃ks,(kd,ks.map V.str)∈l_DEEDS/\FrmOk ks r/\∀p (H':Hp),H' p=some (.tup (.str kd::r))->SayAt H' p sy)\/(¬kd∈l_DEEDS.map (·.1)/\
      ((∃ks,(kd,ks.map V.str)∈l_QUESTIONS/\FrmOk ks r/\∀p (H':Hp),H' p=some (.tup (.str kd::r))->SayAt H' p sy)\/(¬kd∈l_QUESTIONS.map (·.1)/\RowOk (.str kd::r)/\∀p (H':Hp),H' p=some (.tup (.str kd::r))->SayAt H' p sy)))))):=by
  cases ok with
  | unit h=>exact⟨_,_,rfl,.inr ⟨by decide +kernel,.inr ⟨by decide +kernel,.inr ⟨by decide +kernel,.unit h,fun p H' e=>.unit e⟩⟩⟩⟩
  | drop h=>exact⟨_,_,rfl,.inr ⟨by decide +kernel,.inl ⟨["name"],by simp[l_DEEDS],⟨by decide,fun x hx=>zed x (by simpa using hx),.cons (.name h) .nil,fun z=>absurd z (by decide +kernel)⟩,fun p H' e=>.drop e⟩⟩⟩
  | @tie t h=>
    obtain⟨r,er⟩:=zcd t
    have hk:=zd2 _ (ze6 h)
    refine⟨t.k,r,er,.inr ⟨hk.2.1,.inr ⟨hk.2.2.1,.inr ⟨hk.2.2.2.1,by rw[←er];exact h,fun p H' e=>.tie (by rw[er];exact e)⟩⟩⟩⟩
  | @untie t h=>exact⟨_,_,rfl,.inl ⟨t,rfl,rfl,h⟩⟩
  | find h=>exact⟨_,_,rfl,.inr ⟨by decide +kernel,.inr ⟨by decide +kernel,.inr ⟨by decide +kernel,h,fun p H' e=>.find e⟩⟩⟩⟩
  | move h1 h2=>exact⟨_,_,rfl,.inr ⟨by decide +kernel,.inl ⟨["name","name"],by simp[l_DEEDS],⟨by decide,fun x hx=>zed x (by simpa using hx),.cons (.name h1) (.cons (.name h2) .nil),fun z=>absurd z (by decide +kernel)⟩,fun p H' e=>.move e⟩⟩⟩
  | lose h=>exact⟨_,_,rfl,.inr ⟨by decide +kernel,.inl ⟨["name"],by simp[l_DEEDS],⟨by decide,fun x hx=>zed x (by simpa using hx),.cons (.name h) .nil,fun z=>absurd z (by decide +kernel)⟩,fun p H' e=>.lose e⟩⟩⟩
  | dig h=>exact⟨_,_,rfl,.inr ⟨by decide +kernel,.inr ⟨by decide +kernel,.inr ⟨by decide +kernel,h,fun p H' e=>.dig e⟩⟩⟩⟩
  | tell=>exact⟨_,_,rfl,.inr ⟨by decide +kernel,.inr ⟨by decide +kernel,.inl ⟨[],by simp[l_QUESTIONS],⟨by decide,(fun x hx=>nomatch hx),.nil,(fun z=>nomatch z)⟩,fun p H' e=>.tell e⟩⟩⟩⟩
def ztd:Sp:=fun vs H Q _=>∃(a:Addr) (s:Say),vs = [.ref a]/\SqL K H a ((sayW s).map fun v=>V.str (za2 v))/\SayOk s/\∀(p:Addr) (H':Hp),Same H H'->SayAt H' p s->Q (.ref p) H'
set_option maxHeartbeats 8000000 in
theorem zj2 (T:Tx K mg w C_Dig C_Desk zk zg zq zo zh zp zy zm zr zz zv zaa zw zab zx):Has P w K mg base "read_words" ["words"] 7 (ztd (K:=K)):=by
  refine T.zkf.has zii (fun vs H Q E h=>?_) (fun f cdv A outer s H vs Q E hr h=>?_)
  · obtain⟨a,s,rfl,_⟩:=h;rfl
  · obtain⟨a,sy,rfl,ha,ok,k⟩:=h
    obtain⟨a_DEEDS,m_DEEDS,k_DEEDS⟩:=T.zvo
    obtain⟨a_QUESTIONS,m_QUESTIONS,k_QUESTIONS⟩:=T.zgj
    refine⟨_,(ze (zay (zad zbv (zah (zac K rfl) (pv 0) zf (fun _ _=>rfl)) zaf (zak _)) (zi (zal (zbc (za zaf (za (zao (zng T) (hr.mono (by decide)) (by rfl) (za (zb4 (zhv K rfl) (pv 0) (zcb zf) zdm) zd)) zd))))) zai)
      (ze (zay (zcy (zo2 k_DEEDS (by rfl) m_DEEDS (zah (zac K rfl) (pv 0) zf (fun _ _=>rfl)))) (zi (zal (zao (zdq T) (hr.mono (by decide)) (by rfl) (za (zk1 k_DEEDS (by rfl) m_DEEDS (zah (zac K rfl) (pv 0) zf (fun _ _=>rfl)) (fun _ _=>rfl)) (za (pv 0) (za zf zd)))))) zai)
      (ze (zay (zcy (zo2 k_QUESTIONS (by rfl) m_QUESTIONS (zah (zac K rfl) (pv 0) zf (fun _ _=>rfl)))) (zi (zal (zao (zdq T) (hr.mono (by decide)) (by rfl) (za (zk1 k_QUESTIONS (by rfl) m_QUESTIONS (zah (zac K rfl) (pv 0) zf (fun _ _=>rfl)) (fun _ _=>rfl)) (za (pv 0) (za zf zd)))))) zai)
      (zi (zal (zao (zem T) (hr.mono (by decide)) (by rfl) (za (pv 0) (za zf zd)))))))),?_⟩
    obtain⟨kd,r,ekr,cls⟩:=zvb ok
    have ha0:=ha
    rw[ekr] at ha0
    refine⟨_,rfl,a,_,_,_,rfl,rfl,ha0,zep,rfl,_,rfl,?_⟩
    rcases cls with ⟨t,rfl,hk,hw⟩ | ⟨hu,cls⟩
    · rw[decide_eq_true (show (fun v=>V.str (za2 v)) (V.str kd)=V.str (Str.ofString "untie") from congrArg V.str hk)]
      refine iteT ⟨_,rfl,_,rfl,a,_,rfl,ha,fun u hu=>?_⟩
      rw[show (sayW (.deed (.untie t))).map (fun v=>V.str (za2 v))=V.str (Str.ofString "untie")::(tieV t).map (fun v=>V.str (za2 v)) from rfl,zd8]
      have t1:=Same.new (o:=.lst ((tieV t).map fun v=>V.str (za2 v))) hu
      refine⟨u,t,rfl,SqL.of zb,hw,fun p H' e s2=>⟨by show 2<=sizeLine;decide,fun q hq=>?_⟩⟩
      have t3:=Same.new (o:=.tup [.str (Str.ofString "untie"),.ref p]) hq
      exact k q _ (t1.trans (s2.trans t3)) (.untie zb (t3 _ _ e))
    rw[decide_eq_false (show ¬(fun v=>V.str (za2 v)) (V.str kd)=V.str (Str.ofString "untie") from fun z=>hu (V.str.inj z))]
    refine iteF ?_
    try unfold zcv
    try dsimp only
    refine⟨_,rfl,a,_,_,_,rfl,rfl,ha0,zep,kd,rfl,_,rfl,?_⟩
    rcases cls with ⟨ks,hf,frm,cv⟩ | ⟨hd,cls⟩
    · rw[decide_eq_true (List.mem_map.mpr ⟨_,hf,rfl⟩:kd∈l_DEEDS.map (·.1))]
      refine iteT ?_
      refine⟨_,rfl,a,_,_,_,rfl,rfl,ha0,zep,kd,_,rfl,hf,fun ad kt=>?_⟩
      exact⟨_,rfl,ad,a,kd,ks,r,_,rfl,fun H'=>kt.sq H',ha0,frm,fun p H' _ e s=>k p H' s (cv p H' e)⟩
    rw[decide_eq_false hd]
    refine iteF ?_
    try unfold zcv
    try dsimp only
    refine⟨_,rfl,a,_,_,_,rfl,rfl,ha0,zep,kd,rfl,_,rfl,?_⟩
    rcases cls with ⟨ks,hf,frm,cv⟩ | ⟨hq,hw,cv⟩
    · rw[decide_eq_true (List.mem_map.mpr ⟨_,hf,rfl⟩:kd∈l_QUESTIONS.map (·.1))]
      refine iteT ?_
      refine⟨_,rfl,a,_,_,_,rfl,rfl,ha0,zep,kd,_,rfl,hf,fun ad kt=>?_⟩
      exact⟨_,rfl,ad,a,kd,ks,r,_,rfl,fun H'=>kt.sq H',ha0,frm,fun p H' _ e s=>k p H' s (cv p H' e)⟩
    rw[decide_eq_false hq]
    refine iteF ?_
    try unfold zcv
    try dsimp only
    exact⟨_,rfl,a,.str kd::r,_,rfl,ha0,hw,fun p H' _ e s=>k p H' s (cv p H' e)⟩
theorem zj3 (T:Tx K mg w C_Dig C_Desk zk zg zq zo zh zp zy zm zr zz zv zaa zw zab zx):HasX P w K mg base "read_words" ["words"] 7 (ztd (K:=K)):=(zj2 T).x
def zvc:Sp:=fun vs H Q _=>∃(s:Say),vs = [.str (sayT s)]/\SayOk s/\∀(p:Addr) (H':Hp),Same H H'->SayAt H' p s->Q (.ref p) H'
theorem znh {x:Str}(h:x.length<=1000) (y:Str):(Txt.split x y).length<=sizeLine:=by
  have:=(PyProof.Rows.fact_split x y).2
  exact Nat.le_trans this (Nat.le_trans (show x.length+2<=1002 by omega) (by decide))
set_option maxHeartbeats 4000000 in
theorem zni (T:Tx K mg w C_Dig C_Desk zk zg zq zo zh zp zy zm zr zz zv zaa zw zab zx):Has P w K mg base "read_row" ["row"] 8 (zvc):=by
  refine T.znq.has zlc (fun vs H Q E h=>?_) (fun f cdv A outer s H vs Q E hr h=>?_)
  · obtain⟨s,rfl,_⟩:=h;rfl
  · obtain⟨sy,rfl,ok,k⟩:=h
    refine⟨_,(ze (zay (zln (zg3 (za1 (zot K rfl) (by rfl) T.isinstance PyProof.Rows.boot_isinstance (za (pv 0) (za (ztl (v:=.ty "str") (by rfl) T.str PyProof.Rows.boot_str rfl) zd))))) (zi za0) zai)
      (zi (zwy ⟨rfl,rfl,rfl⟩ (fun pn xe Es pt=>(zi (zal (zwx (zj3 T) pt (hr.mono (by decide)) (by rfl) (za (zbr K rfl PySem.F.plainAttrs_str PySem.F.slot_str_split PySem.F.type_str_split zri (pv 0) (za zaf zd)) zd))))) (zxz ⟨rfl,rfl,rfl⟩ (by rfl) T.zj9 T.zka (fun _ _=>(zi za0)) zwz)))),?_⟩
    have hl:=ok.len
    refine⟨_,rfl,_,_,_,true,rfl,.str _,rfl,_,rfl,iteF ?_⟩
    try unfold zcv
    try dsimp only
    refine⟨_,rfl,rfl,_,_,rfl,rfl,by decide +kernel,zaj (by omega),znh (by omega) _,fun u hu=>?_⟩
    obtain⟨h0,_,hp⟩:=ok.plain
    have es:Txt.split (sayT sy) (Str.ofString " ")=(sayW sy).map za2:=zfy h0 hp
    rw[es]
    have t1:=Same.new (o:=.lst (((sayW sy).map za2).map V.str)) hu
    exact⟨u,sy,rfl,SqL.of (by rw[zb,List.map_map];rfl),ok,fun p H' s2 e=>k p H' (t1.trans s2) e⟩
theorem zdb {H:Hp}:∀{as:List Addr}{ts:List (List V)},(∀ws∈ts,∀v∈ws,Wd v)->zfn H as (dTi ts)->Tups H as ts
  | [],[],_,_=>.nil
  | a::as,ws::ts,hw,.cons h t=>by
    have h:H a=some (.tup ((ws.map kW).map kV)):=h
    rw[zjs (hw ws (List.mem_cons_self ..))] at h
    exact .cons h (zdb (fun vs hv=>hw vs (List.mem_cons_of_mem _ hv)) t)
def zmf:Sp:=fun vs H Q _=>∃(p pm du dt df:Addr) (lo hi:Int) (us:List Str) (ts:List Tie) (fs:List Fnd) (af:List Addr) (x:Str),vs = [.ref p,.str x]/\DigAt C_Dig H p pm du dt df lo hi us ts fs af/\x∈us/\Q .non H
theorem zew (T:Tx K mg w C_Dig C_Desk zk zg zq zo zh zp zy zm zr zz zv zaa zw zab zx):HasML P w K mg base CX0 C_Dig "seek_unit" ["self","name"] 1 (zmf (C_Dig:=C_Dig)):=by
  refine T.zgg.hasL0 zet (fun vs H Q E h=>?_) (fun f cdv A outer s H vs Q E hr h=>?_)
  · obtain⟨p,pm,du,dt,df,lo,hi,us,ts,fs,af,x,rfl,_⟩:=h;rfl
  · obtain⟨p,pm,du,dt,df,lo,hi,us,ts,fs,af,x,rfl,R,hx,k⟩:=h
    have hu:=zkt hr
    refine⟨_,(zi (zay (zcy (zfj hu (pv 1) (zbm (pv 0) rfl))) (zi za0) zai)),?_⟩
    obtain⟨dx,h1⟩:=R.ob
    refine⟨_,rfl,_,rfl,p,C_Dig,dx,_,_,rfl,h1,T.zaw,T.zbt,zjt _ _ _ _,du,_,rfl,DGet.k (k:=Sum.inr x) R.u,_,rfl,?_⟩
    rw[zeb (dU_mem.mpr hx)]
    exact iteF k
theorem zbj (T:Tx K mg w C_Dig C_Desk zk zg zq zo zh zp zy zm zr zz zv zaa zw zab zx):HasM P w K mg base C_Dig "seek_unit" ["self","name"] 1 (zmf (C_Dig:=C_Dig)):=(zew T).m
def zmg:Sp:=fun vs H Q _=>∃(p pm du dt df:Addr) (lo hi:Int) (us:List Str) (ts:List Tie) (fs:List Fnd) (af:List Addr) (x:Str),vs = [.ref p,.str x]/\DigAt C_Dig H p pm du dt df lo hi us ts fs af/\x∈fs.map Fnd.n/\Q .non H
theorem zex (T:Tx K mg w C_Dig C_Desk zk zg zq zo zh zp zy zm zr zz zv zaa zw zab zx):HasML P w K mg base CX0 C_Dig "seek_find" ["self","name"] 1 (zmg (C_Dig:=C_Dig)):=by
  refine T.zgh.hasL0 zeu (fun vs H Q E h=>?_) (fun f cdv A outer s H vs Q E hr h=>?_)
  · obtain⟨p,pm,du,dt,df,lo,hi,us,ts,fs,af,x,rfl,_⟩:=h;rfl
  · obtain⟨p,pm,du,dt,df,lo,hi,us,ts,fs,af,x,rfl,R,hx,k⟩:=h
    have hu:=zkt hr
    refine⟨_,(zi (zay (zcy (zfj hu (pv 1) (zbm (pv 0) rfl))) (zi za0) zai)),?_⟩
    obtain⟨dx,h1⟩:=R.ob
    refine⟨_,rfl,_,rfl,p,C_Dig,dx,_,_,rfl,h1,T.zaw,T.za8,zej _ _ _ _,df,_,rfl,DGet.k (k:=Sum.inr x) R.f,_,rfl,?_⟩
    rw[zeb ((zk8 R.flen).mpr hx)]
    exact iteF k
theorem zdc (T:Tx K mg w C_Dig C_Desk zk zg zq zo zh zp zy zm zr zz zv zaa zw zab zx):HasM P w K mg base C_Dig "seek_find" ["self","name"] 1 (zmg (C_Dig:=C_Dig)):=(zex T).m
theorem zx4 (t:Tie):cutV (tieV t) (some 1) (some 3) = [.str t.a,.str t.b]/\¬(HT.sIx (tieV t).length 0 (some 1)=0/\HT.sIx (tieV t).length (tieV t).length (some 3)=(tieV t).length):=by
  obtain⟨k,a,b,g⟩:=t
  cases g with
  | none=>exact⟨rfl,fun z=>absurd z.1 (show ¬HT.sIx 3 0 (some 1)=0 by decide)⟩
  | some g=>exact⟨rfl,fun z=>absurd z.1 (show ¬HT.sIx 4 0 (some 1)=0 by decide)⟩
theorem zmh {α:Type}(f:α->Bool) (l:List α):((l.map f).any id)=l.any f:=by rw[List.any_map];rfl
def zvd:Sp:=fun vs H Q _=>∃(p pm du dt df:Addr) (lo hi:Int) (us:List Str) (ts:List Tie) (fs:List Fnd) (af:List Addr) (x:Str),vs = [.ref p,.str x]/\DigAt C_Dig H p pm du dt df lo hi us ts fs af/\DigOk us ts fs/\ts.length<=900/\fs.length<=900/\∀H',Same H H'->Q (.bl (zh9 ts fs x)) H'
set_option maxHeartbeats 4000000 in
theorem zin (T:Tx K mg w C_Dig C_Desk zk zg zq zo zh zp zy zm zr zz zv zaa zw zab zx):HasM P w K mg base C_Dig "is_used" ["self","name"] 1 (zvd (C_Dig:=C_Dig)):=by
  refine T.ziv.has sc_Dig_is_used (fun vs H Q E h=>?_) (fun f cdv A outer s H vs Q E hr h=>?_)
  · obtain⟨p,pm,du,dt,df,lo,hi,us,ts,fs,af,x,rfl,_⟩:=h;rfl
  · obtain⟨p,pm,du,dt,df,lo,hi,us,ts,fs,af,x,rfl,R,ok,tl,fl,k⟩:=h
    refine⟨_,(ze (zav (i:=2) sc_Dig_is_used.nd rfl (Or.inl rfl) (zpt (za1 (zjv K rfl rfl) (by rfl) T.any PyProof.Rows.boot_any (za (zcc (own:=["tie"]) (cap:=["name"]) (ix:=[1]) (osc:=zj (zau (top 17) 11)) rfl ⟨rfl,by decide +kernel,by decide +kernel,by decide +kernel,by decide +kernel⟩ rfl (zrz (zbm (pv 0) rfl)) (fun _ _ _ _=>zap (i:=0) (show List.Nodup (["tie","name"]:List Str) by decide +kernel) rfl (Or.inl rfl)) (fun _ _ _ _=>zbw) (fun _ _ _ _=>(zfa (zhb K rfl) (pv 1) (zb4 (zky K rfl) (pv 0) (zcb zf) (zcb zf)) (by with_unfolding_all rfl)))) zd))))
      (zi (zal (zxl (pv 2) (znz (zpt (za1 (zjv K rfl rfl) (by rfl) T.any PyProof.Rows.boot_any (za (zcc (own:=["find"]) (cap:=["name"]) (ix:=[1]) (osc:=zj (zau (top 17) 11)) rfl ⟨rfl,by decide +kernel,by decide +kernel,by decide +kernel,by decide +kernel⟩ rfl (zuu (zou K rfl PySem.F.plainAttrs_dict PySem.F.slot_dict_values PySem.F.type_dict_values zjj (zbm (pv 0) rfl))) (fun _ _ _ _=>zap (i:=0) (show List.Nodup (["find","name"]:List Str) by decide +kernel) rfl (Or.inl rfl)) (fun _ _ _ _=>zbw) (fun _ _ _ _=>(zfa zbv (pv 1) (zah (zag K rfl) (pv 0) zf (fun _ _=>rfl)) (zak _)))) zd)))))))),?_⟩
    obtain⟨dx,h1⟩:=R.ob
    refine⟨dt,_,R.t,.t,_,rfl,p,C_Dig,dx,_,_,rfl,h1,T.zaw,T.zbq,zhk _ _ _ _,dt,_,rfl,R.t,fun ob as kt D hD=>?_⟩
    have tt:=zdb ok.tw kt
    have lt:as.length=ts.length:=by have:=tt.len;rw[List.length_map] at this;exact this
    have f1:upd H dt (.frz ob (.dT (dTi (ts.map tieV)))) dt=some (.frz ob (.dT (dTi (ts.map tieV)))):=zb
    have k1:∀b o,H b=some o->b≠dt->upd H dt (.frz ob (.dT (dTi (ts.map tieV)))) b=some o:=fun b o e n=>by rw[zn n];exact e
    have tt1:Tups (upd H dt (.frz ob (.dT (dTi (ts.map tieV))))) as (ts.map tieV):=tt.stay fun b xs e=>k1 b _ e (zgk e R.t (fun z=>nomatch z))
    generalize upd H dt (.frz ob (.dT (dTi (ts.map tieV))))=H1 at f1 k1 tt1 hD
    refine zde (zpu (a:=dt) (ob:=ob) (kvs:=dTi (ts.map tieV)) (as:=as)) (fun i σ' ys H'=>∃w0,σ' = [w0,some (.str x)]/\ys=((ts.take i).map (byT x)).map V.bl/\Same H1 H'/\H' D=some (.lst ys))
      ⟨none,rfl,by simp,Same.new hD,zb⟩ (fun i σ' ys H' h=>?_) (by rw[List.length_map];exact zaj (by omega)) ?_ ?_
    · obtain⟨_,_,rfl,q,hd⟩:=h
      refine⟨q _ _ f1,hd,?_⟩
      rw[List.length_map,List.length_map,List.length_take]
      omega
    · rintro i v σ' ys H' hx ⟨w0,rfl,rfl,q,hd⟩
      obtain⟨r,t,rfl,ht,har,hr'⟩:=zk4 (tt1.same q) hx
      have hix:=zfq hx
      try dsimp only [za6]
      unfold tYes
      dsimp only
      rw[if_pos rfl]
      obtain⟨c1,c2⟩:=zx4 t
      refine⟨_,rfl,_,rfl,_,rfl,_,rfl,r,_,rfl,SqT.of hr',c2,fun p6 hp6=>?_⟩
      rw[c1]
      have t6:=Same.new (o:=.tup [.str t.a,.str t.b]) hp6
      have hd6:=t6 _ _ hd
      refine⟨p6,_,rfl,.inr (SqT.of zb),rfl,rfl,?_⟩
      refine⟨hd6,zh0 (by exact hix) ⟨_,rfl,?_,(q.trans t6).upd hD,zb⟩⟩
      rw[List.take_add_one,ht,List.map_append,List.map_append]
      rfl
    rintro σ' ys H2 ⟨w0,rfl,rfl,q2,hd2⟩
    rw[List.length_map,lt,List.take_length] at hd2
    refine⟨D,_,rfl,SqL.of hd2,?_⟩
    rw[zmh]
    refine⟨ob,_,q2 _ _ f1,.t,?_⟩
    have s2:Same H (upd H2 dt (.dT (dTi (ts.map tieV)))):=fun b o e=>by
      by_cases c:b=dt
      · subst c
        rw[R.t] at e
        cases e
        exact zb
      · rw[zn c]
        exact q2 _ _ (k1 b o e c)
    generalize upd H2 dt (.dT (dTi (ts.map tieV)))=H3 at s2
    have R3:=R.same s2
    try dsimp only [za6]
    refine⟨_,rfl,_,rfl,?_⟩
    unfold zh9 at k
    cases hb:ts.any (byT x) with
    | true=>
      rw[if_pos rfl]
      rw[hb] at k
      exact k _ s2
    | false=>
      rw[hb] at k
      rw[if_neg Bool.false_ne_true]
      refine⟨df,_,R3.f,.k,_,rfl,p,C_Dig,dx,_,_,rfl,s2 _ _ h1,T.zaw,T.za8,zej _ _ _ _,.inr (.inr (.inl ⟨rfl,.inl ⟨_,R3.f⟩⟩)),df,_,rfl,rfl,R3.f,fun pv hpv=>?_⟩
      have t3:=Same.new (o:=vwO pv df) hpv
      have R4:=R3.same t3
      refine⟨pv,df,_,rfl,zb,R4.f,fun ob' D' hD'=>?_⟩
      generalize upd H3 pv (vwO pv df)=H4 at t3 R4 hD'
      have f4:upd H4 df (.frz ob' (.dK (dFn fs af))) df=some (.frz ob' (.dK (dFn fs af))):=zb
      have k4:∀b o,H4 b=some o->b≠df->upd H4 df (.frz ob' (.dK (dFn fs af))) b=some o:=fun b o e n=>by rw[zn n];exact e
      have tt4:Tups (upd H4 df (.frz ob' (.dK (dFn fs af)))) af (fs.map fndV):=R4.ft.stay fun b xs e=>k4 b _ e (zgk e R4.f (fun z=>nomatch z))
      generalize upd H4 df (.frz ob' (.dK (dFn fs af)))=H5 at f4 k4 tt4 hD'
      have ev:=ze5 R.flen
      have lf:=R.flen
      refine zde (zrw (a:=df) (ob:=ob') (kvs:=dFn fs af)) (fun i σ' ys H'=>∃w0,σ' = [w0,some (.str x)]/\ys=((fs.take i).map (byF x)).map V.bl/\Same H5 H'/\H' D'=some (.lst ys))
        ⟨none,rfl,by simp,Same.new hD',zb⟩ (fun i σ' ys H' h=>?_) (by rw[ev,List.length_map];exact zaj (by omega)) ?_ ?_
      · obtain⟨_,_,rfl,q,hd⟩:=h
        refine⟨q _ _ f4,hd,?_⟩
        rw[List.length_map,List.length_map,List.length_take]
        omega
      · rintro i v σ' ys H' hx ⟨w0,rfl,rfl,q,hd⟩
        have hix:=zfq hx
        rw[ev] at hx
        obtain⟨r,f,rfl,ht,har,hr'⟩:=zk4 (tt4.same q) hx
        try dsimp only [za6]
        unfold tYes
        dsimp only
        rw[if_pos rfl]
        refine⟨_,rfl,_,rfl,r,_,_,_,rfl,rfl,SqT.of hr',rfl,rfl,?_⟩
        refine⟨hd,zh0 (by exact hix) ⟨_,rfl,?_,q.upd hD',zb⟩⟩
        rw[List.take_add_one,ht,List.map_append,List.map_append]
        rfl
      rintro σ' ys H6 ⟨w0,rfl,rfl,q6,hd6⟩
      rw[ev,List.length_map,lf,List.take_length] at hd6
      refine⟨D',_,rfl,SqL.of hd6,?_⟩
      rw[zmh]
      refine⟨ob',_,q6 _ _ f4,.k,?_⟩
      have s6:Same H4 (upd H6 df (.dK (dFn fs af))):=fun b o e=>by
        by_cases c:b=df
        · subst c
          rw[R4.f] at e
          cases e
          exact zb
        · rw[zn c]
          exact q6 _ _ (k4 b o e c)
      exact k _ (s2.trans (t3.trans s6))
def zsg:Sp:=fun vs H Q _=>∃(p dx:Addr) (lo hi:Int),vs = [.ref p,.int lo,.int hi]/\H p=some (.ins C_Dig dx [])/\∀(pm du dt df:Addr) (H':Hp),H du=none->H dt=none->H df=none->DigAt C_Dig H' p pm du dt df lo hi [] [] [] []->(∀b o,H b=some o->b≠p->H' b=some o)->Q .non H'
set_option maxHeartbeats 4000000 in
theorem zdk (T:Tx K mg w C_Dig C_Desk zk zg zq zo zh zp zy zm zr zz zv zaa zw zab zx):HasM P w K mg base C_Dig "__init__" ["self","first","last"] 1 (zsg (C_Dig:=C_Dig)):=by
  refine T.zgv.has zf3 (fun vs H Q E h=>?_) (fun f cdv A outer s H vs Q E hr h=>?_)
  · obtain⟨p,dx,lo,hi,rfl,_⟩:=h;rfl
  · obtain⟨p,dx,lo,hi,rfl,hp,k⟩:=h
    refine⟨_,(ze (zg6 (pv 0) (zbc (za (pv 1) (za (pv 2) zd))) rfl)
      (ze (zg6 (pv 0) zlt rfl)
      (ze (zg6 (pv 0) zrb rfl)
      (zi (zg6 (pv 0) zlt rfl))))),?_⟩
    refine⟨_,rfl,_,rfl,(by show 2<=sizeLine;decide),fun pm hpm=>?_⟩
    have n0:p≠pm:=zc hp hpm
    have tm:=Same.new (o:=.tup [.int lo,.int hi]) hpm
    have hp0:=tm _ _ hp
    have em:upd H pm (.tup [.int lo,.int hi]) pm=some (.tup [.int lo,.int hi]):=zb
    generalize upd H pm (.tup [.int lo,.int hi])=G at tm hp0 em
    refine⟨_,rfl,p,C_Dig,dx,[],rfl,hp0,T.zaw,T.zeo,(by show 0<1000;decide),?_⟩
    intro du hdu
    have n1:p≠du:=zc zb hdu
    refine⟨_,rfl,p,C_Dig,dx,_,rfl,by rw[zn n1,zb],T.zaw,T.zbt,(by show 1<1000;decide),?_⟩
    intro dt hdt
    have n2:p≠dt:=zc zb hdt
    refine⟨_,rfl,p,C_Dig,dx,_,rfl,by rw[zn n2,zb],T.zaw,T.zbq,?_,?_⟩
    · exact Nat.lt_of_le_of_lt (zb9 _ _ _) (by show 1+1<1000;decide)
    intro df hdf
    have n3:p≠df:=zc zb hdf
    refine⟨_,rfl,p,C_Dig,dx,_,rfl,by rw[zn n3,zb],T.zaw,T.za8,?_,?_⟩
    · exact Nat.lt_of_le_of_lt (zb9 _ _ _) (Nat.lt_of_le_of_lt (Nat.succ_le_succ (zb9 _ _ _)) (by show 1+1+1<1000;decide))
    have a0:∀{b:Addr}{o:HO}{G:Hp},upd G p o b=none->b≠p->G b=none:=fun h n=>by rwa [zn n] at h
    have f1:G du=none:=a0 hdu n1.symm
    have e1:upd (upd (upd G p (.ins C_Dig dx (putF "frame" (.ref pm) []))) du (.dK [])) p (.ins C_Dig dx (putF "units" (.ref du) (putF "frame" (.ref pm) []))) du=some (.dK []):=by rw[zn n1.symm,zb]
    have nut:du≠dt:=zc e1 hdt
    have f2:G dt=none:=by
      have:=a0 hdt n2.symm
      rw[zn nut.symm] at this
      exact a0 this n2.symm
    have e2:=zc (H:=upd (upd (upd (upd (upd G p (.ins C_Dig dx (putF "frame" (.ref pm) []))) du (.dK [])) p (.ins C_Dig dx (putF "units" (.ref du) (putF "frame" (.ref pm) [])))) dt (.dT [])) p (.ins C_Dig dx (putF "ties" (.ref dt) (putF "units" (.ref du) (putF "frame" (.ref pm) []))))) (a:=dt) (b:=df) (o:=.dT []) (by rw[zn n2.symm,zb]) hdf
    have e3:=zc (H:=upd (upd (upd (upd (upd G p (.ins C_Dig dx (putF "frame" (.ref pm) []))) du (.dK [])) p (.ins C_Dig dx (putF "units" (.ref du) (putF "frame" (.ref pm) [])))) dt (.dT [])) p (.ins C_Dig dx (putF "ties" (.ref dt) (putF "units" (.ref du) (putF "frame" (.ref pm) []))))) (a:=du) (b:=df) (o:=.dK []) (by rw[zn n1.symm,zn nut,e1]) hdf
    have f3:G df=none:=by
      have:=a0 hdf n3.symm
      rw[zn e2.symm] at this
      have:=a0 this n3.symm
      rw[zn e3.symm] at this
      exact a0 this n3.symm
    have fin:∀b o,G b=some o->b≠p->upd (upd (upd (upd (upd (upd (upd G p (.ins C_Dig dx (putF "frame" (.ref pm) []))) du (.dK [])) p (.ins C_Dig dx (putF "units" (.ref du) (putF "frame" (.ref pm) [])))) dt (.dT [])) p (.ins C_Dig dx (putF "ties" (.ref dt) (putF "units" (.ref du) (putF "frame" (.ref pm) []))))) df (.dK [])) p (.ins C_Dig dx (putF "finds" (.ref df) (putF "ties" (.ref dt) (putF "units" (.ref du) (putF "frame" (.ref pm) []))))) b=some o:=fun b o e hb=>by
      rw[zn hb,zn (zc e f3),zn hb,zn (zc e f2),zn hb,zn (zc e f1),zn hb]
      exact e
    refine k pm du dt df _ (tm.free f1) (tm.free f2) (tm.free f3) ⟨⟨dx,?_⟩,?_,?_,?_,?_,.nil,e3⟩ fun b o e hb=>fin b o (tm _ _ e) hb
    · rw[zb,zpm]
    · exact fin pm _ em n0.symm
    · rw[zn n1.symm,zn e3,zn n1.symm,zn nut,e1];rfl
    · rw[zn n2.symm,zn e2,zn n2.symm,zb];rfl
    · rw[zn n3.symm,zb];rfl
def zqd:Sp:=fun vs H Q _=>∃(p pm du dt df:Addr) (lo hi:Int) (us:List Str) (ts:List Tie) (fs:List Fnd) (af:List Addr) (x:Str),vs = [.ref p,.str x]/\DigAt C_Dig H p pm du dt df lo hi us ts fs af/\x ∉ us/\us.length<=900/\Q .non (upd H du (.dK (dU (us++[x]))))
theorem zf7 (T:Tx K mg w C_Dig C_Desk zk zg zq zo zh zp zy zm zr zz zv zaa zw zab zx):HasML P w K mg base CX0 C_Dig "add_unit" ["self","name"] 1 (zqd (C_Dig:=C_Dig)):=by
  refine T.zgw.hasL0 zf4 (fun vs H Q E h=>?_) (fun f cdv A outer s H vs Q E hr h=>?_)
  · obtain⟨p,pm,du,dt,df,lo,hi,us,ts,fs,af,x,rfl,_⟩:=h;rfl
  · obtain⟨p,pm,du,dt,df,lo,hi,us,ts,fs,af,x,rfl,R,hn,hl,k⟩:=h
    have hu:=zkt hr
    refine⟨_,(ze (zay (zcy (zol hu (pv 1) (zbm (pv 0) rfl))) (zi za0) zai)
      (zi (zhs hu (zbm (pv 0) rfl) (pv 1) znw rfl))),?_⟩
    obtain⟨dx,h1⟩:=R.ob
    refine⟨_,rfl,_,rfl,p,C_Dig,dx,_,_,rfl,h1,T.zaw,T.zbt,zjt _ _ _ _,du,_,rfl,DGet.k (k:=Sum.inr x) R.u,_,rfl,?_⟩
    rw[zb6 (fun z=>hn (dU_mem.mp z))]
    refine iteF ⟨_,rfl,p,C_Dig,dx,_,_,rfl,h1,T.zaw,T.zbt,zjt _ _ _ _,_,rfl,du,_,rfl,DPut.k (k:=Sum.inr x) R.u ?_,?_⟩
    · unfold dU
      rw[List.length_map]
      exact zbe (by omega)
    · rw[zuq hn]
      exact k
theorem zgq (T:Tx K mg w C_Dig C_Desk zk zg zq zo zh zp zy zm zr zz zv zaa zw zab zx):HasM P w K mg base C_Dig "add_unit" ["self","name"] 1 (zqd (C_Dig:=C_Dig)):=(zf7 T).m
def zmi:Sp:=fun vs H Q _=>∃(p pm du dt df:Addr) (lo hi:Int) (us:List Str) (ts:List Tie) (fs:List Fnd) (af:List Addr) (x:Str) (j:Nat),vs = [.ref p,.str x]/\DigAt C_Dig H p pm du dt df lo hi us ts fs af/\DigOk us ts fs/\ts.length<=900/\fs.length<=900/\us[j]? = some x/\zh9 ts fs x=false/\∀H',Same H H'->Q .non (upd H' du (.dK (dU (us.eraseIdx j))))
theorem zey (T:Tx K mg w C_Dig C_Desk zk zg zq zo zh zp zy zm zr zz zv zaa zw zab zx):HasML P w K mg base CX0 C_Dig "drop_unit" ["self","name"] 2 (zmi (C_Dig:=C_Dig)):=by
  refine T.zgd.hasL0 zeq (fun vs H Q E h=>?_) (fun f cdv A outer s H vs Q E hr h=>?_)
  · obtain⟨p,pm,du,dt,df,lo,hi,us,ts,fs,af,x,j,rfl,_⟩:=h;rfl
  · obtain⟨p,pm,du,dt,df,lo,hi,us,ts,fs,af,x,j,rfl,R,ok,tl,fl,hj,nu,k⟩:=h
    refine⟨_,(ze (zat (zbs (zbj T) T.zaw (hr.mono (by decide)) (pv 0) (za (pv 1) zd)))
      (ze (zay (zg3 (zbs (zin T) T.zaw (hr.mono (by decide)) (pv 0) (za (pv 1) zd))) (zi za0) zai)
      (zi (zat (zlu (zbm (pv 0) rfl) (pv 1) ⟨rfl,rfl,rfl,rfl⟩))))),?_⟩
    obtain⟨dx,h1⟩:=R.ob
    have hx:=List.mem_of_getElem? hj
    refine⟨_,rfl,p,dx,_,rfl,h1,zch _ _ _ _ (by decide +kernel),_,rfl,p,pm,du,dt,df,lo,hi,us,ts,fs,af,x,rfl,R,hx,?_⟩
    try dsimp only
    refine⟨_,rfl,p,dx,_,rfl,h1,zch _ _ _ _ (by decide +kernel),_,rfl,p,pm,du,dt,df,lo,hi,us,ts,fs,af,x,rfl,R,ok,tl,fl,fun H1 s1=>⟨_,rfl,?_⟩⟩
    rw[nu]
    refine iteF ?_
    have R1:=R.same s1
    refine⟨_,rfl,p,C_Dig,dx,_,_,rfl,s1 _ _ h1,T.zaw,T.zbt,zjt _ _ _ _,du,rfl,.inl ⟨_,.inl R1.u⟩,_,rfl,_,Sum.inr x,.bl true,R1.u,rfl,?_,?_⟩
    · exact zh8 (j:=j) (by rw[zpv];exact zec (fun a b e=>Sum.inr.inj e) ok.nd) (by unfold dU;rw[List.getElem?_map,hj];rfl)
    · rw[zuv ok.nd hj]
      exact k _ s1
theorem zf8 (T:Tx K mg w C_Dig C_Desk zk zg zq zo zh zp zy zm zr zz zv zaa zw zab zx):HasM P w K mg base C_Dig "drop_unit" ["self","name"] 2 (zmi (C_Dig:=C_Dig)):=(zey T).m
def zqe:Sp:=fun vs H Q _=>∃(p pm du dt df a:Addr) (lo hi:Int) (us:List Str) (ts:List Tie) (fs:List Fnd) (af:List Addr) (t:Tie),vs = [.ref p,.ref a]/\DigAt C_Dig H p pm du dt df lo hi us ts fs af/\DigOk us ts fs/\H a=some (.tup (tieV t))/\TOk us t/\t ∉ ts/\ts.length<=900/\Q .non (upd H dt (.dT (dTi ((ts++[t]).map tieV))))
set_option maxHeartbeats 4000000 in
theorem zgr (T:Tx K mg w C_Dig C_Desk zk zg zq zo zh zp zy zm zr zz zv zaa zw zab zx):HasML P w K mg base CX0 C_Dig "add_tie" ["self","tie"] 2 (zqe (C_Dig:=C_Dig)):=by
  refine T.zit.hasL0 zgo (fun vs H Q E h=>?_) (fun f cdv A outer s H vs Q E hr h=>?_)
  · obtain⟨p,pm,du,dt,df,a,lo,hi,us,ts,fs,af,t,rfl,_⟩:=h;rfl
  · obtain⟨p,pm,du,dt,df,a,lo,hi,us,ts,fs,af,t,rfl,R,ok,ha,tok,hn,hl,k⟩:=h
    have hu:=zkt hr
    refine⟨_,(ze (zat (zbs (zbj T) T.zaw (hr.mono (by decide)) (pv 0) (za (zah (zag K rfl) (pv 1) zf (fun _ _=>rfl)) zd)))
      (ze (zat (zbs (zbj T) T.zaw (hr.mono (by decide)) (pv 0) (za (zah (zag K rfl) (pv 1) zf (fun _ _=>rfl)) zd)))
      (ze (zay (zcy (zol hu (pv 1) (zbm (pv 0) rfl))) (zi za0) zai)
      (zi (zhs hu (zbm (pv 0) rfl) (pv 1) znw rfl))))),?_⟩
    obtain⟨dx,h1⟩:=R.ob
    have hw:=(tok.ok.words ok.nm).1
    have ha':H a=some (.tup (((tieV t).map kW).map kV)):=by rw[zjs hw];exact ha
    refine⟨_,rfl,p,dx,_,rfl,h1,zch _ _ _ _ (by decide +kernel),_,rfl,a,_,_,_,rfl,rfl,SqT.of ha,zs8 t,p,pm,du,dt,df,lo,hi,us,ts,fs,af,t.a,rfl,R,tok.a,?_⟩
    try dsimp only
    refine⟨_,rfl,p,dx,_,rfl,h1,zch _ _ _ _ (by decide +kernel),_,rfl,a,_,_,_,rfl,rfl,SqT.of ha,zs9 t,p,pm,du,dt,df,lo,hi,us,ts,fs,af,t.b,rfl,R,tok.b,?_⟩
    try dsimp only
    have nt:tieV t ∉ ts.map tieV:=fun z=>by
      obtain⟨u,hu,e⟩:=List.mem_map.mp z
      exact hn (zdz e▸hu)
    refine⟨_,rfl,_,rfl,p,C_Dig,dx,_,_,rfl,h1,T.zaw,T.zbq,zhk _ _ _ _,dt,_,rfl,DGet.t R.t ha',_,rfl,?_⟩
    rw[zb6 (fun z=>nt ((zk7 ok.tw hw).mp z))]
    refine iteF ⟨_,rfl,p,C_Dig,dx,_,_,rfl,h1,T.zaw,T.zbq,zhk _ _ _ _,_,rfl,dt,_,rfl,DPut.t R.t ha' ?_,?_⟩
    · unfold dTi
      rw[List.length_map,List.length_map]
      exact zbe (by omega)
    · rw[zru ok.tw hw nt,show ts.map tieV++[tieV t]=(ts++[t]).map tieV by rw[List.map_append];rfl]
      exact k
theorem zio (T:Tx K mg w C_Dig C_Desk zk zg zq zo zh zp zy zm zr zz zv zaa zw zab zx):HasM P w K mg base C_Dig "add_tie" ["self","tie"] 2 (zqe (C_Dig:=C_Dig)):=(zgr T).m
def zmj:Sp:=fun vs H Q _=>∃(p pm du dt df a:Addr) (lo hi:Int) (us:List Str) (ts:List Tie) (fs:List Fnd) (af:List Addr) (t:Tie) (j:Nat),vs = [.ref p,.ref a]/\DigAt C_Dig H p pm du dt df lo hi us ts fs af/\DigOk us ts fs/\H a=some (.tup (tieV t))/\ts[j]? = some t/\Q .non (upd H dt (.dT (dTi ((ts.eraseIdx j).map tieV))))
set_option maxHeartbeats 4000000 in
theorem zf9 (T:Tx K mg w C_Dig C_Desk zk zg zq zo zh zp zy zm zr zz zv zaa zw zab zx):HasML P w K mg base CX0 C_Dig "drop_tie" ["self","tie"] 1 (zmj (C_Dig:=C_Dig)):=by
  refine T.zgx.hasL0 zf5 (fun vs H Q E h=>?_) (fun f cdv A outer s H vs Q E hr h=>?_)
  · obtain⟨p,pm,du,dt,df,a,lo,hi,us,ts,fs,af,t,j,rfl,_⟩:=h;rfl
  · obtain⟨p,pm,du,dt,df,a,lo,hi,us,ts,fs,af,t,j,rfl,R,ok,ha,hj,k⟩:=h
    have hu:=zkt hr
    refine⟨_,(ze (zay (zcy (zfj hu (pv 1) (zbm (pv 0) rfl))) (zi za0) zai)
      (zi (zat (zry hu (zbm (pv 0) rfl) (pv 1) ⟨rfl,rfl,rfl,rfl⟩)))),?_⟩
    obtain⟨dx,h1⟩:=R.ob
    have ht:=List.mem_of_getElem? hj
    have hw:=ok.tw _ (List.mem_map.mpr ⟨t,ht,rfl⟩)
    have ha':H a=some (.tup (((tieV t).map kW).map kV)):=by rw[zjs hw];exact ha
    refine⟨_,rfl,_,rfl,p,C_Dig,dx,_,_,rfl,h1,T.zaw,T.zbq,zhk _ _ _ _,dt,_,rfl,DGet.t R.t ha',_,rfl,?_⟩
    have ek:(dTi (ts.map tieV)).map (·.1)=ts.map fun t=>(tieV t).map kW:=by unfold dTi;rw[List.map_map,List.map_map];rfl
    have nd:((dTi (ts.map tieV)).map (·.1)).Nodup:=by
      rw[ek]
      have:=ok.tnd
      unfold List.Nodup at *
      rw[List.pairwise_map]
      refine this.imp_of_mem fun {x y} hx hy hxy e=>hxy (zdz ?_)
      exact zpl (ok.tw _ (List.mem_map.mpr ⟨x,hx,rfl⟩)) (ok.tw _ (List.mem_map.mpr ⟨y,hy,rfl⟩)) e
    rw[zeb ((zk7 ok.tw hw).mpr (List.mem_map.mpr ⟨t,ht,rfl⟩))]
    refine iteF ⟨_,rfl,p,C_Dig,dx,_,_,rfl,h1,T.zaw,T.zbq,zhk _ _ _ _,dt,rfl,.inr ⟨_,.inl R.t⟩,_,rfl,_,(tieV t).map kW,a,.bl true,R.t,rfl,ha',?_,?_⟩
    · exact zh8 (j:=j) nd (by unfold dTi;rw[List.getElem?_map,List.getElem?_map,hj];rfl)
    · rw[zr0 ok.tw ok.tnd (fun x y e=>zdz e) hj]
      exact k
theorem zgs (T:Tx K mg w C_Dig C_Desk zk zg zq zo zh zp zy zm zr zz zv zaa zw zab zx):HasM P w K mg base C_Dig "drop_tie" ["self","tie"] 1 (zmj (C_Dig:=C_Dig)):=(zf9 T).m
def zqf:Sp:=fun vs H Q _=>∃(p pm du dt df:Addr) (lo hi:Int) (us:List Str) (ts:List Tie) (fs:List Fnd) (af:List Addr) (f:Fnd),vs = [.ref p,.str f.n,.str f.u,.int f.lo,.int f.hi]/\DigAt C_Dig H p pm du dt df lo hi us ts fs af/\f.n ∉ fs.map Fnd.n/\f.u∈us/\fs.length<=900/\∀a,H a=none->Q .non (upd (upd H a (.tup (fndV f))) df (.dK (dFn (fs++[f]) (af++[a]))))
set_option maxHeartbeats 4000000 in
theorem zga (T:Tx K mg w C_Dig C_Desk zk zg zq zo zh zp zy zm zr zz zv zaa zw zab zx):HasML P w K mg base CX0 C_Dig "add_find" ["self","name","unit","low","high"] 2 (zqf (C_Dig:=C_Dig)):=by
  refine T.zgy.hasL0 zf6 (fun vs H Q E h=>?_) (fun f cdv A outer s H vs Q E hr h=>?_)
  · obtain⟨p,pm,du,dt,df,lo,hi,us,ts,fs,af,f,rfl,_⟩:=h;rfl
  · obtain⟨p,pm,du,dt,df,lo,hi,us,ts,fs,af,f,rfl,R,hn,hu',hl,k⟩:=h
    have hu:=zkt hr
    refine⟨_,(ze (zay (zcy (zol hu (pv 1) (zbm (pv 0) rfl))) (zi za0) zai)
      (ze (zat (zbs (zbj T) T.zaw (hr.mono (by decide)) (pv 0) (za (pv 2) zd)))
      (zi (zhs hu (zbm (pv 0) rfl) (pv 1) (zbc (za (pv 1) (za (pv 2) (za (pv 3) (za (pv 4) zd))))) rfl)))),?_⟩
    obtain⟨dx,h1⟩:=R.ob
    refine⟨_,rfl,_,rfl,p,C_Dig,dx,_,_,rfl,h1,T.zaw,T.za8,zej _ _ _ _,df,_,rfl,DGet.k (k:=Sum.inr f.n) R.f,_,rfl,?_⟩
    rw[zb6 (fun z=>hn ((zk8 R.flen).mp z))]
    refine iteF ⟨_,rfl,p,dx,_,rfl,h1,zch _ _ _ _ (by decide +kernel),_,rfl,p,pm,du,dt,df,lo,hi,us,ts,fs,af,f.u,rfl,R,hu',?_⟩
    try dsimp only
    refine⟨_,rfl,_,rfl,_,rfl,_,rfl,(by show 4<=sizeLine;decide),fun a ha=>?_⟩
    have t1:=Same.new (o:=.tup (fndV f)) ha
    have R1:=R.same t1
    refine⟨_,rfl,p,C_Dig,dx,_,_,rfl,t1 _ _ h1,T.zaw,T.za8,zej _ _ _ _,_,rfl,df,_,rfl,DPut.k (k:=Sum.inr f.n) R1.f ?_,?_⟩
    · have:=congrArg List.length (ze5 R.flen)
      rw[List.length_map,List.length_map] at this
      rw[this,R.flen]
      exact zbe (by omega)
    · rw[zuw R.flen hn]
      exact k a ha
theorem zgt (T:Tx K mg w C_Dig C_Desk zk zg zq zo zh zp zy zm zr zz zv zaa zw zab zx):HasM P w K mg base C_Dig "add_find" ["self","name","unit","low","high"] 2 (zqf (C_Dig:=C_Dig)):=(zga T).m
def zmk:Sp:=fun vs H Q _=>∃(p pm du dt df:Addr) (lo hi:Int) (us:List Str) (ts:List Tie) (fs:List Fnd) (af:List Addr) (f:Fnd) (j:Nat) (x:Str),vs = [.ref p,.str f.n,.str x]/\DigAt C_Dig H p pm du dt df lo hi us ts fs af/\DigOk us ts fs/\fs[j]? = some f/\x∈us/\fs.length<=900/\∀a H',Same H H'->H a=none->H' a=some (.tup (fndV ⟨f.n,x,f.lo,f.hi⟩))->Q .non (upd H' df (.dK (dFn (fs.set j ⟨f.n,x,f.lo,f.hi⟩) (af.set j a))))
set_option maxHeartbeats 4000000 in
theorem zez (T:Tx K mg w C_Dig C_Desk zk zg zq zo zh zp zy zm zr zz zv zaa zw zab zx):HasML P w K mg base CX0 C_Dig "move_find" ["self","name","unit"] 2 (zmk (C_Dig:=C_Dig)):=by
  refine T.zge.hasL0 zer (fun vs H Q E h=>?_) (fun f cdv A outer s H vs Q E hr h=>?_)
  · obtain⟨p,pm,du,dt,df,lo,hi,us,ts,fs,af,f,j,x,rfl,_⟩:=h;rfl
  · obtain⟨p,pm,du,dt,df,lo,hi,us,ts,fs,af,f,j,x,rfl,R,ok,hj,hx,hl,k⟩:=h
    have hu:=zkt hr
    refine⟨_,(ze (zat (zbs (zdc T) T.zaw (hr.mono (by decide)) (pv 0) (za (pv 1) zd)))
      (ze (zat (zbs (zbj T) T.zaw (hr.mono (by decide)) (pv 0) (za (pv 2) zd)))
      (zi (zhs hu (zbm (pv 0) rfl) (pv 1) (zaz (zce K rfl) (zbc (za (pv 1) (za (pv 2) zd))) (zb4 (zky K rfl) (zt8 hu (zbm (pv 0) rfl) (pv 1) (fun _ _=>rfl)) (zcb zf) zdm)) rfl)))),?_⟩
    obtain⟨dx,h1⟩:=R.ob
    have hjl:=(List.getElem?_eq_some_iff.mp hj).1
    have lf:=R.flen
    have hm:f.n∈fs.map Fnd.n:=List.mem_map.mpr ⟨f,List.mem_of_getElem? hj,rfl⟩
    refine⟨_,rfl,p,dx,_,rfl,h1,zch _ _ _ _ (by decide +kernel),_,rfl,p,pm,du,dt,df,lo,hi,us,ts,fs,af,f.n,rfl,R,hm,?_⟩
    try dsimp only
    refine⟨_,rfl,p,dx,_,rfl,h1,zch _ _ _ _ (by decide +kernel),_,rfl,p,pm,du,dt,df,lo,hi,us,ts,fs,af,x,rfl,R,hx,?_⟩
    try dsimp only
    have haj:af[j]? = some (af[j]'(by omega)):=List.getElem?_eq_getElem (by omega)
    have hr':H (af[j]'(by omega))=some (.tup (fndV f)):=by
      obtain⟨ws,h2,h3⟩:=Paired.get' R.ft haj
      rw[List.getElem?_map,hj] at h2
      cases h2
      exact h3
    generalize af[j]'(by omega)=r at haj hr'
    refine⟨_,rfl,_,rfl,(by show 2<=sizeLine;decide),fun a1 ha1=>?_⟩
    have t1:=Same.new (o:=.tup [.str f.n,.str x]) ha1
    have R1:=R.same t1
    have g:=DGet.k (k:=Sum.inr f.n) R1.f
    rw[zh8 (j:=j) (zmb lf ok.fnd) (zma hj haj)] at g
    refine⟨_,rfl,p,C_Dig,dx,_,_,rfl,t1 _ _ h1,T.zaw,T.za8,zej _ _ _ _,_,rfl,df,.ref r,rfl,g,_,rfl,r,_,rfl,SqT.of (t1 _ _ hr'),(fun z=>absurd z.1 (show ¬HT.sIx 4 0 (some 2)=0 by decide)),fun a2 ha2=>?_⟩
    rw[show cutV (fndV f) (some 2) none = [.int f.lo,.int f.hi] from rfl]
    have t2:=Same.new (o:=.tup [.int f.lo,.int f.hi]) ha2
    refine⟨a1,a2,_,_,rfl,rfl,SqT.of (t2 _ _ zb),SqT.of zb,(fun z=>nomatch z),(by show 4<=sizeLine;decide),(fun z=>nomatch z),fun _ a3 ha3=>?_⟩
    have t3:=Same.new (o:=.tup (fndV ⟨f.n,x,f.lo,f.hi⟩)) ha3
    have q3:=t1.trans (t2.trans t3)
    have R3:=R.same q3
    refine⟨_,rfl,p,C_Dig,dx,_,_,rfl,q3 _ _ h1,T.zaw,T.za8,zej _ _ _ _,_,rfl,df,_,rfl,DPut.k (k:=Sum.inr f.n) R3.f ?_,?_⟩
    · have:=congrArg List.length (ze5 R.flen)
      rw[List.length_map,List.length_map] at this
      rw[this,R.flen]
      exact zbe (by omega)
    · rw[zuz (f':=⟨f.n,x,f.lo,f.hi⟩) lf ok.fnd hj rfl]
      exact k a3 _ q3 (t1.free (t2.free ha3)) zb
theorem zgb (T:Tx K mg w C_Dig C_Desk zk zg zq zo zh zp zy zm zr zz zv zaa zw zab zx):HasM P w K mg base C_Dig "move_find" ["self","name","unit"] 2 (zmk (C_Dig:=C_Dig)):=(zez T).m
def zml:Sp:=fun vs H Q _=>∃(p pm du dt df:Addr) (lo hi:Int) (us:List Str) (ts:List Tie) (fs:List Fnd) (af:List Addr) (f:Fnd) (j:Nat),vs = [.ref p,.str f.n]/\DigAt C_Dig H p pm du dt df lo hi us ts fs af/\DigOk us ts fs/\fs[j]? = some f/\Q .non (upd H df (.dK (dFn (fs.eraseIdx j) (af.eraseIdx j))))
set_option maxHeartbeats 4000000 in
theorem ze0 (T:Tx K mg w C_Dig C_Desk zk zg zq zo zh zp zy zm zr zz zv zaa zw zab zx):HasML P w K mg base CX0 C_Dig "drop_find" ["self","name"] 2 (zml (C_Dig:=C_Dig)):=by
  refine T.zgf.hasL0 zes (fun vs H Q E h=>?_) (fun f cdv A outer s H vs Q E hr h=>?_)
  · obtain⟨p,pm,du,dt,df,lo,hi,us,ts,fs,af,f,j,rfl,_⟩:=h;rfl
  · obtain⟨p,pm,du,dt,df,lo,hi,us,ts,fs,af,f,j,rfl,R,ok,hj,k⟩:=h
    refine⟨_,(ze (zat (zbs (zdc T) T.zaw (hr.mono (by decide)) (pv 0) (za (pv 1) zd)))
      (zi (zat (zlu (zbm (pv 0) rfl) (pv 1) ⟨rfl,rfl,rfl,rfl⟩)))),?_⟩
    obtain⟨dx,h1⟩:=R.ob
    have hjl:=(List.getElem?_eq_some_iff.mp hj).1
    have lf:=R.flen
    have hm:f.n∈fs.map Fnd.n:=List.mem_map.mpr ⟨f,List.mem_of_getElem? hj,rfl⟩
    refine⟨_,rfl,p,dx,_,rfl,h1,zch _ _ _ _ (by decide +kernel),_,rfl,p,pm,du,dt,df,lo,hi,us,ts,fs,af,f.n,rfl,R,hm,?_⟩
    try dsimp only
    refine⟨_,rfl,p,C_Dig,dx,_,_,rfl,h1,T.zaw,T.za8,zej _ _ _ _,df,rfl,.inl ⟨_,.inl R.f⟩,_,rfl,_,Sum.inr f.n,.ref (af[j]'(by omega)),R.f,rfl,?_,?_⟩
    · exact zh8 (j:=j) (zmb lf ok.fnd) (zma hj (List.getElem?_eq_getElem (by omega)))
    · rw[zr1 lf ok.fnd hj]
      exact k
theorem zgc (T:Tx K mg w C_Dig C_Desk zk zg zq zo zh zp zy zm zr zz zv zaa zw zab zx):HasM P w K mg base C_Dig "drop_find" ["self","name"] 2 (zml (C_Dig:=C_Dig)):=(ze0 T).m
def zsh:Sp:=fun vs H Q _=>∃(p pm du dt df:Addr) (lo hi:Int) (us:List Str) (ts:List Tie) (fs:List Fnd) (af:List Addr),vs = [.ref p]/\DigAt C_Dig H p pm du dt df lo hi us ts fs af/\DigOk us ts fs/\
  ∀(tl pu pt pf:Addr) (at':List Addr) (H':Hp),H tl=none->H pu=none->H pt=none->H pf=none->H' tl=some (.tup [.ref pm,.ref pu,.ref pt,.ref pf])->
    H' pu=some (.lst (us.map V.str))->H' pt=some (.lst (at'.map V.ref))->Tups H' at' (ts.map tieV)->H' pf=some (.lst (af.map V.ref))->pu≠pt->pu≠pf->pt≠pf->Same H H'->Q (.ref tl) H'
set_option maxHeartbeats 4000000 in
theorem ziq (T:Tx K mg w C_Dig C_Desk zk zg zq zo zh zp zy zm zr zz zv zaa zw zab zx):HasM P w K mg base C_Dig "telling" ["self"] 1 (zsh (C_Dig:=C_Dig)):=by
  refine T.ziu.has zgp (fun vs H Q E h=>?_) (fun f cdv A outer s H vs Q E hr h=>?_)
  · obtain⟨p,pm,du,dt,df,lo,hi,us,ts,fs,af,rfl,_⟩:=h;rfl
  · obtain⟨p,pm,du,dt,df,lo,hi,us,ts,fs,af,rfl,R,ok,k⟩:=h
    refine⟨_,(zi (zal (zbc (za (zbm (pv 0) rfl) (za (zca (zjh rfl) (by rfl) T.list PyProof.Rows.boot_list (za (zbm (pv 0) rfl) zd)) (za (zca (zji rfl) (by rfl) T.list PyProof.Rows.boot_list (za (zbm (pv 0) rfl) zd)) (za (zca (zjk rfl) (by rfl) T.list PyProof.Rows.boot_list (za (zou K rfl PySem.F.plainAttrs_dict PySem.F.slot_dict_values PySem.F.type_dict_values zjj (zbm (pv 0) rfl)) zd)) zd))))))),?_⟩
    obtain⟨dx,h1⟩:=R.ob
    refine⟨_,rfl,p,C_Dig,dx,_,_,rfl,h1,T.zaw,T.zeo,zwu _ _ _ _,?_⟩
    refine⟨_,rfl,p,C_Dig,dx,_,_,rfl,h1,T.zaw,T.zbt,zjt _ _ _ _,du,_,rfl,R.u,fun pu hpu=>?_⟩
    have s1:=Same.new (o:=.lst ((dU us).map fun kv=>kV kv.1)) hpu
    have e1:upd H pu (.lst ((dU us).map fun kv=>kV kv.1)) pu=some (.lst (us.map V.str)):=by
      rw[zb]
      unfold dU
      rw[List.map_map];rfl
    generalize upd H pu (.lst ((dU us).map fun kv=>kV kv.1))=H1 at s1 e1
    refine⟨_,rfl,p,C_Dig,dx,_,_,rfl,s1 _ _ h1,T.zaw,T.zbq,zhk _ _ _ _,dt,_,rfl,s1 _ _ R.t,fun pt' as kt hpt=>?_⟩
    have tt:=zdb ok.tw kt
    have s2:=Same.new (o:=.lst (as.map V.ref)) hpt
    have q2:=s1.trans s2
    have hf:=R.f
    refine⟨_,rfl,p,C_Dig,dx,_,_,rfl,q2 _ _ h1,T.zaw,T.za8,zej _ _ _ _,.inr (.inr (.inl ⟨rfl,.inl ⟨_,q2 _ _ hf⟩⟩)),df,_,rfl,rfl,q2 _ _ hf,fun pv hpv=>?_⟩
    have s3:=Same.new (o:=vwO pv df) hpv
    refine⟨pv,df,_,rfl,zb,s3 _ _ (q2 _ _ hf),fun pf hpf=>?_⟩
    rw[ze5 R.flen]
    have s4:=Same.new (o:=.lst (af.map V.ref)) hpf
    have q4:=q2.trans (s3.trans s4)
    refine⟨(by show 4<=sizeLine;decide),fun tl htl=>?_⟩
    have s5:=Same.new (o:=.tup [.ref pm,.ref pu,.ref pt',.ref pf]) htl
    have g1:=s2 _ _ e1
    have g2:upd H1 pt' (.lst (as.map V.ref)) pt'=_:=zb
    have n1:pu≠pt':=zc e1 hpt
    have n2:pu≠pf:=zc (s3 _ _ g1) hpf
    have n3:pt'≠pf:=zc (s3 _ _ g2) hpf
    exact k tl pu pt' pf as _ (q4.free htl) hpu (s1.free hpt) ((q2.trans s3).free hpf) zb (s5 _ _ (s4 _ _ (s3 _ _ g1))) (s5 _ _ (s4 _ _ (s3 _ _ g2))) (tt.same (s2.trans (s3.trans (s4.trans s5)))) (s5 _ _ zb) n1 n2 n3 (q4.trans s5)
def zve:Sp:=fun vs H Q _=>∃(a:Addr) (x:Str) (r:List V),vs = [.ref a]/\SqT K H a (.str x::r)/\x.length<=100/\(∀v∈r,Wd v)/\r.length<=5/\∀H',Same H H'->Q (.str (zba (.str x::r))) H'
set_option maxHeartbeats 4000000 in
theorem zbk (T:Tx K mg w C_Dig C_Desk zk zg zq zo zh zp zy zm zr zz zv zaa zw zab zx):Has P w K mg base "_law_line" ["_law_row"] 1 (zve (K:=K)):=by
  refine T.zlj.has sc__law_line (fun vs H Q E h=>?_) (fun f cdv A outer s H vs Q E hr h=>?_)
  · obtain⟨a,x,r,rfl,_⟩:=h;rfl
  · obtain⟨a,x,r,rfl,ha,hx,hr',hl,k⟩:=h
    refine⟨_,(ze (zav (i:=1) sc__law_line.nd rfl (Or.inl rfl) (zah (zag K rfl) (pv 0) zf (fun _ _=>rfl)))
      (ze (ze8 PassesOwn.never rfl (zov K rfl (zb4 (zky K rfl) (pv 0) (zcb zf) zdm)) (zap (i:=2) sc__law_line.nd rfl (Or.inl rfl)) (zi (zav (i:=1) sc__law_line.nd rfl (Or.inl rfl) (zaz za7 (zaz za7 (pv 1) zaf) (zca zjd (by rfl) T.str PyProof.Rows.boot_str (za (pv 2) zd))))))
      (zi (zal (pv 1))))),?_⟩
    refine⟨_,rfl,a,_,_,_,rfl,rfl,ha,zep,?_⟩
    refine⟨_,rfl,_,rfl,a,_,rfl,ha,?_,fun p hp=>?_⟩
    · rintro ⟨z,_⟩
      unfold HT.sIx at z
      simp at z
    rw[zd8]
    refine⟨p,rfl,⟨_,SqT.of zb⟩,ztp (xs:=r) (fun i σ H'=>∃v2,σ = [some (.ref a),some (.str (zba (.str x::r.take i))),v2]/\H'=upd H p (.tup r))
      ⟨none,by rw[List.take_zero,zpe];rfl,rfl⟩ (fun i σ H' _ h=>by obtain⟨_,_,e⟩:=h;rw[e];exact SqT.of zb) ?_ ?_⟩
    · rintro i v σ H' hv ⟨v2,rfl,rfl⟩
      have hm:=hr' v (List.mem_of_getElem? hv)
      have hi:=(List.getElem?_eq_some_iff.mp hv).1
      have b1:(zba (.str x::r.take i)).length<=606:=by
        rw[zc7]
        refine zc6 (fun z hz=>?_) (by simp;omega)
        rcases List.mem_cons.mp hz with rfl | hz
        · exact .inl ⟨_,rfl,hx⟩
        · exact hr' z (List.mem_of_mem_take hz)
      have b2:=zh6 hm
      rw[zb1] at b2
      refine⟨_,rfl,_,_,rfl,rfl,?_,_,rfl,v,rfl,hm,_,_,rfl,rfl,?_,some v,?_,rfl⟩
      · exact zaj (by show _+1<=1000;omega)
      · refine zaj ?_
        rw[show ((zba (.str x::r.take i))++(Str.ofString " " : Str)).length=(zba (.str x::r.take i)).length+1 by rw[←zb1,zdj,List.length_append,zb1];rfl]
        omega
      · rw[List.take_add_one,hv]
        show _ = [some (V.ref a),some (V.str (zba (V.str x::r.take i++[v]))),some v]
        rw[zm3,←zh5];rfl
    · rintro σ H' ⟨v2,rfl,rfl⟩
      rw[List.take_length]
      exact⟨_,rfl,k _ (Same.new hp)⟩
def zmm:Sp:=fun vs H Q _=>∃(a:Addr) (ws:List V),vs = [.ref a]/\SqT K H a ws/\(∀v∈ws,Wd v)/\ws.length<=6/\∀H',Same H H'->Q (.str (zba ws)) H'
theorem filt (l:List V):l.filter (fun _=>true)=l:=List.filter_eq_self.mpr fun _ _=>rfl
theorem zcf (T:Tx K mg w C_Dig C_Desk zk zg zq zo zh zp zy zm zr zz zv zaa zw zab zx):Has P w K mg base "show_words" ["words"] 1 (zmm (K:=K)):=by
  refine T.zkc.has zig (fun vs H Q E h=>?_) (fun f cdv A outer s H vs Q E hr h=>?_)
  · obtain⟨a,ws,rfl,_⟩:=h;rfl
  · obtain⟨a,ws,rfl,ha,hw,hl,k⟩:=h
    refine⟨_,(zi (zal (zbr K rfl PySem.F.plainAttrs_str PySem.F.slot_str_join PySem.F.type_str_join (zhw K rfl) zaf (za (zcc (own:=["word"]) (cap:=[]) (ix:=[]) (osc:=zj (top 49)) rfl ⟨rfl,by decide +kernel,by decide +kernel,by decide +kernel,by decide +kernel⟩ rfl (zov K rfl (pv 0)) (fun _ _ _ _=>zap (i:=0) (show List.Nodup (["word"]:List Str) by decide +kernel) rfl (Or.inl rfl)) (fun _ _ _ _=>zbw) (fun _ _ _ _=>(zca zjd (by rfl) T.str PyProof.Rows.boot_str (za (pv 0) zd)))) zd)))),?_⟩
    refine⟨rfl,_,rfl,a,rfl,⟨_,ha⟩,fun D hD=>?_⟩
    refine zfm (zua (xs:=ws)) (fun _=>true) (fun v=>.str (za2 v)) (fun ys=>(Same.new hD).tup ha) (zaj (by omega)) (fun v hv ys Q' q=>q) (fun v hv _ ys Q' q=>?_) ?_
    · exact⟨_,rfl,v,rfl,hw v hv,q⟩
    · rw[filt]
      refine⟨_,D,ws.map za2,rfl,rfl,SqL.of (by rw[zb,List.map_map];rfl),zm5 hw hl,?_⟩
      rw[zm4]
      exact k _ (Same.new hD)
theorem znj (T:Tx K mg w C_Dig C_Desk zk zg zq zo zh zp zy zm zr zz zv zaa zw zab zx):Has P w K mg base "show_tie" ["tie"] 2 (zmm (K:=K)):=by
  refine T.znp.has zlb (fun vs H Q E h=>?_) (fun f cdv A outer s H vs Q E hr h=>?_)
  · obtain⟨a,ws,rfl,_⟩:=h;rfl
  · obtain⟨a,ws,rfl,ha,hw,hl,k⟩:=h
    refine⟨_,(zi (zal (zao (zcf T) (hr.mono (by decide)) (by rfl) (za (pv 0) zd)))),?_⟩
    exact⟨_,rfl,a,ws,rfl,ha,hw,hl,k⟩
theorem zir {α β:Type}(f:α->β) (l:List α) (x:α):l.map f++[f x]=(l++[x]).map f:=by rw[List.map_append];rfl
def zvf:Sp:=fun vs H Q _=>∃(tl pm pu pt pf:Addr) (lo hi:Int) (us:List Str) (ts fs:List (List V)) (at' af:List Addr),vs = [.ref tl]/\SqT K H tl [.ref pm,.ref pu,.ref pt,.ref pf]/\TellAt K H pm pu pt pf lo hi us ts fs at' af/\TellOk lo hi us ts fs/\
  ∀H',Same H H'->Q (.str (zjp (zbi lo hi us ts fs))) H'
def zvg:V->V
  | .str x=>rowV [.str "unit",.str x]
  | _=>.non
set_option maxHeartbeats 4000000 in
theorem zgu (T:Tx K mg w C_Dig C_Desk zk zg zq zo zh zp zy zm zr zz zv zaa zw zab zx):Has P w K mg base "show_telling" ["telling"] 3 (zvf (K:=K)):=by
  refine T.zgz.has sc_show_telling (fun vs H Q E h=>?_) (fun f cdv A outer s H vs Q E hr h=>?_)
  · obtain⟨tl,pm,pu,pt',pf,lo,hi,us,ts,fs,at',af,rfl,_⟩:=h;rfl
  · obtain⟨tl,pm,pu,pt',pf,lo,hi,us,ts,fs,at',af,rfl,htl,ta,ok,k⟩:=h
    refine⟨_,(ze (zav (i:=1) sc_show_telling.nd rfl (Or.inl rfl) (zbn (za (zao (zcf T) (hr.mono (by decide)) (by rfl) (za (zaz (zce K rfl) (zbc (za zaf zd)) (zah (zag K rfl) (pv 0) zf (fun _ _=>rfl))) zd)) zd)))
      (ze (zat (zbr K rfl PySem.F.plainAttrs_list PySem.F.slot_list_extend PySem.F.type_list_extend zfg (pv 1) (za (zcc (own:=["name"]) (cap:=[]) (ix:=[]) (osc:=zj (top 51)) rfl ⟨rfl,by decide +kernel,by decide +kernel,by decide +kernel,by decide +kernel⟩ rfl (zbh K rfl (zah (zag K rfl) (pv 0) zf (fun _ _=>rfl))) (fun _ _ _ _=>zap (i:=0) (show List.Nodup (["name"]:List Str) by decide +kernel) rfl (Or.inl rfl)) (fun _ _ _ _=>zbw) (fun _ _ _ _=>(zao (zcf T) (hr.mono (by decide)) (by rfl) (za (zbc (za zaf (za (pv 0) zd))) zd)))) zd)))
      (ze (zat (zbr K rfl PySem.F.plainAttrs_list PySem.F.slot_list_extend PySem.F.type_list_extend zfg (pv 1) (za (zcc (own:=["tie"]) (cap:=[]) (ix:=[]) (osc:=zj (top 51)) rfl ⟨rfl,by decide +kernel,by decide +kernel,by decide +kernel,by decide +kernel⟩ rfl (zbh K rfl (zah (zag K rfl) (pv 0) zf (fun _ _=>rfl))) (fun _ _ _ _=>zap (i:=0) (show List.Nodup (["tie"]:List Str) by decide +kernel) rfl (Or.inl rfl)) (fun _ _ _ _=>zbw) (fun _ _ _ _=>(zao (znj T) (hr.mono (by decide)) (by rfl) (za (pv 0) zd)))) zd)))
      (ze (zat (zbr K rfl PySem.F.plainAttrs_list PySem.F.slot_list_extend PySem.F.type_list_extend zfg (pv 1) (za (zcc (own:=["find"]) (cap:=[]) (ix:=[]) (osc:=zj (top 51)) rfl ⟨rfl,by decide +kernel,by decide +kernel,by decide +kernel,by decide +kernel⟩ rfl (zbh K rfl (zah (zag K rfl) (pv 0) zf (fun _ _=>rfl))) (fun _ _ _ _=>zap (i:=0) (show List.Nodup (["find"]:List Str) by decide +kernel) rfl (Or.inl rfl)) (fun _ _ _ _=>zbw) (fun _ _ _ _=>(zao (zcf T) (hr.mono (by decide)) (by rfl) (za (zaz (zce K rfl) (zbc (za zaf zd)) (pv 0)) zd)))) zd)))
      (zi (zal (zbr K rfl PySem.F.plainAttrs_str PySem.F.slot_str_join PySem.F.type_str_join (zhw K rfl) zaf (za (pv 1) zd)))))))),?_⟩
    have c1:=ok.u.1
    have c2:=ok.t.1
    have c3:=ok.f.1
    refine⟨(by show 1<=sizeLine;decide),fun p1 hp1=>?_⟩
    have s1:=Same.new (o:=.tup [.str "dig"]) hp1
    refine⟨_,rfl,tl,_,_,_,rfl,rfl,s1.tup htl,rfl,?_⟩
    refine⟨p1,pm,_,_,rfl,rfl,SqT.of zb,s1.tup ta.m,by simp,(by show 1+2<=sizeLine;decide),fun z=>by simp at z,fun _ p2 hp2=>?_⟩
    have s2:=s1.trans (Same.new (o:=.tup ([.str "dig"]++[.int lo,.int hi])) hp2)
    refine⟨p2,_,rfl,SqT.of zb,zs6 ok.lo ok.hi,by simp,fun H3 s3=>?_⟩
    have s3:=s2.trans s3
    refine⟨(by show 1<=sizeLine;decide),fun pl hpl=>?_⟩
    have fl:=s3.free hpl
    have s4:=s3.trans (Same.new (o:=.lst [.str (zba ([.str "dig"]++[.int lo,.int hi]))]) hpl)
    have hl4:upd H3 pl (.lst [.str (zba ([.str "dig"]++[.int lo,.int hi]))]) pl=some (.lst ([[.str "dig",.int lo,.int hi]].map rowV)):=zb
    generalize upd H3 pl (.lst [.str (zba ([.str "dig"]++[.int lo,.int hi]))])=H4 at s4 hl4
    show tSeq _ _ _ _ H4
    refine⟨_,rfl,.inl ⟨rfl,_,SqL.of hl4⟩,_,rfl,tl,_,_,_,rfl,rfl,s4.tup htl,rfl,pu,rfl,⟨_,s4.seq ta.u⟩,fun D hD=>?_⟩
    refine zcj (zby (xs:=us.map V.str)) zvg hD (fun H' s=>(s4.trans s).seq ta.u) (zaj (by rw[List.length_map];omega)) (fun x hx H' Q' s hQ=>?_) (fun H5 s5 hD5=>?_)
    · obtain⟨x,hx',rfl⟩:=List.mem_map.mp hx
      have b:=ok.u.2 x hx'
      refine⟨_,rfl,(by show 2<=sizeLine;decide),fun p hp=>?_⟩
      refine⟨p,_,rfl,SqT.of zb,fun v hv=>?_,by simp,fun H'' s'=>hQ _ ((Same.new hp).trans s')⟩
      simp only [List.mem_cons,List.not_mem_nil,or_false] at hv
      rcases hv with rfl | rfl
      · exact .inl ⟨_,rfl,by decide +kernel⟩
      · exact .inl ⟨_,rfl,b⟩
    have q5:=s4.trans s5
    refine⟨pl,D,_,_,rfl,rfl,s5 _ _ hl4,hD5,zaj (by simp;omega),?_⟩
    have e5:([[V.str "dig",.int lo,.int hi]].map rowV++(us.map V.str).map zvg)=([.str "dig",.int lo,.int hi]::us.map (fun x=>[V.str "unit",V.str x])).map rowV:=by
      show rowV _::(us.map V.str).map zvg=rowV _::(us.map _).map rowV
      rw[List.map_map,List.map_map];rfl
    rw[e5]
    have q5':Same H (upd H5 pl (.lst (([.str "dig",.int lo,.int hi]::us.map (fun x=>[V.str "unit",V.str x])).map rowV))):=q5.upd fl
    have hl5:upd H5 pl (.lst (([.str "dig",.int lo,.int hi]::us.map (fun x=>[V.str "unit",V.str x])).map rowV)) pl=_:=zb
    generalize upd H5 pl (.lst (([.str "dig",.int lo,.int hi]::us.map (fun x=>[V.str "unit",V.str x])).map rowV))=H6 at q5' hl5
    refine⟨_,rfl,.inl ⟨rfl,_,SqL.of hl5⟩,_,rfl,tl,_,_,_,rfl,rfl,q5'.tup htl,rfl,pt',rfl,⟨_,q5'.seq ta.t⟩,fun D' hD'=>?_⟩
    refine zcj (zby (xs:=at'.map V.ref)) (tupF H rowV) hD' (fun H' s=>(q5'.trans s).seq ta.t) (zaj (by rw[List.length_map,ta.tt.len];omega)) (fun x hx H' Q' s hQ=>?_) (fun H7 s7 hD7=>?_)
    · obtain⟨a,ha,rfl⟩:=List.mem_map.mp hx
      obtain⟨ws,hws,ea⟩:=ta.tt.get ha
      obtain⟨b1,b2,_⟩:=ok.t.2 ws hws
      rw[zea ea] at hQ
      exact⟨_,rfl,a,ws,rfl,SqT.of (s _ _ (q5' _ _ ea)),b1,by omega,hQ⟩
    rw[ta.tt.mapF] at hD7
    refine⟨pl,D',_,_,rfl,rfl,s7 _ _ hl5,hD7,zaj (by simp;omega),?_⟩
    rw[←List.map_append]
    have q7:Same H (upd H7 pl (.lst (([.str "dig",.int lo,.int hi]::us.map (fun x=>[V.str "unit",V.str x])++ts).map rowV))):=(q5'.trans s7).upd fl
    have hl7:upd H7 pl (.lst (([.str "dig",.int lo,.int hi]::us.map (fun x=>[V.str "unit",V.str x])++ts).map rowV)) pl=_:=zb
    generalize upd H7 pl (.lst (([.str "dig",.int lo,.int hi]::us.map (fun x=>[V.str "unit",V.str x])++ts).map rowV))=H8 at q7 hl7
    refine⟨_,rfl,.inl ⟨rfl,_,SqL.of hl7⟩,_,rfl,tl,_,_,_,rfl,rfl,q7.tup htl,rfl,pf,rfl,⟨_,q7.seq ta.f⟩,fun D' hD'=>?_⟩
    refine zcj (zby (xs:=af.map V.ref)) (tupF H fun ws=>rowV (.str "find" :: ws)) hD' (fun H' s=>(q7.trans s).seq ta.f) (zaj (by rw[List.length_map,ta.ft.len];omega)) (fun x hx H' Q' s hQ=>?_) (fun H9 s9 hD9=>?_)
    · obtain⟨a,ha,rfl⟩:=List.mem_map.mp hx
      obtain⟨ws,hws,ea⟩:=ta.ft.get ha
      obtain⟨b1,b2⟩:=ok.f.2 ws hws
      rw[zea ea] at hQ
      refine⟨(by show 1<=sizeLine;decide),fun p3 hp3=>?_⟩
      have s3:=Same.new (o:=.tup [.str "find"]) hp3
      refine⟨_,rfl,p3,a,_,_,rfl,rfl,SqT.of zb,SqT.of (s3 _ _ (s _ _ (q7 _ _ ea))),by simp,zaj (by show 1+ws.length<=1000;omega),fun z=>by rw[z] at b2;simp at b2,fun _ p4 hp4=>?_⟩
      have s4:=s3.trans (Same.new (o:=.tup ([.str "find"]++ws)) hp4)
      refine⟨p4,_,rfl,SqT.of zb,fun v hv=>?_,by simp;omega,fun H'' s'=>hQ _ (s4.trans s')⟩
      rcases List.mem_cons.mp hv with rfl | hv
      · exact .inl ⟨_,rfl,by decide +kernel⟩
      · exact b1 v hv
    rw[ta.ft.mapF] at hD9
    refine⟨pl,D',_,_,rfl,rfl,s9 _ _ hl7,hD9,zaj (by simp;omega),?_⟩
    have e9:([.str "dig",.int lo,.int hi]::us.map (fun x=>[V.str "unit",V.str x])++ts).map rowV++fs.map (fun ws=>rowV (.str "find" :: ws))=((zbi lo hi us ts fs).map zba).map V.str:=by
      rw[List.map_map]
      unfold zbi
      rw[←List.cons_append,←List.cons_append,List.map_append (l₂:=fs.map _),List.map_map (l:=fs)]
      rfl
    rw[e9]
    refine⟨rfl,_,rfl,_,pl,_,rfl,rfl,SqL.of zb,zhj ok.rows ok.count,?_⟩
    rw[zhi]
    exact k _ ((q7.trans s9).upd fl)
def zvh:Sp:=fun vs H Q _=>∃(ps pm pu pt pf:Addr) (lo hi:Int) (us:List Str) (ts fs:List (List V)) (at' af:List Addr),vs = [.ref ps]/\SqT K H ps [.ref pm,.ref pu,.ref pt,.ref pf]/\TellAt K H pm pu pt pf lo hi us ts fs at' af/\TellOk lo hi us ts fs/\
  ∀H',Same H H'->Q (.str (zjp (zbi lo hi us ts fs))) H'
set_option maxHeartbeats 4000000 in
theorem zdr (T:Tx K mg w C_Dig C_Desk zk zg zq zo zh zp zy zm zr zz zv zaa zw zab zx):Has P w K mg base "_law_text" ["_law_stands"] 2 (zvh (K:=K)):=by
  refine T.zlk.has sc__law_text (fun vs H Q E h=>?_) (fun f cdv A outer s H vs Q E hr h=>?_)
  · obtain⟨ps,pm,pu,pt',pf,lo,hi,us,ts,fs,at',af,rfl,_⟩:=h;rfl
  · obtain⟨ps,pm,pu,pt',pf,lo,hi,us,ts,fs,at',af,rfl,hst,ta,ok,k⟩:=h
    refine⟨_,(ze (zav (i:=1) sc__law_text.nd rfl (Or.inl rfl) (zbn (za (zao (zbk T) (hr.mono (by decide)) (by rfl) (za (zaz (zce K rfl) (zbc (za zaf zd)) (zah (zag K rfl) (pv 0) zf (fun _ _=>rfl))) zd)) zd)))
      (ze (ze8 PassesOwn.never rfl (zbh K rfl (zah (zag K rfl) (pv 0) zf (fun _ _=>rfl))) (zap (i:=2) sc__law_text.nd rfl (Or.inl rfl)) (zi (zat (zbr K rfl PySem.F.plainAttrs_list PySem.F.slot_list_append PySem.F.type_list_append zbu (pv 1) (za (zaz za7 zaf (pv 2)) zd)))))
      (ze (ze8 PassesOwn.never rfl (zbh K rfl (zah (zag K rfl) (pv 0) zf (fun _ _=>rfl))) (zap (i:=3) sc__law_text.nd rfl (Or.inl rfl)) (zi (zat (zbr K rfl PySem.F.plainAttrs_list PySem.F.slot_list_append PySem.F.type_list_append zbu (pv 1) (za (zao (zbk T) (hr.mono (by decide)) (by rfl) (za (pv 3) zd)) zd)))))
      (ze (ze8 PassesOwn.never rfl (zbh K rfl (zah (zag K rfl) (pv 0) zf (fun _ _=>rfl))) (zap (i:=4) sc__law_text.nd rfl (Or.inl rfl)) (zi (zat (zbr K rfl PySem.F.plainAttrs_list PySem.F.slot_list_append PySem.F.type_list_append zbu (pv 1) (za (zao (zbk T) (hr.mono (by decide)) (by rfl) (za (zaz (zce K rfl) (zbc (za zaf zd)) (pv 4)) zd)) zd)))))
      (zi (zal (zbr K rfl PySem.F.plainAttrs_str PySem.F.slot_str_join PySem.F.type_str_join (zhw K rfl) zaf (za (pv 1) zd)))))))),?_⟩
    refine⟨(by show 1<=sizeLine;decide),fun p1 hp1=>?_⟩
    have s1:=Same.new (o:=.tup [.str "dig"]) hp1
    refine⟨_,rfl,ps,_,_,_,rfl,rfl,s1.tup hst,rfl,p1,pm,_,_,rfl,rfl,SqT.of zb,s1.tup ta.m,by simp,(by show 1+2<=sizeLine;decide),fun z=>by simp at z,fun _ p2 hp2=>?_⟩
    have s2:=s1.trans (Same.new (o:=.tup ([.str "dig"]++[.int lo,.int hi])) hp2)
    refine⟨p2,_,_,rfl,SqT.of zb,by decide +kernel,zs7 ok.lo ok.hi,by simp,fun H3 s3=>?_⟩
    have s3:=s2.trans s3
    refine⟨(by show 1<=sizeLine;decide),fun pl hpl=>?_⟩
    have fl:=s3.free hpl
    have s4:=s3.trans (Same.new (o:=.lst [.str (zba [.str "dig",.int lo,.int hi])]) hpl)
    refine⟨_,rfl,ps,_,_,_,rfl,rfl,s4.tup hst,rfl,pu,rfl,⟨_,s4.seq ta.u⟩,ze2 (xs:=us.map V.str) (fun i σ H'=>∃v5 v6 v7,σ = [some (.ref ps),some (.ref pl),v5,v6,v7]/\Same H H'/\
      H' pl=some (.lst (([.str "dig",.int lo,.int hi]::(us.take i).map (fun x=>[V.str "unit",V.str x])).map rowV))) ⟨none,none,none,rfl,s4,zb⟩ (fun i σ H' _ h=>by obtain⟨_,_,_,_,q,_⟩:=h;exact q.seq ta.u) ?_ ?_⟩
    · rintro i v σ H' hv ⟨v5,v6,v7,rfl,q,hl⟩
      obtain⟨x,hx,rfl⟩:∃x,us[i]? = some x/\v=V.str x:=by
        rw[List.getElem?_map] at hv
        cases e:us[i]? with
        | none=>rw[e] at hv;cases hv
        | some z=>rw[e] at hv;exact⟨z,rfl,(Option.some.inj hv).symm⟩
      have hi':=(List.getElem?_eq_some_iff.mp hx).1
      have b:=ok.u.2 x (List.mem_of_getElem? hx)
      have c:=ok.u.1
      refine⟨_,rfl,.inl ⟨rfl,_,SqL.of hl⟩,_,rfl,_,_,rfl,rfl,zaj (by show 5+_<=1000;omega),pl,_,_,rfl,rfl,hl,?_,some (.str x),v6,v7,rfl,q.upd fl,?_⟩
      · refine zbe ?_
        simp only [List.length_map,List.length_cons,List.length_take]
        omega
      · rw[zb,List.take_add_one,hx,zjq]
        show some (HO.lst (_++[rowV [V.str "unit",V.str x]]))=_
        rw[zir,List.map_append (f:=fun x=>[V.str "unit",V.str x])];rfl
    rintro σ H' ⟨v5,v6,v7,rfl,q,hl⟩
    rw[List.length_map,List.take_length] at hl
    refine⟨_,rfl,ps,_,_,_,rfl,rfl,q.tup hst,rfl,pt',rfl,⟨_,q.seq ta.t⟩,ze2 (xs:=at'.map V.ref) (fun i σ H'=>∃v5 v6 v7,σ = [some (.ref ps),some (.ref pl),v5,v6,v7]/\Same H H'/\
      H' pl=some (.lst (([.str "dig",.int lo,.int hi]::us.map (fun x=>[V.str "unit",V.str x])++ts.take i).map rowV))) ⟨v5,v6,v7,rfl,q,by rw[List.take_zero,List.append_nil];exact hl⟩ (fun i σ H' _ h=>by obtain⟨_,_,_,_,q,_⟩:=h;exact q.seq ta.t) ?_ ?_⟩
    · rintro i v σ H1 hv ⟨v5,v6,v7,rfl,q,hl⟩
      obtain⟨a,hx,rfl⟩:∃x,at'[i]? = some x/\v=V.ref x:=by
        rw[List.getElem?_map] at hv
        cases e:at'[i]? with
        | none=>rw[e] at hv;cases hv
        | some z=>rw[e] at hv;exact⟨z,rfl,(Option.some.inj hv).symm⟩
      obtain⟨ws,hws,ea⟩:=ta.tt.at hx
      obtain⟨b1,b2,x,r,rfl⟩:=ok.t.2 ws (List.mem_of_getElem? hws)
      have hi':=(List.getElem?_eq_some_iff.mp hws).1
      have bx:x.length<=100:=by
        rcases b1 _ (List.mem_cons_self ..) with ⟨y,e,hy⟩ | ⟨y,e,_⟩
        · cases e;exact hy
        · cases e
      refine⟨_,rfl,.inl ⟨rfl,_,SqL.of hl⟩,_,rfl,a,x,r,rfl,SqT.of (q _ _ ea),bx,fun z hz=>b1 z (List.mem_cons_of_mem _ hz),by simp at b2;omega,fun H2 s2=>?_⟩
      refine⟨pl,_,_,rfl,rfl,s2 _ _ hl,?_,v5,some (.ref a),v7,rfl,(q.trans s2).upd fl,?_⟩
      · have:=ok.u.1
        have:=ok.t.1
        refine zbe ?_
        simp only [List.length_map,List.length_cons,List.length_append,List.length_take]
        omega
      · rw[zb,List.take_add_one,hws]
        show some (HO.lst (_++[rowV (V.str x::r)]))=_
        rw[zir,List.append_assoc];rfl
    rintro σ H1 ⟨v5,v6,v7,rfl,q,hl⟩
    rw[List.length_map,ta.tt.len,List.take_length] at hl
    refine⟨_,rfl,ps,_,_,_,rfl,rfl,q.tup hst,rfl,pf,rfl,⟨_,q.seq ta.f⟩,ze2 (xs:=af.map V.ref) (fun i σ H'=>∃v5 v6 v7,σ = [some (.ref ps),some (.ref pl),v5,v6,v7]/\Same H H'/\
      H' pl=some (.lst (([.str "dig",.int lo,.int hi]::us.map (fun x=>[V.str "unit",V.str x])++ts++(fs.take i).map (V.str "find" :: ·)).map rowV))) ⟨v5,v6,v7,rfl,q,by rw[List.take_zero,List.map_nil,List.append_nil];exact hl⟩ (fun i σ H' _ h=>by obtain⟨_,_,_,_,q,_⟩:=h;exact q.seq ta.f) ?_ ?_⟩
    · rintro i v σ H1 hv ⟨v5,v6,v7,rfl,q,hl⟩
      obtain⟨a,hx,rfl⟩:∃x,af[i]? = some x/\v=V.ref x:=by
        rw[List.getElem?_map] at hv
        cases e:af[i]? with
        | none=>rw[e] at hv;cases hv
        | some z=>rw[e] at hv;exact⟨z,rfl,(Option.some.inj hv).symm⟩
      obtain⟨ws,hws,ea⟩:=ta.ft.at hx
      obtain⟨b1,b2⟩:=ok.f.2 ws (List.mem_of_getElem? hws)
      have hi':=(List.getElem?_eq_some_iff.mp hws).1
      refine⟨_,rfl,.inl ⟨rfl,_,SqL.of hl⟩,(by show 1<=sizeLine;decide),fun p3 hp3=>?_⟩
      have s3:=Same.new (o:=.tup [.str "find"]) hp3
      refine⟨_,rfl,p3,a,_,_,rfl,rfl,SqT.of zb,SqT.of (s3 _ _ (q _ _ ea)),by simp,zaj (by show 1+ws.length<=1000;omega),fun z=>by rw[z] at b2;simp at b2,fun _ p4 hp4=>?_⟩
      have s4:=s3.trans (Same.new (o:=.tup ([.str "find"]++ws)) hp4)
      refine⟨p4,_,_,rfl,SqT.of zb,by decide +kernel,b1,(by show ws.length<=5;omega),fun H2 s2=>?_⟩
      have s5:=s4.trans s2
      refine⟨pl,_,_,rfl,rfl,s5 _ _ hl,?_,v5,v6,some (.ref a),rfl,(q.trans s5).upd fl,?_⟩
      · have:=ok.u.1
        have:=ok.t.1
        have:=ok.f.1
        refine zbe ?_
        simp only [List.length_map,List.length_cons,List.length_append,List.length_take]
        omega
      · rw[zb,List.take_add_one,hws]
        show some (HO.lst (_++[rowV (V.str "find" :: ws)]))=_
        rw[zir,List.append_assoc,List.map_append (f:=(V.str "find" :: ·))];rfl
    rintro σ H1 ⟨v5,v6,v7,rfl,q,hl⟩
    rw[List.length_map,ta.ft.len,List.take_length] at hl
    have hl':H1 pl=some (.lst (((zbi lo hi us ts fs).map zba).map V.str)):=by
      rw[hl,List.map_map]
      unfold zbi
      rw[List.append_assoc,List.append_assoc]
      rfl
    refine⟨rfl,_,rfl,_,pl,_,rfl,rfl,SqL.of hl',zhj ok.rows ok.count,?_⟩
    rw[zhi]
    exact k _ q
theorem zbd {x y:Str}{P Q:Prop}(h:x≠y) (q:Q):if decide (V.str x=V.str y)=true then P else Q:=by
  rw[decide_eq_false (fun z=>h (V.str.inj z))]
  exact q
theorem zen {x:Str}{P Q:Prop}(p:P):if decide (V.str x=V.str x)=true then P else Q:=by
  rw[decide_eq_true rfl]
  exact p
def KpD (H H':Hp) (du dt df:Addr):Prop:=∀b o,H b=some o->b≠du->b≠dt->b≠df->H' b=some o
def zw8:Sp:=fun vs H Q _=>∃(p pm du dt df q:Addr) (lo hi:Int) (s s':SD) (af:List Addr) (d:Deed) (xs ms:List Str),vs = [.ref p,.ref q]/\DigAt C_Dig H p pm du dt df lo hi s.us s.ts s.fs af/\DigOk s.us s.ts s.fs/\SayAt H q (.deed d)/\SayOk (.deed d)/\DeedOk xs ms d/\(∀x∈xs,za4 x=true)/\
  s.us.length<=900/\s.ts.length<=900/\s.fs.length<=900/\After d s s'/\∀H' af',DigAt C_Dig H' p pm du dt df lo hi s'.us s'.ts s'.fs af'->KpD H H' du dt df->Q .non H'
theorem zhl (t:Tie):atI (tieV t) 0=some (.str t.k):=by
  obtain⟨kd,a,b,g⟩:=t
  cases g<;>rfl
set_option maxHeartbeats 8000000 in
theorem zqg (T:Tx K mg w C_Dig C_Desk zk zg zq zo zh zp zy zm zr zz zv zaa zw zab zx):Has P w K mg base "do_deed" ["dig","deed"] 3 (zw8 (C_Dig:=C_Dig)):=by
  refine T.zqr.has znd (fun vs H Q E h=>?_) (fun f cdv A outer s H vs Q E hr h=>?_)
  · obtain⟨p,pm,du,dt,df,q,lo,hi,s,s',af,d,xs,ms,rfl,_⟩:=h;rfl
  · obtain⟨p,pm,du,dt,df,q,lo,hi,st,st',af,d,xs,ms,rfl,R,ok,hq,sok,dok,nm,lu,lt,lf,hA,k⟩:=h
    refine⟨_,(zi (zay (zad zbv (zah (zag K rfl) (pv 1) zf (fun _ _=>rfl)) zaf (zak _)) (zi (zat (zbs (zgq T) T.zaw (hr.mono (by decide)) (pv 0) (za (zah (zag K rfl) (pv 1) zf (fun _ _=>rfl)) zd)))) (zi (zay (zad zbv (zah (zag K rfl) (pv 1) zf (fun _ _=>rfl)) zaf (zak _)) (zi (zat (zbs (zf8 T) T.zaw (hr.mono (by decide)) (pv 0) (za (zah (zag K rfl) (pv 1) zf (fun _ _=>rfl)) zd)))) (zi (zay (zad zbv (zah (zag K rfl) (pv 1) zf (fun _ _=>rfl)) zaf (zak _)) (zi (zat (zbs (zgs T) T.zaw (hr.mono (by decide)) (pv 0) (za (zah (zag K rfl) (pv 1) zf (fun _ _=>rfl)) zd)))) (zi (zay (zad zbv (zah (zag K rfl) (pv 1) zf (fun _ _=>rfl)) zaf (zak _)) (zi (zat (zbs (zgt T) T.zaw (hr.mono (by decide)) (pv 0) (za (zah (zag K rfl) (pv 1) zf (fun _ _=>rfl)) (za (zah (zag K rfl) (pv 1) zf (fun _ _=>rfl)) (za (zah (zag K rfl) (pv 1) zf (fun _ _=>rfl)) (za (zah (zag K rfl) (pv 1) zf (fun _ _=>rfl)) zd))))))) (zi (zay (zad zbv (zah (zag K rfl) (pv 1) zf (fun _ _=>rfl)) zaf (zak _)) (zi (zat (zbs (zgb T) T.zaw (hr.mono (by decide)) (pv 0) (za (zah (zag K rfl) (pv 1) zf (fun _ _=>rfl)) (za (zah (zag K rfl) (pv 1) zf (fun _ _=>rfl)) zd))))) (zi (zay (zad zbv (zah (zag K rfl) (pv 1) zf (fun _ _=>rfl)) zaf (zak _)) (zi (zat (zbs (zgc T) T.zaw (hr.mono (by decide)) (pv 0) (za (zah (zag K rfl) (pv 1) zf (fun _ _=>rfl)) zd)))) (zi (zat (zbs (zio T) T.zaw (hr.mono (by decide)) (pv 0) (za (pv 1) zd)))))))))))))))),?_⟩
    obtain⟨dx,h1⟩:=R.ob
    have no4:∀{m:Str},m ∉ (["frame","units","ties","finds"]:List Str)->(rfl4 (.ref pm) du dt df).lookup m=none:=fun h=>zch _ _ _ _ h
    cases hq with
    | @unit x e=>
      refine⟨_,rfl,q,_,_,_,rfl,rfl,SqT.of e,rfl,rfl,_,rfl,zen ?_⟩
      refine⟨_,rfl,p,dx,_,rfl,h1,no4 (by decide +kernel),_,rfl,q,_,_,_,rfl,rfl,SqT.of e,rfl,?_⟩
      cases hA with
      | unit h=>
        refine⟨p,pm,du,dt,df,lo,hi,st.us,st.ts,st.fs,af,x,rfl,R,h,lu,?_⟩
        exact k _ af R.setU fun b o e b1 b2 b3=>by rw[zn b1];exact e
    | @drop x e=>
      refine⟨_,rfl,q,_,_,_,rfl,rfl,SqT.of e,rfl,rfl,_,rfl,zbd (by decide +kernel) ⟨_,rfl,q,_,_,_,rfl,rfl,SqT.of e,rfl,rfl,_,rfl,zen ?_⟩⟩
      refine⟨_,rfl,p,dx,_,rfl,h1,no4 (by decide +kernel),_,rfl,q,_,_,_,rfl,rfl,SqT.of e,rfl,?_⟩
      cases hA with
      | @drop _ _ j h hu'=>
        refine⟨p,pm,du,dt,df,lo,hi,st.us,st.ts,st.fs,af,x,j,rfl,R,ok,lt,lf,h,hu',fun H1 s1=>?_⟩
        exact k _ af (R.same s1).setU fun b o e b1 b2 b3=>by rw[zn b1];exact s1 _ _ e
    | @untie t a e ea=>
      refine⟨_,rfl,q,_,_,_,rfl,rfl,SqT.of e,rfl,rfl,_,rfl,zbd (by decide +kernel) ⟨_,rfl,q,_,_,_,rfl,rfl,SqT.of e,rfl,rfl,_,rfl,zbd (by decide +kernel) ⟨_,rfl,q,_,_,_,rfl,rfl,SqT.of e,rfl,rfl,_,rfl,zen ?_⟩⟩⟩
      refine⟨_,rfl,p,dx,_,rfl,h1,no4 (by decide +kernel),_,rfl,q,_,_,_,rfl,rfl,SqT.of e,rfl,?_⟩
      cases hA with
      | @untie _ _ j h=>
        refine⟨p,pm,du,dt,df,a,lo,hi,st.us,st.ts,st.fs,af,t,j,rfl,R,ok,ea,h,?_⟩
        exact k _ af R.setT fun b o e b1 b2 b3=>by rw[zn b2];exact e
    | @find f e=>
      refine⟨_,rfl,q,_,_,_,rfl,rfl,SqT.of e,rfl,rfl,_,rfl,zbd (by decide +kernel) ⟨_,rfl,q,_,_,_,rfl,rfl,SqT.of e,rfl,rfl,_,rfl,zbd (by decide +kernel) ⟨_,rfl,q,_,_,_,rfl,rfl,SqT.of e,rfl,rfl,_,rfl,zbd (by decide +kernel) ⟨_,rfl,q,_,_,_,rfl,rfl,SqT.of e,rfl,rfl,_,rfl,zen ?_⟩⟩⟩⟩
      refine⟨_,rfl,p,dx,_,rfl,h1,no4 (by decide +kernel),_,rfl,q,_,_,_,rfl,rfl,SqT.of e,rfl,_,rfl,q,_,_,_,rfl,rfl,SqT.of e,rfl,_,rfl,q,_,_,_,rfl,rfl,SqT.of e,rfl,_,rfl,q,_,_,_,rfl,rfl,SqT.of e,rfl,?_⟩
      cases hA with
      | find h1' h2'=>
        refine⟨p,pm,du,dt,df,lo,hi,st.us,st.ts,st.fs,af,f,rfl,R,h1',h2',lf,fun b hb=>?_⟩
        have t1:=Same.new (o:=.tup (fndV f)) hb
        have R1:=R.same t1
        refine k _ (af++[b]) (R1.setF ?_) fun c o e b1 b2 b3=>by rw[zn b3];exact t1 _ _ e
        rw[List.map_append]
        exact Tups.snoc R1.ft zb
    | @move n x e=>
      refine⟨_,rfl,q,_,_,_,rfl,rfl,SqT.of e,rfl,rfl,_,rfl,zbd (by decide +kernel) ⟨_,rfl,q,_,_,_,rfl,rfl,SqT.of e,rfl,rfl,_,rfl,zbd (by decide +kernel) ⟨_,rfl,q,_,_,_,rfl,rfl,SqT.of e,rfl,rfl,_,rfl,zbd (by decide +kernel) ⟨_,rfl,q,_,_,_,rfl,rfl,SqT.of e,rfl,rfl,_,rfl,zbd (by decide +kernel) ⟨_,rfl,q,_,_,_,rfl,rfl,SqT.of e,rfl,rfl,_,rfl,zen ?_⟩⟩⟩⟩⟩
      refine⟨_,rfl,p,dx,_,rfl,h1,no4 (by decide +kernel),_,rfl,q,_,_,_,rfl,rfl,SqT.of e,rfl,_,rfl,q,_,_,_,rfl,rfl,SqT.of e,rfl,?_⟩
      cases hA with
      | @move _ f _ j h h2'=>
        refine⟨p,pm,du,dt,df,lo,hi,st.us,st.ts,st.fs,af,f,j,x,rfl,R,ok,h,h2',lf,fun b H1 s1 hb eb=>?_⟩
        have R1:=R.same s1
        refine k _ (af.set j b) (R1.setF ?_) fun c o e b1 b2 b3=>by rw[zn b3];exact s1 _ _ e
        exact zmc R1.ft h eb
    | @lose n e=>
      refine⟨_,rfl,q,_,_,_,rfl,rfl,SqT.of e,rfl,rfl,_,rfl,zbd (by decide +kernel) ⟨_,rfl,q,_,_,_,rfl,rfl,SqT.of e,rfl,rfl,_,rfl,zbd (by decide +kernel) ⟨_,rfl,q,_,_,_,rfl,rfl,SqT.of e,rfl,rfl,_,rfl,zbd (by decide +kernel) ⟨_,rfl,q,_,_,_,rfl,rfl,SqT.of e,rfl,rfl,_,rfl,zbd (by decide +kernel) ⟨_,rfl,q,_,_,_,rfl,rfl,SqT.of e,rfl,rfl,_,rfl,zbd (by decide +kernel) ⟨_,rfl,q,_,_,_,rfl,rfl,SqT.of e,rfl,rfl,_,rfl,zen ?_⟩⟩⟩⟩⟩⟩
      refine⟨_,rfl,p,dx,_,rfl,h1,no4 (by decide +kernel),_,rfl,q,_,_,_,rfl,rfl,SqT.of e,rfl,?_⟩
      cases hA with
      | @lose _ f j h=>
        refine⟨p,pm,du,dt,df,lo,hi,st.us,st.ts,st.fs,af,f,j,rfl,R,ok,h,?_⟩
        refine k _ (af.eraseIdx j) (R.setF (zdf R.ft)) fun c o e b1 b2 b3=>by rw[zn b3];exact e
    | @tie t e=>
      obtain⟨r,er⟩:=zcd t
      cases sok with
      | tie hw=>
        obtain⟨_,k1,_,_,_,k2,k3,k4,k5,k6⟩:=zd2 _ (ze6 hw)
        refine⟨_,rfl,q,_,_,_,rfl,rfl,SqT.of e,zhl t,rfl,_,rfl,zbd k2 ⟨_,rfl,q,_,_,_,rfl,rfl,SqT.of e,zhl t,rfl,_,rfl,zbd k3 ⟨_,rfl,q,_,_,_,rfl,rfl,SqT.of e,zhl t,rfl,_,rfl,zbd k1 ⟨_,rfl,q,_,_,_,rfl,rfl,SqT.of e,zhl t,rfl,_,rfl,zbd k4 ⟨_,rfl,q,_,_,_,rfl,rfl,SqT.of e,zhl t,rfl,_,rfl,zbd k5 ⟨_,rfl,q,_,_,_,rfl,rfl,SqT.of e,zhl t,rfl,_,rfl,zbd k6 ?_⟩⟩⟩⟩⟩⟩
        refine⟨_,rfl,p,dx,_,rfl,h1,no4 (by decide +kernel),_,rfl,?_⟩
        cases dok with
        | tie ht=>
          cases hA with
          | tie h1' h2' h3'=>
            refine⟨p,pm,du,dt,df,q,lo,hi,st.us,st.ts,st.fs,af,t,rfl,R,ok,e,ht.into h1' h2',h3',lt,?_⟩
            exact k _ af R.setT fun b o e b1 b2 b3=>by rw[zn b2];exact e
def zw9:Sp:=fun vs H Q _=>∃(tl q pm pu pt pf:Addr) (lo hi:Int) (us:List Str) (ts fs:List (List V)) (at' af:List Addr),vs = [.ref tl,.ref q]/\SqT K H tl [.ref pm,.ref pu,.ref pt,.ref pf]/\TellAt K H pm pu pt pf lo hi us ts fs at' af/\TellOk lo hi us ts fs/\H q=some (.tup [.str "tell"])/\
  ∀H',Same H H'->Q (.str (zjp (zbi lo hi us ts fs))) H'
theorem zsi (T:Tx K mg w C_Dig C_Desk zk zg zq zo zh zp zy zm zr zz zv zaa zw zab zx):Has P w K mg base "answer" ["telling","question"] 4 (zw9 (K:=K)):=by
  refine T.zsp.has zp9 (fun vs H Q E h=>?_) (fun f cdv A outer s H vs Q E hr h=>?_)
  · obtain⟨tl,q,pm,pu,pt',pf,lo,hi,us,ts,fs,at',af,rfl,_⟩:=h;rfl
  · obtain⟨tl,q,pm,pu,pt',pf,lo,hi,us,ts,fs,at',af,rfl,htl,ta,ok,hq,k⟩:=h
    refine⟨_,(ze (zay (zad zbv (zah (zag K rfl) (pv 1) zf (fun _ _=>rfl)) zaf (zak _)) (zi za0) zai)
      (ze (zay (zad zbv (zah (zag K rfl) (pv 1) zf (fun _ _=>rfl)) zaf (zak _)) (zi za0) zai)
      (ze (zay (zad zbv (zah (zag K rfl) (pv 1) zf (fun _ _=>rfl)) zaf (zak _)) (zi za0) zai)
      (ze (zay (zad zbv (zah (zag K rfl) (pv 1) zf (fun _ _=>rfl)) zaf (zak _)) (zi za0) zai)
      (ze (zay (zad zbv (zah (zag K rfl) (pv 1) zf (fun _ _=>rfl)) zaf (zak _)) (zi (zal (zao (zgu T) (hr.mono (by decide)) (by rfl) (za (pv 0) zd)))) zai)
      (zi za0)))))),?_⟩
    refine⟨_,rfl,q,_,_,_,rfl,rfl,SqT.of hq,rfl,rfl,_,rfl,zbd (by decide +kernel) ?_⟩
    refine⟨_,rfl,q,_,_,_,rfl,rfl,SqT.of hq,rfl,rfl,_,rfl,zbd (by decide +kernel) ?_⟩
    refine⟨_,rfl,q,_,_,_,rfl,rfl,SqT.of hq,rfl,rfl,_,rfl,zbd (by decide +kernel) ?_⟩
    refine⟨_,rfl,q,_,_,_,rfl,rfl,SqT.of hq,rfl,rfl,_,rfl,zbd (by decide +kernel) ?_⟩
    refine⟨_,rfl,q,_,_,_,rfl,rfl,SqT.of hq,rfl,rfl,_,rfl,zen ?_⟩
    exact⟨_,rfl,tl,pm,pu,pt',pf,lo,hi,us,ts,fs,at',af,rfl,htl,ta,ok,k⟩
def zsj:Sp:=fun vs H Q _=>∃(p dx:Addr),vs = [.ref p]/\H p=some (.ins C_Desk dx [])/\∀(pd pm du dt df:Addr) (H':Hp),H pd=none->H du=none->H dt=none->H df=none->DeskAt C_Desk C_Dig H' p pd pm du dt df 0 9999 ⟨[],[],[]⟩ []->(∀b o,H b=some o->b≠p->H' b=some o)->Q .non H'
set_option maxHeartbeats 4000000 in
theorem zdd (T:Tx K mg w C_Dig C_Desk zk zg zq zo zh zp zy zm zr zz zv zaa zw zab zx):HasM P w K mg base C_Desk "__init__" ["self"] 3 (zsj (C_Dig:=C_Dig) (C_Desk:=C_Desk)):=by
  refine T.zgi.has zev (fun vs H Q E h=>?_) (fun f cdv A outer s H vs Q E hr h=>?_)
  · obtain⟨p,dx,rfl,_⟩:=h;rfl
  · obtain⟨p,dx,rfl,hp,k⟩:=h
    obtain⟨u_FIRST_YEAR,h_FIRST_YEAR,r_FIRST_YEAR⟩:=T.zkl
    obtain⟨u_LAST_YEAR,h_LAST_YEAR,r_LAST_YEAR⟩:=T.zll
    refine⟨_,(zi (zg6 (pv 0) (zps (zdk T) T.ztf T.ztg (hr.mono (by decide)) (by rfl) T.zte (za (zd3 (v:=.int 0) (by rfl) h_FIRST_YEAR r_FIRST_YEAR) (za (zd3 (v:=.int 9999) (by rfl) h_LAST_YEAR r_LAST_YEAR) zd))) rfl)),?_⟩
    intro pd dy hpd hdy npd
    have s1:Same H (upd (upd H dy (.own pd)) pd (.ins C_Dig dy [])):=fun b o e=>by
      rw[zn (zc e hpd),zn (zc e hdy)];exact e
    refine⟨pd,dy,0,9999,rfl,zb,fun pm du dt df H1 f1 f2 f3 R1 kp=>⟨rfl,?_⟩⟩
    have s2:Same H H1:=fun b o e=>kp b o (s1 b o e) (zc e hpd)
    have hp1:=s2 _ _ hp
    refine⟨_,rfl,p,C_Desk,dx,[],rfl,hp1,T.zcr,T.zcs,(by show 0<1000;decide),?_⟩
    refine k pd pm du dt df _ hpd (s1.free f1) (s1.free f2) (s1.free f3) ⟨⟨dx,zb⟩,?_⟩ fun b o e hb=>by rw[zn hb];exact s2 _ _ e
    exact R1.put (zc hp hpd) hp1
def zxa:Sp:=fun vs H Q _=>∃(kk pd pm du dt df:Addr) (lo hi:Int) (s:SD) (af:List Addr) (sy:Say) (xs ms:List Str),vs = [.ref kk,.str (sayT sy)]/\DeskAt C_Desk C_Dig H kk pd pm du dt df lo hi s af/\DigOk s.us s.ts s.fs/\SayOk sy/\(∀x∈xs,za4 x=true)/\zan lo/\zan hi/\s.us.length<=100/\s.ts.length<=100/\s.fs.length<=100/\
  ((sy = .tell/\∀H',Same H H'->Q (.str (zjp (zbi lo hi s.us (s.ts.map tieV) (s.fs.map fndV)))) H')\/
   (∃d s',sy = .deed d/\DeedOk xs ms d/\After d s s'/\∀H' af',DeskAt C_Desk C_Dig H' kk pd pm du dt df lo hi s' af'->KpD H H' du dt df->Q (.str "ok") H')\/
   (∃lo' hi',sy = .dig lo' hi'/\∀(pd' pm' du' dt' df':Addr) (H':Hp),H pd'=none->H du'=none->H dt'=none->H df'=none->DeskAt C_Desk C_Dig H' kk pd' pm' du' dt' df' lo' hi' ⟨[],[],[]⟩ []->(∀b o,H b=some o->b≠kk->H' b=some o)->Q (.str "ok") H'))
theorem zqh {d:Deed}(h:SayOk (.deed d)):∃kd r,sayW (.deed d) = .str kd::r/\¬kd∈l_QUESTIONS.map (·.1)/\kd≠Str.ofString "dig":=by
  cases h with
  | @tie t h=>
    obtain⟨r,er⟩:=zcd t
    have hk:=zd2 _ (ze6 h)
    exact⟨t.k,r,er,hk.2.2.2.1,hk.2.2.2.2.1⟩
  | unit h=>exact⟨_,_,rfl,by decide +kernel,by decide +kernel⟩
  | drop h=>exact⟨_,_,rfl,by decide +kernel,by decide +kernel⟩
  | untie h=>exact⟨_,_,rfl,by decide +kernel,by decide +kernel⟩
  | find h=>exact⟨_,_,rfl,by decide +kernel,by decide +kernel⟩
  | move h1 h2=>exact⟨_,_,rfl,by decide +kernel,by decide +kernel⟩
  | lose h=>exact⟨_,_,rfl,by decide +kernel,by decide +kernel⟩
theorem zqi {H:Hp}{q:Addr}{d:Deed}(h:SayAt H q (.deed d)) {kd:Str}{r:List V}(e:sayW (.deed d) = .str kd::r):∃ws,H q=some (.tup ws)/\atI ws 0=some (.str kd):=by
  cases h with
  | unit e'=>exact⟨_,e',congrArg some (List.cons.inj e).1⟩
  | drop e'=>exact⟨_,e',congrArg some (List.cons.inj e).1⟩
  | tie e'=>exact⟨_,e',by rw[show tieV _=_ from e];exact zep⟩
  | untie e' _=>exact⟨_,e',congrArg some (List.cons.inj e).1⟩
  | find e'=>exact⟨_,e',congrArg some (List.cons.inj e).1⟩
  | move e'=>exact⟨_,e',congrArg some (List.cons.inj e).1⟩
  | lose e'=>exact⟨_,e',congrArg some (List.cons.inj e).1⟩
set_option maxHeartbeats 8000000 in
theorem zcl (T:Tx K mg w C_Dig C_Desk zk zg zq zo zh zp zy zm zr zz zv zaa zw zab zx):HasM P w K mg base C_Desk "say" ["self","row"] 9 (zxa (C_Dig:=C_Dig) (C_Desk:=C_Desk)):=by
  refine T.zno.has sc_Desk_say (fun vs H Q E h=>?_) (fun f cdv A outer s H vs Q E hr h=>?_)
  · obtain⟨kk,pd,pm,du,dt,df,lo,hi,s,af,sy,xs,ms,rfl,_⟩:=h;rfl
  · obtain⟨kk,pd,pm,du,dt,df,lo,hi,st,af,sy,xs,ms,rfl,D,ok,sok,nm,y1,y2,l1,l2,l3,k⟩:=h
    obtain⟨a_QUESTIONS,m_QUESTIONS,k_QUESTIONS⟩:=T.zgj
    refine⟨_,(ze (zav (i:=2) sc_Desk_say.nd rfl (Or.inl rfl) (zao (zni T) (hr.mono (by decide)) (by rfl) (za (pv 1) zd)))
      (ze (zay (zcy (zo2 k_QUESTIONS (by rfl) m_QUESTIONS (zah (zag K rfl) (pv 2) zf (fun _ _=>rfl)))) (zi (zal (zao (zsi T) (hr.mono (by decide)) (by rfl) (za (zuh (ziq T) T.zaw (hr.mono (by decide)) (zbm (pv 0) rfl)) (za (pv 2) zd))))) zai)
      (ze (zay (zad zbv (zah (zag K rfl) (pv 2) zf (fun _ _=>rfl)) zaf (zak _)) (zi (zg6 (pv 0) (zps (zdk T) T.ztf T.ztg (hr.mono (by decide)) (by rfl) T.zte (za (zah (zag K rfl) (pv 2) zf (fun _ _=>rfl)) (za (zah (zag K rfl) (pv 2) zf (fun _ _=>rfl)) zd))) rfl)) (zi (zat (zao (zqg T) (hr.mono (by decide)) (by rfl) (za (zbm (pv 0) rfl) (za (pv 2) zd))))))
      (zi (zal zaf))))),?_⟩
    refine⟨_,rfl,sy,rfl,sok,fun q H1 s1 hq=>?_⟩
    have D1:=D.same s1
    obtain⟨dx,h1⟩:=D1.ob
    obtain⟨dy,h2⟩:=D1.dig.ob
    try dsimp only [za6]
    rcases k with ⟨rfl,k⟩ | ⟨d,s',rfl,dok,hA,k⟩ | ⟨lo',hi',rfl,k⟩
    · cases hq with
      | tell e=>
        refine⟨_,rfl,q,_,_,_,rfl,rfl,SqT.of e,rfl,Str.ofString "tell",rfl,_,rfl,?_⟩
        rw[decide_eq_true (show Str.ofString "tell"∈l_QUESTIONS.map (·.1) by decide +kernel)]
        refine iteT ?_
        refine⟨_,rfl,kk,C_Desk,dx,_,_,rfl,h1,T.zcr,T.zcs,rfl,pd,dy,_,rfl,h2,zch _ _ _ _ (by decide +kernel),pd,pm,du,dt,df,lo,hi,st.us,st.ts,st.fs,af,rfl,D1.dig,ok,fun tl pu pt' pf at' H2 _ _ _ _ etl eu et tt ef _ _ _ s2=>?_⟩
        exact⟨_,rfl,tl,q,pm,pu,pt',pf,lo,hi,st.us,_,_,at',af,rfl,SqT.of etl,⟨SqT.of (s2 _ _ D1.dig.m),SqL.of eu,SqL.of et,tt,SqL.of ef,D1.dig.ft.same s2⟩,zia y1 y2 ok l1 l2 l3,s2 _ _ e,fun H3 s3=>k _ (s1.trans (s2.trans s3))⟩
    · obtain⟨kd,r,ekr,nq,nd⟩:=zqh sok
      obtain⟨ws,eq,e0⟩:=zqi hq ekr
      refine⟨_,rfl,q,_,_,_,rfl,rfl,SqT.of eq,e0,kd,rfl,_,rfl,?_⟩
      rw[decide_eq_false nq]
      refine iteF ?_
      try unfold zcv
      try dsimp only
      refine⟨_,rfl,q,_,_,_,rfl,rfl,SqT.of eq,e0,rfl,_,rfl,zbd nd ?_⟩
      refine⟨_,rfl,kk,C_Desk,dx,_,_,rfl,h1,T.zcr,T.zcs,rfl,_,rfl,pd,pm,du,dt,df,q,lo,hi,st,s',af,d,xs,ms,rfl,D1.dig,ok,hq,sok,dok,nm,by omega,by omega,by omega,hA,fun H2 af' R2 kp=>?_⟩
      try dsimp only
      refine k H2 af' ⟨⟨dx,kp _ _ h1 (zgk h1 D1.dig.u (fun z=>nomatch z)) (zgk h1 D1.dig.t (fun z=>nomatch z)) (zgk h1 D1.dig.f (fun z=>nomatch z))⟩,R2⟩ fun b o e b1 b2 b3=>kp b o (s1 _ _ e) b1 b2 b3
    · cases hq with
      | dig e=>
        refine⟨_,rfl,q,_,_,_,rfl,rfl,SqT.of e,rfl,Str.ofString "dig",rfl,_,rfl,?_⟩
        rw[decide_eq_false (show ¬Str.ofString "dig"∈l_QUESTIONS.map (·.1) by decide +kernel)]
        refine iteF ?_
        try unfold zcv
        try dsimp only
        refine⟨_,rfl,q,_,_,_,rfl,rfl,SqT.of e,rfl,rfl,_,rfl,zen ?_⟩
        refine⟨_,rfl,q,_,_,_,rfl,rfl,SqT.of e,rfl,_,rfl,q,_,_,_,rfl,rfl,SqT.of e,rfl,?_⟩
        intro pd' dz hpd hdz npd
        have s3:Same H1 (upd (upd H1 dz (.own pd')) pd' (.ins C_Dig dz [])):=fun b o e=>by
          rw[zn (zc e hpd),zn (zc e hdz)];exact e
        refine⟨pd',dz,lo',hi',rfl,zb,fun pm' du' dt' df' H2 f1 f2 f3 R2 kp=>⟨rfl,?_⟩⟩
        have s4:Same H1 H2:=fun b o e=>kp b o (s3 b o e) (zc e hpd)
        have h4:=s4 _ _ h1
        refine⟨_,rfl,kk,C_Desk,dx,_,rfl,h4,T.zcr,T.zcs,(by show 1<1000;decide),?_⟩
        try dsimp only
        refine k pd' pm' du' dt' df' _ (s1.free hpd) (s1.free (s3.free f1)) (s1.free (s3.free f2)) (s1.free (s3.free f3)) ⟨⟨dx,?_⟩,?_⟩ fun b o e hb=>by rw[zn hb];exact s4 _ _ (s1 _ _ e)
        · rw[zb]
          rfl
        · exact R2.put (zc h1 hpd) h4
theorem c58:CPow 10 58:=⟨by decide,by decide,by decide⟩
theorem c59':CPow 10 59:=⟨by decide,by decide,by decide⟩
theorem m59':(0:Int)<10 ^ (59:Int).toNat:=by decide
def zj4:List V:=[.str "over",.str "cuts",.str "fills",.str "after",.str "after",.str "same"]
theorem zsk {i:Int}(h0:0<=i) (h1:i<6):∃kd:Str,atI zj4 i=some (.str kd)/\(kd = "after"\/kd∈zh2):=by
  have h:i=0\/i=1\/i=2\/i=3\/i=4\/i=5:=by omega
  rcases h with rfl | rfl | rfl | rfl | rfl | rfl
  · exact⟨_,rfl,.inr (by decide +kernel)⟩
  · exact⟨_,rfl,.inr (by decide +kernel)⟩
  · exact⟨_,rfl,.inr (by decide +kernel)⟩
  · exact⟨_,rfl,.inl rfl⟩
  · exact⟨_,rfl,.inl rfl⟩
  · exact⟨_,rfl,.inr (by decide +kernel)⟩
theorem znk:(Str.ofString "same" : Str)∈zh2:=by decide +kernel
theorem zqj {xs:List Str}{i:Nat}(h:i<xs.length):atI (xs.map V.str) (i:Int)=some (.str xs[i]):=zcg (by simp[h])
def zsl:Sp:=fun vs H Q _=>∃(pn:Addr) (us:List Str) (c:Int),vs = [.ref pn,.int c]/\SqL K H pn (us.map V.str)/\1<=us.length/\∀(p:Addr) (t:Tie) (H':Hp),TOk us t->H p=none->H' p=some (.tup (tieV t))->Same H H'->Q (.ref p) H'
set_option maxHeartbeats 8000000 in
theorem znl (T:Tx K mg w C_Dig C_Desk zk zg zq zo zh zp zy zm zr zz zv zaa zw zab zx):Has P w K mg base "_law_tie" ["_law_names_here","_law_cell"] 3 (zsl (K:=K)):=by
  refine T.zns.has sc__law_tie (fun vs H Q E h=>?_) (fun f cdv A outer s H vs Q E hr h=>?_)
  · obtain⟨pn,us,c,rfl,_⟩:=h;rfl
  · obtain⟨pn,us,c,rfl,hn,m1,k⟩:=h
    refine⟨_,(ze (zav (i:=2) sc__law_tie.nd rfl (Or.inl rfl) (zao (zae T) (hr.mono (by decide)) (by rfl) (za (pv 1) (za zf (za (za1 (zar K rfl) (by rfl) T.len boot_len (za (pv 0) zd)) zd)))))
      (ze (zav (i:=3) sc__law_tie.nd rfl (Or.inl rfl) (zao (zae T) (hr.mono (by decide)) (by rfl) (za (pv 1) (za zf (za (za1 (zar K rfl) (by rfl) T.len boot_len (za (pv 0) zd)) zd)))))
      (ze (zay (zad ztr (zao (zae T) (hr.mono (by decide)) (by rfl) (za (pv 1) (za zf (za zf zd)))) zf (zak _)) (zi (zvz (i:=2) (j:=3) rfl sc__law_tie.nd rfl rfl (by decide) rfl rfl (za (za1 (zn7 rfl) (by rfl) T.max PyProof.Rows.boot_max (za (pv 2) (za (pv 3) zd))) (za (za1 (zn8 rfl) (by rfl) T.min PyProof.Rows.boot_min (za (pv 2) (za (pv 3) zd))) zd)) rfl)) zai)
      (ze (zav (i:=4) sc__law_tie.nd rfl (Or.inl rfl) (zah (zac K rfl) (zbn (za zaf (za zaf (za zaf (za zaf (za zaf (za zaf zd))))))) (zao (zae T) (hr.mono (by decide)) (by rfl) (za (pv 1) (za zf (za zf zd)))) (fun _ _=>rfl)))
      (ze (zay (PW.pt (zcz (zad zbv (pv 2) (pv 3) (zak _)) (zb8 (zad ztr (zao (zae T) (hr.mono (by decide)) (by rfl) (za (pv 1) (za zf (za zf zd)))) zf (zak _))))) (zi (zav (i:=4) sc__law_tie.nd rfl (Or.inl rfl) zaf)) zai)
      (ze (zay (zad zbv (pv 4) zaf (zak _)) (ze (zav (i:=5) sc__law_tie.nd rfl (Or.inl rfl) (zah (zac K rfl) (zbn (za (zao (zae T) (hr.mono (by decide)) (by rfl) (za (pv 1) (za zf (za zf zd)))) (za (zaz zee (zaz zi0 (pv 1) zf) (zaz zi1 zf zf)) zd))) (zaz ztq (zao (zae T) (hr.mono (by decide)) (by rfl) (za (pv 1) (za zf (za zf zd)))) zf) (fun _ _=>rfl)))
        (zi (zal (zbc (za (pv 4) (za (zah (zac K rfl) (pv 0) (pv 2) (fun _ _=>rfl)) (za (zah (zac K rfl) (pv 0) (pv 3) (fun _ _=>rfl)) (za (pv 5) zd)))))))) zai)
      (zi (zal (zbc (za (pv 4) (za (zah (zac K rfl) (pv 0) (pv 2) (fun _ _=>rfl)) (za (zah (zac K rfl) (pv 0) (pv 3) (fun _ _=>rfl)) zd)))))))))))),?_⟩
    have hm:(0:Int)<(us.length:Int):=by omega
    refine⟨_,rfl,_,rfl,pn,_,rfl,.inl hn,?_⟩
    rw[List.length_map]
    refine⟨_,_,_,rfl,hm,?_⟩
    obtain⟨a0,ea,la⟩:∃a:Nat,pt c 2 us.length=(a:Int)/\a<us.length:=⟨(pt c 2 us.length).toNat,by have:=zcx c 2 us.length hm;omega,by have:=zcx c 2 us.length hm;omega⟩
    rw[ea]
    try dsimp only [za6]
    refine⟨_,rfl,_,rfl,pn,_,rfl,.inl hn,?_⟩
    rw[List.length_map]
    refine⟨_,_,_,rfl,hm,?_⟩
    obtain⟨b0,eb,lb⟩:∃a:Nat,pt c 3 us.length=(a:Int)/\a<us.length:=⟨(pt c 3 us.length).toNat,by have:=zcx c 3 us.length hm;omega,by have:=zcx c 3 us.length hm;omega⟩
    rw[eb]
    try dsimp only [za6]
    refine zpp (fun σ'=>∃a b:Nat,σ' = [some (.ref pn),some (.int c),some (.int a),some (.int b),none,none]/\a<us.length/\b<us.length)
      (decide ((0:Int)<pt c 7 4)) (fun Q' hQ=>⟨_,rfl,_,_,_,rfl,by decide,_,_,rfl,rfl,_,rfl,hQ⟩)
      (fun e=>⟨_,⟨if (b0:Int) > a0 then b0 else a0,if (b0:Int)<a0 then b0 else a0,rfl,by split<;>omega,by split<;>omega⟩,fun h=>⟨_,rfl,_,rfl,_,_,rfl,_,rfl,_,rfl,_,_,rfl,_,_,rfl,?_⟩⟩)
      (fun e=>⟨_,⟨a0,b0,rfl,la,lb⟩,fun h=>h⟩) ?_
    · have e1:(if (b0:Int) > a0 then (b0:Int) else a0)=((if (b0:Int) > a0 then b0 else a0:Nat):Int):=by split<;>rfl
      have e2:(if (b0:Int)<a0 then (b0:Int) else a0)=((if (b0:Int)<a0 then b0 else a0:Nat):Int):=by split<;>rfl
      rw[e1,e2]
      exact h
    clear la lb ea eb
    rintro σ' ⟨a,b,rfl,ham,hbm⟩
    dsimp only
    refine⟨(by show 6<=sizeLine;decide),fun p1 hp1=>?_⟩
    refine⟨_,rfl,_,_,_,rfl,by decide,?_⟩
    obtain⟨kd,ek,hk⟩:=zsk (zcx c 4 6 (by decide)).1 (zcx c 4 6 (by decide)).2
    have s1:Same H (upd H p1 (.lst zj4)):=Same.new hp1
    refine⟨p1,zj4,_,_,rfl,rfl,SqL.of zb,ek,?_⟩
    try dsimp only [za6]
    show tSeq _ _ _ _ (upd H p1 (.lst zj4))
    generalize upd H p1 (.lst zj4)=H1 at s1
    have xa:=zqj (xs:=us) (i:=a) ham
    have xb:=zqj (xs:=us) (i:=b) hbm
    have ma:us[a]∈us:=List.getElem_mem _
    have mb:us[b]∈us:=List.getElem_mem _
    refine zpp (fun σ'=>∃kd':Str,σ' = [some (.ref pn),some (.int c),some (.int a),some (.int b),some (.str kd'),none]/\(kd' = "after"\/kd'∈zh2))
      (decide (V.int a=V.int b)&&decide ((0:Int)<pt c 8 6)) (fun Q' hQ=>?_) (fun e=>⟨_,⟨"same",rfl,.inr znk⟩,fun h=>h⟩) (fun e=>⟨_,⟨kd,rfl,hk⟩,fun h=>h⟩) ?_
    · refine⟨_,rfl,_,rfl,rfl,_,rfl,?_⟩
      generalize decide (V.int (a:Int)=V.int (b:Int))=bb at hQ
      cases bb with
      | false=>exact iteF hQ
      | true=>
        refine iteT ?_
        exact⟨_,rfl,_,_,_,rfl,by decide,_,_,rfl,rfl,_,rfl,hQ⟩
    clear hk ek
    rintro σ' ⟨kd',rfl,hk'⟩
    dsimp only
    refine⟨_,rfl,rfl,_,rfl,?_⟩
    refine ite2 (fun c3=>?_) (fun c3=>?_)
    · have c3:kd' = "after":=V.str.inj (of_decide_eq_true c3)
      refine⟨_,rfl,_,_,_,rfl,by decide,?_⟩
      refine⟨_,rfl,_,_,rfl,rfl,.inr ⟨by decide,by decide⟩,_,_,rfl,rfl,c59',_,_,rfl,rfl,m59',(by show 2<=sizeLine;decide),fun p2 hp2=>?_⟩
      obtain⟨z,ez⟩:∃z,z=c * 48271%10 ^ (59:Int).toNat:=⟨_,rfl⟩
      have z0:=Int.emod_nonneg (c * 48271) (show (10 ^ (59:Int).toNat:Int)≠0 by decide)
      have z1:=Int.emod_lt_of_pos (c * 48271) m59'
      have e59:(10:Int) ^ (59:Int).toNat=10 ^ 59:=rfl
      rw[←ez] at z0 z1
      rw[e59] at z1
      have s3:=Same.new (o:=.lst [.int (pt c 5 9),.int z]) hp2
      refine⟨_,rfl,_,_,_,rfl,by decide,_,_,rfl,rfl,⟨by decide,by decide⟩,?_⟩
      obtain⟨d1,d2⟩:=zcx c 5 9 (by decide)
      obtain⟨d3,d4⟩:=zcx c 6 9 (by decide)
      obtain⟨v,hv,hv'⟩:=zwt (u:=.int (pt c 5 9)) (v:=.int z) (i:=pt c 6 9 / 8) (by omega) (by omega)
      obtain⟨g,rfl,g0,g1⟩:∃g:Int,v = .int g/\0<=g/\zan g:=by
        rcases hv' with rfl | rfl
        · exact⟨_,rfl,d1,by unfold zan;omega⟩
        · exact⟨_,rfl,z0,by unfold zan;omega⟩
      refine⟨p2,_,_,_,rfl,rfl,SqL.of (by rw[ez];exact zb),hv,?_⟩
      try dsimp only [za6]
      rw[←ez]
      have n3:=s1.trans s3
      refine⟨_,rfl,_,rfl,_,rfl,pn,_,_,_,rfl,rfl,n3.seq hn,xa,_,rfl,_,rfl,pn,_,_,_,rfl,rfl,n3.seq hn,xb,_,rfl,(by show 4<=sizeLine;decide),fun p3 hp3=>?_⟩
      have tok:TieOk us (tieV ⟨kd',us[a],us[b],some g⟩):=by rw[c3];exact .after ma mb g0 g1
      exact k p3 _ _ ⟨tok,ma,mb⟩ (n3.free hp3) zb (n3.trans (Same.new hp3))
    · have c3:¬kd' = "after":=fun z=>c3 (decide_eq_true (congrArg V.str z))
      refine⟨_,rfl,_,rfl,_,rfl,pn,_,_,_,rfl,rfl,s1.seq hn,xa,_,rfl,_,rfl,pn,_,_,_,rfl,rfl,s1.seq hn,xb,(by show 3<=sizeLine;decide),fun p3 hp3=>?_⟩
      have tok:TieOk us (tieV ⟨kd',us[a],us[b],none⟩):=.plain (hk'.resolve_left c3) ma mb
      exact k p3 _ _ ⟨tok,ma,mb⟩ (s1.free hp3) zb (s1.trans (Same.new hp3))
theorem zvi {x y z u:V}{i:Int}(h0:0<=i) (h1:i<4):∃w,atI [x,y,z,u] i=some w/\(w=x\/w=y\/w=z\/w=u):=by
  have h:i=0\/i=1\/i=2\/i=3:=by omega
  rcases h with rfl | rfl | rfl | rfl
  · exact⟨_,rfl,.inl rfl⟩
  · exact⟨_,rfl,.inr (.inl rfl)⟩
  · exact⟨_,rfl,.inr (.inr (.inl rfl))⟩
  · exact⟨_,rfl,.inr (.inr (.inr rfl))⟩
def znm:Sp:=fun vs H Q _=>∃c:Int,vs = [.int c]/\∀(p:Addr) (lo hi:Int) (H':Hp),zan lo->zan hi->lo<=hi->H p=none->H' p=some (.tup [.int lo,.int hi])->Same H H'->Q (.ref p) H'
set_option maxHeartbeats 4000000 in
theorem zj5 (T:Tx K mg w C_Dig C_Desk zk zg zq zo zh zp zy zm zr zz zv zaa zw zab zx):Has P w K mg base "_law_frame" ["_law_cell"] 2 znm:=by
  refine T.zkh.has sc__law_frame (fun vs H Q E h=>?_) (fun f cdv A outer s H vs Q E hr h=>?_)
  · obtain⟨c,rfl,_⟩:=h;rfl
  · obtain⟨c,rfl,k⟩:=h
    refine⟨_,(ze (zav (i:=1) sc__law_frame.nd rfl (Or.inl rfl) (zbn (za (zbc (za (zkp ze9 zf) (za zf zd))) (za (zbc (za zf (za zf zd))) (za (zbc (za (zkp ze9 (zaz zi1 zf zf)) (za (zaz zdh (zaz zi1 zf zf) (zaz zi1 zf zf)) zd))) (za (zbc (za zf (za zf zd))) zd))))))
      (zi (zal (zah (zac K rfl) (pv 1) (zao (zae T) (hr.mono (by decide)) (by rfl) (za (pv 0) (za zf (za zf zd)))) (fun _ _=>rfl))))),?_⟩
    refine⟨_,rfl,(by show 2<=sizeLine;decide),fun p1 hp1=>?_⟩
    have s1:=Same.new (o:=.tup [.int (-5),.int 70]) hp1
    refine⟨(by show 2<=sizeLine;decide),fun p2 hp2=>?_⟩
    have s2:=Same.new (o:=.tup [.int 0,.int 9999]) hp2
    refine⟨_,_,rfl,rfl,c59',_,rfl,_,_,rfl,rfl,c59',_,_,rfl,rfl,c58,_,_,rfl,rfl,(by show 2<=sizeLine;decide),fun p3 hp3=>?_⟩
    have s3:=Same.new (o:=.tup [.int (-10 ^ (59:Int).toNat),.int (10 ^ (59:Int).toNat+10 ^ (58:Int).toNat)]) hp3
    refine⟨(by show 2<=sizeLine;decide),fun p4 hp4=>?_⟩
    have s4:=Same.new (o:=.tup [.int 0,.int 40]) hp4
    refine⟨(by show 4<=sizeLine;decide),fun p5 hp5=>?_⟩
    have s5:=Same.new (o:=.lst [.ref p1,.ref p2,.ref p3,.ref p4]) hp5
    obtain⟨v,hv,hv'⟩:=zvi (x:=.ref p1) (y:=.ref p2) (z:=.ref p3) (u:=.ref p4) (zcx c 12 4 (by decide)).1 (zcx c 12 4 (by decide)).2
    refine⟨_,rfl,_,rfl,_,_,_,rfl,by decide,p5,_,_,_,rfl,rfl,SqL.of zb,hv,?_⟩
    have q:=s1.trans (s2.trans (s3.trans (s4.trans s5)))
    rcases hv' with rfl | rfl | rfl | rfl
    · exact k _ _ _ _ (by unfold zan;decide) (by unfold zan;decide) (by decide) hp1 (s5 _ _ (s4 _ _ (s3 _ _ (s2 _ _ zb)))) q
    · exact k _ _ _ _ (by unfold zan;decide) (by unfold zan;decide) (by decide) (s1.free hp2) (s5 _ _ (s4 _ _ (s3 _ _ zb))) q
    · exact k _ _ _ _ (by unfold zan;decide) (by unfold zan;decide) (by decide) (s1.free (s2.free hp3)) (s5 _ _ (s4 _ _ zb)) q
    · exact k _ _ _ _ (by unfold zan;decide) (by unfold zan;decide) (by decide) (s1.free (s2.free (s3.free hp4))) (s5 _ _ zb) q
def zqk:Sp:=fun vs H Q _=>∃(pk pu:Addr) (ms us:List Str) (m c:Int) (mk:Str),vs = [.ref pk,.ref pu,.int m,.int c]/\SqL K H pk (ms.map V.str)/\SqL K H pu (us.map V.str)/\us≠[]/\us.length<=900/\atI (ms.map V.str) m=some (.str mk)/\za4 mk=true/\
  ∀(p:Addr) (f:Fnd) (H':Hp),FOk us f->f.n=mk->H p=none->H' p=some (.tup (fndV f))->Same H H'->Q (.ref p) H'
theorem zx5 {us:List Str}{i:Int}(h0:0<=i) (h1:i<us.length):∃x∈us,atI (us.map V.str) i=some (.str x):=by
  obtain⟨j,rfl⟩:∃j:Nat,i=(j:Int):=⟨i.toNat,by omega⟩
  have hj:j<us.length:=by omega
  exact⟨us[j],List.getElem_mem _,zcg (by rw[List.getElem?_map,List.getElem?_eq_getElem hj];rfl)⟩
theorem zis {zs:List Str}{c k:Int}(h:zs≠[]):∃z∈zs,atI (zs.map V.str) (pt c k (zs.map V.str).length)=some (.str z):=by
  have l1:=List.length_pos_iff.mpr h
  have hb:=zcx c k ((zs.map V.str).length:Int) (by rw[List.length_map];omega)
  rw[List.length_map] at hb ⊢
  exact zx5 hb.1 hb.2
set_option maxHeartbeats 4000000 in
theorem zle (T:Tx K mg w C_Dig C_Desk zk zg zq zo zh zp zy zm zr zz zv zaa zw zab zx):Has P w K mg base "_law_find" ["_law_marks","_law_units","_law_many","_law_cell"] 2 (zqk (K:=K)):=by
  refine T.zli.has sc__law_find (fun vs H Q E h=>?_) (fun f cdv A outer s H vs Q E hr h=>?_)
  · obtain⟨pk,pu,ms,us,m,c,mk,rfl,_⟩:=h;rfl
  · obtain⟨pk,pu,ms,us,m,c,mk,rfl,hk,hu',hne,lu,am,hm,k⟩:=h
    refine⟨_,(ze (zav (i:=4) sc__law_find.nd rfl (Or.inl rfl) (zao (zae T) (hr.mono (by decide)) (by rfl) (za (pv 3) (za zf (za zf zd)))))
      (ze (zav (i:=5) sc__law_find.nd rfl (Or.inl rfl) (zaz zdh (pv 4) (zao (zae T) (hr.mono (by decide)) (by rfl) (za (pv 3) (za zf (za zf zd))))))
      (ze (zay (zad zbv (zao (zae T) (hr.mono (by decide)) (by rfl) (za (pv 3) (za zf (za zf zd)))) zf (zak _)) (zi (zav (i:=5) sc__law_find.nd rfl (Or.inl rfl) (zaz zdh (pv 5) (zaz zee (zaz zi0 (pv 3) zf) (zaz zi1 zf zf))))) zai)
      (zi (zal (zbc (za (zah (zac K rfl) (pv 0) (pv 2) (fun _ _=>rfl)) (za (zah (zac K rfl) (pv 1) (zao (zae T) (hr.mono (by decide)) (by rfl) (za (pv 3) (za zf (za (za1 (zar K rfl) (by rfl) T.len boot_len (za (pv 1) zd)) zd)))) (fun _ _=>rfl)) (za (pv 4) (za (pv 5) zd)))))))))),?_⟩
    obtain⟨a1,a2⟩:=zcx c 9 40 (by decide)
    obtain⟨b1,b2⟩:=zcx c 11 60 (by decide)
    obtain⟨x,hx,ex⟩:=zis (c:=c) (k:=2) hne
    refine⟨_,rfl,_,_,_,rfl,by decide,?_⟩
    try dsimp only [za6]
    refine⟨_,rfl,_,rfl,_,_,_,rfl,by decide,_,_,rfl,rfl,?_⟩
    try dsimp only [za6]
    refine zpp (fun σ'=>∃z:Int,σ' = [some (.ref pk),some (.ref pu),some (.int m),some (.int c),some (.int (pt c 9 40)),some (.int (pt c 9 40+pt c 11 60+z))]/\0<=z/\z<10 ^ 59) (decide (pt c 10 6=1)) (fun Q' hQ=>?_) (fun hb=>?_) (fun hb=>?_) ?_
    · refine⟨_,rfl,_,_,_,rfl,by decide,rfl,_,rfl,?_⟩
      rw[show decide (V.int (pt c 10 6)=V.int 1)=decide (pt c 10 6=1) from decide_eq_decide.mpr ⟨fun z=>V.int.inj z,fun z=>congrArg V.int z⟩]
      exact hQ
    · have z0:=Int.emod_nonneg (c * 48271) (show ((10:Int) ^ (59:Int).toNat)≠0 by decide)
      have z1:=Int.emod_lt_of_pos (c * 48271) (show (0:Int)<(10:Int) ^ (59:Int).toNat by decide)
      exact⟨_,⟨c * 48271%10 ^ (59:Int).toNat,rfl,z0,z1⟩,fun h=>⟨_,rfl,_,rfl,_,_,rfl,rfl,.inr ⟨by decide,by decide⟩,_,_,rfl,rfl,⟨by decide,by decide,by decide⟩,_,_,rfl,rfl,(by decide:(0:Int)<10 ^ (59:Int).toNat),_,_,rfl,rfl,h⟩⟩
    · exact⟨[some (.ref pk),some (.ref pu),some (.int m),some (.int c),some (.int (pt c 9 40)),some (.int (pt c 9 40+pt c 11 60))],⟨0,by rw[Int.add_zero],by decide,by decide⟩,fun h=>h⟩
    rintro σ' ⟨z,rfl,z0,z1⟩
    try unfold zcv
    try dsimp only
    refine⟨_,rfl,_,rfl,pk,_,_,_,rfl,rfl,hk,am,_,rfl,_,rfl,_,rfl,pu,_,rfl,.inl hu',_,_,_,rfl,by rw[List.length_map];have:=List.length_pos_iff.mpr hne;omega,pu,_,_,_,rfl,rfl,hu',ex,_,rfl,_,rfl,by show 4<=sizeLine;decide,fun p hp=>?_⟩
    exact k p ⟨mk,x,pt c 9 40,pt c 9 40+pt c 11 60+z⟩ _ ⟨hm,hx,by show pt c 9 40<=pt c 9 40+pt c 11 60+z;omega,by show (pt c 9 40).natAbs<10 ^ 60;omega,by show (pt c 9 40+pt c 11 60+z).natAbs<10 ^ 60;omega⟩ rfl hp zb (Same.new hp)
def zsm:Sp:=fun vs H Q _=>∃(ps pm pu pt pf pn pk:Addr) (xs ms:List Str) (s:SD) (n:Nat) (c:Int),vs = [.ref ps,.ref pn,.ref pk,.int c]/\StAt K H ps pm pu pt pf xs s n/\n<=80/\SqL K H pn (xs.map V.str)/\SqL K H pk (ms.map V.str)/\xs.length=7/\ms.length=7/\(∀x∈xs,za4 x=true)/\(∀x∈ms,za4 x=true)/\
  ∀(H':Hp) (s':SD) (d:Deed),After d s s'->DeedOk xs ms d->SayOk (.deed d)->StAt K H' ps pm pu pt pf xs s' (n+1)->Kp3 H H' pu pt pf->Q (.str (sayT (.deed d))) H'
theorem zcm {xs:List Str}{i:Nat}{x:Str}(f:Str->Bool) (ex:xs[i]? = some x):(xs.take (i+1)).filter f=(xs.take i).filter f++(if f x=true then [x] else []):=by
  rw[List.take_add_one,ex,List.filter_append]
  cases hb:f x<;>simp[hb]
theorem zsn (x:Str):(Str.ofString "unit " : Str)++x=sayT (.deed (.unit x)):=zjq x
theorem zql (w:Str) (b:Str) (e:b=w++Str.ofString " ") (x:Str):b++x=zba [.str w,.str x]:=by
  rw[zd1 w (List.cons_ne_nil _ _),zib,e]
theorem zj6 (t:Tie):(Str.ofString "untie " : Str)++zba (tieV t)=sayT (.deed (.untie t)):=by
  obtain⟨r,er⟩:=zcd t
  show _=zba (.str "untie" :: tieV t)
  rw[zd1 _ (by rw[er];exact List.cons_ne_nil _ _)]
  rfl
set_option maxHeartbeats 16000000 in
theorem zj7 (T:Tx K mg w C_Dig C_Desk zk zg zq zo zh zp zy zm zr zz zv zaa zw zab zx):Has P w K mg base "_law_added" ["_law_stands","_law_names_here","_law_marks","_law_cell"] 4 (zsm (K:=K)):=by
  refine T.zki.has sc__law_added (fun vs H Q E h=>?_) (fun f cdv A outer s H vs Q E hr h=>?_)
  · obtain⟨ps,pm,pu,pt',pf,pn,pk,xs,ms,s,n,c,rfl,_⟩:=h;rfl
  · obtain⟨ps,pm,pu,pt',pf,pn,pk,xs,ms,st,n,c,rfl,O,n3,hn,hk,x7,m7,xnm,mnm,k⟩:=h
    refine⟨_,(ze (zlo (pv 0) (zk0 K rfl rfl (zbx (zap (i:=4) sc__law_added.nd rfl (Or.inl rfl)) (zbx (zap (i:=5) sc__law_added.nd rfl (Or.inr rfl)) (zbx (zap (i:=6) sc__law_added.nd rfl (Or.inl rfl)) (zbx (zap (i:=7) sc__law_added.nd rfl (Or.inr rfl)) zko))))))
      (ze (zht (i:=8) (own:=["_law_name"]) (cap:=["_law_units"]) (ix:=[5]) (osc:=zj (top 94)) rfl sc__law_added.nd rfl rfl rfl ⟨rfl,by decide +kernel,by decide +kernel,by decide +kernel,by decide +kernel⟩ rfl (zbh K rfl (pv 1)) (fun _ _ _ _=>zap (i:=0) (show List.Nodup (["_law_name","_law_units"]:List Str) by decide +kernel) rfl (Or.inl rfl)) (fun _ _ _ _=>zku (zad (zcp K rfl) (pv 0) (pv 1) (by with_unfolding_all rfl))) (fun _ _ _ _=>(pv 0)))
      (ze (zht (i:=9) (own:=["_law_name"]) (cap:=["_law_finds"]) (ix:=[7]) (osc:=zj (top 94)) rfl sc__law_added.nd rfl rfl rfl ⟨rfl,by decide +kernel,by decide +kernel,by decide +kernel,by decide +kernel⟩ rfl (zbh K rfl (pv 2)) (fun _ _ _ _=>zap (i:=0) (show List.Nodup (["_law_name","_law_finds"]:List Str) by decide +kernel) rfl (Or.inl rfl)) (fun _ _ _ _=>zku (zad (zcp K rfl) (pv 0) (zr5 (own:=["_law_find_here"]) (cap:=[]) (ix:=[]) (osc:=zw3 (top 94) 2) rfl ⟨rfl,by decide +kernel,by decide +kernel,by decide +kernel,by decide +kernel⟩ rfl (zbh K rfl (pv 1)) (fun _ _ _ _=>zap (i:=0) (show List.Nodup (["_law_find_here"]:List Str) by decide +kernel) rfl (Or.inl rfl)) (fun _ _ _ _=>zbw) (fun _ _ _ _=>(zah (zag K rfl) (pv 0) zf (fun _ _=>rfl)))) (by with_unfolding_all rfl))) (fun _ _ _ _=>(pv 0)))
      (ze (zav (i:=10) sc__law_added.nd rfl (Or.inl rfl) (zao (zae T) (hr.mono (by decide)) (by rfl) (za (pv 3) (za zf (za zf zd)))))
      (ze (zay (PW.pt (zcz (PW.pt (ztm (zad zn5 (pv 10) zf (zak _)) (zny (zad (zkz K rfl (hu10 hr)) (pv 5) (zbn zd) (zak _))))) (zb8 (zad (zd7 K rfl (hu10 hr)) (pv 8) (zbn zd) (zak _))))) (ze (zat (zbr K rfl PySem.F.plainAttrs_list PySem.F.slot_list_append PySem.F.type_list_append zbu (pv 5) (za (zah (zac K rfl) (pv 8) (zao (zae T) (hr.mono (by decide)) (by rfl) (za (pv 3) (za zf (za (za1 (zar K rfl) (by rfl) T.len boot_len (za (pv 8) zd)) zd)))) (fun _ _=>rfl)) zd)))
        (zi (zal (zaz za7 zaf (zah (zac K rfl) (pv 5) (zkp ze9 zf) (fun _ _=>rfl)))))) zai)
      (ze (zay (PW.pt (zcz (zad zn5 (pv 10) zf (zak _)) (zb8 (zad (zd7 K rfl (hu10 hr)) (pv 9) (zbn zd) (zak _))))) (ze (zat (zbr K rfl PySem.F.plainAttrs_list PySem.F.slot_list_append PySem.F.type_list_append zbu (pv 7) (za (zao (zle T) (hr.mono (by decide)) (by rfl) (za (pv 9) (za (pv 5) (za (zao (zae T) (hr.mono (by decide)) (by rfl) (za (pv 3) (za zf (za (za1 (zar K rfl) (by rfl) T.len boot_len (za (pv 9) zd)) zd)))) (za (pv 3) zd))))) zd)))
        (zi (zal (zao (zbk T) (hr.mono (by decide)) (by rfl) (za (zaz (zce K rfl) (zbc (za zaf zd)) (zah (zac K rfl) (pv 7) (zkp ze9 zf) (fun _ _=>rfl))) zd))))) zai)
      (ze (zav (i:=11) sc__law_added.nd rfl (Or.inl rfl) (zao (znl T) (hr.mono (by decide)) (by rfl) (za (pv 5) (za (pv 3) zd))))
      (ze (zay (zad (zue K rfl (hu11 hr)) (pv 11) (pv 6) (by with_unfolding_all rfl)) (ze (zat (zbr K rfl PySem.F.plainAttrs_list PySem.F.slot_list_remove PySem.F.type_list_remove (zm8 K rfl (hu11 hr)) (pv 6) (za (pv 11) zd)))
        (zi (zal (zaz za7 zaf (zao (zbk T) (hr.mono (by decide)) (by rfl) (za (pv 11) zd)))))) zai)
      (ze (zat (zbr K rfl PySem.F.plainAttrs_list PySem.F.slot_list_append PySem.F.type_list_append zbu (pv 6) (za (pv 11) zd)))
      (zi (zal (zao (zbk T) (hr.mono (by decide)) (by rfl) (za (pv 11) zd))))))))))))),?_⟩
    obtain⟨at',ag,L⟩:=O.ls
    obtain⟨b1,b2,b3⟩:=O.len
    have lt':=L.tlen
    have lf':=L.flen
    refine⟨_,rfl,ps,_,rfl,SqT.of O.tup,rfl,_,_,rfl,_,_,rfl,_,_,rfl,_,_,rfl,rfl,?_⟩
    try dsimp only [za6]
    refine⟨_,rfl,pn,rfl,⟨_,hn⟩,fun D hD=>?_⟩
    refine zde (zby (K:=K) (a:=pn) (xs:=xs.map V.str)) (fun i σ' ys H'=>∃w0,σ' = [w0,some (.ref pu)]/\ys=((xs.take i).filter fun x=>!decide (x∈st.us)).map V.str/\Same H H'/\H' D=some (.lst ys))
      ⟨none,rfl,by simp,Same.new hD,zb⟩ (fun i σ' ys H' h=>?_) (by rw[List.length_map];exact zaj (by omega)) ?_ ?_
    · obtain⟨_,_,rfl,q,hd⟩:=h
      refine⟨q.seq hn,hd,?_⟩
      rw[List.length_map]
      exact Nat.le_trans (List.length_filter_le _ _) (by rw[List.length_take];omega)
    · rintro i v σ' ys H1 hx ⟨w0,rfl,rfl,q1,hd⟩
      have hix:=zfq hx
      rw[List.length_map] at hix
      have ex:xs[i]? = some xs[i]:=List.getElem?_eq_getElem hix
      rw[List.getElem?_map,ex] at hx
      cases hx
      generalize xs[i]=x at ex
      try dsimp only [za6]
      refine⟨_,rfl,_,rfl,pu,_,rfl,.inl (SqL.of (q1 _ _ L.u)),rfl,zfw,_,rfl,?_⟩
      rw[if_pos rfl,ze4]
      refine ite2 (fun c=>?_) (fun c=>?_)
      · refine⟨_,rfl,hd,zh0 (by rw[List.length_map];exact hix) ⟨_,rfl,?_,q1.upd hD,zb⟩⟩
        rw[zcm _ ex,if_pos c,List.map_append]
        rfl
      · refine⟨hd,zh0 (by rw[List.length_map];exact hix) ⟨_,rfl,?_,q1,hd⟩⟩
        rw[zcm _ ex,if_neg c,List.append_nil]
    rintro σ' ys H1 ⟨w0,rfl,rfl,s1,hd1⟩
    rw[List.length_map,List.take_length] at hd1
    obtain⟨fr,efr⟩:∃fr,fr=xs.filter fun x=>!decide (x∈st.us):=⟨_,rfl⟩
    rw[←efr] at hd1
    try dsimp only [za6]
    refine⟨_,rfl,pk,rfl,⟨_,s1.seq hk⟩,fun D2 hD2=>?_⟩
    refine zde (zby (K:=K) (a:=pk) (xs:=ms.map V.str)) (fun i σ' ys H'=>∃w0,σ' = [w0,some (.ref pf)]/\ys=((ms.take i).filter fun x=>!decide (x∈st.fs.map Fnd.n)).map V.str/\Same H1 H'/\H' D2=some (.lst ys))
      ⟨none,rfl,by simp,Same.new hD2,zb⟩ (fun i σ' ys H' h=>?_) (by rw[List.length_map];exact zaj (by omega)) ?_ ?_
    · obtain⟨_,_,rfl,q,hd⟩:=h
      refine⟨(s1.trans q).seq hk,hd,?_⟩
      rw[List.length_map]
      exact Nat.le_trans (List.length_filter_le _ _) (by rw[List.length_take];omega)
    · rintro i v σ' ys H2 hx ⟨w0,rfl,rfl,q2,hd⟩
      have hix:=zfq hx
      rw[List.length_map] at hix
      have ex:ms[i]? = some ms[i]:=List.getElem?_eq_getElem hix
      rw[List.getElem?_map,ex] at hx
      cases hx
      generalize ms[i]=x at ex
      have L2:=L.same (s1.trans q2)
      try dsimp only [za6]
      refine⟨_,rfl,_,rfl,pf,rfl,⟨_,SqL.of L2.f⟩,fun D3 hD3=>?_⟩
      refine zde (zby (K:=K) (a:=pf) (xs:=ag.map V.ref)) (fun i σ' ys H'=>∃w0,σ' = [w0]/\ys=((st.fs.take i).map Fnd.n).map V.str/\Same H2 H'/\H' D3=some (.lst ys))
        ⟨none,rfl,by simp,Same.new hD3,zb⟩ (fun i σ' ys H' h=>?_) (by rw[List.length_map];exact zaj (by omega)) ?_ ?_
      · obtain⟨_,_,rfl,q,hd⟩:=h
        refine⟨SqL.of (q _ _ L2.f),hd,?_⟩
        rw[List.length_map,List.length_map,List.length_take]
        omega
      · rintro i v σ' ys H' hx' ⟨w0,rfl,rfl,q',hd'⟩
        obtain⟨r,f,rfl,ht,har,hr'⟩:=zk4 (L2.ff.same q') hx'
        have hix:=zfq hx'
        try dsimp only [za6]
        unfold tYes
        dsimp only
        rw[if_pos rfl]
        refine⟨_,rfl,r,_,_,_,rfl,rfl,SqT.of hr',rfl,?_⟩
        refine⟨hd',zh0 (by exact hix) ⟨_,rfl,?_,q'.upd hD3,zb⟩⟩
        rw[List.take_add_one,ht,List.map_append,List.map_append]
        rfl
      rintro σ' ys H3 ⟨w0',rfl,rfl,q3,hd3⟩
      rw[List.length_map,lf',List.take_length] at hd3
      have hdx:=q3 _ _ hd
      refine⟨D3,_,rfl,.inl (SqL.of hd3),rfl,zfw,_,rfl,?_⟩
      rw[if_pos rfl,ze4]
      refine ite2 (fun c=>?_) (fun c=>?_)
      · refine⟨_,rfl,hdx,zh0 (by rw[List.length_map];exact hix) ⟨_,rfl,?_,(q2.trans q3).upd hD2,zb⟩⟩
        rw[zcm _ ex,if_pos c,List.map_append]
        rfl
      · refine⟨hdx,zh0 (by rw[List.length_map];exact hix) ⟨_,rfl,?_,q2.trans q3,hdx⟩⟩
        rw[zcm _ ex,if_neg c,List.append_nil]
    rintro σ' ys H2 ⟨w0,rfl,rfl,s2,hd2⟩
    rw[List.length_map,List.take_length] at hd2
    obtain⟨sp,esp⟩:∃sp,sp=ms.filter fun x=>!decide (x∈st.fs.map Fnd.n):=⟨_,rfl⟩
    rw[←esp] at hd2
    have hd1':=s2 _ _ hd1
    have q2:=s1.trans s2
    have L2:=L.same q2
    have O2:=O.same q2
    have kp2:∀b o,H b=some o->H2 b=some o:=fun b o e=>q2 _ _ e
    clear hd1
    try dsimp only [za6]
    refine⟨_,rfl,_,_,_,rfl,by decide,?_⟩
    generalize pt c 0 6=way
    try dsimp only [za6]
    have hus0:st.us = []->fr≠[]:=fun z z2=>by
      rw[efr,z] at z2
      have:xs.filter (fun x=>!decide (x∈([]:List Str)))=xs:=List.filter_eq_self.mpr fun _ _=>by simp
      rw[this] at z2
      rw[z2] at x7
      cases x7
    refine zbz ((decide (way<2)||decide (st.us.map V.str = [])) && !decide (fr.map V.str = [])) (fun Q' hQ=>?_) (fun H3 s3=>?_)
    · refine⟨_,rfl,_,_,rfl,rfl,_,rfl,?_⟩
      generalize decide (way<2)=w0 at hQ
      cases w0 with
      | true=>
        refine iteT ?_
        dsimp only
        refine iteT ?_
        exact⟨_,rfl,by decide,fun e he=>⟨D,e,_,rfl,rfl,DEq.nilL (SqL.of (Same.new he _ _ hd1')) (SqL.of zb),_,rfl,hQ _ (Same.new he)⟩⟩
      | false=>
        refine iteF ?_
        refine⟨_,rfl,by decide,fun e he=>⟨pu,e,_,rfl,rfl,DEq.nilL (SqL.of (Same.new he _ _ L2.u)) (SqL.of zb),_,rfl,?_⟩⟩
        generalize decide (st.us.map V.str = [])=w1 at hQ
        cases w1 with
        | true=>
          refine iteT ?_
          exact⟨_,rfl,by decide,fun e' he'=>⟨D,e',_,rfl,rfl,DEq.nilL (SqL.of (Same.new he' _ _ (Same.new he _ _ hd1'))) (SqL.of zb),_,rfl,hQ _ ((Same.new he).trans (Same.new he'))⟩⟩
        | false=>exact iteF (hQ _ (Same.new he))
    have q3:=q2.trans s3
    have L3:=L2.same s3
    have O3:=O2.same s3
    have nml:∀{x:Str},za4 x=true->x.length<=12:=fun {x} h=>by
      unfold za4 at h
      simp only [Bool.and_eq_true,decide_eq_true_eq] at h
      omega
    refine ite2 (fun c1=>?_) (fun c1=>?_)
    · have hfr:fr≠[]:=fun z=>by rw[z] at c1;simp at c1
      obtain⟨x,hx,ex⟩:=zis (c:=c) (k:=1) hfr
      have hx':x∈xs/\x ∉ st.us:=by
        rw[efr] at hx
        have:=List.mem_filter.mp hx
        exact⟨this.1,by simpa using this.2⟩
      have hd3:=s3 _ _ hd1'
      refine⟨_,rfl,.inl ⟨rfl,_,SqL.of L3.u⟩,_,rfl,_,rfl,_,rfl,D,_,rfl,.inl (SqL.of hd3),_,_,_,rfl,by rw[List.length_map];have:=List.length_pos_iff.mpr hfr;omega,D,_,_,_,rfl,rfl,SqL.of hd3,ex,pu,_,_,rfl,rfl,L3.u,by rw[List.length_map];exact zbe (by omega),?_⟩
      rw[show st.us.map V.str++[V.str x]=(st.us++[x]).map V.str by rw[List.map_append];rfl]
      have L4:=L3.setU (st.us++[x])
      have xn:=xnm _ hx'.1
      have:=nml xn
      try dsimp only
      refine⟨_,rfl,_,rfl,pu,_,_,_,rfl,rfl,SqL.of L4.u,by rw[List.map_append];exact zhn _ _,_,_,rfl,rfl,zaj (by rw[show (Str.ofString "unit " : Str).length=5 from by decide +kernel];omega),?_⟩
      rw[zsn]
      refine k _ ⟨st.us++[x],st.ts,st.fs⟩ (.unit x) (.unit hx'.2) (.unit hx'.1) (.unit xn) (O3.next xnm (ms:=ms) (.unit hx'.2) (.unit hx'.1) ⟨at',ag,L4⟩ (zax L3.u _ _ O3.tup)) fun b o e b4 b5 b6=>?_
      rw[zn b4]
      exact q3 _ _ e
    have hus:st.us≠[]:=fun z=>by
      apply c1
      have:=hus0 z
      rw[z]
      simp[this]
    try unfold zcv
    try dsimp only
    refine zbz (decide (way<4) && !decide (sp.map V.str = [])) (fun Q' hQ=>?_) (fun H4 s4=>?_)
    · refine⟨_,rfl,_,_,rfl,rfl,_,rfl,?_⟩
      generalize decide (way<4)=w0 at hQ
      cases w0 with
      | false=>exact iteF (hQ _ (Same.refl _))
      | true=>
        refine iteT ?_
        exact⟨_,rfl,by decide,fun e he=>⟨D2,e,_,rfl,rfl,DEq.nilL (SqL.of (Same.new he _ _ (s3 _ _ hd2))) (SqL.of zb),_,rfl,hQ _ (Same.new he)⟩⟩
    have q4:=q3.trans s4
    have L4:=L3.same s4
    have O4:=O3.same s4
    refine ite2 (fun c2=>?_) (fun c2=>?_)
    · have hsp:sp≠[]:=fun z=>by rw[z] at c2;simp at c2
      obtain⟨mk,hmk,emk⟩:=zis (c:=c) (k:=1) hsp
      have hmk':mk∈ms/\mk ∉ st.fs.map Fnd.n:=by
        rw[esp] at hmk
        have:=List.mem_filter.mp hmk
        exact⟨this.1,by simpa using this.2⟩
      have hd4:=s4 _ _ (s3 _ _ hd2)
      refine⟨_,rfl,.inl ⟨rfl,_,SqL.of L4.f⟩,_,rfl,_,rfl,_,rfl,_,rfl,D2,_,rfl,.inl (SqL.of hd4),_,_,_,rfl,by rw[List.length_map];have:=List.length_pos_iff.mpr hsp;omega,_,rfl,D2,pu,sp,st.us,_,c,mk,rfl,SqL.of hd4,SqL.of L4.u,hus,by omega,emk,mnm _ hmk'.1,fun a f H5 fok en fa ha s5=>?_⟩
      have q5:=q4.trans s5
      have L5:=L4.same s5
      have O5:=O4.same s5
      refine⟨pf,_,_,rfl,rfl,L5.f,by rw[List.length_map];exact zbe (by omega),?_⟩
      rw[show ag.map V.ref++[V.ref a]=(ag++[a]).map V.ref by rw[List.map_append];rfl]
      have L6:=L5.setF (st.fs++[f]) (ag++[a]) (by rw[List.map_append];exact Tups.snoc L5.ff ha)
      have ha6:=zax (ys:=(ag++[a]).map V.ref) L5.f _ _ ha
      have O6t:=zax (ys:=(ag++[a]).map V.ref) L5.f _ _ O5.tup
      have k6:∀b o,H b=some o->b≠pf->upd H5 pf (.lst ((ag++[a]).map V.ref)) b=some o:=fun b o e b6=>by rw[zn b6];exact q5 _ _ e
      generalize upd H5 pf (.lst ((ag++[a]).map V.ref))=H6 at L6 ha6 O6t k6
      have frow:=zr7 fok O.ok.nm
      try dsimp only
      have atl:atI ((ag++[a]).map V.ref) (-1)=some (.ref a):=by rw[List.map_append];exact zhn _ _
      refine⟨by show 1<=sizeLine;decide,fun p7 hp7=>?_⟩
      have t7:=Same.new (o:=.tup [.str (Str.ofString "find")]) hp7
      have L7:=L6.same t7
      refine⟨_,rfl,_,rfl,pf,_,_,_,rfl,rfl,SqL.of L7.f,atl,p7,a,_,_,rfl,rfl,SqT.of zb,SqT.of (t7 _ _ ha6),by simp,(by show 1+4<=sizeLine;decide),(fun z=>nomatch z),fun _ p8 hp8=>?_⟩
      have t8:=Same.new (o:=.tup ([.str (Str.ofString "find")]++fndV f)) hp8
      refine⟨p8,_,_,rfl,SqT.of zb,by decide +kernel,fok.words O.ok.nm,(by show 4<=5;decide),fun H9 s9=>?_⟩
      have q9:=t7.trans (t8.trans s9)
      have hn':f.n ∉ st.fs.map Fnd.n:=by rw[en];exact hmk'.2
      refine k _ ⟨st.us,st.ts,st.fs++[f]⟩ (.find f) (.find hn' fok.u) (.find (fok.mono O.sub) (by rw[en];exact hmk'.1)) (.find frow) (O5.next xnm (ms:=ms) (.find hn' fok.u) (.find (fok.mono O.sub) (by rw[en];exact hmk'.1)) ⟨at',ag++[a],L6.same q9⟩ (q9 _ _ O6t)) fun b o e b4 b5 b6=>q9 _ _ (k6 _ _ e b6)
    try unfold zcv
    try dsimp only
    refine⟨_,rfl,_,rfl,pu,st.us,c,rfl,SqL.of L4.u,List.length_pos_iff.mpr hus,fun a t H5 tok fa ha s5=>?_⟩
    have q5:=q4.trans s5
    have L5:=L4.same s5
    have O5:=O4.same s5
    have hw:=(tok.ok.words O.ok.nm).1
    have trow:=tok.ok.row O.ok.nm
    obtain⟨r,er⟩:=zcd t
    have hwr:∀v∈r,Wd v:=fun v hv=>hw v (by rw[er];exact List.mem_cons_of_mem _ hv)
    have hkl:t.k.length<=100:=by
      rcases hw (.str t.k) (by rw[er];exact List.mem_cons_self ..) with ⟨y,e,hy⟩ | ⟨y,e,_⟩
      · cases e;exact hy
      · cases e
    have hrl:r.length<=5:=by
      have:(tieV t).length<=5:=by
        obtain⟨kd,a,b,g⟩:=t
        cases g<;>(unfold tieV;simp)
      rw[er,List.length_cons] at this
      omega
    have sayL:sayT (.deed (.tie t))=zba (.str t.k::r):=by
      show zba (tieV t)=_
      rw[er]
    try dsimp only [za6]
    refine⟨_,rfl,_,rfl,pt',_,_,rfl,.inl (SqL.of L5.t),L5.tt.deq (n:=7) O.ok.tw ha hw,_,rfl,?_⟩
    rw[if_neg (by decide),L5.tt.anyE]
    refine ite2 (fun c4=>?_) (fun c4=>?_)
    · have ht:t∈st.ts:=by
        obtain⟨u,hu,e⟩:=List.mem_map.mp (of_decide_eq_true c4)
        rw[zdz e] at hu
        exact hu
      obtain⟨j,hj,ejx⟩:=List.getElem_of_mem ht
      have hjt:st.ts[j]? = some t:=by rw[List.getElem?_eq_getElem hj,ejx]
      refine⟨_,rfl,.inl ⟨rfl,_,SqL.of L5.t⟩,_,rfl,pt',_,_,_,j,.ref (at'[j]'(by omega)),rfl,rfl,L5.t,L5.tt.deq (n:=7) O.ok.tw ha hw,?_,zr2 L5.tt hjt (List.getElem?_eq_getElem _),zpx L5.tt O.ok.tnd hjt,?_⟩
      · rw[List.getElem?_map,List.getElem?_eq_getElem (by omega)];rfl
      rw[Dm63.erase_map]
      have L6:=L5.setT (st.ts.eraseIdx j) (at'.eraseIdx j) (zdf L5.tt)
      have ha6:=zax (ys:=(at'.eraseIdx j).map V.ref) L5.t _ _ ha
      have O6t:=zax (ys:=(at'.eraseIdx j).map V.ref) L5.t _ _ O5.tup
      have k6:∀b o,H b=some o->b≠pt'->upd H5 pt' (.lst ((at'.eraseIdx j).map V.ref)) b=some o:=fun b o e b6=>by rw[zn b6];exact q5 _ _ e
      generalize upd H5 pt' (.lst ((at'.eraseIdx j).map V.ref))=H6 at L6 ha6 O6t k6
      try dsimp only
      rw[er] at ha6
      refine⟨_,rfl,a,t.k,r,rfl,SqT.of ha6,hkl,hwr,hrl,fun H7 s7=>?_⟩
      have b1':(zba (.str t.k::r)).length<=606:=by
        rw[zc7]
        exact zc6 (fun z hz=>by rw[←er] at hz;exact hw z hz) (by rw[List.length_cons];omega)
      refine⟨_,_,rfl,rfl,zaj (by rw[show (Str.ofString "untie " : Str).length=6 from by decide +kernel];omega),?_⟩
      rw[←er,zj6]
      have tokx:=tok.mono O.sub
      exact k _ ⟨st.us,st.ts.eraseIdx j,st.fs⟩ (.untie t) (.untie hjt) (.untie tokx) (.untie trow) (O5.next xnm (ms:=ms) (.untie hjt) (.untie tokx) ⟨_,ag,L6.same s7⟩ (s7 _ _ O6t)) fun b o e b4 b5 b6=>s7 _ _ (k6 _ _ e b5)
    · have ht:t ∉ st.ts:=fun z=>c4 (decide_eq_true (List.mem_map.mpr ⟨t,z,rfl⟩))
      try unfold zcv
      try dsimp only
      refine⟨_,rfl,.inl ⟨rfl,_,SqL.of L5.t⟩,_,rfl,pt',_,_,rfl,rfl,L5.t,by rw[List.length_map];exact zbe (by omega),?_⟩
      rw[show at'.map V.ref++[V.ref a]=(at'++[a]).map V.ref by rw[List.map_append];rfl]
      have L6:=L5.setT (st.ts++[t]) (at'++[a]) (by rw[List.map_append];exact Tups.snoc L5.tt ha)
      have ha6:=zax (ys:=(at'++[a]).map V.ref) L5.t _ _ ha
      have O6t:=zax (ys:=(at'++[a]).map V.ref) L5.t _ _ O5.tup
      have k6:∀b o,H b=some o->b≠pt'->upd H5 pt' (.lst ((at'++[a]).map V.ref)) b=some o:=fun b o e b6=>by rw[zn b6];exact q5 _ _ e
      generalize upd H5 pt' (.lst ((at'++[a]).map V.ref))=H6 at L6 ha6 O6t k6
      try dsimp only
      rw[er] at ha6
      refine⟨_,rfl,a,t.k,r,rfl,SqT.of ha6,hkl,hwr,hrl,fun H7 s7=>?_⟩
      rw[←sayL]
      have tokx:=tok.mono O.sub
      exact k _ ⟨st.us,st.ts++[t],st.fs⟩ (.tie t) (.tie tok.a tok.b ht) (.tie tokx) (.tie trow) (O5.next xnm (ms:=ms) (.tie tok.a tok.b ht) (.tie tokx) ⟨_,ag,L6.same s7⟩ (s7 _ _ O6t)) fun b o e b4 b5 b6=>s7 _ _ (k6 _ _ e b5)
def zso:Sp:=fun vs H Q _=>∃(ps pm pu pt pf:Addr) (xs:List Str) (s:SD) (n:Nat) (c:Int),vs = [.ref ps,.int c]/\StAt K H ps pm pu pt pf xs s n/\n<=80/\(∀x∈xs,za4 x=true)/\
  (∀(H':Hp) (s':SD) (d:Deed) (ms:List Str),After d s s'->DeedOk xs ms d->SayOk (.deed d)->StAt K H' ps pm pu pt pf xs s' (n+1)->Kp3 H H' pu pt pf->Q (.str (sayT (.deed d))) H')/\(∀H',Same H H'->Q (.str "tell") H')
theorem zlf {l:Nat}{c k:Int}(h:0<l):∃j:Nat,pt c k (l:Int)=(j:Int)/\j<l:=by
  have hb:=zcx c k (l:Int) (by omega)
  exact⟨(pt c k (l:Int)).toNat,by omega,by omega⟩
theorem f_at {H:Hp}{ag:List Addr}{fs:List Fnd}{j:Nat}(t:Tups H ag (fs.map fndV)) (hj:j<fs.length):∃r f,ag[j]? = some r/\fs[j]? = some f/\H r=some (.tup (fndV f)):=by
  have l1:=t.len
  rw[List.length_map] at l1
  have e1:ag[j]? = some (ag[j]'(by omega)):=List.getElem?_eq_getElem (by omega)
  have e2:fs[j]? = some fs[j]:=List.getElem?_eq_getElem hj
  obtain⟨ws,h1,h2⟩:=Paired.get' t e1
  rw[List.getElem?_map,e2] at h1
  cases h1
  exact⟨_,_,e1,e2,h2⟩
theorem t_at {H:Hp}{at':List Addr}{ts:List Tie}{j:Nat}(t:Tups H at' (ts.map tieV)) (hj:j<ts.length):∃r u,at'[j]? = some r/\ts[j]? = some u/\H r=some (.tup (tieV u)):=by
  have l1:=t.len
  rw[List.length_map] at l1
  have e1:at'[j]? = some (at'[j]'(by omega)):=List.getElem?_eq_getElem (by omega)
  have e2:ts[j]? = some ts[j]:=List.getElem?_eq_getElem hj
  obtain⟨ws,h1,h2⟩:=Paired.get' t e1
  rw[List.getElem?_map,e2] at h1
  cases h1
  exact⟨_,_,e1,e2,h2⟩
theorem zqm {s:SD}{x:Str}(h:x ∉ s.ts.map Tie.a++s.ts.map Tie.b++s.fs.map Fnd.u):zh9 s.ts s.fs x=false:=by
  simp only [List.mem_append,List.mem_map,not_or,not_exists,not_and] at h
  obtain⟨⟨h1,h2⟩,h3⟩:=h
  unfold zh9
  rw[Bool.or_eq_false_iff,List.any_eq_false,List.any_eq_false]
  refine⟨fun t ht z=>?_,fun f hf z=>?_⟩
  · unfold byT at z
    rw[show [V.str t.a,V.str t.b] = [t.a,t.b].map V.str from rfl,ze4] at z
    have z:=of_decide_eq_true z
    simp only [List.mem_cons,List.not_mem_nil,or_false] at z
    rcases z with z | z
    · exact h1 t ht z.symm
    · exact h2 t ht z.symm
  · unfold byF at z
    exact h3 f hf (V.str.inj (of_decide_eq_true z)).symm
set_option maxHeartbeats 16000000 in
theorem zj8 (T:Tx K mg w C_Dig C_Desk zk zg zq zo zh zp zy zm zr zz zv zaa zw zab zx):Has P w K mg base "_law_taken" ["_law_stands","_law_cell"] 4 (zso (K:=K)):=by
  refine T.zkj.has sc__law_taken (fun vs H Q E h=>?_) (fun f cdv A outer s H vs Q E hr h=>?_)
  · obtain⟨ps,pm,pu,pt',pf,xs,s,n,c,rfl,_⟩:=h;rfl
  · obtain⟨ps,pm,pu,pt',pf,xs,st,n,c,rfl,O,n3,xnm,k,kT⟩:=h
    refine⟨_,(ze (zlo (pv 0) (zk0 K rfl rfl (zbx (zap (i:=2) sc__law_taken.nd rfl (Or.inl rfl)) (zbx (zap (i:=3) sc__law_taken.nd rfl (Or.inl rfl)) (zbx (zap (i:=4) sc__law_taken.nd rfl (Or.inl rfl)) (zbx (zap (i:=5) sc__law_taken.nd rfl (Or.inl rfl)) zko))))))
      (ze (zav (i:=6) sc__law_taken.nd rfl (Or.inl rfl) (zao (zae T) (hr.mono (by decide)) (by rfl) (za (pv 1) (za zf (za zf zd)))))
      (ze (zav (i:=7) sc__law_taken.nd rfl (Or.inr rfl) (zaz zsy (zaz zsy (zcc (own:=["_law_tie_here"]) (cap:=[]) (ix:=[]) (osc:=zj (top 95)) rfl ⟨rfl,by decide +kernel,by decide +kernel,by decide +kernel,by decide +kernel⟩ rfl (zbh K rfl (pv 4)) (fun _ _ _ _=>zap (i:=0) (show List.Nodup (["_law_tie_here"]:List Str) by decide +kernel) rfl (Or.inl rfl)) (fun _ _ _ _=>zbw) (fun _ _ _ _=>(zah (zag K rfl) (pv 0) zf (fun _ _=>rfl)))) (zcc (own:=["_law_tie_here"]) (cap:=[]) (ix:=[]) (osc:=zj (top 95)) rfl ⟨rfl,by decide +kernel,by decide +kernel,by decide +kernel,by decide +kernel⟩ rfl (zbh K rfl (pv 4)) (fun _ _ _ _=>zap (i:=0) (show List.Nodup (["_law_tie_here"]:List Str) by decide +kernel) rfl (Or.inl rfl)) (fun _ _ _ _=>zbw) (fun _ _ _ _=>(zah (zag K rfl) (pv 0) zf (fun _ _=>rfl))))) (zcc (own:=["_law_find_here"]) (cap:=[]) (ix:=[]) (osc:=zj (top 95)) rfl ⟨rfl,by decide +kernel,by decide +kernel,by decide +kernel,by decide +kernel⟩ rfl (zbh K rfl (pv 5)) (fun _ _ _ _=>zap (i:=0) (show List.Nodup (["_law_find_here"]:List Str) by decide +kernel) rfl (Or.inl rfl)) (fun _ _ _ _=>zbw) (fun _ _ _ _=>(zah (zag K rfl) (pv 0) zf (fun _ _=>rfl))))))
      (ze (zht (i:=8) (own:=["_law_name"]) (cap:=["_law_used"]) (ix:=[7]) (osc:=zj (top 95)) rfl sc__law_taken.nd rfl rfl rfl ⟨rfl,by decide +kernel,by decide +kernel,by decide +kernel,by decide +kernel⟩ rfl (zbh K rfl (pv 3)) (fun _ _ _ _=>zap (i:=0) (show List.Nodup (["_law_name","_law_used"]:List Str) by decide +kernel) rfl (Or.inl rfl)) (fun _ _ _ _=>zku (zad (zcp K rfl) (pv 0) (pv 1) (by with_unfolding_all rfl))) (fun _ _ _ _=>(pv 0)))
      (ze (zay (PW.pt (zcz (zad zbv (pv 6) zf (zak _)) (zb8 (zad (zd7 K rfl (hu10 hr)) (pv 5) (zbn zd) (zak _))))) (ze (zav (i:=9) sc__law_taken.nd rfl (Or.inl rfl) (zao (zae T) (hr.mono (by decide)) (by rfl) (za (pv 1) (za zf (za (za1 (zar K rfl) (by rfl) T.len boot_len (za (pv 5) zd)) zd)))))
        (ze (zav (i:=10) sc__law_taken.nd rfl (Or.inl rfl) (zah (zac K rfl) (pv 3) (zao (zae T) (hr.mono (by decide)) (by rfl) (za (pv 1) (za zf (za (za1 (zar K rfl) (by rfl) T.len boot_len (za (pv 3) zd)) zd)))) (fun _ _=>rfl)))
        (ze (zlo (zbc (za (zah (zag K rfl) (zah (zac K rfl) (pv 5) (pv 9) (fun _ _=>rfl)) zf (fun _ _=>rfl)) (za (pv 10) (za (zah (zag K rfl) (zah (zac K rfl) (pv 5) (pv 9) (fun _ _=>rfl)) zf (fun _ _=>rfl)) (za (zah (zag K rfl) (zah (zac K rfl) (pv 5) (pv 9) (fun _ _=>rfl)) zf (fun _ _=>rfl)) zd))))) (zsr (pv 5) (pv 9) zlr))
        (zi (zal (zaz za7 (zaz za7 (zaz za7 zaf (zah (zag K rfl) (zah (zac K rfl) (pv 5) (pv 9) (fun _ _=>rfl)) zf (fun _ _=>rfl))) zaf) (pv 10))))))) zai)
      (ze (zay (PW.pt (zcz (zad zbv (pv 6) zf (zak _)) (zb8 (zad (zd7 K rfl (hu10 hr)) (pv 5) (zbn zd) (zak _))))) (zi (zal (zaz za7 zaf (zah (zag K rfl) (zbr K rfl PySem.F.plainAttrs_list PySem.F.slot_list_pop PySem.F.type_list_pop zls (pv 5) (za (zao (zae T) (hr.mono (by decide)) (by rfl) (za (pv 1) (za zf (za (za1 (zar K rfl) (by rfl) T.len boot_len (za (pv 5) zd)) zd)))) zd)) zf (fun _ _=>rfl))))) zai)
      (ze (zay (PW.pt (zcz (zad zbv (pv 6) zf (zak _)) (zb8 (zad (zd7 K rfl (hu10 hr)) (pv 4) (zbn zd) (zak _))))) (zi (zal (zaz za7 zaf (zao (zbk T) (hr.mono (by decide)) (by rfl) (za (zbr K rfl PySem.F.plainAttrs_list PySem.F.slot_list_pop PySem.F.type_list_pop zls (pv 4) (za (zao (zae T) (hr.mono (by decide)) (by rfl) (za (pv 1) (za zf (za (za1 (zar K rfl) (by rfl) T.len boot_len (za (pv 4) zd)) zd)))) zd)) zd))))) zai)
      (ze (zay (zad (zd7 K rfl (hu10 hr)) (pv 8) (zbn zd) (zak _)) (ze (zat (zbr K rfl PySem.F.plainAttrs_list PySem.F.slot_list_remove PySem.F.type_list_remove zpr (pv 3) (za (zah (zac K rfl) (pv 8) zf (fun _ _=>rfl)) zd)))
        (zi (zal (zaz za7 zaf (zah (zac K rfl) (pv 8) zf (fun _ _=>rfl)))))) zai)
      (zi (zal zaf)))))))))),?_⟩
    obtain⟨at',ag,L⟩:=O.ls
    obtain⟨b1,b2,b3⟩:=O.len
    have lt':=L.tlen
    have lf':=L.flen
    refine⟨_,rfl,ps,_,rfl,SqT.of O.tup,rfl,_,_,rfl,_,_,rfl,_,_,rfl,_,_,rfl,rfl,?_⟩
    try dsimp only [za6]
    refine⟨_,rfl,_,_,_,rfl,by decide,?_⟩
    generalize pt c 13 4=way
    try dsimp only [za6]
    refine⟨_,rfl,pt',rfl,⟨_,SqL.of L.t⟩,fun D1 hD1=>?_⟩
    refine zcj (zby (xs:=at'.map V.ref)) (tupF H fun ws=>ws.getD 1 .non) hD1 (fun H' s=>SqL.of (s _ _ L.t)) (zaj (by rw[List.length_map];omega)) (fun x hx H' Q' s hQ=>?_) (fun H1 s1 e1=>?_)
    · obtain⟨a,ha,rfl⟩:=List.mem_map.mp hx
      obtain⟨ws,hws,ea⟩:=L.tt.get ha
      obtain⟨t,ht,rfl⟩:=List.mem_map.mp hws
      rw[zea ea] at hQ
      exact⟨_,rfl,a,_,_,_,rfl,rfl,SqT.of (s _ _ ea),(zs8 t).trans (by obtain⟨kd,a,b,g⟩:=t;cases g<;>rfl),hQ _ (Same.refl _)⟩
    rw[L.tt.mapF,List.map_map,show st.ts.map ((fun ws:List V=>ws.getD 1 .non) ∘ tieV)=(st.ts.map Tie.a).map V.str from by
      rw[List.map_map]
      exact List.map_congr_left fun t _=>by obtain⟨kd,a,b,g⟩:=t;cases g<;>rfl] at e1
    have L1:=L.same s1
    refine⟨_,rfl,pt',rfl,⟨_,SqL.of L1.t⟩,fun D2 hD2=>?_⟩
    refine zcj (zby (xs:=at'.map V.ref)) (tupF H1 fun ws=>ws.getD 2 .non) hD2 (fun H' s=>SqL.of (s _ _ L1.t)) (zaj (by rw[List.length_map];omega)) (fun x hx H' Q' s hQ=>?_) (fun H2 s2 e2=>?_)
    · obtain⟨a,ha,rfl⟩:=List.mem_map.mp hx
      obtain⟨ws,hws,ea⟩:=L1.tt.get ha
      obtain⟨t,ht,rfl⟩:=List.mem_map.mp hws
      rw[zea ea] at hQ
      exact⟨_,rfl,a,_,_,_,rfl,rfl,SqT.of (s _ _ ea),(zs9 t).trans (by obtain⟨kd,a,b,g⟩:=t;cases g<;>rfl),hQ _ (Same.refl _)⟩
    rw[L1.tt.mapF,List.map_map,show st.ts.map ((fun ws:List V=>ws.getD 2 .non) ∘ tieV)=(st.ts.map Tie.b).map V.str from by
      rw[List.map_map]
      exact List.map_congr_left fun t _=>by obtain⟨kd,a,b,g⟩:=t;cases g<;>rfl] at e2
    have L2:=L1.same s2
    refine⟨D1,D2,_,_,rfl,rfl,s2 _ _ e1,e2,by rw[List.length_map,List.length_map,List.length_map,List.length_map];exact zaj (by omega),fun D3 hD3=>?_⟩
    rw[←List.map_append]
    have t3:=Same.new (o:=.lst ((st.ts.map Tie.a++st.ts.map Tie.b).map V.str)) hD3
    have e3:upd H2 D3 (.lst ((st.ts.map Tie.a++st.ts.map Tie.b).map V.str)) D3=some (.lst ((st.ts.map Tie.a++st.ts.map Tie.b).map V.str)):=zb
    have L3:=L2.same t3
    generalize upd H2 D3 (.lst ((st.ts.map Tie.a++st.ts.map Tie.b).map V.str))=H3 at t3 e3 L3
    refine⟨_,rfl,pf,rfl,⟨_,SqL.of L3.f⟩,fun D4 hD4=>?_⟩
    refine zcj (zby (xs:=ag.map V.ref)) (tupF H3 fun ws=>ws.getD 1 .non) hD4 (fun H' s=>SqL.of (s _ _ L3.f)) (zaj (by rw[List.length_map];omega)) (fun x hx H' Q' s hQ=>?_) (fun H4 s4 e4=>?_)
    · obtain⟨a,ha,rfl⟩:=List.mem_map.mp hx
      obtain⟨ws,hws,ea⟩:=L3.ff.get ha
      obtain⟨f,hf,rfl⟩:=List.mem_map.mp hws
      rw[zea ea] at hQ
      exact⟨_,rfl,a,_,_,_,rfl,rfl,SqT.of (s _ _ ea),rfl,hQ _ (Same.refl _)⟩
    rw[L3.ff.mapF,List.map_map,show st.fs.map ((fun ws:List V=>ws.getD 1 .non) ∘ fndV)=(st.fs.map Fnd.u).map V.str from by
      rw[List.map_map]
      exact List.map_congr_left fun f _=>rfl] at e4
    refine⟨D3,D4,_,_,rfl,rfl,s4 _ _ e3,e4,by simp only [List.length_map,List.length_append];exact zaj (by omega),fun D5 hD5=>?_⟩
    rw[←List.map_append]
    obtain⟨used,eus⟩:∃used,used=st.ts.map Tie.a++st.ts.map Tie.b++st.fs.map Fnd.u:=⟨_,rfl⟩
    rw[←eus]
    have t5:=Same.new (o:=.lst (used.map V.str)) hD5
    have e5:upd H4 D5 (.lst (used.map V.str)) D5=some (.lst (used.map V.str)):=zb
    have L5:=(L3.same s4).same t5
    have q5:=s1.trans (s2.trans (t3.trans (s4.trans t5)))
    generalize upd H4 D5 (.lst (used.map V.str))=H5 at t5 e5 L5 q5
    try dsimp only [za6]
    refine⟨_,rfl,pu,rfl,⟨_,SqL.of L5.u⟩,fun D hD=>?_⟩
    refine zde (zby (K:=K) (a:=pu) (xs:=st.us.map V.str)) (fun i σ' ys H'=>∃w0,σ' = [w0,some (.ref D5)]/\ys=((st.us.take i).filter fun x=>!decide (x∈used)).map V.str/\Same H5 H'/\H' D=some (.lst ys))
      ⟨none,rfl,by simp,Same.new hD,zb⟩ (fun i σ' ys H' h=>?_) (by rw[List.length_map];exact zaj (by omega)) ?_ ?_
    · obtain⟨_,_,rfl,q,hd⟩:=h
      refine⟨SqL.of (q _ _ L5.u),hd,?_⟩
      rw[List.length_map]
      exact Nat.le_trans (List.length_filter_le _ _) (by rw[List.length_take];omega)
    · rintro i v σ' ys H6 hx ⟨w0,rfl,rfl,q6,hd⟩
      have hix:=zfq hx
      rw[List.length_map] at hix
      have ex:st.us[i]? = some st.us[i]:=List.getElem?_eq_getElem hix
      rw[List.getElem?_map,ex] at hx
      cases hx
      generalize st.us[i]=x at ex
      try dsimp only [za6]
      refine⟨_,rfl,_,rfl,D5,_,rfl,.inl (SqL.of (q6 _ _ e5)),rfl,zfw,_,rfl,?_⟩
      rw[if_pos rfl,ze4]
      refine ite2 (fun c=>?_) (fun c=>?_)
      · refine⟨_,rfl,hd,zh0 (by rw[List.length_map];exact hix) ⟨_,rfl,?_,q6.upd hD,zb⟩⟩
        rw[zcm _ ex,if_pos c,List.map_append]
        rfl
      · refine⟨hd,zh0 (by rw[List.length_map];exact hix) ⟨_,rfl,?_,q6,hd⟩⟩
        rw[zcm _ ex,if_neg c,List.append_nil]
    have nuD:D≠pu:=fun z=>by have h:=L5.u;rw[←z,hD] at h;cases h
    rintro σ' ys H6 ⟨w0,rfl,rfl,s6,hd6⟩
    rw[List.length_map,List.take_length] at hd6
    obtain⟨fr,efr⟩:∃fr,fr=st.us.filter fun x=>!decide (x∈used):=⟨_,rfl⟩
    rw[←efr] at hd6
    have q6:=q5.trans s6
    have L6:=L.same q6
    have O6:=O.same q6
    clear e1 e2 e3 e4 L1 L2 L3 L5 s1 s2 t3 s4 t5 hD1 hD2 hD3 hD4 hD5 q5
    try dsimp only [za6]
    have nml:∀{x:Str},za4 x=true->x.length<=12:=fun {x} h=>by
      unfold za4 at h
      simp only [Bool.and_eq_true,decide_eq_true_eq] at h
      omega
    refine zbz (decide (V.int way=V.int 0) && !decide (ag.map V.ref = [])) (fun Q' hQ=>?_) (fun H7 s7=>?_)
    · refine⟨_,rfl,rfl,_,rfl,?_⟩
      generalize decide (V.int way=V.int 0)=w0 at hQ
      cases w0 with
      | false=>exact iteF (hQ _ (Same.refl _))
      | true=>
        refine iteT ?_
        exact⟨_,rfl,by decide,fun e he=>⟨pf,e,_,rfl,rfl,DEq.nilL (SqL.of (Same.new he _ _ L6.f)) (SqL.of zb),_,rfl,hQ _ (Same.new he)⟩⟩
    have q7:=q6.trans s7
    have L7:=L6.same s7
    have O7:=O6.same s7
    refine ite2 (fun c1=>?_) (fun c1=>?_)
    · have hag:ag≠[]:=fun z=>by rw[z] at c1;simp at c1
      have lg:=List.length_pos_iff.mpr hag
      obtain⟨j,ej,hj⟩:=zlf (l:=ag.length) (c:=c) (k:=1) lg
      obtain⟨r,f,har,hfj,hr2⟩:=f_at L7.ff (j:=j) (by omega)
      have fok:=O.ok.fok f (List.mem_of_getElem? hfj)
      have hus:st.us≠[]:=fun z=>by have:=fok.u;rw[z] at this;cases this
      obtain⟨x,hx,ex⟩:=zis (c:=c) (k:=2) hus
      have atj:atI (ag.map V.ref) (j:Int)=some (.ref r):=zcg (by rw[List.getElem?_map,har];rfl)
      refine⟨_,rfl,_,rfl,pf,_,rfl,.inl (SqL.of L7.f),_,_,_,rfl,by rw[List.length_map];omega,?_⟩
      rw[List.length_map,ej]
      try dsimp only [za6]
      refine⟨_,rfl,_,rfl,_,rfl,pu,_,rfl,.inl (SqL.of L7.u),_,_,_,rfl,by rw[List.length_map];have:=List.length_pos_iff.mpr hus;omega,pu,_,_,_,rfl,rfl,SqL.of L7.u,ex,?_⟩
      try dsimp only [za6]
      have hf:SqT K H7 r (fndV f):=SqT.of hr2
      refine⟨_,rfl,_,rfl,pf,_,_,_,rfl,rfl,SqL.of L7.f,atj,r,_,_,_,rfl,rfl,hf,rfl,_,rfl,_,rfl,_,rfl,pf,_,_,_,rfl,rfl,SqL.of L7.f,atj,r,_,_,_,rfl,rfl,hf,rfl,_,rfl,_,rfl,pf,_,_,_,rfl,rfl,SqL.of L7.f,atj,r,_,_,_,rfl,rfl,hf,rfl,by show 4<=sizeLine;decide,fun a ha=>?_⟩
      have t3:=Same.new (o:=.tup (fndV ⟨f.n,x,f.lo,f.hi⟩)) ha
      have L3:=L7.same t3
      have O3:=O7.same t3
      have ea:upd H7 a (.tup (fndV ⟨f.n,x,f.lo,f.hi⟩)) a=some (.tup (fndV ⟨f.n,x,f.lo,f.hi⟩)):=zb
      refine⟨_,rfl,_,rfl,pf,_,_,j,rfl,rfl,L3.f,zpy (by rw[List.length_map];omega),?_⟩
      rw[show (ag.map V.ref).set j (V.ref a)=(ag.set j a).map V.ref by rw[List.map_set]]
      have L4:=L3.setF (st.fs.set j ⟨f.n,x,f.lo,f.hi⟩) (ag.set j a) (zmc L3.ff hfj ea)
      have ea4:=zax (ys:=(ag.set j a).map V.ref) L3.f _ _ ea
      have O4t:=zax (ys:=(ag.set j a).map V.ref) L3.f _ _ O3.tup
      have at4:atI ((ag.set j a).map V.ref) (j:Int)=some (.ref a):=zcg (by rw[List.getElem?_map,List.getElem?_set_self hj];rfl)
      have n1:=nml fok.n
      have n1':(Fnd.n ⟨f.n,x,f.lo,f.hi⟩).length<=12:=n1
      have n2:=nml (O.ok.nm x hx)
      have e5:(Str.ofString "move " : Str).length=5:=by decide +kernel
      have e6:(Str.ofString " " : Str).length=1:=by decide +kernel
      have al:∀u w:Str,(u++w).length=u.length+w.length:=fun u w=>by rw[←zb1,zdj,List.length_append,zb1,zb1]
      try dsimp only
      refine⟨_,rfl,_,rfl,pf,_,_,_,rfl,rfl,SqL.of L4.f,at4,a,_,_,_,rfl,rfl,SqT.of ea4,rfl,_,_,rfl,rfl,zaj (by rw[e5];omega),_,_,rfl,rfl,zaj (by rw[al,e5,e6];omega),_,rfl,_,_,rfl,rfl,zaj (by rw[al,al,e5,e6];omega),?_⟩
      have es:(Str.ofString "move " ++ f.n++Str.ofString " " ++ x:Str)=sayT (.deed (.move f.n x)):=by
        show _=zba [.str "move",.str f.n,.str x]
        rw[zd1 _ (List.cons_ne_nil _ _),zd1 _ (List.cons_ne_nil _ _),zib]
        apply zc2
        simp only [zdj,List.append_assoc]
        have:co (Str.ofString "move ")=co (Str.ofString "move")++co (Str.ofString " "):=by decide +kernel
        rw[this]
        simp
      rw[es]
      refine k _ ⟨st.us,st.ts,st.fs.set j ⟨f.n,x,f.lo,f.hi⟩⟩ (.move f.n x) [f.n] (.move hfj hx) (.move (List.mem_singleton.mpr rfl) (O.sub x hx)) (.move fok.n (O.ok.nm x hx)) (O3.next xnm (ms:=[f.n]) (.move hfj hx) (.move (List.mem_singleton.mpr rfl) (O.sub x hx)) ⟨at',ag.set j a,L4⟩ O4t) fun b' o e b4 b5 b6=>?_
      rw[zn b6]
      exact t3 _ _ (q7 _ _ e)
    try unfold zcv
    try dsimp only
    refine zbz (decide (V.int way=V.int 1) && !decide (ag.map V.ref = [])) (fun Q' hQ=>?_) (fun H8 s8=>?_)
    · refine⟨_,rfl,rfl,_,rfl,?_⟩
      generalize decide (V.int way=V.int 1)=w0 at hQ
      cases w0 with
      | false=>exact iteF (hQ _ (Same.refl _))
      | true=>
        refine iteT ?_
        exact⟨_,rfl,by decide,fun e he=>⟨pf,e,_,rfl,rfl,DEq.nilL (SqL.of (Same.new he _ _ L7.f)) (SqL.of zb),_,rfl,hQ _ (Same.new he)⟩⟩
    have q8:=q7.trans s8
    have L8:=L7.same s8
    have O8:=O7.same s8
    refine ite2 (fun c2=>?_) (fun c2=>?_)
    · have hag:ag≠[]:=fun z=>by rw[z] at c2;simp at c2
      have lg:=List.length_pos_iff.mpr hag
      obtain⟨j,ej,hj⟩:=zlf (l:=ag.length) (c:=c) (k:=1) lg
      obtain⟨r,f,har,hfj,hr3⟩:=f_at L8.ff (j:=j) (by omega)
      have fok:=O.ok.fok f (List.mem_of_getElem? hfj)
      refine⟨_,rfl,.inl ⟨rfl,_,SqL.of L8.f⟩,_,rfl,_,rfl,pf,_,rfl,.inl (SqL.of L8.f),_,_,_,rfl,by rw[List.length_map];omega,?_⟩
      rw[List.length_map,ej]
      refine⟨pf,_,_,j,.ref r,rfl,rfl,L8.f,by omega,by omega,zmd (by rw[List.length_map];omega),by rw[List.getElem?_map,har];rfl,?_⟩
      rw[Dm63.erase_map]
      have L9:=L8.setF (st.fs.eraseIdx j) (ag.eraseIdx j) (zdf L8.ff)
      have hr4:=zax (ys:=(ag.eraseIdx j).map V.ref) L8.f _ _ hr3
      have n1:=nml fok.n
      refine⟨r,_,_,_,rfl,rfl,SqT.of hr4,rfl,_,_,rfl,rfl,zaj (by rw[show (Str.ofString "lose " : Str).length=5 from by decide +kernel];omega),?_⟩
      rw[show (Str.ofString "lose " ++ f.n:Str)=sayT (.deed (.lose f.n)) from zql "lose" _ (by decide +kernel) _]
      refine k _ ⟨st.us,st.ts,st.fs.eraseIdx j⟩ (.lose f.n) [f.n] (.lose hfj) (.lose (List.mem_singleton.mpr rfl)) (.lose fok.n) (O8.next xnm (ms:=[f.n]) (.lose hfj) (.lose (List.mem_singleton.mpr rfl)) ⟨at',ag.eraseIdx j,L9⟩ (zax L8.f _ _ O8.tup)) fun b' o e b4 b5 b6=>?_
      rw[zn b6]
      exact q8 _ _ e
    try unfold zcv
    try dsimp only
    refine zbz (decide (V.int way=V.int 2) && !decide (at'.map V.ref = [])) (fun Q' hQ=>?_) (fun H9 s9=>?_)
    · refine⟨_,rfl,rfl,_,rfl,?_⟩
      generalize decide (V.int way=V.int 2)=w0 at hQ
      cases w0 with
      | false=>exact iteF (hQ _ (Same.refl _))
      | true=>
        refine iteT ?_
        exact⟨_,rfl,by decide,fun e he=>⟨pt',e,_,rfl,rfl,DEq.nilL (SqL.of (Same.new he _ _ L8.t)) (SqL.of zb),_,rfl,hQ _ (Same.new he)⟩⟩
    have q9:=q8.trans s9
    have L9:=L8.same s9
    have O9:=O8.same s9
    refine ite2 (fun c3=>?_) (fun c3=>?_)
    · have hat:at'≠[]:=fun z=>by rw[z] at c3;simp at c3
      have lg:=List.length_pos_iff.mpr hat
      obtain⟨j,ej,hj⟩:=zlf (l:=at'.length) (c:=c) (k:=1) lg
      obtain⟨r,t,har,htj,hr4⟩:=t_at L9.tt (j:=j) (by omega)
      have tok:=O.ok.tok t (List.mem_of_getElem? htj)
      refine⟨_,rfl,.inl ⟨rfl,_,SqL.of L9.t⟩,_,rfl,_,rfl,pt',_,rfl,.inl (SqL.of L9.t),_,_,_,rfl,by rw[List.length_map];omega,?_⟩
      rw[List.length_map,ej]
      refine⟨pt',_,_,j,.ref r,rfl,rfl,L9.t,by omega,by omega,zmd (by rw[List.length_map];omega),by rw[List.getElem?_map,har];rfl,?_⟩
      rw[Dm63.erase_map]
      have L10:=L9.setT (st.ts.eraseIdx j) (at'.eraseIdx j) (zdf L9.tt)
      have hr5:=zax (ys:=(at'.eraseIdx j).map V.ref) L9.t _ _ hr4
      have O10t:=zax (ys:=(at'.eraseIdx j).map V.ref) L9.t _ _ O9.tup
      have k6:∀b o,H b=some o->b≠pt'->upd H9 pt' (.lst ((at'.eraseIdx j).map V.ref)) b=some o:=fun b o e b6=>by rw[zn b6];exact q9 _ _ e
      generalize upd H9 pt' (.lst ((at'.eraseIdx j).map V.ref))=H10 at L10 hr5 O10t k6
      have hw:=(tok.ok.words O.ok.nm).1
      have trow:=tok.ok.row O.ok.nm
      obtain⟨r',er⟩:=zcd t
      have hwr:∀v∈r',Wd v:=fun v hv=>hw v (by rw[er];exact List.mem_cons_of_mem _ hv)
      have hkl:t.k.length<=100:=by
        rcases hw (.str t.k) (by rw[er];exact List.mem_cons_self ..) with ⟨y,e,hy⟩ | ⟨y,e,_⟩
        · cases e;exact hy
        · cases e
      have hrl:r'.length<=5:=by
        have:(tieV t).length<=5:=by
          obtain⟨kd,a,b,g⟩:=t
          cases g<;>(unfold tieV;simp)
        rw[er,List.length_cons] at this
        omega
      rw[er] at hr5
      refine⟨r,t.k,r',rfl,SqT.of hr5,hkl,hwr,hrl,fun H11 s11=>?_⟩
      have b1':(zba (.str t.k::r')).length<=606:=by
        rw[zc7]
        exact zc6 (fun z hz=>by rw[←er] at hz;exact hw z hz) (by rw[List.length_cons];omega)
      refine⟨_,_,rfl,rfl,zaj (by rw[show (Str.ofString "untie " : Str).length=6 from by decide +kernel];omega),?_⟩
      rw[←er,zj6]
      have tokx:=tok.mono O.sub
      exact k _ ⟨st.us,st.ts.eraseIdx j,st.fs⟩ (.untie t) [] (.untie htj) (.untie tokx) (.untie trow) (O9.next xnm (ms:=[]) (.untie htj) (.untie tokx) ⟨_,ag,L10.same s11⟩ (s11 _ _ O10t)) fun b o e b4 b5 b6=>s11 _ _ (k6 _ _ e b5)
    have hd9:=s9 _ _ (s8 _ _ (s7 _ _ hd6))
    try unfold zcv
    try dsimp only
    refine zbz (!decide (fr.map V.str = [])) (fun Q' hQ=>⟨_,rfl,by decide,fun e he=>⟨D,e,_,rfl,rfl,DEq.nilL (SqL.of (Same.new he _ _ hd9)) (SqL.of zb),_,rfl,hQ _ (Same.new he)⟩⟩) (fun H10 s10=>?_)
    have q10:=q9.trans s10
    have L10:=L9.same s10
    have O10:=O9.same s10
    refine ite2 (fun c4=>?_) (fun c4=>?_)
    · have hfr:fr≠[]:=fun z=>by rw[z] at c4;simp at c4
      obtain⟨x,frr,efx⟩:∃x frr,fr=x::frr:=by
        cases hq:fr with
        | nil=>exact absurd hq hfr
        | cons x r=>exact⟨x,r,rfl⟩
      have hx':x∈st.us/\zh9 st.ts st.fs x=false:=by
        have hx:x∈fr:=by rw[efx];exact List.mem_cons_self ..
        rw[efr] at hx
        have:=List.mem_filter.mp hx
        refine⟨this.1,zqm ?_⟩
        rw[←eus]
        simpa using this.2
      have hd10:=s10 _ _ hd9
      have ex:atI (fr.map V.str) 0=some (.str x):=by rw[efx];exact zep
      obtain⟨j,hj,ejx⟩:=List.getElem_of_mem hx'.1
      have hjx:st.us[j]? = some x:=by rw[List.getElem?_eq_getElem hj,ejx]
      refine⟨_,rfl,.inl ⟨rfl,_,SqL.of L10.u⟩,_,rfl,D,_,_,_,rfl,rfl,SqL.of hd10,ex,pu,st.us,x,j,rfl,rfl,L10.u,hjx,O.ok.nd,?_⟩
      have L11:=L10.setU (st.us.eraseIdx j)
      have n1:=nml (O.ok.nm x hx'.1)
      try dsimp only
      refine⟨_,rfl,D,_,_,_,rfl,rfl,SqL.of (by rw[zn nuD];exact hd10),ex,_,_,rfl,rfl,zaj (by rw[show (Str.ofString "drop " : Str).length=5 from by decide +kernel];omega),?_⟩
      rw[show (Str.ofString "drop " ++ x:Str)=sayT (.deed (.drop x)) from zql "drop" _ (by decide +kernel) _]
      refine k _ ⟨st.us.eraseIdx j,st.ts,st.fs⟩ (.drop x) [] (.drop hjx hx'.2) (.drop (O.sub x hx'.1)) (.drop (O.ok.nm x hx'.1)) (O10.next xnm (ms:=[]) (.drop hjx hx'.2) (.drop (O.sub x hx'.1)) ⟨at',ag,L11⟩ (zax L10.u _ _ O10.tup)) fun b' o e b4 b5 b6=>?_
      rw[zn b4]
      exact q10 _ _ e
    · try unfold zcv
      try dsimp only
      exact kT _ q10
def kLaw:Nat:=10
def sp_law:Sp:=fun vs H Q _=>∃(a:Addr) (ns:List Int),vs = [.ref a]/\SqL K H a (ns.map V.int)/\ns.length<=63/\∀H',Q (.bl true) H'
theorem znn:zjp (zbi 0 9999 [] [] [])=Str.ofString "dig 0 9999":=by decide +kernel
theorem zvj (j:Bool) (a b:Addr):ixN (duo j a b).length (ixB j)=some (if j then 1 else 0):=by cases j<;>rfl
theorem zvk (j:Bool) (a b x:Addr):(duo j a b).set (if j then 1 else 0) (.ref x)=duo j x b:=by cases j<;>rfl
set_option maxHeartbeats 16000000 in
theorem h_law (T:Tx K mg w C_Dig C_Desk zk zg zq zo zh zp zy zm zr zz zv zaa zw zab zx):Has P w K mg base "law" ["_law_script"] kLaw (sp_law (K:=K)):=by
  refine T.zx6.has sc_law (fun vs H Q E h=>?_) (fun f cdv A outer s H vs Q E hr h=>?_)
  · obtain⟨a,ns,rfl,_⟩:=h;rfl
  · obtain⟨a,ns,rfl,ha,hl,k⟩:=h
    have b_all:zam (top 96) = [((zam (top 96)).getD 0 (.Pass ⟨0,0,0,0⟩)),((zam (top 96)).getD 1 (.Pass ⟨0,0,0,0⟩)),((zam (top 96)).getD 2 (.Pass ⟨0,0,0,0⟩)),((zam (top 96)).getD 3 (.Pass ⟨0,0,0,0⟩)),((zam (top 96)).getD 4 (.Pass ⟨0,0,0,0⟩)),((zam (top 96)).getD 5 (.Pass ⟨0,0,0,0⟩)),((zam (top 96)).getD 6 (.Pass ⟨0,0,0,0⟩))]:=by kernel_rfl
    rw[b_all]
    have z_0:PS (cxOf CX0 P w K mg base ["_law_script","_law_names_here","_law_marks","_law_desks","_law_stands","_law_cell","_law_k","_law_way","_law_row"] "law" (zj (top 96)) f cdv A outer s H E).nox ((zam (top 96)).getD 0 (.Pass ⟨0,0,0,0⟩)) _:=(zav (i:=1) sc_law.nd rfl (Or.inl rfl) (zao (zek T) (hr.mono (by decide)) (by rfl) (za (zao (zb0 T) (hr.mono (by decide)) (by rfl) (za (pv 0) (za zf zd))) (za (zao (zb0 T) (hr.mono (by decide)) (by rfl) (za (pv 0) (za zf zd))) (za zf zd)))))
    have z_1:PS (cxOf CX0 P w K mg base ["_law_script","_law_names_here","_law_marks","_law_desks","_law_stands","_law_cell","_law_k","_law_way","_law_row"] "law" (zj (top 96)) f cdv A outer s H E).nox ((zam (top 96)).getD 1 (.Pass ⟨0,0,0,0⟩)) _:=(zav (i:=2) sc_law.nd rfl (Or.inl rfl) (zao (zek T) (hr.mono (by decide)) (by rfl) (za (zao (zb0 T) (hr.mono (by decide)) (by rfl) (za (pv 0) (za zf zd))) (za (zao (zb0 T) (hr.mono (by decide)) (by rfl) (za (pv 0) (za zf zd))) (za zf zd)))))
    have z_2:PS (cxOf CX0 P w K mg base ["_law_script","_law_names_here","_law_marks","_law_desks","_law_stands","_law_cell","_law_k","_law_way","_law_row"] "law" (zj (top 96)) f cdv A outer s H E).nox ((zam (top 96)).getD 2 (.Pass ⟨0,0,0,0⟩)) _:=(zav (i:=3) sc_law.nd rfl (Or.inl rfl) (zbn (za (zo4 (zdd T) T.zqo T.zqp (hr.mono (by decide)) (by rfl) T.zqn) (za (zo4 (zdd T) T.zqo T.zqp (hr.mono (by decide)) (by rfl) T.zqn) zd))))
    have z_st0:PS (cxOf CX0 P w K mg base ["_law_script","_law_names_here","_law_marks","_law_desks","_law_stands","_law_cell","_law_k","_law_way","_law_row"] "law" (zj (top 96)) f cdv A outer s H E).nox ((zam (top 96)).getD 3 (.Pass ⟨0,0,0,0⟩)) (tAsg (tLst (zbb (tTup (zbb (tTup (zbb (tC (.int 0)) (zbb (tC (.int 9999)) tNil))) (zbb (tLst tNil) (zbb (tLst tNil) (zbb (tLst tNil) tNil))))) (zbb (tTup (zbb (tTup (zbb (tC (.int 0)) (zbb (tC (.int 9999)) tNil))) (zbb (tLst tNil) (zbb (tLst tNil) (zbb (tLst tNil) tNil))))) tNil))) (za6 4)):=@zx2 _ 4 _ _ _ _ _ _ _ _ _ _ _ _ _ _ _ _ _ _ _ _ _ _ _ _ _ _ _ _ sc_law.nd rfl (Or.inl rfl) (by first | exact .inl rfl | exact .inr rfl)
    have z_4:PS (cxOf CX0 P w K mg base ["_law_script","_law_names_here","_law_marks","_law_desks","_law_stands","_law_cell","_law_k","_law_way","_law_row"] "law" (zj (top 96)) f cdv A outer s H E).nox ((zam (top 96)).getD 4 (.Pass ⟨0,0,0,0⟩)) _:=(zay (zad zmq (zbs (zcl T) T.zcr (hr.mono (by decide)) (zah (zac K rfl) (pv 3) zf (fun _ _=>rfl)) (za zaf zd)) zaf (zak _)) (zi (zal znw)) zai)
    have z_5:PS (cxOf CX0 P w K mg base ["_law_script","_law_names_here","_law_marks","_law_desks","_law_stands","_law_cell","_law_k","_law_way","_law_row"] "law" (zj (top 96)) f cdv A outer s H E).nox ((zam (top 96)).getD 5 (.Pass ⟨0,0,0,0⟩)) _:=(ze8 PassesOwn.never rfl (zbh K rfl (zb4 (zhv K rfl) (pv 0) (zcb zf) (zcb zf))) (zap (i:=5) sc_law.nd rfl (Or.inl rfl)) (ze (zav (i:=6) sc_law.nd rfl (Or.inl rfl) (zao (zae T) (hr.mono (by decide)) (by rfl) (za (pv 5) (za zf (za zf zd)))))
      (ze (zav (i:=7) sc_law.nd rfl (Or.inl rfl) (zao (zae T) (hr.mono (by decide)) (by rfl) (za (pv 5) (za zf (za zf zd)))))
      (ze (zay (zad zbv (pv 7) zf (zak _)) (ze (zlo (zbc (za (zao (zj5 T) (hr.mono (by decide)) (by rfl) (za (pv 5) zd)) (za (zbn zd) (za (zbn zd) (za (zbn zd) zd))))) (zsr (pv 4) (pv 6) zlr))
        (zi (zav (i:=8) sc_law.nd rfl (Or.inl rfl) (zao (zbk T) (hr.mono (by decide)) (by rfl) (za (zaz (zce K rfl) (zbc (za zaf zd)) (zah (zag K rfl) (zah (zac K rfl) (pv 4) (pv 6) (fun _ _=>rfl)) zf (fun _ _=>rfl))) zd))))) (zi (zay (zad zn5 (pv 7) zf (zak _)) (zi (zav (i:=8) sc_law.nd rfl (Or.inl rfl) (zao (zj7 T) (hr.mono (by decide)) (by rfl) (za (zah (zac K rfl) (pv 4) (pv 6) (fun _ _=>rfl)) (za (pv 1) (za (pv 2) (za (pv 5) zd))))))) (zi (zav (i:=8) sc_law.nd rfl (Or.inl rfl) (zao (zj8 T) (hr.mono (by decide)) (by rfl) (za (zah (zac K rfl) (pv 4) (pv 6) (fun _ _=>rfl)) (za (pv 5) zd))))))))
      (ze (zay (PW.pt (zcz (zad zmq (pv 8) zaf (zak _)) (zb8 (zad zmq (zbs (zcl T) T.zcr (hr.mono (by decide)) (zah (zac K rfl) (pv 3) (pv 6) (fun _ _=>rfl)) (za (pv 8) zd)) zaf (zak _))))) (zi (zal znw)) zai)
      (zi (zay (zad zmq (zbs (zcl T) T.zcr (hr.mono (by decide)) (zah (zac K rfl) (pv 3) (pv 6) (fun _ _=>rfl)) (za zaf zd)) (zao (zdr T) (hr.mono (by decide)) (by rfl) (za (zah (zac K rfl) (pv 4) (pv 6) (fun _ _=>rfl)) zd)) (zak _)) (zi (zal znw)) zai)))))))
    have z_6:PS (cxOf CX0 P w K mg base ["_law_script","_law_names_here","_law_marks","_law_desks","_law_stands","_law_cell","_law_k","_law_way","_law_row"] "law" (zj (top 96)) f cdv A outer s H E).nox ((zam (top 96)).getD 6 (.Pass ⟨0,0,0,0⟩)) _:=(zal (zsq (zfa zbv (zbs (zcl T) T.zcr (hr.mono (by decide)) (zah (zac K rfl) (pv 3) zf (fun _ _=>rfl)) (za zaf zd)) (zao (zdr T) (hr.mono (by decide)) (by rfl) (za (zah (zac K rfl) (pv 4) zf (fun _ _=>rfl)) zd)) (zak _)) (znz (zfa zbv (zbs (zcl T) T.zcr (hr.mono (by decide)) (zah (zac K rfl) (pv 3) zf (fun _ _=>rfl)) (za zaf zd)) (zao (zdr T) (hr.mono (by decide)) (by rfl) (za (zah (zac K rfl) (pv 4) zf (fun _ _=>rfl)) zd)) (zak _)))))
    generalize ((zam (top 96)).getD 0 (.Pass ⟨0,0,0,0⟩))=s_0 at z_0 ⊢
    generalize ((zam (top 96)).getD 1 (.Pass ⟨0,0,0,0⟩))=s_1 at z_1 ⊢
    generalize ((zam (top 96)).getD 2 (.Pass ⟨0,0,0,0⟩))=s_2 at z_2 ⊢
    generalize ((zam (top 96)).getD 3 (.Pass ⟨0,0,0,0⟩))=s_3 at z_st0 ⊢
    generalize ((zam (top 96)).getD 4 (.Pass ⟨0,0,0,0⟩))=s_4 at z_4 ⊢
    generalize ((zam (top 96)).getD 5 (.Pass ⟨0,0,0,0⟩))=s_5 at z_5 ⊢
    generalize ((zam (top 96)).getD 6 (.Pass ⟨0,0,0,0⟩))=s_6 at z_6 ⊢
    refine⟨_,ze z_0 (ze z_1 (ze z_2 (ze z_st0 (ze z_4 (ze z_5 (zi z_6)))))),?_⟩
    clear b_all z_0 z_1 z_2 z_st0 z_4 z_5 z_6 s_0 s_1 s_2 s_3 s_4 s_5 s_6
    refine⟨_,rfl,a,ns,_,rfl,ha,by decide,_,rfl,a,ns,_,rfl,ha,by decide,_,_,7,rfl,by decide,fun pn xs H1 x7 xnd xnm fpn hn s1=>?_⟩
    try dsimp only [za6]
    refine⟨_,rfl,a,ns,_,rfl,s1.seq ha,by decide,_,rfl,a,ns,_,rfl,s1.seq ha,by decide,_,_,7,rfl,by decide,fun pk ms H2 m7 mnd mnm fpk hk s2=>?_⟩
    have q2:=s1.trans s2
    have hn2:=s2 _ _ hn
    try dsimp only [za6]
    intro k0 dx0 hk0 hdx0 nx0
    have u1:Same H2 (upd (upd H2 dx0 (.own k0)) k0 (.ins C_Desk dx0 [])):=fun b o e=>by
      rw[zn (zc e hk0),zn (zc e hdx0)];exact e
    refine⟨k0,dx0,rfl,zb,fun pd0 pm0 du0 dt0 df0 H3 f1 f2 f3 f4 D0 kp0=>⟨rfl,?_⟩⟩
    have u2:Same H2 H3:=fun b o e=>kp0 b o (u1 b o e) (zc e hk0)
    intro k1 dx1 hk1 hdx1 nx1
    have u3:Same H3 (upd (upd H3 dx1 (.own k1)) k1 (.ins C_Desk dx1 [])):=fun b o e=>by
      rw[zn (zc e hk1),zn (zc e hdx1)];exact e
    refine⟨k1,dx1,rfl,zb,fun pd1 pm1 du1 dt1 df1 H4 g1 g2 g3 g4 D1 kp1=>⟨rfl,?_⟩⟩
    have u4:Same H3 H4:=fun b o e=>kp1 b o (u3 b o e) (zc e hk1)
    have nk01:k0≠k1:=by
      obtain⟨dz,e⟩:=D0.ob
      exact zc e hk1
    have dap:DAp ⟨pd0,pm0,k0,du0,dt0,df0,0,9999⟩ ⟨pd1,pm1,k1,du1,dt1,df1,0,9999⟩:=⟨zc D0.dig.u (u3.free g2),zc D0.dig.u (u3.free g4),zc D0.dig.f (u3.free g2),zc D0.dig.f (u3.free g4),zc D0.dig.t (u3.free g3)⟩
    have D0':=D0.same u4
    refine⟨by show 2<=sizeLine;decide,fun pdk hpdk=>?_⟩
    try dsimp only [za6]
    obtain⟨w0,e0⟩:Same H4 (upd H4 pdk (.lst [.ref k0,.ref k1]))/\upd H4 pdk (.lst [.ref k0,.ref k1]) pdk=some (.lst [.ref k0,.ref k1]):=⟨Same.new hpdk,zb⟩
    generalize upd H4 pdk (.lst [.ref k0,.ref k1])=G0 at w0 e0
    refine⟨by show 2<=sizeLine;decide,fun g0 x1=>?_⟩
    obtain⟨w1,e1⟩:Same G0 (upd G0 g0 (.tup [.int 0,.int 9999]))/\upd G0 g0 (.tup [.int 0,.int 9999]) g0=some (.tup [.int 0,.int 9999]):=⟨Same.new x1,zb⟩
    generalize upd G0 g0 (.tup [.int 0,.int 9999])=G1 at w1 e1
    refine⟨by show 0<=sizeLine;decide,fun u0 x2=>?_⟩
    obtain⟨w2,e2⟩:Same G1 (upd G1 u0 (.lst []))/\upd G1 u0 (.lst []) u0=some (.lst []):=⟨Same.new x2,zb⟩
    generalize upd G1 u0 (.lst [])=G2 at w2 e2
    refine⟨by show 0<=sizeLine;decide,fun t0 x3=>?_⟩
    obtain⟨w3,e3⟩:Same G2 (upd G2 t0 (.lst []))/\upd G2 t0 (.lst []) t0=some (.lst []):=⟨Same.new x3,zb⟩
    generalize upd G2 t0 (.lst [])=G3 at w3 e3
    refine⟨by show 0<=sizeLine;decide,fun f0 x4=>?_⟩
    obtain⟨w4,e4⟩:Same G3 (upd G3 f0 (.lst []))/\upd G3 f0 (.lst []) f0=some (.lst []):=⟨Same.new x4,zb⟩
    generalize upd G3 f0 (.lst [])=G4 at w4 e4
    refine⟨by show 4<=sizeLine;decide,fun ps0 x5=>?_⟩
    obtain⟨w5,e5⟩:Same G4 (upd G4 ps0 (.tup [.ref g0,.ref u0,.ref t0,.ref f0]))/\upd G4 ps0 (.tup [.ref g0,.ref u0,.ref t0,.ref f0]) ps0=some (.tup [.ref g0,.ref u0,.ref t0,.ref f0]):=⟨Same.new x5,zb⟩
    generalize upd G4 ps0 (.tup [.ref g0,.ref u0,.ref t0,.ref f0])=G5 at w5 e5
    refine⟨by show 2<=sizeLine;decide,fun g1' x6=>?_⟩
    obtain⟨w6,e6⟩:Same G5 (upd G5 g1' (.tup [.int 0,.int 9999]))/\upd G5 g1' (.tup [.int 0,.int 9999]) g1'=some (.tup [.int 0,.int 9999]):=⟨Same.new x6,zb⟩
    generalize upd G5 g1' (.tup [.int 0,.int 9999])=G6 at w6 e6
    refine⟨by show 0<=sizeLine;decide,fun u1' x7=>?_⟩
    obtain⟨w7,e7⟩:Same G6 (upd G6 u1' (.lst []))/\upd G6 u1' (.lst []) u1'=some (.lst []):=⟨Same.new x7,zb⟩
    generalize upd G6 u1' (.lst [])=G7 at w7 e7
    refine⟨by show 0<=sizeLine;decide,fun t1' x8=>?_⟩
    obtain⟨w8,e8⟩:Same G7 (upd G7 t1' (.lst []))/\upd G7 t1' (.lst []) t1'=some (.lst []):=⟨Same.new x8,zb⟩
    generalize upd G7 t1' (.lst [])=G8 at w8 e8
    refine⟨by show 0<=sizeLine;decide,fun f1' x9=>?_⟩
    obtain⟨w9,e9⟩:Same G8 (upd G8 f1' (.lst []))/\upd G8 f1' (.lst []) f1'=some (.lst []):=⟨Same.new x9,zb⟩
    generalize upd G8 f1' (.lst [])=G9 at w9 e9
    refine⟨by show 4<=sizeLine;decide,fun ps1 x10=>?_⟩
    obtain⟨w10,e10⟩:Same G9 (upd G9 ps1 (.tup [.ref g1',.ref u1',.ref t1',.ref f1']))/\upd G9 ps1 (.tup [.ref g1',.ref u1',.ref t1',.ref f1']) ps1=some (.tup [.ref g1',.ref u1',.ref t1',.ref f1']):=⟨Same.new x10,zb⟩
    generalize upd G9 ps1 (.tup [.ref g1',.ref u1',.ref t1',.ref f1'])=G10 at w10 e10
    refine⟨by show 2<=sizeLine;decide,fun pst x11=>?_⟩
    obtain⟨w11,e11⟩:Same G10 (upd G10 pst (.lst [.ref ps0,.ref ps1]))/\upd G10 pst (.lst [.ref ps0,.ref ps1]) pst=some (.lst [.ref ps0,.ref ps1]):=⟨Same.new x11,zb⟩
    generalize upd G10 pst (.lst [.ref ps0,.ref ps1])=G11 at w11 e11
    try dsimp only [za6]
    have z10:=w11
    have z9:=w10.trans z10
    have z8:=w9.trans z9
    have z7:=w8.trans z8
    have z6:=w7.trans z7
    have z5:=w6.trans z6
    have z4:=w5.trans z5
    have z3:=w4.trans z4
    have z2:=w3.trans z3
    have z1:=w2.trans z2
    have z0:=w1.trans z1
    have old:∀b o,G0 b=some o->Off6 b ⟨ps0,u0,t0,f0⟩ ⟨ps1,u1',t1',f1'⟩:=fun b o e=>by
      have c1:=w1 _ _ e
      have c2:=w2 _ _ c1
      have c3:=w3 _ _ c2
      have c6:=w6 _ _ (w5 _ _ (w4 _ _ c3))
      have c7:=w7 _ _ c6
      exact⟨⟨zc c1 x2,zc c2 x3,zc c3 x4⟩,zc c6 x7,zc c7 x8,zc (w8 _ _ c7) x9⟩
    have r2:∀b o,G4 b=some o->b≠u1'/\b≠t1'/\b≠f1':=fun b o e=>by
      have c6:=w6 _ _ (w5 _ _ e)
      have c7:=w7 _ _ c6
      exact⟨zc c6 x7,zc c7 x8,zc (w8 _ _ c7) x9⟩
    have lap:LAp ⟨ps0,u0,t0,f0⟩ ⟨ps1,u1',t1',f1'⟩:=⟨r2 _ _ (w4 _ _ (w3 _ _ e2)),r2 _ _ (w4 _ _ e3),r2 _ _ e4⟩
    have e1z:=z1 _ _ e1
    have e2z:=z2 _ _ e2
    have e3z:=z3 _ _ e3
    have e4z:=z4 _ _ e4
    have e5z:=z5 _ _ e5
    have e6z:=z6 _ _ e6
    have e7z:=z7 _ _ e7
    have e8z:=z8 _ _ e8
    have e9z:=z9 _ _ e9
    have e10z:=z10 _ _ e10
    have n1:u0≠t0:=zc e2 x3
    have n2:u0≠f0:=zc (w3 _ _ e2) x4
    have n3:t0≠f0:=zc e3 x4
    have n4:u1'≠t1':=zc e7 x8
    have n5:u1'≠f1':=zc (w8 _ _ e7) x9
    have n6:t1'≠f1':=zc e8 x9
    have os:Off6 pst ⟨ps0,u0,t0,f0⟩ ⟨ps1,u1',t1',f1'⟩:=by
      have y9:=w10
      have y8:=w9.trans y9
      have y7:=w8.trans y8
      have y4:=w5.trans (w6.trans (w7.trans y7))
      have y3:=w4.trans y4
      have y2:=w3.trans y3
      exact⟨⟨(zc (y2 _ _ e2) x11).symm,(zc (y3 _ _ e3) x11).symm,(zc (y4 _ _ e4) x11).symm⟩,(zc (y7 _ _ e7) x11).symm,(zc (y8 _ _ e8) x11).symm,(zc (y9 _ _ e9) x11).symm⟩
    have old':∀b o,G0 b=some o->pst≠b:=fun b o e=>(zc (w10 _ _ (w9 _ _ (w8 _ _ (w7 _ _ (w6 _ _ (w5 _ _ (w4 _ _ (w3 _ _ (w2 _ _ (w1 _ _ e)))))))))) x11).symm
    have hn0:=w0 _ _ (u4 _ _ (u2 _ _ hn2))
    have hk0':=w0 _ _ (u4 _ _ (u2 _ _ hk))
    have q0:=q2.trans (u2.trans (u4.trans w0))
    have D0z:=D0'.same (w0.trans z0)
    have D1z:=D1.same (w0.trans z0)
    have on:=old _ _ hn0
    have om:=old _ _ hk0'
    have od:=old _ _ e0
    have m1:=old' _ _ hn0
    have m2:=old' _ _ hk0'
    have m3:=old' _ _ e0
    have hnz:=z0 _ _ hn0
    have hkz:=z0 _ _ hk0'
    have edz:=z0 _ _ e0
    have qz:=q0.trans z0
    clear w0 w1 w2 w3 w4 w5 w6 w7 w8 w9 w10 w11 z0 z1 z2 z3 z4 z5 z6 z7 z8 z9 z10 x1 x2 x3 x4 x5 x6 x7 x8 x9 x10 x11 old old' r2 e1 e2 e3 e4 e5 e6 e7 e8 e9 e10 e0 D0 D1 D0' u1 u2 u3 u4 kp0 kp1 f1 f2 f3 f4 g1 g2 g3 g4 s1 s2 q2 q0 hn hn2 hk hn0 hk0' hk0 hk1 hdx0 hdx1 nx0 nx1 hpdk
    have emp:DigOk [] [] []:=⟨by simp,by simp,by simp,by simp,by simp,by simp⟩
    have y0:zan 0:=by unfold zan;decide +kernel
    have y9:zan 9999:=by unfold zan;decide +kernel
    have eT:sayT .tell=Str.ofString "tell":=zib _
    refine zbz false (fun Q' hQ=>?_) (fun H5 s5=>iteF ?_)
    · obtain⟨dx,ob⟩:=D0z.ob
      refine⟨_,rfl,pdk,_,_,_,rfl,rfl,SqL.of edz,rfl,k0,dx,_,rfl,ob,rfl,k0,pd0,pm0,du0,dt0,df0,0,9999,sd0,[],.tell,xs,ms,by rw[eT];rfl,D0z,emp,.tell,xnm,y0,y9,by decide,by decide,by decide,.inl ⟨rfl,fun H5 s5=>⟨rfl,_,rfl,?_⟩⟩⟩
      show Q' (!decide (V.str (zjp (zbi 0 9999 [] [] []))=V.str (Str.ofString "dig 0 9999"))) H5
      rw[decide_eq_true (congrArg V.str znn)]
      exact hQ _ s5
    try unfold zcv
    try dsimp only
    obtain⟨cs,ec,lc⟩:=zpf ns (some 5) (some 45)
    have q5:=qz.trans s5
    refine⟨_,rfl,_,rfl,_,rfl,a,_,rfl,q5.seq ha,fun pc hpc=>?_⟩
    rw[ec]
    have t6:=s5.trans (Same.new (o:=.lst (cs.map V.int)) hpc)
    have TT:Two C_Desk C_Dig K (upd H5 pc (.lst (cs.map V.int))) false pn pk pdk pst pc k0 k1 xs ms cs ⟨pd0,pm0,g0,du0,dt0,df0,0,9999⟩ ⟨pd1,pm1,g1',du1,dt1,df1,0,9999⟩ ⟨ps0,u0,t0,f0⟩ ⟨ps1,u1',t1',f1'⟩ sd0 sd0 0:=
      ⟨⟨⟨[],D0z.same t6⟩,y0,y9⟩,⟨⟨t6 _ _ e5z,⟨[],[],⟨t6 _ _ e2z,t6 _ _ e3z,.nil,t6 _ _ e4z,.nil,n1,n2,n3⟩⟩,emp,by simp[sd0],⟨Nat.le_refl _,Nat.le_refl _,Nat.le_refl _⟩⟩,t6 _ _ e1z⟩,
        ⟨⟨[],D1z.same t6⟩,y0,y9⟩,⟨⟨t6 _ _ e10z,⟨[],[],⟨t6 _ _ e7z,t6 _ _ e8z,.nil,t6 _ _ e9z,.nil,n4,n5,n6⟩⟩,emp,by simp[sd0],⟨Nat.le_refl _,Nat.le_refl _,Nat.le_refl _⟩⟩,t6 _ _ e6z⟩,nk01,dap,lap,
        ⟨t6 _ _ hnz,t6 _ _ hkz,t6 _ _ edz,t6 _ _ e11,zb,on,om,od,os,⟨⟨(zc (s5 _ _ e2z) hpc).symm,(zc (s5 _ _ e3z) hpc).symm,(zc (s5 _ _ e4z) hpc).symm⟩,(zc (s5 _ _ e7z) hpc).symm,(zc (s5 _ _ e8z) hpc).symm,(zc (s5 _ _ e9z) hpc).symm⟩,m1,m2,m3,zc (s5 _ _ e11) hpc⟩⟩
    refine⟨pc,rfl,⟨_,SqL.of zb⟩,ze2 (K:=K) (a:=pc) (xs:=cs.map V.int) (fun i σ H'=>∃(v5 v6 v7 v8:Option V) (A0 A1:Dg) (B0 B1:Lw) (S0 S1:SD),σ = [some (.ref a),some (.ref pn),some (.ref pk),some (.ref pdk),some (.ref pst),v5,v6,v7,v8]/\Two C_Desk C_Dig K H' false pn pk pdk pst pc k0 k1 xs ms cs A0 A1 B0 B1 S0 S1 i)
      ⟨none,none,none,none,_,_,_,_,_,_,rfl,TT⟩ (fun i σ H' _ h=>by obtain⟨_,_,_,_,_,_,_,_,_,_,_,t⟩:=h;exact SqL.of t.fx.c) ?_ ?_⟩
    · clear TT t6 e1z e2z e3z e4z e5z e6z e7z e8z e9z e10z e11 D0z D1z hnz hkz edz on om od os m1 m2 m3 n1 n2 n3 n4 n5 n6 lap dap
      rintro i v σ H7 hx ⟨v5,v6,v7,v8,A0,A1,B0,B1,S0,S1,rfl,T0⟩
      have hi':=zfq hx
      rw[List.length_map] at hi'
      have hi8:i<=80:=by omega
      obtain⟨c,rfl⟩:∃z,v=V.int z:=by
        rw[List.getElem?_map,List.getElem?_eq_getElem hi'] at hx
        exact⟨_,(Option.some.inj hx).symm⟩
      try dsimp only [za6]
      refine⟨_,rfl,_,_,_,rfl,by decide,?_⟩
      obtain⟨b1,b2⟩:=zcx c 15 2 (by decide)
      obtain⟨j,ej⟩:=zw4 b1 b2
      rw[ej]
      try dsimp only [za6]
      refine⟨_,rfl,_,_,_,rfl,by decide,?_⟩
      obtain⟨c1,c2⟩:=zcx c 14 20 (by decide)
      generalize pt c 14 20=way at c1 c2 ⊢
      obtain⟨kd,kd',A,A',B,B',S,S',T7,back⟩:∃(k k':Addr) (A A':Dg) (B B':Lw) (S S':SD),Two C_Desk C_Dig K H7 j pn pk pdk pst pc k k' xs ms cs A A' B B' S S' i/\∀(G:Hp) (A2 A2':Dg) (B2 B2':Lw) (S2 S2':SD) (n:Nat),Two C_Desk C_Dig K G j pn pk pdk pst pc k k' xs ms cs A2 A2' B2 B2' S2 S2' n->∃(A0 A1:Dg) (B0 B1:Lw) (S0 S1:SD),Two C_Desk C_Dig K G false pn pk pdk pst pc k0 k1 xs ms cs A0 A1 B0 B1 S0 S1 n:=by
        cases j with
        | false=>exact⟨k0,k1,A0,A1,B0,B1,S0,S1,T0,fun G a b c d e f n h=>⟨a,b,c,d,e,f,h⟩⟩
        | true=>exact⟨k1,k0,A1,A0,B1,B0,S1,S0,T0.symm,fun G a b c d e f n h=>⟨b,a,d,c,f,e,h.symm⟩⟩
      clear T0
      try dsimp only [za6]
      refine zr8 (fun σ' H'=>∃(sy:Say) (A2:Dg) (B2:Lw) (S2:SD),σ' = [some (.ref a),some (.ref pn),some (.ref pk),some (.ref pdk),some (.ref pst),some (.int c),some (.int (ixB j)),some (.int way),some (.str (sayT sy))]/\Mid C_Desk C_Dig K H' j pn pk pdk pst pc kd kd' xs ms cs A A2 A' B2 B' S S2 S' i sy) (fun D' kD=>?_) ?_
      · refine⟨_,rfl,rfl,_,rfl,?_⟩
        refine ite2 (fun c3=>?_) (fun c3=>?_)
        · refine⟨_,rfl,c,rfl,fun pg lo hi H8 yl yh hlh fpg epg s8=>?_⟩
          refine⟨by show 0<=sizeLine;decide,fun pu2 y1=>?_⟩
          obtain⟨w1,e1⟩:Same H8 (upd H8 pu2 (.lst []))/\upd H8 pu2 (.lst []) pu2=some (.lst []):=⟨Same.new y1,zb⟩
          generalize upd H8 pu2 (.lst [])=G1 at w1 e1
          refine⟨by show 0<=sizeLine;decide,fun pt2 y2=>?_⟩
          obtain⟨w2,e2⟩:Same G1 (upd G1 pt2 (.lst []))/\upd G1 pt2 (.lst []) pt2=some (.lst []):=⟨Same.new y2,zb⟩
          generalize upd G1 pt2 (.lst [])=G2 at w2 e2
          refine⟨by show 0<=sizeLine;decide,fun pf2 y3=>?_⟩
          obtain⟨w3,e3⟩:Same G2 (upd G2 pf2 (.lst []))/\upd G2 pf2 (.lst []) pf2=some (.lst []):=⟨Same.new y3,zb⟩
          generalize upd G2 pf2 (.lst [])=G3 at w3 e3
          refine⟨by show 4<=sizeLine;decide,fun ps2 y4=>?_⟩
          obtain⟨w4,e4⟩:Same G3 (upd G3 ps2 (.tup [.ref pg,.ref pu2,.ref pt2,.ref pf2]))/\upd G3 ps2 (.tup [.ref pg,.ref pu2,.ref pt2,.ref pf2]) ps2=some (.tup [.ref pg,.ref pu2,.ref pt2,.ref pf2]):=⟨Same.new y4,zb⟩
          generalize upd G3 ps2 (.tup [.ref pg,.ref pu2,.ref pt2,.ref pf2])=G4 at w4 e4
          have q2:=s8.trans w1
          have q3:=q2.trans w2
          have q4:=q3.trans (w3.trans w4)
          have sn:SnI K G4 ⟨A.p,A.pm,pg,A.du,A.dt,A.df,lo,hi⟩ ⟨ps2,pu2,pt2,pf2⟩ xs sd0 0:=⟨⟨e4,⟨[],[],⟨w4 _ _ (w3 _ _ (w2 _ _ e1)),w4 _ _ (w3 _ _ e2),.nil,w4 _ _ e3,.nil,zc e1 y2,zc (w2 _ _ e1) y3,zc e2 y3⟩⟩,emp,by simp[sd0],⟨Nat.le_refl _,Nat.le_refl _,Nat.le_refl _⟩⟩,w4 _ _ (w3 _ _ (w2 _ _ (w1 _ _ epg)))⟩
          have M:=T7.midD (B2:=⟨ps2,pu2,pt2,pf2⟩) q4 (s8.free y1) (q2.free y2) (q3.free y3) sn (.dig (.dig hlh yl yh)) ⟨yl,yh⟩
          refine⟨_,rfl,_,rfl,pst,_,_,_,rfl,rfl,q4 _ _ T7.fx.s,zvj _ _ _,?_⟩
          rw[zvk]
          generalize upd G4 pst (.lst (duo j ps2 B'.ps))=G5 at M
          try dsimp only
          refine⟨by show 1<=sizeLine;decide,fun p1 hp1=>?_⟩
          have v1:=Same.new (o:=.tup [.str "dig"]) hp1
          have M1:=M.same v1
          refine⟨_,rfl,_,rfl,pst,_,_,_,rfl,rfl,SqL.of M1.fx.s,zf0 _ _ _,ps2,_,_,_,rfl,rfl,SqT.of M1.t.st.tup,rfl,p1,pg,_,_,rfl,rfl,SqT.of zb,SqT.of M1.t.fr,by simp,(by show 1+2<=sizeLine;decide),fun z=>by simp at z,fun _ p2 hp2=>?_⟩
          have v2:=Same.new (o:=.tup ([.str "dig"]++[.int lo,.int hi])) hp2
          exact⟨p2,_,_,rfl,SqT.of zb,by decide +kernel,zs7 yl yh,by simp,fun Hz sz=>kD _ _ ⟨.dig lo hi,_,_,sd0,rfl,M1.same (v2.trans sz)⟩⟩
        · refine⟨_,rfl,_,_,rfl,rfl,_,rfl,?_⟩
          refine ite2 (fun c4=>?_) (fun c4=>?_)
          · refine⟨_,rfl,_,rfl,pst,_,_,_,rfl,rfl,SqL.of T7.fx.s,zf0 _ _ _,_,rfl,_,rfl,_,rfl,B.ps,A.pg,B.pu,B.pt,B.pf,pn,pk,xs,ms,S,i,c,rfl,T7.t.st,hi8,SqL.of T7.fx.n,SqL.of T7.fx.m,x7,m7,xnm,mnm,fun H8 s' d hA hd ok O kp=>?_⟩
            exact kD _ _ ⟨.deed d,A,B,s',rfl,T7.mid3 kp O (.deed ok hd hA)⟩
          · refine⟨_,rfl,_,rfl,pst,_,_,_,rfl,rfl,SqL.of T7.fx.s,zf0 _ _ _,_,rfl,B.ps,A.pg,B.pu,B.pt,B.pf,xs,S,i,c,rfl,T7.t.st,hi8,xnm,fun H8 s' d ms' hA hd ok O kp=>?_,fun H8 s8=>?_⟩
            · exact kD _ _ ⟨.deed d,A,B,s',rfl,T7.mid3 kp O (.deed ok hd hA)⟩
            · exact kD _ _ ⟨.tell,A,B,S,by rw[eT];rfl,(T7.same s8).mid0⟩
      · rintro σ' H8 ⟨sy,A2,B2,S2,rfl,M⟩
        refine zw5 (fun G=>∃(A3:Dg) (S3:SD),Two C_Desk C_Dig K G j pn pk pdk pst pc kd kd' xs ms cs A3 A' B2 B' S3 S' (i+1)) false (fun Q' hQ=>?_) (fun H9 hT=>?_)
        · obtain⟨af,D8⟩:=M.d.desk
          obtain⟨dx,ob⟩:=D8.ob
          have ln:=M.len
          have hw:=M.how
          cases hw with
          | tell=>
            refine⟨_,rfl,rfl,_,rfl,?_⟩
            rw[decide_eq_true (congrArg V.str eT)]
            exact iteF (hQ _ ⟨A,S,M.toTell⟩)
          | deed ok hd ha=>
            refine⟨_,rfl,rfl,_,rfl,?_⟩
            rw[decide_eq_false (fun z=>ok.ne_tell (fun h=>nomatch h) (V.str.inj z))]
            refine iteT ⟨_,rfl,_,rfl,pdk,_,_,_,rfl,rfl,SqL.of M.fx.d,zf0 _ _ _,kd,dx,_,rfl,ob,rfl,_,rfl,kd,A.p,A.pm,A.du,A.dt,A.df,A.lo,A.hi,S,af,_,xs,_,rfl,D8,M.ok,ok,xnm,M.d.yr.1,M.d.yr.2,by omega,by omega,by omega,.inr (.inl ⟨_,_,rfl,hd,ha,fun G af' D kp=>⟨rfl,_,rfl,?_⟩⟩)⟩
            rw[decide_eq_true rfl]
            exact hQ _ ⟨A,_,M.toDeed D kp⟩
          | dig ok y=>
            refine⟨_,rfl,rfl,_,rfl,?_⟩
            rw[decide_eq_false (fun z=>ok.ne_tell (fun h=>nomatch h) (V.str.inj z))]
            refine iteT ⟨_,rfl,_,rfl,pdk,_,_,_,rfl,rfl,SqL.of M.fx.d,zf0 _ _ _,kd,dx,_,rfl,ob,rfl,_,rfl,kd,A.p,A.pm,A.du,A.dt,A.df,A.lo,A.hi,S,af,_,xs,ms,rfl,D8,M.ok,ok,xnm,M.d.yr.1,M.d.yr.2,by omega,by omega,by omega,.inr (.inr ⟨_,_,rfl,fun pd pm du dt df G f1 f2 f3 f4 D kp=>⟨rfl,_,rfl,?_⟩⟩)⟩
            rw[decide_eq_true rfl]
            exact hQ _ ⟨_,_,M.toDig y f2 f3 f4 D kp⟩
        · obtain⟨A3,S3,T9⟩:=hT
          rw[if_neg Bool.false_ne_true]
          have ln:=T9.t.st.len
          try unfold zcv
          try dsimp only
          refine zbz false (fun Q' hQ=>?_) (fun Ha sa=>iteF ?_)
          · obtain⟨af,D9⟩:=T9.d.desk
            obtain⟨dx,ob⟩:=D9.ob
            obtain⟨at',ag,L9⟩:=T9.t.st.ls
            refine⟨_,rfl,_,rfl,pdk,_,_,_,rfl,rfl,SqL.of T9.fx.d,zf0 _ _ _,kd,dx,_,rfl,ob,rfl,kd,A3.p,A3.pm,A3.du,A3.dt,A3.df,A3.lo,A3.hi,S3,af,.tell,xs,ms,by rw[eT];rfl,D9,T9.t.st.ok,.tell,xnm,T9.d.yr.1,T9.d.yr.2,by omega,by omega,by omega,.inl ⟨rfl,fun Ha sa=>?_⟩⟩
            have Ta:=T9.same sa
            refine⟨_,rfl,_,rfl,pst,_,_,_,rfl,rfl,SqL.of Ta.fx.s,zf0 _ _ _,B2.ps,A3.pg,B2.pu,B2.pt,B2.pf,A3.lo,A3.hi,S3.us,_,_,at',ag,rfl,SqT.of Ta.t.st.tup,⟨SqT.of Ta.t.fr,SqL.of (sa _ _ L9.u),SqL.of (sa _ _ L9.t),L9.tt.same sa,SqL.of (sa _ _ L9.f),L9.ff.same sa⟩,zia T9.d.yr.1 T9.d.yr.2 T9.t.st.ok (by omega) (by omega) (by omega),fun Hb sb=>⟨rfl,_,rfl,?_⟩⟩
            rw[decide_eq_true rfl]
            exact hQ _ (sa.trans sb)
          obtain⟨A0',A1',B0',B1',S0',S1',t⟩:=back _ _ _ _ _ _ _ _ (T9.same sa)
          exact⟨_,_,_,_,A0',A1',B0',B1',S0',S1',rfl,t⟩
    · rintro σ H7 ⟨v5,v6,v7,v8,A0,A1,B0,B1,S0,S1,rfl,T0⟩
      rw[List.length_map] at T0
      have l0:=T0.t.st.len
      have l1:=T0.t'.st.len
      obtain⟨af,D9⟩:=T0.d.desk
      obtain⟨dx,ob⟩:=D9.ob
      obtain⟨at',ag,L9⟩:=T0.t.st.ls
      refine⟨_,rfl,pdk,_,_,_,rfl,rfl,SqL.of T0.fx.d,rfl,k0,dx,_,rfl,ob,rfl,k0,A0.p,A0.pm,A0.du,A0.dt,A0.df,A0.lo,A0.hi,S0,af,.tell,xs,ms,by rw[eT];rfl,D9,T0.t.st.ok,.tell,xnm,T0.d.yr.1,T0.d.yr.2,by omega,by omega,by omega,.inl ⟨rfl,fun Ha sa=>?_⟩⟩
      have Ta:=T0.same sa
      refine⟨_,rfl,pst,_,_,_,rfl,rfl,SqL.of Ta.fx.s,rfl,B0.ps,A0.pg,B0.pu,B0.pt,B0.pf,A0.lo,A0.hi,S0.us,_,_,at',ag,rfl,SqT.of Ta.t.st.tup,⟨SqT.of Ta.t.fr,SqL.of (sa _ _ L9.u),SqL.of (sa _ _ L9.t),L9.tt.same sa,SqL.of (sa _ _ L9.f),L9.ff.same sa⟩,zia T0.d.yr.1 T0.d.yr.2 T0.t.st.ok (by omega) (by omega) (by omega),fun Hb sb=>⟨rfl,_,rfl,?_⟩⟩
      rw[decide_eq_true rfl]
      refine iteT ?_
      have Tb:=Ta.same sb
      obtain⟨af',D1⟩:=Tb.d'.desk
      obtain⟨dx',ob'⟩:=D1.ob
      obtain⟨at2,ag2,L1⟩:=Tb.t'.st.ls
      refine⟨_,rfl,pdk,_,_,_,rfl,rfl,SqL.of Tb.fx.d,rfl,k1,dx',_,rfl,ob',rfl,k1,A1.p,A1.pm,A1.du,A1.dt,A1.df,A1.lo,A1.hi,S1,af',.tell,xs,ms,by rw[eT];rfl,D1,T0.t'.st.ok,.tell,xnm,T0.d'.yr.1,T0.d'.yr.2,by omega,by omega,by omega,.inl ⟨rfl,fun Hc sc=>?_⟩⟩
      have Tc:=Tb.same sc
      refine⟨_,rfl,pst,_,_,_,rfl,rfl,SqL.of Tc.fx.s,rfl,B1.ps,A1.pg,B1.pu,B1.pt,B1.pf,A1.lo,A1.hi,S1.us,_,_,at2,ag2,rfl,SqT.of Tc.t'.st.tup,⟨SqT.of Tc.t'.fr,SqL.of (sc _ _ L1.u),SqL.of (sc _ _ L1.t),L1.tt.same sc,SqL.of (sc _ _ L1.f),L1.ff.same sc⟩,zia T0.d'.yr.1 T0.d'.yr.2 T0.t'.st.ok (by omega) (by omega) (by omega),fun Hd sd=>⟨rfl,?_⟩⟩
      rw[decide_eq_true rfl]
      exact k _
end
end LK81
open PySem PySem.W PyProof.Rows
set_option maxRecDepth 100000 in
set_option maxHeartbeats 0 in
theorem PySem.Challenge.cw_digmatrix_k81_rows_of_deeds_holds : PySem.Challenge.rw_digmatrix_k81_rows_of_deeds.Holds := by
  w_on;o_law;k_head;(case hw=>w_witness2)
  k_fill
  refine L2.law_walk (l:=PySem.Challenge.rw_digmatrix_k81_rows_of_deeds) (k:=LK81.kLaw) (x:="_law_script") (sp:=fun K=>LK81.sp_law (K:=K)) rfl rfl ⟨rfl,by decide,by decide⟩ (fun w h Y=>PySem.W.kIn_of Y) (fun K H a ns hl hS=>⟨a,ns,rfl,hS,hl,fun _=>rfl⟩) ?F
  case F=>
    intro w mg h KX G
    have T:∃C_Dig,∃C_Desk,∃zk,∃zg,∃zq,∃zo,∃zh,∃zp,∃zy,∃zm,∃zr,∃zz,∃zv,∃zaa,∃zw,∃zab,∃zx,LK81.Tx (L2.KOf KX) mg w C_Dig C_Desk zk zg zq zo zh zp zy zm zr zz zv zaa zw zab zx:=by
      dsimp only [L2.KOf]
      refine' LK81.Tx.ex ⟨?z0,?z1,?z2,?z3,?z4,?z5,?z6,?z7,?z8,?z9,?z10,?z11,?z12,?z13,?z14,?z15,?z16,?z17,?z18,?z19,?z20,?z21,?z22,?z23,?z24,?z25,?z26,?z27,?z28,?z29,?z30,?z31,?z32,?z33,?z34,?z35,?z36,?z37,?z38,?z39,?z40,?z41,?z42,?z43,?z44,?z45,?z46,?z47,?z48,?z49,?z50,?z51,?z52,?z53,?z54,?z55,?z56,?z57,?z58,?z59,?z60,?z61,?z62,?z63,?z64,?z65,?z66,?z67,?z68,?z69,?z70,?z71,?z72,?z73,?z74,?z75,?z76,?z77,?z78,?z79,?z80,?z81,?z82,?z83,?z84,?z85,?z86,?z87,?z88⟩
      case z0=>refine' L2.const_mk KX G ?x0;(case x0=>k_is)
      case z1=>refine' ⟨?x1,?y1,?u1,?v1⟩;(case x1=>k_is);(case y1=>k_is);(case u1=>k_is);(case v1=>k_is)
      case z2=>k_is
      case z3=>k_is
      case z4=>(unfold L2.NoAttr;k_is)
      case z5=>(unfold L2.NoAttr;k_is)
      case z6=>(unfold L2.NoAttr;k_is)
      case z7=>(unfold L2.NoAttr;k_is)
      case z8=>refine' L2.dfm_mk (fun _ _ _ _ _ _=>L2.len3 fun _ _ _=>rfl) ?p8 ?q8 ?r8 ?s8 ?t8;(case p8=>k_is);(case q8=>k_is);(case r8=>k_is);(case s8=>k_is);(case t8=>k_is)
      case z9=>refine' L2.dfm_mk (fun _ _ _ _ _ _=>L2.len2 fun _ _=>rfl) ?p9 ?q9 ?r9 ?s9 ?t9;(case p9=>k_is);(case q9=>k_is);(case r9=>k_is);(case s9=>k_is);(case t9=>k_is)
      case z10=>refine' L2.dfm_mk (fun _ _ _ _ _ _=>L2.len2 fun _ _=>rfl) ?p10 ?q10 ?r10 ?s10 ?t10;(case p10=>k_is);(case q10=>k_is);(case r10=>k_is);(case s10=>k_is);(case t10=>k_is)
      case z11=>refine' L2.dfm_mk (fun _ _ _ _ _ _=>L2.len2 fun _ _=>rfl) ?p11 ?q11 ?r11 ?s11 ?t11;(case p11=>k_is);(case q11=>k_is);(case r11=>k_is);(case s11=>k_is);(case t11=>k_is)
      case z12=>refine' L2.dfm_mk (fun _ _ _ _ _ _=>L2.len2 fun _ _=>rfl) ?p12 ?q12 ?r12 ?s12 ?t12;(case p12=>k_is);(case q12=>k_is);(case r12=>k_is);(case s12=>k_is);(case t12=>k_is)
      case z13=>refine' L2.dfm_mk (fun _ _ _ _ _ _=>L2.len5 fun _ _ _ _ _=>rfl) ?p13 ?q13 ?r13 ?s13 ?t13;(case p13=>k_is);(case q13=>k_is);(case r13=>k_is);(case s13=>k_is);(case t13=>k_is)
      case z14=>refine' L2.dfm_mk (fun _ _ _ _ _ _=>L2.len3 fun _ _ _=>rfl) ?p14 ?q14 ?r14 ?s14 ?t14;(case p14=>k_is);(case q14=>k_is);(case r14=>k_is);(case s14=>k_is);(case t14=>k_is)
      case z15=>refine' L2.dfm_mk (fun _ _ _ _ _ _=>L2.len2 fun _ _=>rfl) ?p15 ?q15 ?r15 ?s15 ?t15;(case p15=>k_is);(case q15=>k_is);(case r15=>k_is);(case s15=>k_is);(case t15=>k_is)
      case z16=>refine' L2.dfm_mk (fun _ _ _ _ _ _=>L2.len1 fun _=>rfl) ?p16 ?q16 ?r16 ?s16 ?t16;(case p16=>k_is);(case q16=>k_is);(case r16=>k_is);(case s16=>k_is);(case t16=>k_is)
      case z17=>refine' L2.dfm_mk (fun _ _ _ _ _ _=>L2.len2 fun _ _=>rfl) ?p17 ?q17 ?r17 ?s17 ?t17;(case p17=>k_is);(case q17=>k_is);(case r17=>k_is);(case s17=>k_is);(case t17=>k_is)
      case z18=>refine' L2.dfm_mk (fun _ _ _ _ _ _=>L2.len2 fun _ _=>rfl) ?p18 ?q18 ?r18 ?s18 ?t18;(case p18=>k_is);(case q18=>k_is);(case r18=>k_is);(case s18=>k_is);(case t18=>k_is)
      case z19=>refine' L2.dfm_mk (fun _ _ _ _ _ _=>L2.len2 fun _ _=>rfl) ?p19 ?q19 ?r19 ?s19 ?t19;(case p19=>k_is);(case q19=>k_is);(case r19=>k_is);(case s19=>k_is);(case t19=>k_is)
      case z20=>refine' L2.const_mk KX G ?x20;(case x20=>k_is)
      case z21=>refine' ⟨?x21,?y21,?u21,?v21⟩;(case x21=>k_is);(case y21=>k_is);(case u21=>k_is);(case v21=>k_is)
      case z22=>k_is
      case z23=>k_is
      case z24=>(unfold L2.NoAttr;k_is)
      case z25=>refine' L2.dfm_mk (fun _ _ _ _ _ _=>L2.len1 fun _=>rfl) ?p25 ?q25 ?r25 ?s25 ?t25;(case p25=>k_is);(case q25=>k_is);(case r25=>k_is);(case s25=>k_is);(case t25=>k_is)
      case z26=>refine' L2.dfm_mk (fun _ _ _ _ _ _=>L2.len2 fun _ _=>rfl) ?p26 ?q26 ?r26 ?s26 ?t26;(case p26=>k_is);(case q26=>k_is);(case r26=>k_is);(case s26=>k_is);(case t26=>k_is)
      case z27=>refine' L2.const_mk KX G ?x27;(case x27=>k_is)
      case z28=>refine' L2.const_mk KX G ?x28;(case x28=>k_is)
      case z29=>refine' ⟨?x29,?y29,?u29⟩;(case x29=>k_is);(case y29=>k_is);(case u29=>k_is)
      case z30=>refine' L2.const_mk KX G ?x30;(case x30=>k_is)
      case z31=>refine' L2.const_mk KX G ?x31;(case x31=>k_is)
      case z32=>refine' L2.const_mk KX G ?x32;(case x32=>k_is)
      case z33=>refine' L2.const_mk KX G ?x33;(case x33=>k_is)
      case z34=>refine' L2.const_mk KX G ?x34;(case x34=>k_is)
      case z35=>refine' L2.const_mk KX G ?x35;(case x35=>k_is)
      case z36=>refine' L2.const_mk KX G ?x36;(case x36=>k_is)
      case z37=>refine' L2.const_mk KX G ?x37;(case x37=>k_is)
      case z38=>refine' L2.const_mk KX G ?x38;(case x38=>k_is)
      case z39=>refine' L2.const_mk KX G ?x39;(case x39=>k_is)
      case z40=>refine' L2.const_mk KX G ?x40;(case x40=>k_is)
      case z41=>refine' L2.const_mk KX G ?x41;(case x41=>k_is)
      case z42=>refine' L2.const_mk KX G ?x42;(case x42=>k_is)
      case z43=>refine' L2.df_mk KX G (fun _ _ _ _ _ _=>L2.len1 fun _=>rfl) ?p43 ?q43 ?r43 ?s43;(case p43=>k_is);(case q43=>k_is);(case r43=>k_is);(case s43=>k_is)
      case z44=>refine' L2.df_mk KX G (fun _ _ _ _ _ _=>L2.len1 fun _=>rfl) ?p44 ?q44 ?r44 ?s44;(case p44=>k_is);(case q44=>k_is);(case r44=>k_is);(case s44=>k_is)
      case z45=>refine' L2.df_mk KX G (fun _ _ _ _ _ _=>L2.len2 fun _ _=>rfl) ?p45 ?q45 ?r45 ?s45;(case p45=>k_is);(case q45=>k_is);(case r45=>k_is);(case s45=>k_is)
      case z46=>refine' L2.df_mk KX G (fun _ _ _ _ _ _=>L2.len1 fun _=>rfl) ?p46 ?q46 ?r46 ?s46;(case p46=>k_is);(case q46=>k_is);(case r46=>k_is);(case s46=>k_is)
      case z47=>refine' L2.df_mk KX G (fun _ _ _ _ _ _=>L2.len1 fun _=>rfl) ?p47 ?q47 ?r47 ?s47;(case p47=>k_is);(case q47=>k_is);(case r47=>k_is);(case s47=>k_is)
      case z48=>refine' L2.df_mk KX G (fun _ _ _ _ _ _=>L2.len1 fun _=>rfl) ?p48 ?q48 ?r48 ?s48;(case p48=>k_is);(case q48=>k_is);(case r48=>k_is);(case s48=>k_is)
      case z49=>refine' L2.df_mk KX G (fun _ _ _ _ _ _=>L2.len2 fun _ _=>rfl) ?p49 ?q49 ?r49 ?s49;(case p49=>k_is);(case q49=>k_is);(case r49=>k_is);(case s49=>k_is)
      case z50=>refine' L2.df_mk KX G (fun _ _ _ _ _ _=>L2.len3 fun _ _ _=>rfl) ?p50 ?q50 ?r50 ?s50;(case p50=>k_is);(case q50=>k_is);(case r50=>k_is);(case s50=>k_is)
      case z51=>refine' L2.df_mk KX G (fun _ _ _ _ _ _=>L2.len3 fun _ _ _=>rfl) ?p51 ?q51 ?r51 ?s51;(case p51=>k_is);(case q51=>k_is);(case r51=>k_is);(case s51=>k_is)
      case z52=>refine' L2.df_mk KX G (fun _ _ _ _ _ _=>L2.len1 fun _=>rfl) ?p52 ?q52 ?r52 ?s52;(case p52=>k_is);(case q52=>k_is);(case r52=>k_is);(case s52=>k_is)
      case z53=>refine' L2.df_mk KX G (fun _ _ _ _ _ _=>L2.len1 fun _=>rfl) ?p53 ?q53 ?r53 ?s53;(case p53=>k_is);(case q53=>k_is);(case r53=>k_is);(case s53=>k_is)
      case z54=>refine' L2.df_mk KX G (fun _ _ _ _ _ _=>L2.len1 fun _=>rfl) ?p54 ?q54 ?r54 ?s54;(case p54=>k_is);(case q54=>k_is);(case r54=>k_is);(case s54=>k_is)
      case z55=>refine' L2.df_mk KX G (fun _ _ _ _ _ _=>L2.len2 fun _ _=>rfl) ?p55 ?q55 ?r55 ?s55;(case p55=>k_is);(case q55=>k_is);(case r55=>k_is);(case s55=>k_is)
      case z56=>refine' L2.df_mk KX G (fun _ _ _ _ _ _=>L2.len2 fun _ _=>rfl) ?p56 ?q56 ?r56 ?s56;(case p56=>k_is);(case q56=>k_is);(case r56=>k_is);(case s56=>k_is)
      case z57=>refine' L2.df_mk KX G (fun _ _ _ _ _ _=>L2.len2 fun _ _=>rfl) ?p57 ?q57 ?r57 ?s57;(case p57=>k_is);(case q57=>k_is);(case r57=>k_is);(case s57=>k_is)
      case z58=>refine' L2.df_mk KX G (fun _ _ _ _ _ _=>L2.len3 fun _ _ _=>rfl) ?p58 ?q58 ?r58 ?s58;(case p58=>k_is);(case q58=>k_is);(case r58=>k_is);(case s58=>k_is)
      case z59=>refine' L2.df_mk KX G (fun _ _ _ _ _ _=>L2.len3 fun _ _ _=>rfl) ?p59 ?q59 ?r59 ?s59;(case p59=>k_is);(case q59=>k_is);(case r59=>k_is);(case s59=>k_is)
      case z60=>refine' L2.df_mk KX G (fun _ _ _ _ _ _=>L2.len2 fun _ _=>rfl) ?p60 ?q60 ?r60 ?s60;(case p60=>k_is);(case q60=>k_is);(case r60=>k_is);(case s60=>k_is)
      case z61=>refine' L2.df_mk KX G (fun _ _ _ _ _ _=>L2.len4 fun _ _ _ _=>rfl) ?p61 ?q61 ?r61 ?s61;(case p61=>k_is);(case q61=>k_is);(case r61=>k_is);(case s61=>k_is)
      case z62=>refine' L2.df_mk KX G (fun _ _ _ _ _ _=>L2.len1 fun _=>rfl) ?p62 ?q62 ?r62 ?s62;(case p62=>k_is);(case q62=>k_is);(case r62=>k_is);(case s62=>k_is)
      case z63=>refine' L2.df_mk KX G (fun _ _ _ _ _ _=>L2.len1 fun _=>rfl) ?p63 ?q63 ?r63 ?s63;(case p63=>k_is);(case q63=>k_is);(case r63=>k_is);(case s63=>k_is)
      case z64=>refine' L2.df_mk KX G (fun _ _ _ _ _ _=>L2.len1 fun _=>rfl) ?p64 ?q64 ?r64 ?s64;(case p64=>k_is);(case q64=>k_is);(case r64=>k_is);(case s64=>k_is)
      case z65=>refine' L2.df_mk KX G (fun _ _ _ _ _ _=>L2.len4 fun _ _ _ _=>rfl) ?p65 ?q65 ?r65 ?s65;(case p65=>k_is);(case q65=>k_is);(case r65=>k_is);(case s65=>k_is)
      case z66=>refine' L2.df_mk KX G (fun _ _ _ _ _ _=>L2.len2 fun _ _=>rfl) ?p66 ?q66 ?r66 ?s66;(case p66=>k_is);(case q66=>k_is);(case r66=>k_is);(case s66=>k_is)
      case z67=>refine' L2.df_mk KX G (fun _ _ _ _ _ _=>L2.len1 fun _=>rfl) ?p67 ?q67 ?r67 ?s67;(case p67=>k_is);(case q67=>k_is);(case r67=>k_is);(case s67=>k_is)
      case z68=>refine' L2.rel_mk KX G ?x68 ?y68;(case x68=>k_is);(case y68=>exact⟨_,rfl⟩)
      case z69=>refine' L2.rel_mk KX G ?x69 ?y69;(case x69=>k_is);(case y69=>exact⟨_,rfl⟩)
      case z70=>refine' L2.rel_mk KX G ?x70 ?y70;(case x70=>k_is);(case y70=>exact⟨_,rfl⟩)
      case z71=>refine' L2.rel_mk KX G ?x71 ?y71;(case x71=>k_is);(case y71=>exact⟨_,rfl⟩)
      case z72=>
        refine' L2.kdt_mk KX G ?x72 ?y72 ?u72 ?v72 ?w72
        (case x72=>k_is)
        (case y72=>k_is)
        (case u72=>(refine' (.cons ?e72_0 ?f72_0 ?g72_0 (.cons ?e72_1 ?f72_1 ?g72_1 (.cons ?e72_2 ?f72_2 ?g72_2 (.cons ?e72_3 ?f72_3 ?g72_3 (.cons ?e72_4 ?f72_4 ?g72_4 (.cons ?e72_5 ?f72_5 ?g72_5 (.cons ?e72_6 ?f72_6 ?g72_6 (.cons ?e72_7 ?f72_7 ?g72_7 .nil))))))));(case e72_0=>k_is);(case f72_0=>decide);(case g72_0=>exact (.cons ⟨_,rfl⟩ (.cons ⟨_,rfl⟩ .nil)));(case e72_1=>k_is);(case f72_1=>decide);(case g72_1=>exact (.cons ⟨_,rfl⟩ .nil));(case e72_2=>k_is);(case f72_2=>decide);(case g72_2=>exact (.cons ⟨_,rfl⟩ (.cons ⟨_,rfl⟩ .nil)));(case e72_3=>k_is);(case f72_3=>decide);(case g72_3=>exact (.cons ⟨_,rfl⟩ (.cons ⟨_,rfl⟩ .nil)));(case e72_4=>k_is);(case f72_4=>decide);(case g72_4=>exact (.cons ⟨_,rfl⟩ (.cons ⟨_,rfl⟩ .nil)));(case e72_5=>k_is);(case f72_5=>decide);(case g72_5=>exact (.cons ⟨_,rfl⟩ (.cons ⟨_,rfl⟩ (.cons ⟨_,rfl⟩ .nil))));(case e72_6=>k_is);(case f72_6=>decide);(case g72_6=>exact (.cons ⟨_,rfl⟩ (.cons ⟨_,rfl⟩ .nil)));(case e72_7=>k_is);(case f72_7=>decide);(case g72_7=>exact (.cons ⟨_,rfl⟩ (.cons ⟨_,rfl⟩ (.cons ⟨_,rfl⟩ (.cons ⟨_,rfl⟩ .nil)))))))
        (case v72=>decide)
        (case w72=>decide +kernel)
      case z73=>refine' L2.rel_mk KX G ?x73 ?y73;(case x73=>k_is);(case y73=>exact⟨_,rfl⟩)
      case z74=>refine' L2.rel_mk KX G ?x74 ?y74;(case x74=>k_is);(case y74=>exact⟨_,rfl⟩)
      case z75=>
        refine' L2.kdt_mk KX G ?x75 ?y75 ?u75 ?v75 ?w75
        (case x75=>k_is)
        (case y75=>k_is)
        (case u75=>(refine' (.cons ?e75_0 ?f75_0 ?g75_0 (.cons ?e75_1 ?f75_1 ?g75_1 (.cons ?e75_2 ?f75_2 ?g75_2 .nil)));(case e75_0=>k_is);(case f75_0=>decide);(case g75_0=>exact (.cons ⟨_,rfl⟩ .nil));(case e75_1=>k_is);(case f75_1=>decide);(case g75_1=>exact (.cons ⟨_,rfl⟩ (.cons ⟨_,rfl⟩ .nil)));(case e75_2=>k_is);(case f75_2=>decide);(case g75_2=>exact (.cons ⟨_,rfl⟩ .nil))))
        (case v75=>decide)
        (case w75=>decide +kernel)
      case z76=>
        refine' L2.kdt_mk KX G ?x76 ?y76 ?u76 ?v76 ?w76
        (case x76=>k_is)
        (case y76=>k_is)
        (case u76=>(refine' (.cons ?e76_0 ?f76_0 ?g76_0 (.cons ?e76_1 ?f76_1 ?g76_1 (.cons ?e76_2 ?f76_2 ?g76_2 (.cons ?e76_3 ?f76_3 ?g76_3 (.cons ?e76_4 ?f76_4 ?g76_4 (.cons ?e76_5 ?f76_5 ?g76_5 .nil))))));(case e76_0=>k_is);(case f76_0=>decide);(case g76_0=>exact .nil);(case e76_1=>k_is);(case f76_1=>decide);(case g76_1=>exact .nil);(case e76_2=>k_is);(case f76_2=>decide);(case g76_2=>exact (.cons ⟨_,rfl⟩ (.cons ⟨_,rfl⟩ .nil)));(case e76_3=>k_is);(case f76_3=>decide);(case g76_3=>exact .nil);(case e76_4=>k_is);(case f76_4=>decide);(case g76_4=>exact .nil);(case e76_5=>k_is);(case f76_5=>decide);(case g76_5=>exact .nil)))
        (case v76=>decide)
        (case w76=>decide +kernel)
      case z77=>refine' L2.blt_mk KX G ?_;k_is
      case z78=>refine' L2.blt_mk KX G ?_;k_is
      case z79=>refine' L2.blt_mk KX G ?_;k_is
      case z80=>refine' L2.blt_mk KX G ?_;k_is
      case z81=>refine' L2.blt_mk KX G ?_;k_is
      case z82=>refine' L2.blt_mk KX G ?_;k_is
      case z83=>refine' L2.blt_mk KX G ?_;k_is
      case z84=>refine' L2.blt_mk KX G ?_;k_is
      case z85=>refine' L2.blt_mk KX G ?_;k_is
      case z86=>refine' L2.blt_mk KX G ?_;k_is
      case z87=>refine' L2.blt_mk KX G ?_;k_is
      case z88=>refine' L2.blt_mk KX G ?_;k_is
    obtain⟨_,_,_,_,_,_,_,_,_,_,_,_,_,_,_,_,_,T⟩:=T
    exact fun base _ _=>LK81.h_law T
#print axioms PySem.Challenge.cw_digmatrix_k81_rows_of_deeds_holds
