import PyProof.Rows.All
import Wide.All
import OpenK.AllK
import Wide.FinOn
import Lean
import PyProof.EqAt
import PyProof.EqKinds
import PyProof.TupleCall
import PyProof.ZipIter
import PyProof.DictWalks
import PyProof.StrOps2
import KE.IntTextLaws
import PyProof.StrBlockI
import PyProof.StrLawsIn
import PyProof.StrLawsChain
import PyProof.StrLawsTight
import PyProof.Rows.StrItems
import PyProof.ExcInit
import PyProof.ExcClass3
import PyProof.ExcBaseAll.ValueError
import PyProof.FString
import PyProof.Rows.FStr
import PyProof.RaisesMany
import PyProof.RulesAs
import PyProof.NsDelKeeps
import PyProof.ExcAttrAll.ValueError
import PyProof.AutoSeq1
import PyProof.WalkInts
import PyProof.Rows.SetFrom
import PyProof.SetKind
import PyProof.CollectWalk
import PyProof.MinMaxWalk
import PyProof.TupleKey
import PyProof.FString5
import KE.KDictOf
import PyProof.AttrMissHeap
import KE.KSortTup
import PyProof.MeetsSeq3
import PyProof.DictUpdate
import PyProof.Rows.SumAny
import KE.KMulAny
import PyProof.FactsAll.tuple_2
import PySem.Challenge.RW_digmatrix_k07_whole_any_lines
set_option Elab.async false
set_option linter.all false
set_option maxRecDepth 100000
def PySem.W.Fast.tw7437882142764287911:Unit:=()
def PySem.W.Fast.tw15938678160324011655:Unit:=()
def PySem.W.Fast.tw10583612388333618162:Unit:=()
def PySem.W.Fast.tw315782219889295087:Unit:=()
def PySem.W.Fast.tw16581355875273272758:Unit:=()
def PySem.W.Fast.tw15018410958939787509:Unit:=()
def PySem.W.Fast.tw15226663297187044093:Unit:=()
def PySem.W.Fast.tw12623688739988381325:Unit:=()
def PySem.W.Fast.tw4320083127654207566:Unit:=()
def PySem.W.Fast.tw14851610432007991479:Unit:=()
def PySem.W.Fast.tw14235815627369421522:Unit:=()
def PySem.W.Fast.tw8127856621193438646:Unit:=()
def PySem.W.Fast.tw13365820980470033621:Unit:=()
def PySem.W.Fast.tw3520609139721783717:Unit:=()
def PySem.W.Fast.tw8830504330346273215:Unit:=()
def PySem.W.Fast.tw6069006320794034819:Unit:=()
def PySem.W.Fast.tw2022794386701010779:Unit:=()
def PySem.W.Fast.tw18386590086151534630:Unit:=()
def PySem.W.Fast.tw11598430603579607810:Unit:=()
def PySem.W.Fast.tw4844439831249430846:Unit:=()
namespace L2
open PySem PySem.Spec PyProof.Rows
abbrev Key:=Sum Int Str
def zm5:Key->Value->Bool
  | .inl k,v=>Value.isInt k v
  | .inr x,v=>Value.isStrOf x v
def keyH (w:World):Key->Int
  | .inl k=>hashInt k
  | .inr x=>hashStr w x
theorem za6:∀{k:Key}{v:Value},zm5 k v=true->(∃i t,k=Sum.inl i/\v=Value.int i t)\/(∃x t,k=Sum.inr x/\v=Value.str x t)
  | .inl i,v,h=>by
    obtain⟨t,e⟩:=Value.isInt_shape (k:=i) (v:=v) h;exact .inl ⟨i,t,rfl,e⟩
  | .inr x,v,h=>by
    obtain⟨t,e⟩:=Value.isStrOf_shape (x:=x) (v:=v) h;exact .inr ⟨x,t,rfl,e⟩
theorem zqz (i:Int) (t:Tok):zm5 (.inl i) (.int i t)=true:=by simp[zm5,Value.isInt]
theorem zq0 (x:Str) (t:Tok):zm5 (.inr x) (.str x t)=true:=by simp[zm5,Value.isStrOf]
theorem zxt (a b:Int):decide ((Sum.inl a:Key)=Sum.inl b)=(a == b):=by
  by_cases e:a=b
  · subst e;simp
  · have h:¬(Sum.inl a:Key)=Sum.inl b:=fun q=>e (Sum.inl.inj q)
    rw[decide_eq_false h];exact (beq_eq_false_iff_ne.mpr e).symm
theorem zxu (a b:Str):decide ((Sum.inr a:Key)=Sum.inr b)=decide (a=b):=by
  by_cases e:a=b
  · subst e;simp
  · have h:¬(Sum.inr a:Key)=Sum.inr b:=fun q=>e (Sum.inr.inj q)
    rw[decide_eq_false h,decide_eq_false e]
theorem zxv (a:Int) (b:Str):decide ((Sum.inl a:Key)=Sum.inr b)=false:=decide_eq_false (fun q=>nomatch q)
theorem zxw (a:Str) (b:Int):decide ((Sum.inr a:Key)=Sum.inl b)=false:=decide_eq_false (fun q=>nomatch q)
def zbi (prog:Program) (w:World):PySem.KeyKind prog w Key where
  is:=zm5
  hash:=keyH w
  inj:=fun v a b ha hb=>by
    rcases za6 ha with ⟨i,t,rfl,rfl⟩ | ⟨x,t,rfl,rfl⟩
    · rcases za6 hb with ⟨j,u,rfl,e⟩ | ⟨y,u,rfl,e⟩
      · injection e with e1 _;rw[e1]
      · exact nomatch e
    · rcases za6 hb with ⟨j,u,rfl,e⟩ | ⟨y,u,rfl,e⟩
      · exact nomatch e
      · injection e with e1 _;rw[e1]
  byValue:=fun k v h=>by
    rcases za6 h with ⟨i,t,rfl,rfl⟩ | ⟨x,t,rfl,rfl⟩<;>rfl
  pyHash:=fun hv h=>by
    rcases za6 hv with ⟨i,t,rfl,rfl⟩ | ⟨x,t,rfl,rfl⟩
    · exact wpAny_pyHash_int h
    · exact wpAny_pyHash_str h
  eqBool:=fun hu hv h=>by
    rcases za6 hu with ⟨i,t,rfl,rfl⟩ | ⟨x,t,rfl,rfl⟩
    · rcases za6 hv with ⟨j,u,rfl,rfl⟩ | ⟨y,u,rfl,rfl⟩
      · rw[zxt] at h;exact wpAny_eqBool_int h
      · rw[zxv] at h;exact SeqAt.EqAt.int_str i t y u _ _ _ _ h
    · rcases za6 hv with ⟨j,u,rfl,rfl⟩ | ⟨y,u,rfl,rfl⟩
      · rw[zxw] at h;exact SeqAt.EqAt.str_int x t j u _ _ _ _ h
      · rw[zxu] at h;exact wpAny_eqBool_str h
  «strs»:=fun k x t v h=>by
    rcases za6 h with ⟨i,u,rfl,e⟩ | ⟨y,u,rfl,e⟩
    · exact nomatch e
    · injection e with e1 _
      subst e1;cases v<;>rfl
theorem zm6 (prog:Program) (w:World) (i:Int) (t:Tok):(zbi prog w).is (.inl i) (.int i t)=true:=zqz i t
theorem ze6 (prog:Program) (w:World) (x:Str) (t:Tok):(zbi prog w).is (.inr x) (.str x t)=true:=zq0 x t
inductive V where
  | non | bl (b:Bool) | int (i:Int) | str (x:Str) | byt (b:Array UInt8) | flt (b:UInt64) | ref (a:Addr) | ty (n:String)
  deriving DecidableEq
def RelV:V->Value->Prop
  | .non,u=>u=Value.none
  | .bl b,u=>u=Value.bool b
  | .int i,u=>∃t,u=Value.int i t
  | .str x,u=>∃t,u=Value.str x t
  | .byt b,u=>∃t,u=Value.bytes b t
  | .flt b,u=>∃t,u=Value.float b t
  | .ref a,u=>u=Value.ref a
  | .ty n,u=>u=Value.type n
abbrev Vals:List V->List Value->Prop:=Paired RelV
theorem Vals.length {xs:List V}{us:List Value}(r:Vals xs us):xs.length=us.length:=Paired.length r
theorem Vals.get:∀{xs:List V}{us:List Value}{i:Nat}{x:V},Vals xs us->xs[i]? = some x->∃u,us[i]? = some u/\RelV x u
  | _,_,_,_,.nil,e=>by simp at e
  | _,_,0,_,.cons r _,e=>by simp at e;subst e;exact⟨_,rfl,r⟩
  | _,_,i+1,x,.cons _ t,e=>by
    obtain⟨u,h1,h2⟩:=Vals.get (i:=i) (x:=x) t (by simpa using e);exact⟨u,by simpa using h1,h2⟩
theorem Vals.append:∀{xs ys:List V}{us ws:List Value},Vals xs us->Vals ys ws->Vals (xs++ys) (us++ws)
  | _,_,_,_,.nil,s=>s
  | _,_,_,_,.cons r t,s=>.cons r (Vals.append t s)
theorem Vals.take:∀{xs:List V}{us:List Value}(n:Nat),Vals xs us->Vals (xs.take n) (us.take n)
  | _,_,0,_=>.nil
  | _,_,_+1,.nil=>.nil
  | _,_,n+1,.cons r t=>.cons r (Vals.take n t)
theorem Vals.drop:∀{xs:List V}{us:List Value}(n:Nat),Vals xs us->Vals (xs.drop n) (us.drop n)
  | _,_,0,r=>r
  | _,_,_+1,.nil=>.nil
  | _,_,n+1,.cons _ t=>Vals.drop n t
def RelO:Option V->Option Value->Prop
  | some v,some u=>RelV v u
  | none,none=>True
  | _,_=>False
def KV {κ:Type}:List (κ×V)->List (κ×Value)->Prop:=Paired fun (p:κ×V) (q:κ×Value)=>p.1=q.1/\RelV p.2 q.2
def kV:Key->V
  | .inl i=>.int i
  | .inr x=>.str x
inductive HO where
    | lst (xs:List V)
    | tup (xs:List V)
    | dK (kvs:List (Key×V)) | dT (kvs:List (List Key×V))
    | set (S:Int->Bool) (n:Nat)
    | ins (C dx:Addr) (fs:List (Str×V))
    | own (x:Addr)
    | xd (fs:List (Str×V))
    | met (f x:Addr)
    | rng (lo hi:Int)
    | frz (o:Obj) (u:HO)
    | tbl (ps:Array Value)
    | ext (φ:Heap->Prop)
abbrev Hp:=Addr->Option HO
def upd (H:Hp) (a:Addr) (o:HO):Hp:=fun b=>if b=a then some o else H b
theorem zc {H:Hp}{a:Addr}{o:HO}:upd H a o a=some o:=by unfold upd;rw[if_pos rfl]
theorem zv {H:Hp}{a b:Addr}{o:HO}(h:b≠a):upd H a o b=H b:=by unfold upd;rw[if_neg h]
theorem zvu {H:Hp}{a:Addr}{o u:HO}:upd (upd H a o) a u=upd H a u:=by
  funext b;unfold upd;split<;>rfl
theorem zek {H:Hp}{a b:Addr}{o u:HO}(h:H a=some o) (h':H b=some u) (d:o≠u):a≠b:=by
  intro e;subst e;rw[h] at h';exact d (Option.some.inj h')
theorem zr {H:Hp}{a b:Addr}{o:HO}(h:H a=some o) (h':H b=none):a≠b:=by
  intro e;subst e;rw[h] at h';cases h'
section
variable (P:Program) (w:World)
def ObjOk (H:Hp) (h:Heap) (a:Addr):HO->Prop
  | .lst xs=>xs.length<=sizeLine/\∃(its:List Value) (n:Nat),Vals xs its/\h.get? a=some { cls:=.type "list",data:=.seq its.toArray n }
  | .tup xs=>xs.length<=sizeLine/\∃its:List Value,Vals xs its/\IsTup h a its.toArray
  | .dK kvs=>kvs.length<=sizeLine/\(a == sysModules)=false/\∃vs,KV kvs vs/\h.DictOf (zbi P w) a vs
  | .dT kvs=>kvs.length<=sizeLine/\(a == sysModules)=false/\∃xs:List (List Key×Addr×Value),
      Paired (fun (p:List Key×V) (q:List Key×Addr×Value)=>p.1=q.1/\H q.2.1=some (.tup (p.1.map kV))/\RelV p.2 q.2.2) kvs xs/\
      ∃o es ep,h.get? a=some o/\o.ExactDict/\o.data = .dict es ep/\es.toList=xs.map (entryOfKey (tupleKind (zbi P w)))/\(xs.map (·.1)).Nodup
  | .set S n=>h.SetOf (intKind P w) a S n
  | .ins C dx fs=>H dx=some (.own a)/\fs.length<=1000/\dx≠a/\h.get? a=some (PySem.W.instObj C dx)/\
      ∃mA,h.Ns1 dx mA/\(∀f,RelO (fs.lookup f) (mA f))/\PySem.Within mA (fs.map (·.1))
  | .own _=>∃o,h.get? a=some o
  | .xd fs=>∃mA,h.Ns1 a mA/\∀f,RelO (fs.lookup f) (mA f)
  | .rng lo hi=>∃t u v,h.get? a=some { cls:=.type "range",data:=.fields #[.int lo t,.int hi u,.int 1 v] }
  | .frz o u=>h.get? a=some o/\ObjOk H h a u
  | .tbl ps=>h.get? a=some { cls:=.none,data:=.fields ps }
  | .met f x=>h.get? a=some (PySem.W.methodObj (.ref f) (.ref x))
  | .ext φ=>φ h/\(∃o,h.get? a=some o)/\∀h1 h2:Heap,φ h1->(∀o,h1.get? a=some o->h2.get? a=some o)->φ h2
def HOk (H:Hp) (h:Heap):Prop:=∀a o,H a=some o->ObjOk P w H h a o
end
section
variable {P:Program}{w:World}{H H':Hp}{h h':Heap}{a:Addr}{o:HO}
theorem ObjOk.lt (x:ObjOk P w H h a o):a<h.objs.size:=by
  cases o with
  | lst xs=>obtain⟨_,_,_,_,e⟩:=x;exact Heap.lt_size e
  | tup xs=>obtain⟨_,_,_,p⟩:=x;exact p.lt
  | dK kvs=>obtain⟨_,_,_,_,o,_,_,e,_⟩:=x;exact Heap.lt_size e
  | dT kvs=>obtain⟨_,_,_,_,o,_,_,e,_⟩:=x;exact Heap.lt_size e
  | set S n=>obtain⟨o,_,_,_,e,_⟩:=x;exact Heap.lt_size e
  | ins C dx fs=>obtain⟨_,_,_,e,_⟩:=x;exact Heap.lt_size e
  | own y=>obtain⟨_,e⟩:=x;exact Heap.lt_size e
  | xd fs=>obtain⟨_,⟨_,_,_,e,_⟩,_⟩:=x;exact Heap.lt_size e
  | rng lo hi=>obtain⟨_,_,_,e⟩:=x;exact Heap.lt_size e
  | frz ob u=>obtain⟨e,_⟩:=x;exact Heap.lt_size e
  | tbl ps=>exact Heap.lt_size (show h.get? a=some _ from x)
  | met f y=>exact Heap.lt_size (show h.get? a=some _ from x)
  | ext φ=>obtain⟨_,⟨_,e⟩,_⟩:=x;exact Heap.lt_size e
theorem Paired.mapP {α β:Type}{F G:α->β->Prop}:∀{l₁:List α}{l₂:List β},Paired F l₁ l₂->(∀a b,F a b->G a b)->Paired G l₁ l₂
  | _,_,.nil,_=>.nil
  | _,_,.cons r t,f=>.cons (f _ _ r) (Paired.mapP t f)
theorem ObjOk.stay (x:ObjOk P w H h a o) (k:∀b u,(b=a\/H b=some (.own a))->h.get? b=some u->h'.get? b=some u)
    (ho:∀b,H b=some (.own a)->H' b=some (.own a)) (ht:∀b xs,H b=some (.tup xs)->H' b=some (.tup xs)):ObjOk P w H' h' a o:=by
  induction o with
  | lst xs=>obtain⟨z,its,n,r,e⟩:=x;exact⟨z,its,n,r,k _ _ (.inl rfl) e⟩
  | tup xs=>obtain⟨z,its,r,ob,e,c⟩:=x;exact⟨z,its,r,ob,k _ _ (.inl rfl) e,c⟩
  | dK kvs=>obtain⟨z,y,vs,r,ob,es,ep,e,c⟩:=x;exact⟨z,y,vs,r,ob,es,ep,k _ _ (.inl rfl) e,c⟩
  | dT kvs=>
    obtain⟨z,y,xs,r,ob,es,ep,e,c⟩:=x;exact⟨z,y,xs,Paired.mapP r fun p q z=>⟨z.1,ht _ _ z.2.1,z.2.2⟩,ob,es,ep,k _ _ (.inl rfl) e,c⟩
  | set S n=>obtain⟨ob,es,ep,t,e,c⟩:=x;exact⟨ob,es,ep,t,k _ _ (.inl rfl) e,c⟩
  | ins C dx fs=>
    obtain⟨d,z,ne,e,mA,⟨od,es,ep,e2,c⟩,r⟩:=x;exact⟨ho _ d,z,ne,k _ _ (.inl rfl) e,mA,⟨od,es,ep,k _ _ (.inr d) e2,c⟩,r⟩
  | own y=>obtain⟨ob,e⟩:=x;exact⟨ob,k _ _ (.inl rfl) e⟩
  | xd fs=>obtain⟨mA,⟨od,es,ep,e,c⟩,r⟩:=x;exact⟨mA,⟨od,es,ep,k _ _ (.inl rfl) e,c⟩,r⟩
  | rng lo hi=>obtain⟨t,u,v,e⟩:=x;exact⟨t,u,v,k _ _ (.inl rfl) e⟩
  | frz ob u ih=>obtain⟨e,q⟩:=x;exact⟨k _ _ (.inl rfl) e,ih q⟩
  | tbl ps=>
    have e:h.get? a=some { cls:=.none,data:=.fields ps }:=x;show h'.get? a=some { cls:=.none,data:=.fields ps };exact k a _ (.inl rfl) e
  | met f y=>
    have e:h.get? a=some (PySem.W.methodObj (.ref f) (.ref y)):=x;show h'.get? a=some (PySem.W.methodObj (.ref f) (.ref y));exact k a _ (.inl rfl) e
  | ext φ=>obtain⟨p,⟨o,e⟩,st⟩:=x;exact⟨st _ _ p fun o q=>k _ _ (.inl rfl) q,⟨o,k _ _ (.inl rfl) e⟩,st⟩
theorem HOk.lt (x:HOk P w H h) (e:H a=some o):a<h.objs.size:=(x a o e).lt
theorem HOk.fresh (x:HOk P w H h) (e:h.objs.size<=a):H a=none:=by
  cases q:H a with
  | none=>rfl
  | some u=>exact absurd (Nat.lt_of_lt_of_le (x.lt q) e) (Nat.lt_irrefl _)
theorem HOk.kept (x:HOk P w H h) (k:∀b u,h.get? b=some u->h'.get? b=some u):HOk P w H h':=fun a o e=>
  (x a o e).stay (fun b u _ q=>k b u q) (fun _ q=>q) fun _ _ q=>q
theorem HOk.laid (x:HOk P w H h) (k:∀b u,h.get? b=some u->h'.get? b=some u) (hp:h.objs.size<=a) (new:ObjOk P w (upd H a o) h' a o):HOk P w (upd H a o) h':=fun b u e=>by
  have hn:=x.fresh hp
  by_cases hb:b=a
  · subst hb;rw[zc] at e;cases e;exact new
  · rw[zv hb] at e;exact (x b u e).stay (fun c v _ q=>k c v q) (fun c q=>by rw[zv (zr q hn)];exact q) fun c xs q=>by rw[zv (zr q hn)];exact q
end
def Rd (H:Hp) (a:Addr) (u:HO):Prop:=H a=some u\/∃o,H a=some (.frz o u)
theorem Rd.ok {P:Program}{w:World}{H:Hp}{h:Heap}{a:Addr}{u:HO}(r:Rd H a u) (x:HOk P w H h):ObjOk P w H h a u:=by
  rcases r with r | ⟨o,r⟩
  · exact x a u r
  · obtain⟨_,q⟩:=x a _ r;exact q
def Mut:Option HO->Prop
  | some (.lst _)=>True
  | some (.dK _)=>True
  | some (.dT _)=>True
  | some (.set _ _)=>True
  | some (.ins _ _ _)=>True
  | some (.ext _)=>True
  | _=>False
section
variable {P:Program}{w:World}{H:Hp}{h h':Heap}{x e:Addr}{o':HO}
theorem HOk.write (ok:HOk P w H h) (mu:Mut (H x)) (he:e=x\/H e=some (.own x)) (k:∀b u,b≠e->h.get? b=some u->h'.get? b=some u) (heo:∃u,h'.get? e=some u)
    (new:ObjOk P w (upd H x o') h' x o'):HOk P w (upd H x o') h':=fun b u q=>by
  have nown:∀c y,H c=some (.own y)->c≠x:=fun c y r z=>by subst z;rw[r] at mu;exact mu
  have ntup:∀c xs,H c=some (.tup xs)->c≠x:=fun c xs r z=>by subst z;rw[r] at mu;exact mu
  by_cases hb:b=x
  · subst hb;rw[zc] at q;cases q;exact new
  · rw[zv hb] at q
    by_cases hbe:b=e
    · have q':H b=some (.own x):=by
        rcases he with z | z
        · exact absurd (hbe.trans z) hb
        · rw[hbe];exact z
      rw[q] at q';cases q';obtain⟨v,hv⟩:=heo;exact⟨v,by rw[hbe];exact hv⟩
    · refine (ok b u q).stay (fun c v hc r=>k c v ?_ r) (fun c r=>by rw[zv (nown c b r)];exact r) fun c xs r=>by rw[zv (ntup c xs r)];exact r
      rcases hc with rfl | hc
      · exact hbe
      · rintro rfl;rcases he with z | z
        · exact nown c b hc z
        · rw[hc] at z;cases z;exact hb rfl
end
structure Un (fs ex:List Addr) (H H':Hp) (h h':Heap):Prop where
  keep:∀b o,h.get? b=some o->H b=none->b ∉ fs->b ∉ ex->h'.get? b=some o
  slot:∀b o,h.get? b=some o->H b=none->b∈fs->b ∉ ex->∃sl,h'.get? b=some { o with slots:=sl }
  free:∀b o,h.get? b=some o->H b=none->b ∉ ex->H' b=none
  there:∀b o,h.get? b=some o->b ∉ ex->∃o',h'.get? b=some o'
  tups:∀b xs,H b=some (.tup xs)->H' b=some (.tup xs)
  frzs:∀b o u,H b=some (.frz o u)->H' b=some (.frz o u)
  tbls:∀b ps,H b=some (.tbl ps)->∃more,H' b=some (.tbl (ps++more))
section
variable {fs fs' ex ex':List Addr}{H H1 H2:Hp}{h h1 h2 h':Heap}{a x e:Addr}{o:HO}
theorem Un.any (u:Un fs ex H H1 h h1) {b:Addr}{ob:Obj}(q:h.get? b=some ob) (n:H b=none) (hx:b ∉ ex):∃sl,h1.get? b=some { ob with slots:=sl }:=by
  by_cases hb:b∈fs
  · exact u.slot b ob q n hb hx
  · exact⟨ob.slots,u.keep b ob q n hb hx⟩
theorem Un.kept (k:∀b u,h.get? b=some u->h'.get? b=some u):Un fs ex H H h h':=
  ⟨fun b ob q _ _ _=>k b ob q,fun b ob q _ _ _=>⟨ob.slots,k b ob q⟩,fun _ _ _ n _=>n,fun b ob q _=>⟨ob,k b ob q⟩,fun _ _ q=>q,fun _ _ _ q=>q,fun _ ps q=>⟨#[],by rw[q];simp⟩⟩
theorem Un.refl:Un fs ex H H h h:=Un.kept fun _ _ q=>q
theorem Un.laid (k:∀b u,h.get? b=some u->h'.get? b=some u) (hp:h.objs.size<=a) (hn:H a=none):Un fs ex H (upd H a o) h h' where
  keep:=fun b u q _ _ _=>k b u q
  slot:=fun b u q _ _ _=>⟨u.slots,k b u q⟩
  free:=fun b u q n _=>by rw[zv (Nat.ne_of_lt (Nat.lt_of_lt_of_le (Heap.lt_size q) hp))];exact n
  there:=fun b u q _=>⟨u,k b u q⟩
  tups:=fun b xs q=>by rw[zv (zr q hn)];exact q
  frzs:=fun b u xs q=>by rw[zv (zr q hn)];exact q
  tbls:=fun b ps q=>⟨#[],by rw[zv (zr q hn),q];simp⟩
theorem Un.write (mu:Mut (H x)) (he:e=x\/H e=some (.own x)) (k:∀b u,b≠e->h.get? b=some u->h'.get? b=some u) (heo:∃u,h'.get? e=some u):Un fs ex H (upd H x o) h h':=by
  have hx:∀b,H b=none->b≠x:=fun b n z=>by subst z;rw[n] at mu;exact mu
  have hb:∀b,H b=none->b≠e:=fun b n z=>by
    subst z;rcases he with r | r
    · exact hx b n r
    · rw[n] at r;cases r
  have hm:∀b u,H b=some u->¬Mut (some u)->b≠x:=fun b u q nm z=>by subst z;rw[q] at mu;exact nm mu
  refine⟨fun b u q n _ _=>k b u (hb b n) q,fun b u q n _ _=>⟨u.slots,k b u (hb b n) q⟩,fun b u q n _=>by rw[zv (hx b n)];exact n,fun b u q _=>?_,
    fun b xs q=>by rw[zv (hm b _ q fun z=>z)];exact q,fun b u xs q=>by rw[zv (hm b _ q fun z=>z)];exact q,fun b ps q=>⟨#[],by rw[zv (hm b _ q fun z=>z),q];simp⟩⟩
  by_cases hbe:b=e
  · subst hbe;exact heo
  · exact⟨u,k b u hbe q⟩
end
def trk (h:Heap) (H:Hp):List Addr:=(List.range h.objs.size).filter fun a=>(H a).isSome
def hidT (h:Heap) (H:Hp):Heap:=PySem.W.hideAll h (trk h H)
theorem zq1 (h:Heap) (H:Hp):(hidT h H).objs.size=h.objs.size:=PySem.W.hideAll_size _ _
theorem ztl {h:Heap}{H:Hp}{b:Addr}{o:Obj}(e:h.get? b=some o) (n:H b=none):(hidT h H).get? b=some o:=
  PySem.W.hideAll_get _ e fun hm=>by
    have q:(H b).isSome=true:=(List.mem_filter.mp hm).2;rw[n] at q;simp at q
theorem zvv {h:Heap}{H:Hp}{b:Addr}{o:Obj}(e:(hidT h H).get? b=some o):h.get? b=some o/\H b=none:=by
  have e':h.get? b=some o:=PySem.W.of_hideAll (trk h H) e;refine⟨e',?_⟩;cases q:H b with
  | none=>rfl
  | some x=>
    have hm:b∈trk h H:=List.mem_filter.mpr ⟨List.mem_range.mpr (Heap.lt_size e'),by simp[q]⟩;have z:(hidT h H).get? b=none:=PySem.W.hideAll_none (trk h H) hm;rw[z] at e;cases e
def zvw (g h:Heap) (L:Addr):List (Addr×Obj):=(List.range h.objs.size).filterMap fun a=>if a=L\/(g.get? a).isSome=true then none else (h.get? a).map fun o=>(a,o)
def rest (g h:Heap) (L d:Addr):List (Addr×Obj):=(zvw g h L).filter fun p=>decide (p.1≠d)
structure Mod (K:PySem.W.Frag) (mg:Str->Option Value) (base:Heap):Prop where
  kin:K.In base
  glob:base.Ns mainGlobals mg
  blt:∃mb,base.Ns builtinsNs mb/\∀x:Str,x≠"__name__"->mb x=bootBuiltins x
  nolimit:base.NoLimit
structure Cx where
  prog:Program
  w:World
  K:PySem.W.Frag
  mg:Str->Option Value
  base:Heap
  A:Around
  N:List Str
  s₀:Shared
  H₀:Hp
  env:Env
  outer:List Env
  stack:List Env
  ex:List Addr
  fn:Str->Bool
  calm:Bool
  pn:List (Addr×Obj)
  xe:Value->Shared->Prop
def frs (l:List Env):List Addr:=l.filterMap (·.frame)
abbrev Cx.fs (X:Cx):List Addr:=frs X.outer
def Vis (sc:Scope) (x:Str):Prop:=sc.names.lookup x=some .local\/sc.names.lookup x=some .cell\/sc.names.lookup x=some .free
def Loc (sc:Scope) (x:Str):Prop:=sc.names.lookup x=some .local\/sc.names.lookup x=some .cell
def Look (env:Env) (h:Heap) (m:Str->Option Value) (x:Str) (u:Value):Prop:=
  (env.kindOf x=some .local/\m x=some u)\/((env.kindOf x=some .cell\/env.kindOf x=some .free)/\∃c,env.cells.lookup x=some c/\h.IsCell c (some u))
structure Cx.Ok (X:Cx):Prop where
  mod:Mod X.K X.mg X.base
  kind:X.env.scope.kind = .function
  glob:X.env.globals=mainGlobals
  blt:X.env.builtins=builtinsNs
  above:X.s₀.heap.objs.size<=X.env.locals
  inj:∀x y c,X.env.cells.lookup x=some c->X.env.cells.lookup y=some c->x=y
  has:∀x,(X.env.kindOf x=some .cell\/X.env.kindOf x=some .free)->∃c,X.env.cells.lookup x=some c
  cab:∀x c,X.fn x=true->X.env.cells.lookup x=some c->X.s₀.heap.objs.size<=c
  hd:X.calm=true->X.A.handled=none
  frames:X.A.frames=some X.stack
  stk:X.stack=X.outer\/(X.stack=X.env::X.outer/\X.env.frame=some X.env.locals)
  exf:∀b∈X.ex,b≠X.env.locals/\∀x c,X.env.cells.lookup x=some c->c≠b
  bs:∀b o,X.base.get? b=some o->X.s₀.heap.get? b=some o/\X.H₀ b=none
  bsz:X.base.objs.size<=X.s₀.heap.objs.size
  noex:∀b o,X.base.get? b=some o->b ∉ X.ex
  exfs:∀b∈X.ex,b ∉ X.fs
  funs:X.s₀.heap.FunFrames X.base X.outer
  frf:∀b∈X.fs,X.H₀ b=none
structure Inv (X:Cx) (pins:List (Addr×Obj)) (σ:List (Option V)) (H:Hp) (s:Shared):Prop where
  ok:X.Ok
  os:s.os=X.s₀.os
  bare:AllBare s.gens
  base:Un X.fs X.ex X.H₀ H X.s₀.heap s.heap
  loc:∃m,s.heap.Ns X.env.locals m/\∀(i:Nat) (x:Str) (v:V),X.N[i]? = some x->σ[i]? = some (some v)->Vis X.env.scope x->∃u,RelV v u/\Look X.env s.heap m x u
  cell:∀x c,X.env.cells.lookup x=some c->∃v,s.heap.IsCell c v
  free:H X.env.locals=none
  freeC:∀x c,X.env.cells.lookup x=some c->H c=none
  pin:∀p∈X.pn++pins,s.heap.get? p.1=some p.2/\H p.1=none/\p.1≠X.env.locals/\p.1 ∉ X.fs/\∀v,p.2.data≠.cell v
  hok:HOk X.prog X.w H s.heap
  len:σ.length=X.N.length
section
variable {X:Cx}{pins:List (Addr×Obj)}{σ:List (Option V)}{H H':Hp}{s:Shared}{h':Heap}
theorem Cx.Ok.nofr (ok:X.Ok) {b:Addr}{o:Obj}(e:X.base.get? b=some o):b ∉ X.fs:=fun hb=>by
  have:=(ok.funs.mem hb).1;rw[e] at this;cases this
theorem Inv.bs (I:Inv X pins σ H s):∀b o,X.base.get? b=some o->s.heap.get? b=some o/\H b=none:=fun b o e=>
  ⟨I.base.keep b o (I.ok.bs b o e).1 (I.ok.bs b o e).2 (I.ok.nofr e) (I.ok.noex b o e),I.base.free b o (I.ok.bs b o e).1 (I.ok.bs b o e).2 (I.ok.noex b o e)⟩
theorem Inv.bk (I:Inv X pins σ H s):∀b o,X.base.get? b=some o->s.heap.get? b=some o:=fun b o e=>(I.bs b o e).1
theorem Inv.mod (I:Inv X pins σ H s):Mod X.K X.mg X.base:=I.ok.mod
theorem Inv.kIn (I:Inv X pins σ H s):X.K.In s.heap:=I.ok.mod.kin.keeps I.bk
theorem Inv.lt (I:Inv X pins σ H s):X.env.locals<s.heap.objs.size:=let ⟨_,hn,_⟩:=I.loc;hn.lt
theorem Inv.sz (I:Inv X pins σ H s):X.s₀.heap.objs.size<=s.heap.objs.size:=Nat.le_trans I.ok.above (Nat.le_of_lt I.lt)
theorem Inv.nofs (I:Inv X pins σ H s) {a:Addr}(h:s.heap.objs.size<=a):a ∉ X.fs:=fun hb=>by
  obtain⟨_,o,ho,_⟩:=I.ok.funs.mem hb;exact absurd (Nat.lt_of_lt_of_le (Heap.lt_size ho) (Nat.le_trans I.sz h)) (Nat.lt_irrefl _)
theorem Inv.cne (I:Inv X pins σ H s):∀x c,X.env.cells.lookup x=some c->c≠X.env.locals:=fun x c e z=>by
  obtain⟨v,o,ho,hd⟩:=I.cell x c e;obtain⟨m,⟨o',es,ep,ho',hd',_⟩,_⟩:=I.loc;rw[z,ho'] at ho;cases ho;rw[hd'] at hd;cases hd
theorem Inv.funs (I:Inv X pins σ H s):s.heap.FunFrames X.base X.outer:=by
  have all:∀(l:List Env),(∀b∈frs l,b∈X.fs)->X.s₀.heap.FunFrames X.base l->s.heap.FunFrames X.base l:=by
    intro l
    induction l with
    | nil=>intro _ _;trivial
    | cons env r ih=>
      intro hs hl;obtain⟨hk,⟨L,o,hf,hn,ho,hd⟩,hr⟩:=hl;have hL:L∈X.fs:=hs L (by unfold frs;rw[List.filterMap_cons,hf];exact List.mem_cons_self);obtain⟨sl,e⟩:=I.base.slot L o ho (I.ok.frf L hL) hL fun z=>I.ok.exfs L z hL
      exact⟨hk,⟨L,_,hf,hn,e,hd⟩,ih (fun b hb=>hs b (by unfold frs;rw[List.filterMap_cons,hf];exact List.mem_cons_of_mem _ hb)) hr⟩
  exact all X.outer (fun _ hb=>hb) I.ok.funs
theorem Inv.stack (I:Inv X pins σ H s):s.heap.FunFrames X.base X.stack:=by
  rcases I.ok.stk with e | ⟨e,hf⟩
  · rw[e];exact I.funs
  · rw[e];obtain⟨m,hn,_⟩:=I.loc;refine .cons (by rw[I.ok.kind];decide) hf hn ?_ I.funs;exact Heap.get?_none_of_le (Nat.le_trans I.ok.bsz I.ok.above)
theorem Inv.stkSub (I:Inv X pins σ H s):∀b∈frs X.stack,b∈X.env.locals::X.fs:=fun b hb=>by
  rcases I.ok.stk with e | ⟨e,hf⟩
  · rw[e] at hb;exact List.mem_cons_of_mem _ hb
  · rw[e] at hb;unfold frs at hb;rw[List.filterMap_cons,hf] at hb;exact hb
theorem Inv.stkFree (I:Inv X pins σ H s):∀b∈frs X.stack,H b=none:=fun b hb=>by
  rcases List.mem_cons.mp (I.stkSub b hb) with e | hb
  · rw[e];exact I.free
  · obtain⟨_,o,ho,_⟩:=I.ok.funs.mem hb;exact I.base.free b o ho (I.ok.frf b hb) fun z=>I.ok.exfs b z hb
theorem Inv.step {g':Array GenState}{t':Nat}{d':Drawn}{ch:List Addr}(I:Inv X pins σ H s)
    (hch:∀b∈ch,(b∈X.ex\/X.s₀.heap.objs.size<=b)/\b≠X.env.locals/\(∀x c,X.env.cells.lookup x=some c->c≠b)/\∀p∈X.pn++pins,p.1≠b)
    (keep:∀b o,b≠X.env.locals->b ∉ X.fs->b ∉ ch->s.heap.get? b=some o->H b=none->h'.get? b=some o)
    (slot:∀b o,b≠X.env.locals->b∈X.fs->b ∉ ch->s.heap.get? b=some o->H b=none->∃sl,h'.get? b=some { o with slots:=sl }) (free:∀b o,b ∉ ch->s.heap.get? b=some o->H b=none->H' b=none)
    (there:∀b o,b ∉ ch->s.heap.get? b=some o->∃o',h'.get? b=some o')
    (tups:∀b xs,H b=some (.tup xs)->H' b=some (.tup xs)) (frzs:∀b o u,H b=some (.frz o u)->H' b=some (.frz o u)) (tbls:∀b ps,H b=some (.tbl ps)->∃more,H' b=some (.tbl (ps++more)))
    (ns:∀m,s.heap.Ns X.env.locals m->h'.Ns X.env.locals m) (hok:HOk X.prog X.w H' h') (hg:AllBare g') :
    Inv X pins σ H' { s with heap:=h',gens:=g',drawn:=d',toks:=t' }:=by
  have neL:∀b o,X.s₀.heap.get? b=some o->b≠X.env.locals:=fun b o e=>Nat.ne_of_lt (Nat.lt_of_lt_of_le (Heap.lt_size e) I.ok.above)
  have neC:∀b o,X.s₀.heap.get? b=some o->b ∉ X.ex->b ∉ ch:=fun b o e hx hb=>by
    rcases (hch b hb).1 with z | z
    · exact hx z
    · exact absurd (Nat.lt_of_lt_of_le (Heap.lt_size e) z) (Nat.lt_irrefl _)
  have cellK:∀x c,X.env.cells.lookup x=some c->∀v,s.heap.IsCell c v->h'.IsCell c v:=fun x c e v ⟨o,ho,hd⟩=>by
    have nch:c ∉ ch:=fun z=>(hch c z).2.2.1 x c e rfl
    by_cases hc:c∈X.fs
    · obtain⟨sl,q⟩:=slot c o (I.cne x c e) hc nch ho (I.freeC x c e);exact⟨_,q,hd⟩
    · exact⟨o,keep c o (I.cne x c e) hc nch ho (I.freeC x c e),hd⟩
  refine⟨I.ok,I.os,hg,⟨fun b o e n hb hx=>?_,fun b o e n hb hx=>?_,fun b o e n hx=>?_,fun b o e hx=>?_,fun b xs e=>tups b xs (I.base.tups b xs e),fun b o xs e=>frzs b o xs (I.base.frzs b o xs e),fun b ps e=>?_⟩,?_,fun x c e=>?_,?_,fun x c e=>?_,fun p hp=>?_,hok,I.len⟩
  · exact keep b o (neL b o e) hb (neC b o e hx) (I.base.keep b o e n hb hx) (I.base.free b o e n hx)
  · obtain⟨sl,e1⟩:=I.base.slot b o e n hb hx;obtain⟨sl',e2⟩:=slot b _ (neL b o e) hb (neC b o e hx) e1 (I.base.free b o e n hx);exact⟨sl',e2⟩
  · obtain⟨o',e1⟩:=I.base.there b o e hx;exact free b o' (neC b o e hx) e1 (I.base.free b o e n hx)
  · obtain⟨o',e1⟩:=I.base.there b o e hx;exact there b o' (neC b o e hx) e1
  · obtain⟨m1,e1⟩:=I.base.tbls b ps e;obtain⟨m2,e2⟩:=tbls b _ e1;exact⟨m1++m2,by rw[e2,Array.append_assoc]⟩
  · obtain⟨m,hn,hl⟩:=I.loc;refine⟨m,ns m hn,fun i x v e1 e2 e3=>?_⟩;obtain⟨u,r,l⟩:=hl i x v e1 e2 e3;refine⟨u,r,?_⟩;rcases l with l | ⟨k,c,e,z⟩
    · exact .inl l
    · exact .inr ⟨k,c,e,cellK x c e _ z⟩
  · obtain⟨v,z⟩:=I.cell x c e;exact⟨v,cellK x c e v z⟩
  · obtain⟨m,⟨o,_,_,ho,_⟩,_⟩:=I.loc;exact free _ o (fun z=>(hch _ z).2.1 rfl) ho I.free
  · obtain⟨v,o,ho,hd⟩:=I.cell x c e;exact free c o (fun z=>(hch c z).2.2.1 x c e rfl) ho (I.freeC x c e)
  · obtain⟨e,n,ne,nf,d⟩:=I.pin p hp;have nch:p.1 ∉ ch:=fun z=>(hch p.1 z).2.2.2 p hp rfl
    exact⟨keep p.1 p.2 ne nf nch e n,free p.1 p.2 nch e n,ne,nf,d⟩
theorem Inv.un {t':Nat}(I:Inv X pins σ H s) (u:Un X.fs [] H H' s.heap h') (hok:HOk X.prog X.w H' h'):Inv X pins σ H' { s with heap:=h',toks:=t' }:=by
  obtain⟨m,⟨o,es,ep,ho,r⟩,_⟩:=id I.loc;obtain⟨sl,hL⟩:=u.any ho I.free (by simp);exact I.step (g':=s.gens) (d':=s.drawn) (ch:=[]) (fun _ z=>nomatch z) (fun b o _ hb _ e n=>u.keep b o e n hb (by simp)) (fun b o _ hb _ e n=>u.slot b o e n hb (by simp)) (fun b o _ e n=>u.free b o e n (by simp)) (fun b o _ e=>u.there b o e (by simp)) u.tups u.frzs u.tbls (fun m' hm=>by
    obtain⟨o',es',ep',ho',r'⟩:=hm;rw[ho] at ho';cases ho';exact⟨_,es',ep',hL,r'⟩) hok I.bare
theorem Inv.call {g':Array GenState}{t':Nat}{d':Drawn}{ch:List Addr}(I:Inv X pins σ H s) (u:Un (frs X.stack) ch H H' s.heap h') (hok:HOk X.prog X.w H' h') (hg:AllBare g')
    (hch:∀b∈ch,(b∈X.ex\/X.s₀.heap.objs.size<=b)/\b≠X.env.locals/\(∀x c,X.env.cells.lookup x=some c->c≠b)/\∀p∈X.pn++pins,p.1≠b) :
    Inv X pins σ H' { s with heap:=h',gens:=g',drawn:=d',toks:=t' }:=by
  obtain⟨m,⟨o,es,ep,ho,r⟩,_⟩:=id I.loc;obtain⟨sl,hL⟩:=u.any ho I.free fun z=>(hch _ z).2.1 rfl
  exact I.step (ch:=ch) hch (fun b o hL hb hc e n=>u.keep b o e n (fun z=>(List.mem_cons.mp (I.stkSub b z)).elim hL hb) hc) (fun b o _ _ hc e n=>u.any e n hc) (fun b o hc e n=>u.free b o e n hc) (fun b o hc e=>u.there b o e hc) u.tups u.frzs u.tbls (fun m' hm=>by
    obtain⟨o',es',ep',ho',r'⟩:=hm;rw[ho] at ho';cases ho';exact⟨_,es',ep',hL,r'⟩) hok hg
theorem Inv.turned {t':Nat}{it:Addr}(I:Inv X pins σ H s) (k:∀b o,b≠it->s.heap.get? b=some o->h'.get? b=some o) (hn:H it=none) (hL:it≠X.env.locals)
    (h1:it∈X.ex\/X.s₀.heap.objs.size<=it) (h2:∀x c,X.env.cells.lookup x=some c->c≠it) (h3:∀p∈X.pn++pins,p.1≠it):Inv X pins σ H { s with heap:=h',toks:=t' }:=by
  have nit:∀b u,H b=some u->b≠it:=fun b u e z=>by rw[z,hn] at e;cases e
  refine I.step (g':=s.gens) (d':=s.drawn) (ch:=[it]) (fun b hb=>?_) (fun b o _ _ hc e _=>k b o (fun z=>hc (by simp[z])) e) (fun b o _ _ hc e _=>⟨o.slots,k b o (fun z=>hc (by simp[z])) e⟩) (fun _ _ _ _ n=>n)
    (fun b o hc e=>⟨o,k b o (fun z=>hc (by simp[z])) e⟩) (fun _ _ e=>e) (fun _ _ _ e=>e) (fun b ps e=>⟨#[],by rw[e];simp⟩) (fun m hm=>?_) (fun b u e=>?_) I.bare
  · have e:b=it:=by simpa using hb
    subst e;exact⟨h1,hL,h2,h3⟩
  · obtain⟨o,es,ep,ho,r⟩:=hm;exact⟨o,es,ep,k _ o (Ne.symm hL) ho,r⟩
  · refine (I.hok b u e).stay (fun c v hc q=>k c v ?_ q) (fun _ q=>q) fun _ _ q=>q
    rcases hc with z | z
    · rw[z];exact nit b u e
    · exact nit c _ z
theorem Inv.tok (I:Inv X pins σ H s) (t:Nat):Inv X pins σ H { s with toks:=t }:=I.un (h':=s.heap) (t':=t) Un.refl I.hok
theorem Inv.kept {t':Nat}(I:Inv X pins σ H s) (k:∀b u,s.heap.get? b=some u->h'.get? b=some u):Inv X pins σ H { s with heap:=h',toks:=t' }:=I.un (Un.kept k) (I.hok.kept k)
theorem Inv.laid {a:Addr}{o:HO}{t':Nat}(I:Inv X pins σ H s) (k:∀b u,s.heap.get? b=some u->h'.get? b=some u) (hp:s.heap.objs.size<=a) (new:ObjOk X.prog X.w (upd H a o) h' a o) :
    Inv X pins σ (upd H a o) { s with heap:=h',toks:=t' }:=I.un (Un.laid k hp (I.hok.fresh hp)) (I.hok.laid k hp new)
theorem Inv.write {x e:Addr}{o:HO}{t':Nat}(I:Inv X pins σ H s) (mu:Mut (H x)) (he:e=x\/H e=some (.own x)) (k:∀b u,b≠e->s.heap.get? b=some u->h'.get? b=some u) (heo:∃u,h'.get? e=some u)
    (new:ObjOk X.prog X.w (upd H x o) h' x o):Inv X pins σ (upd H x o) { s with heap:=h',toks:=t' }:=I.un (Un.write mu he k heo) (I.hok.write mu he k heo new)
theorem Inv.pins_of {pins':List (Addr×Obj)}(I:Inv X pins σ H s) (h:∀p∈pins',s.heap.get? p.1=some p.2/\H p.1=none/\p.1≠X.env.locals/\p.1 ∉ X.fs/\∀v,p.2.data≠.cell v):Inv X pins' σ H s:=
  ⟨I.ok,I.os,I.bare,I.base,I.loc,I.cell,I.free,I.freeC,fun p hp=>(List.mem_append.mp hp).elim (fun z=>I.pin p (List.mem_append_left _ z)) (h p),I.hok,I.len⟩
theorem zj0 {N:List Str}(hN:N.Nodup) {i j:Nat}{x:Str}(a:N[i]? = some x) (b:N[j]? = some x):i=j:=by
  obtain⟨h1,e1⟩:=List.getElem?_eq_some_iff.mp a;obtain⟨h2,e2⟩:=List.getElem?_eq_some_iff.mp b;exact (List.getElem_inj hN).mp (e1.trans e2.symm)
theorem zhn {M:Model}{A:Around}{E:Value->Shared->Prop}{i:Nat}{x:Str}{v:V}{u:Value}{Q:Unit->Shared->Prop}(I:Inv X pins σ H s) (hN:X.N.Nodup) (hi:X.N[i]? = some x) (hx:Loc X.env.scope x) (r:RelV v u)
    (h:∀s',Inv X pins (σ.set i (some v)) H s'->(∃a,Heap.SameBut a s.heap s'.heap/\(a=X.env.locals\/X.env.cells.lookup x=some a))->Q () s') (hf:X.fn x=true\/X.env.scope.names.lookup x=some .local:=by first | exact .inl rfl | exact .inr rfl | assumption):wpAny M A (storeName X.env x u) Q E s:=by
  obtain⟨m,hn,hl⟩:=id I.loc;have hcls:(X.env.scope.kind == .class||(X.env.scope.kind == .module&&X.env.locals != X.env.globals))=false:=by rw[I.ok.kind];rfl
  have hiσ:i<σ.length:=by rw[I.len];exact (List.getElem?_eq_some_iff.mp hi).1
  have cne:=I.cne;have tracked:∀{a:Addr}{h':Heap},(∃o,s.heap.get? a=some o/\H a=none)->Heap.SameBut a s.heap h'->HOk X.prog X.w H h':=fun {a h'} ha hs b ob e=>by
    obtain⟨_,_,hfree⟩:=ha;refine (I.hok b ob e).stay (fun c w' hc q=>(hs.2 c ?_).trans q) (fun _ q=>q) fun _ _ q=>q
    rintro rfl;rcases hc with rfl | hc
    · rw[hfree] at e;cases e
    · rw[hfree] at hc;cases hc
  rcases hx with hk | hk
  · refine wpAny_storeName_local hk hn (fun h' hn' hs=>?_) hcls;obtain⟨oL,_,_,hoL,_⟩:=id hn;refine h _ ⟨I.ok,I.os,I.bare,⟨fun b o e n hb hx=>?_,fun b o e n hb hx=>?_,I.base.free,fun b o e hx=>?_,I.base.tups,I.base.frzs,I.base.tbls⟩,⟨_,hn',fun j y v' e1 e2 e3=>?_⟩,fun y c e=>?_,I.free,I.freeC,fun p hp=>?_,tracked ⟨oL,hoL,I.free⟩ hs,by simpa using I.len⟩ ⟨_,hs,.inl rfl⟩
    · exact (hs.2 b (Nat.ne_of_lt (Nat.lt_of_lt_of_le (Heap.lt_size e) I.ok.above))).trans (I.base.keep b o e n hb hx)
    · obtain⟨sl,e1⟩:=I.base.slot b o e n hb hx;exact⟨sl,(hs.2 b (Nat.ne_of_lt (Nat.lt_of_lt_of_le (Heap.lt_size e) I.ok.above))).trans e1⟩
    · obtain⟨o',e1⟩:=I.base.there b o e hx;exact⟨o',(hs.2 b (Nat.ne_of_lt (Nat.lt_of_lt_of_le (Heap.lt_size e) I.ok.above))).trans e1⟩
    · by_cases hj:j=i
      · subst hj;rw[hi] at e1;cases e1;rw[List.getElem?_set_self hiσ] at e2;cases e2;exact⟨u,r,.inl ⟨hk,by simp⟩⟩
      · rw[List.getElem?_set_ne (Ne.symm hj)] at e2;obtain⟨u',r',q⟩:=hl j y v' e1 e2 e3;refine⟨u',r',?_⟩;rcases q with ⟨k,e⟩ | ⟨k,c,e,z⟩
        · refine .inl ⟨k,?_⟩;have:y≠x:=fun e=>hj (zj0 hN e1 (e▸hi))
          simp[this,e]
        · exact .inr ⟨k,c,e,z.sameBut hs (cne y c e)⟩
    · obtain⟨w',z⟩:=I.cell y c e;exact⟨w',z.sameBut hs (cne y c e)⟩
    · obtain⟨e,n,ne,nf,d⟩:=I.pin p hp;exact⟨(hs.2 p.1 ne).trans e,n,ne,nf,d⟩
  · have hfn:X.fn x=true:=by
      rcases hf with z | z
      · exact z
      · rw[z] at hk;cases hk
    obtain⟨c,hc⟩:=I.ok.has x (.inl hk);obtain⟨w',z⟩:=I.cell x c hc;refine wpAny_storeName_cell I.ok.kind hk hc z (fun h' hc' hs=>?_);obtain⟨oc,hoc,hocd⟩:=id z;refine h { s with heap:=h' } ⟨I.ok,I.os,I.bare,⟨fun b o e n hb hx=>?_,fun b o e n hb hx=>?_,I.base.free,fun b o e hx=>?_,I.base.tups,I.base.frzs,I.base.tbls⟩,⟨m,hn.sameBut hs (Ne.symm (cne x c hc)),fun j y v' e1 e2 e3=>?_⟩,fun y c' e=>?_,I.free,I.freeC,fun p hp=>?_,tracked ⟨oc,hoc,I.freeC x c hc⟩ hs,by simpa using I.len⟩ ⟨c,hs,.inr hc⟩
    · exact (hs.2 b (Nat.ne_of_lt (Nat.lt_of_lt_of_le (Heap.lt_size e) (I.ok.cab x c hfn hc)))).trans (I.base.keep b o e n hb hx)
    · obtain⟨sl,e1⟩:=I.base.slot b o e n hb hx;exact⟨sl,(hs.2 b (Nat.ne_of_lt (Nat.lt_of_lt_of_le (Heap.lt_size e) (I.ok.cab x c hfn hc)))).trans e1⟩
    · obtain⟨o',e1⟩:=I.base.there b o e hx;exact⟨o',(hs.2 b (Nat.ne_of_lt (Nat.lt_of_lt_of_le (Heap.lt_size e) (I.ok.cab x c hfn hc)))).trans e1⟩
    · by_cases hj:j=i
      · subst hj;rw[hi] at e1;cases e1;rw[List.getElem?_set_self hiσ] at e2;cases e2;exact⟨u,r,.inr ⟨.inl hk,c,hc,hc'⟩⟩
      · rw[List.getElem?_set_ne (Ne.symm hj)] at e2;obtain⟨u',r',q⟩:=hl j y v' e1 e2 e3;refine⟨u',r',?_⟩;rcases q with q | ⟨k,c',e,z'⟩
        · exact .inl q
        · refine .inr ⟨k,c',e,z'.sameBut hs ?_⟩;rintro rfl;exact hj (zj0 hN e1 (I.ok.inj _ _ _ e hc▸hi))
    · by_cases hcc:c'=c
      · subst hcc;exact⟨_,hc'⟩
      · obtain⟨w2,z2⟩:=I.cell y c' e;exact⟨w2,z2.sameBut hs hcc⟩
    · obtain⟨e,n,ne,nf,d⟩:=I.pin p hp;refine⟨(hs.2 p.1 ?_).trans e,n,ne,nf,d⟩;intro q;rw[q,hoc] at e;have q':oc=p.2:=Option.some.inj e;exact d w' (by rw[←q'];exact hocd)
theorem zdf {M:Model}{A:Around}{E:Value->Shared->Prop}{i:Nat}{x:Str}{v:V}{u:Value}{Q:Unit->Shared->Prop}(I:Inv X pins σ H s) (hN:X.N.Nodup) (hi:X.N[i]? = some x) (hx:Loc X.env.scope x) (r:RelV v u)
    (h:∀s',Inv X pins (σ.set i (some v)) H s'->Q () s') (hf:X.fn x=true\/X.env.scope.names.lookup x=some .local:=by first | exact .inl rfl | exact .inr rfl | assumption):wpAny M A (storeName X.env x u) Q E s:=
  zhn I hN hi hx r (fun s' I' _=>h s' I') hf
theorem Inv.call' {s':Shared}{ch:List Addr}(I:Inv X pins σ H s) (ho:s'.os=s.os) (u:Un (frs X.stack) ch H H' s.heap s'.heap) (hok:HOk X.prog X.w H' s'.heap) (hg:AllBare s'.gens)
    (hch:∀b∈ch,(b∈X.ex\/X.s₀.heap.objs.size<=b)/\b≠X.env.locals/\(∀x c,X.env.cells.lookup x=some c->c≠b)/\∀p∈X.pn++pins,p.1≠b):Inv X pins σ H' s':=by
  obtain⟨h',g',d',t',o'⟩:=s';have e:o'=s.os:=ho;subst e;exact I.call (g':=g') (t':=t') (d':=d') u hok hg hch
end
abbrev XK:=Value->Option Addr->Hp->Prop
abbrev St:=List (Option V)
abbrev VK:=V->Hp->Prop
abbrev TE:=St->Hp->VK->Prop
abbrev TT:=St->Hp->(Bool->Hp->Prop)->Prop
abbrev TA:=St->Hp->(List V->Hp->Prop)->Prop
structure Ends where
  nx:St->Hp->Prop
  rt:VK
  bk:St->Hp->Prop:=fun _ _=>False
  ct:St->Hp->Prop:=fun _ _=>False
abbrev TS:=Ends->St->Hp->Prop
def EP (X:Cx) (pins:List (Addr×Obj)) (σ:St) (Q:VK) (u:Value) (s':Shared):Prop:=∃v H',Inv X pins σ H' s'/\RelV v u/\Q v H'
def TP (X:Cx) (pins:List (Addr×Obj)) (σ:St) (Q:Bool->Hp->Prop) (b:Bool) (s':Shared):Prop:=∃H',Inv X pins σ H' s'/\Q b H'
def AP (X:Cx) (pins:List (Addr×Obj)) (σ:St) (Q:List V->Hp->Prop) (us:List Value) (s':Shared):Prop:=∃vs H',Inv X pins σ H' s'/\Vals vs us/\Q vs H'
def SP (X:Cx) (pins:List (Addr×Obj)) (D:Ends) (f:Flow) (s':Shared):Prop:=
  match f with
  | .next=>∃σ' H',Inv X pins σ' H' s'/\D.nx σ' H'
  | .brk=>∃σ' H',Inv X pins σ' H' s'/\D.bk σ' H'
  | .cont=>∃σ' H',Inv X pins σ' H' s'/\D.ct σ' H'
  | .ret u=>∃v σ' H',Inv X pins σ' H' s'/\RelV v u/\D.rt v H'
def PE (X:Cx) (e:Expr) (t:TE):Prop:=
  ∀(pins:List (Addr×Obj)) (s:Shared) (σ:St) (H:Hp) (Q:VK),Inv X pins σ H s->t σ H Q->wpAny (model X.prog X.w) X.A (eval e X.env) (EP X pins σ Q) X.xe s
def PT (X:Cx) (e:Expr) (t:TT):Prop:=
  ∀(pins:List (Addr×Obj)) (s:Shared) (σ:St) (H:Hp) (Q:Bool->Hp->Prop),Inv X pins σ H s->t σ H Q->wpAny (model X.prog X.w) X.A (isTrue e X.env (eval e X.env)) (TP X pins σ Q) X.xe s
def PW (X:Cx) (e:Expr) (t:TT):Prop:=
  ∀(whole:Sem Value) (pins:List (Addr×Obj)) (s:Shared) (σ:St) (H:Hp) (Q:Bool->Hp->Prop),Inv X pins σ H s->t σ H Q->wpAny (model X.prog X.w) X.A (isTrue e X.env whole) (TP X pins σ Q) X.xe s
theorem PW.pt {X:Cx}{e:Expr}{t:TT}(h:PW X e t):PT X e t:=h _
def PA (X:Cx) (es:List Expr) (t:TA):Prop:=
  ∀(pos:Pos) (pins:List (Addr×Obj)) (s:Shared) (σ:St) (H:Hp) (Q:List V->Hp->Prop),Inv X pins σ H s->t σ H Q->wpAny (model X.prog X.w) X.A (spliced (backTo pos (starEach es X.env))) (AP X pins σ Q) X.xe s
def PS (X:Cx) (st:Stmt) (t:TS):Prop:=
  ∀(pins:List (Addr×Obj)) (s:Shared) (σ:St) (H:Hp) (D:Ends),Inv X pins σ H s->t D σ H->wpAny (model X.prog X.w) X.A (exec st X.env) (SP X pins D) X.xe s
def PSs (X:Cx) (st:List Stmt) (t:TS):Prop:=
  ∀(pins:List (Addr×Obj)) (s:Shared) (σ:St) (H:Hp) (D:Ends),Inv X pins σ H s->t D σ H->wpAny (model X.prog X.w) X.A (execs st X.env) (SP X pins D) X.xe s
theorem thn {α:Type}{t:Sem α}{Q Q':α->Shared->Prop}{M:Model}{A:Around}{E:Value->Shared->Prop}{s:Shared}(h:wpAny M A t Q E s) (hQ:∀a s,Q a s->Q' a s):wpAny M A t Q' E s:=wpAny_mono h hQ fun _ _ x=>x
section
variable {X:Cx}
theorem bin {a b:Expr}{ta tb:TE}(ha:PE X a ta) (hb:PE X b tb) {pins:List (Addr×Obj)}{s:Shared}{σ:St}{H:Hp}{R:V->V->Hp->Prop}(I:Inv X pins σ H s) (h:ta σ H fun x H1=>tb σ H1 fun y H2=>R x y H2)
    {α:Type}{Q:α->Shared->Prop}{f:Value->Value->Sem α}
    (hf:∀v u s2 x y H2,Inv X pins σ H2 s2->RelV x v->RelV y u->R x y H2->wpAny (model X.prog X.w) X.A (f v u) Q X.xe s2) :
    wpAny (model X.prog X.w) X.A (eval a X.env) (fun v s₁=>wpAny (model X.prog X.w) X.A (eval b X.env) (fun u s₂=>wpAny (model X.prog X.w) X.A (f v u) Q X.xe s₂) X.xe s₁) X.xe s:=by
  refine thn (ha pins s σ H _ I h) fun v s1 hq0=>?_
  obtain⟨x,H1,I1,r1,q1⟩:=hq0;refine thn (hb pins s1 σ H1 _ I1 q1) fun u s2 hq0=>?_
  obtain⟨y,H2,I2,r2,q2⟩:=hq0;exact hf v u s2 x y H2 I2 r1 r2 q2
def tVar (i:Nat):TE:=fun σ H Q=>∃v,σ[i]? = some (some v)/\Q v H
def tC (v:V):TE:=fun _ H Q=>Q v H
theorem zxx {i:Nat}{x:Str}{pos:Pos}(hN:X.N[i]? = some x) (hv:Vis X.env.scope x) (hd:(x == ("__debug__" : Str))=false:=by decide) (hcd:(x == ("__classdict__" : Str))=false:=by decide):PE X (.Name x pos) (tVar i):=by
  intro pins s σ H Q I h;obtain⟨v,e,h⟩:=h;obtain⟨m,hn,hl⟩:=I.loc;obtain⟨u,r,l⟩:=hl i x v hN e hv;have fin:EP X pins σ Q u s:=⟨v,H,I,r,h⟩;rcases l with ⟨hk,hm⟩ | ⟨hk,c,hc,hcell⟩
  · exact wpAny_Name (wpAny_loadName_local I.ok.kind hk hn hm fin) hd
  · rcases hk with hk | hk
    · exact wpAny_Name (wpAny_loadName_cell I.ok.kind hk hc hcell fin) hd
    · exact wpAny_Name (wpAny_loadName_free I.ok.kind hk hc hcell fin hcd) hd
theorem zn {i j pos}:PE X (.Constant (.int i) j pos) (tC (.int i)):=fun _ _ _ H _ I h=>wpAny_Constant_int ⟨.int i,H,I.tok _,⟨_,rfl⟩,h⟩
theorem zho {b j pos}:PE X (.Constant (.bool b) j pos) (tC (.bl b)):=fun _ _ _ H _ I h=>Constant_bool ⟨.bl b,H,I,rfl,h⟩
theorem zoc {j pos}:PE X (.Constant .none j pos) (tC .non):=fun _ _ _ H _ I h=>Constant_none ⟨.non,H,I,rfl,h⟩
theorem zw {x j pos}:PE X (.Constant (.str x) j pos) (tC (.str x)):=fun _ _ _ H _ I h=>Calls.Constant_str ⟨.str x,H,I.tok _,⟨_,rfl⟩,h⟩
def Gl (X:Cx) (x:Str):Prop:=X.env.kindOf x=some .globalImplicit
theorem zdg {E:Value->Shared->Prop}{pins:List (Addr×Obj)}{s:Shared}{σ:St}{H:Hp}{x:Str}{u:Value}{pos:Pos}{Q:Value->Shared->Prop}(I:Inv X pins σ H s) (hg:Gl X x) (hm:X.mg x=some u) (h:Q u s)
    (hd:(x == ("__debug__" : Str))=false:=by decide):wpAny (model X.prog X.w) X.A (eval (.Name x pos) X.env) Q E s:=
  Calls.Name_function_global I.ok.kind hg (Calls.loadGlobal_global (by rw[I.ok.glob];exact I.mod.glob.keeps I.bk) hm h) hd
theorem zi7 {E:Value->Shared->Prop}{pins:List (Addr×Obj)}{s:Shared}{σ:St}{H:Hp}{x:Str}{u:Value}{pos:Pos}{Q:Value->Shared->Prop}(I:Inv X pins σ H s) (hg:Gl X x) (hm:X.mg x=none) (hv:bootBuiltins x=some u) (h:Q u s)
    (hn:x≠"__name__":=by decide) (hd:(x == ("__debug__" : Str))=false:=by decide):wpAny (model X.prog X.w) X.A (eval (.Name x pos) X.env) Q E s:=by
  obtain⟨mb,h1,h2⟩:=I.mod.blt;exact Calls.Name_function_global I.ok.kind hg (Calls.loadGlobal_builtin (by rw[I.ok.glob];exact I.mod.glob.keeps I.bk) hm (by rw[I.ok.blt];exact h1.keeps I.bk) ((h2 x hn).trans hv) h) hd
theorem zj1 {x:Str}{v:V}{u:Value}{pos:Pos}(hg:Gl X x) (hm:X.mg x=some u) (r:RelV v u) (hd:(x == ("__debug__" : Str))=false:=by decide):PE X (.Name x pos) (tC v):=
  fun _ _ _ H _ I h=>zdg I hg hm ⟨v,H,I,r,h⟩ hd
theorem zq2 {x:Str}{v:V}{u:Value}{pos:Pos}(hg:Gl X x) (hm:X.mg x=none) (hv:bootBuiltins x=some u) (r:RelV v u) (hn:x≠"__name__":=by decide) (hd:(x == ("__debug__" : Str))=false:=by decide):PE X (.Name x pos) (tC v):=
  fun _ _ _ H _ I h=>zi7 I hg hm hv ⟨v,H,I,r,h⟩ hn hd
variable {a b:Expr}{ta tb:TE}{pos:Pos}
def PC (X:Cx) (op:CmpOp) (a b:Expr) (t:TE):Prop:=
  ∀(pins:List (Addr×Obj)) (s:Shared) (σ:St) (H:Hp) (Q:VK),Inv X pins σ H s->t σ H Q->
    wpAny (model X.prog X.w) X.A (eval a X.env) (fun v s₁=>wpAny (model X.prog X.w) X.A (eval b X.env) (fun u s₂=>wpAny (model X.prog X.w) X.A (compareOp op v u) (EP X pins σ Q) X.xe s₂) X.xe s₁) X.xe s
theorem zod (b:Expr) {op:CmpOp}(h:op≠.In) (h2:op≠.NotIn):behindInMarks op b=false:=by
  have e1:(op == CmpOp.In)=false:=by cases op<;>first | rfl | exact absurd rfl h
  have e2:(op == CmpOp.NotIn)=false:=by cases op<;>first | rfl | exact absurd rfl h2
  cases b<;>simp[behindInMarks,e1,e2]
def tIsN (ta:TE):TE:=fun σ H Q=>ta σ H fun x H1=>Q (.bl (decide (x = .non))) H1
theorem RelV.none_iff {x:V}{v:Value}(r:RelV x v):(v == Value.none)=decide (x = .non):=by
  cases x with
  | non=>cases r;rfl
  | bl _=>cases r;rfl
  | int _=>obtain⟨t,rfl⟩:=r;rfl
  | str _=>obtain⟨t,rfl⟩:=r;rfl
  | byt _=>obtain⟨t,rfl⟩:=r;rfl
  | flt _=>obtain⟨t,rfl⟩:=r;rfl
  | ref _=>cases r;rfl
  | ty _=>cases r;rfl
theorem zi8 {j pos'}(ha:PE X a ta):PC X .Is a (.Constant .none j pos') (tIsN ta):=by
  intro pins s σ H Q I h;refine thn (ha pins s σ H _ I h) fun v s1 hq0=>?_
  obtain⟨x,H1,I1,r1,q1⟩:=hq0;exact Constant_none (is_none_gen ⟨.bl _,H1,I1,by rw[r1.none_iff];rfl,q1⟩)
def tB (t:TE):TT:=fun σ H Q=>t σ H fun x H1=>∃c,x = .bl c/\Q c H1
theorem zve {op:CmpOp}{t:TE}(h:PC X op a b t) (h1:behindInMarks op b=false:=by first | exact zod _ (by decide) (by decide) | rfl):PE X (.Compare a [op] [b] pos) t:=fun pins s σ H Q I hw=>wpAny_Compare1 (h pins s σ H Q I hw) h1
theorem zcx {op:CmpOp}{t:TE}(h:PC X op a b t) (h1:behindInMarks op b=false:=by first | exact zod _ (by decide) (by decide) | rfl):PT X (.Compare a [op] [b] pos) (tB t):=by
  intro pins s σ H Q I hw;refine wpAny_isTrue_Compare1 (thn (h pins s σ H _ I hw) fun v s1 h1=>thn h1 fun u s2 h2=>thn h2 fun c s3 hq0=>?_) h1;obtain⟨x,H1,I1,r1,q1⟩:=hq0;obtain⟨d,rfl,q⟩:=q1;cases r1;exact wpAny_truthy_bool ⟨H1,I1,q⟩
theorem zdr {e:Expr}{t:TE}(h:PE X e t) (he:∀whole,isTrue e X.env whole=(do let v ←whole;standAt e.pos;holding [v] (truthy v)):=by intro _;rfl):PT X e (tB t):=by
  intro pins s σ H Q I hw;refine isTrue_plain (thn (h pins s σ H _ I hw) fun v s1 hq0=>?_) (he _);obtain⟨x,H1,I1,r1,q1⟩:=hq0;obtain⟨d,rfl,q⟩:=q1;cases r1;exact wpAny_truthy_bool ⟨H1,I1,q⟩
variable {tA tB':TT}{rest:List Expr}
def tAnd (t u:TT):TT:=fun σ H Q=>t σ H fun c H1=>if c=true then u σ H1 Q else Q false H1
def tOr (t u:TT):TT:=fun σ H Q=>t σ H fun c H1=>if c=true then Q true H1 else u σ H1 Q
def tNot (t:TT):TT:=fun σ H Q=>t σ H fun c H1=>Q (!c) H1
theorem zca (ha:PT X a tA):PW X (.BoolOp .And [a] pos) tA:=by
  intro wh pins s σ H Q I h;refine isTrue_and (thn (ha pins s σ H Q I h) fun c s1 e=>?_);cases c with
  | true=>exact isTrue_and_nil e
  | false=>exact e
theorem zi9 (ha:PT X a tA):PW X (.BoolOp .Or [a] pos) tA:=by
  intro wh pins s σ H Q I h;refine isTrue_or (thn (ha pins s σ H Q I h) fun c s1 e=>?_);cases c with
  | false=>exact isTrue_or_nil e
  | true=>exact e
theorem zds (ha:PT X a tA) (hb:PW X (.BoolOp .And (b::rest) pos) tB'):PW X (.BoolOp .And (a::b::rest) pos) (tAnd tA tB'):=by
  intro wh pins s σ H Q I h;refine isTrue_and (thn (ha pins s σ H _ I h) fun c s1 hq0=>?_);obtain⟨H1,I1,q1⟩:=hq0;cases c with
  | true=>exact hb wh pins s1 σ H1 Q I1 q1
  | false=>exact⟨H1,I1,q1⟩
theorem zk4 (ha:PT X a tA) (hb:PW X (.BoolOp .Or (b::rest) pos) tB'):PW X (.BoolOp .Or (a::b::rest) pos) (tOr tA tB'):=by
  intro wh pins s σ H Q I h;refine isTrue_or (thn (ha pins s σ H _ I h) fun c s1 hq0=>?_);obtain⟨H1,I1,q1⟩:=hq0;cases c with
  | true=>exact⟨H1,I1,q1⟩
  | false=>exact hb wh pins s1 σ H1 Q I1 q1
theorem zez (ha:PT X a tA):PT X (.UnaryOp .Not a pos) (tNot tA):=by
  intro pins s σ H Q I h;exact isTrue_not (ha pins s σ H (fun c H1=>Q (!c) H1) I h)
def zzi (ta tb:TE):TE:=fun σ H Q=>ta σ H fun x H1=>∃c,x = .bl c/\if c=true then tb σ H1 Q else Q (.bl false) H1
def tOrV (ta tb:TE):TE:=fun σ H Q=>ta σ H fun x H1=>∃c,x = .bl c/\if c=true then Q (.bl true) H1 else tb σ H1 Q
theorem zvf {op}{t:TE}(h:PE X a t):PE X (.BoolOp op [a] pos) t:=fun pins s σ H Q I hw=>BoolOp_one (h pins s σ H Q I hw)
theorem zxy (ha:PE X a ta) (hb:PE X (.BoolOp .And (b::rest) pos) tb):PE X (.BoolOp .And (a::b::rest) pos) (zzi ta tb):=by
  intro pins s σ H Q I h;refine BoolOp_and (thn (ha pins s σ H _ I h) fun v s1 hq0=>?_);obtain⟨x,H1,I1,r1,q1⟩:=hq0;obtain⟨c,rfl,q1⟩:=q1;cases r1;refine wpAny_truthy_bool ?_;cases c with
  | true=>exact hb pins s1 σ H1 Q I1 q1
  | false=>exact⟨.bl false,H1,I1,rfl,q1⟩
theorem zzj (ha:PE X a ta) (hb:PE X (.BoolOp .Or (b::rest) pos) tb):PE X (.BoolOp .Or (a::b::rest) pos) (tOrV ta tb):=by
  intro pins s σ H Q I h;refine BoolOp_or (thn (ha pins s σ H _ I h) fun v s1 hq0=>?_);obtain⟨x,H1,I1,r1,q1⟩:=hq0;obtain⟨c,rfl,q1⟩:=q1;cases r1;refine wpAny_truthy_bool ?_;cases c with
  | false=>exact hb pins s1 σ H1 Q I1 q1
  | true=>exact⟨.bl true,H1,I1,rfl,q1⟩
def tIf (t:TT) (ta tb:TE):TE:=fun σ H Q=>t σ H fun c H1=>if c=true then ta σ H1 Q else tb σ H1 Q
theorem ztm {c:Expr}(hc:PT X c tA) (ha:PE X a ta) (hb:PE X b tb):PE X (.IfExp c a b pos) (tIf tA ta tb):=by
  intro pins s σ H Q I h;refine wpAny_IfExp (thn (hc pins s σ H _ I h) fun d s1 hq0=>?_);obtain⟨H1,I1,q1⟩:=hq0;cases d with
  | true=>exact ha pins s1 σ H1 Q I1 q1
  | false=>exact hb pins s1 σ H1 Q I1 q1
end
def SqL (K:PySem.W.Frag) (H:Hp) (a:Addr) (xs:List V):Prop:=
  Rd H a (.lst xs)\/
    ∃(o:Obj) (its:Array Value) (n:Nat),K.lookup a=some o/\o.cls = .type "list"/\o.dict=none/\o.data = .seq its n/\its.size<=sizeLine/\Vals xs its.toList
def SqT (K:PySem.W.Frag) (H:Hp) (a:Addr) (xs:List V):Prop:=
  Rd H a (.tup xs)\/
    ∃(o:Obj) (its:Array Value) (n:Nat),K.lookup a=some o/\o.cls = .type "tuple"/\o.data = .seq its n/\its.size<=sizeLine/\Vals xs its.toList
def absV:Value->Option V
  | .none=>some .non
  | .bool b=>some (.bl b)
  | .int i _=>some (.int i)
  | .str x _=>some (.str x)
  | .bytes b _=>some (.byt b)
  | .float b _=>some (.flt b)
  | .ref a=>some (.ref a)
  | .type n=>some (.ty n)
  | _=>none
theorem RelV.abs {x:V}{u:Value}(r:RelV x u):absV u=some x:=by
  cases x with
  | non=>cases r;rfl
  | bl _=>cases r;rfl
  | int _=>obtain⟨t,rfl⟩:=r;rfl
  | str _=>obtain⟨t,rfl⟩:=r;rfl
  | byt _=>obtain⟨t,rfl⟩:=r;rfl
  | flt _=>obtain⟨t,rfl⟩:=r;rfl
  | ref _=>cases r;rfl
  | ty _=>cases r;rfl
theorem RelV.inj {x y:V}{u:Value}(r:RelV x u) (q:RelV y u):x=y:=Option.some.inj (r.abs.symm.trans q.abs)
theorem Vals.inj:∀{xs ys:List V}{us:List Value},Vals xs us->Vals ys us->xs=ys
  | _,_,_,.nil,.nil=>rfl
  | _,_,_,.cons r t,.cons r' t'=>by rw[r.inj r',Vals.inj t t']
section
variable {X:Cx}{pins:List (Addr×Obj)}{σ:St}{H:Hp}{s:Shared}{a:Addr}{xs ys:List V}
theorem SqL.of {K:PySem.W.Frag}(h:H a=some (.lst xs)):SqL K H a xs:=.inl (.inl h)
theorem SqT.of {K:PySem.W.Frag}(h:H a=some (.tup xs)):SqT K H a xs:=.inl (.inl h)
theorem Inv.list (I:Inv X pins σ H s) (h:SqL X.K H a xs):∃its:List Value,Vals xs its/\PlainL s.heap a its.toArray/\xs.length<=sizeLine:=by
  rcases h with h | ⟨o,its,n,hk,hc,hd,hs,hz,r⟩
  · obtain⟨z,its,n,r,e⟩:=h.ok I.hok;exact⟨its,r,⟨_,n,e,rfl,rfl,rfl⟩,z⟩
  · refine⟨its.toList,r,⟨o,n,I.kIn a o hk,hc,hd,by simpa using hs⟩,?_⟩;have e:=r.length;simp only [Array.length_toList] at e;omega
theorem Inv.tuple (I:Inv X pins σ H s) (h:SqT X.K H a xs):∃its:List Value,Vals xs its/\IsTup s.heap a its.toArray/\xs.length<=sizeLine:=by
  rcases h with h | ⟨o,its,n,hk,hc,hs,hz,r⟩
  · obtain⟨z,its,r,p⟩:=h.ok I.hok;exact⟨its,r,p,z⟩
  · refine⟨its.toList,r,⟨o,I.kIn a o hk,hc,n,by simpa using hs⟩,?_⟩;have e:=r.length;simp only [Array.length_toList] at e;omega
theorem Inv.list_inj (I:Inv X pins σ H s) (h:SqL X.K H a xs) (h':SqL X.K H a ys):xs=ys:=by
  obtain⟨its,r,⟨o,n,e,_,_,d⟩,_⟩:=I.list h;obtain⟨its',r',⟨o',n',e',_,_,d'⟩,_⟩:=I.list h';rw[e] at e';cases e';rw[d] at d';injection d' with d1 _
  have:its=its':=by simpa using congrArg Array.toList d1
  subst this;exact r.inj r'
theorem Inv.tuple_inj (I:Inv X pins σ H s) (h:SqT X.K H a xs) (h':SqT X.K H a ys):xs=ys:=by
  obtain⟨its,r,⟨o,e,_,n,d⟩,_⟩:=I.tuple h;obtain⟨its',r',⟨o',e',_,n',d'⟩,_⟩:=I.tuple h';rw[e] at e';cases e';rw[d] at d';injection d' with d1 _
  have:its=its':=by simpa using congrArg Array.toList d1
  subst this;exact r.inj r'
end
abbrev Cx.wish (X:Cx) (E:Value->Shared->Prop):Cx:={ X with xe:=E }
abbrev Cx.nox (X:Cx):Cx:=X.wish fun _ _=>False
theorem Cx.Ok.wish {X:Cx}(ok:X.Ok) (E:Value->Shared->Prop):(X.wish E).Ok:=
  ⟨ok.mod,ok.kind,ok.glob,ok.blt,ok.above,ok.inj,ok.has,ok.cab,ok.hd,ok.frames,ok.stk,ok.exf,ok.bs,ok.bsz,ok.noex,ok.exfs,ok.funs,ok.frf⟩
theorem Cx.Ok.unwish {X:Cx}{E:Value->Shared->Prop}(ok:(X.wish E).Ok):X.Ok:=
  ⟨ok.mod,ok.kind,ok.glob,ok.blt,ok.above,ok.inj,ok.has,ok.cab,ok.hd,ok.frames,ok.stk,ok.exf,ok.bs,ok.bsz,ok.noex,ok.exfs,ok.funs,ok.frf⟩
section
variable {X:Cx}{pins:List (Addr×Obj)}{σ:St}{H:Hp}{s:Shared}{E:Value->Shared->Prop}
theorem Inv.wish (I:Inv X pins σ H s) (E:Value->Shared->Prop):Inv (X.wish E) pins σ H s:=⟨I.ok.wish E,I.os,I.bare,I.base,I.loc,I.cell,I.free,I.freeC,I.pin,I.hok,I.len⟩
theorem Inv.unwish (I:Inv (X.wish E) pins σ H s):Inv X pins σ H s:=⟨I.ok.unwish,I.os,I.bare,I.base,I.loc,I.cell,I.free,I.freeC,I.pin,I.hok,I.len⟩
theorem SP.unwish {D:Ends}{f:Flow}{s':Shared}(h:SP (X.wish E) pins D f s'):SP X pins D f s':=by
  cases f with
  | next=>obtain⟨σ',H',I,q⟩:=h;exact⟨σ',H',I.unwish,q⟩
  | brk=>obtain⟨σ',H',I,q⟩:=h;exact⟨σ',H',I.unwish,q⟩
  | cont=>obtain⟨σ',H',I,q⟩:=h;exact⟨σ',H',I.unwish,q⟩
  | ret u=>obtain⟨v,σ',H',I,r,q⟩:=h;exact⟨v,σ',H',I.unwish,r,q⟩
theorem PSs.nox {st:List Stmt}{t:TS}(h:PSs X.nox st t):PSs X st t:=fun pins s σ H D I hw=>
  wpAny_mono (h pins s σ H D (I.wish _) hw) (fun _ _ q=>q.unwish) fun _ _ z=>False.elim z
end
section
variable {X:Cx}{st:Stmt}{rest:List Stmt}{t u:TS}{e:Expr}{te:TE}{pos:Pos}
def zfo:TS:=fun D σ H=>D.nx σ H
def tSeq (t u:TS):TS:=fun D σ H=>t { D with nx:=u D } σ H
theorem zz:PSs X [] zfo:=fun _ _ σ H _ I h=>wpAny_execs_nil ⟨σ,H,I,h⟩
theorem zj (h1:PS X st t) (h2:PSs X rest u):PSs X (st::rest) (tSeq t u):=by
  intro pins s σ H D I h;refine wpAny_execs_cons (thn (h1 pins s σ H { D with nx:=u D } I h) fun f s1 q=>?_);cases f with
  | next=>
    obtain⟨σ',H',I',q⟩:=q;exact h2 pins s1 σ' H' D I' q
  | ret v=>exact q
  | brk=>exact q
  | cont=>exact q
theorem zp (h1:PS X st t):PSs X [st] t:=by
  intro pins s σ H D I h;refine wpAny_execs_cons (thn (h1 pins s σ H D I h) fun f s1 q=>?_);cases f with
  | next=>exact wpAny_execs_nil q
  | ret v=>exact q
  | brk=>exact q
  | cont=>exact q
theorem Inv.quiet {pins:List (Addr×Obj)}{σ:St}{H:Hp}{s:Shared}(I:Inv X pins σ H s):interactive X.env=false:=by simp[interactive,I.ok.kind]
def zzk (te:TE):TS:=fun D σ H=>te σ H fun _ H1=>D.nx σ H1
theorem zat (he:PE X e te) (hs:swapsWith e none pos.line X.env=pure false:=by rfl):PS X (.Expr e pos) (zzk te):=by
  intro pins s σ H D I h;exact wpAny_Expr_any (thn (he pins s σ H _ I h) fun v s1 ⟨x,H1,I1,r1,q1⟩=>⟨σ,H1,I1,q1⟩) I.quiet hs
def tRet (te:TE):TS:=fun D σ H=>te σ H D.rt
theorem zac (he:PE X e te):PS X (.Return (some e) pos) (tRet te):=by
  intro pins s σ H D I h;exact wpAny_Return_some (thn (he pins s σ H _ I h) fun v s1 ⟨x,H1,I1,r1,q1⟩=>⟨x,σ,H1,I1,r1,q1⟩)
def tIfS (c:TT) (t u:TS):TS:=fun D σ H=>c σ H fun b H1=>if b=true then t D σ H1 else u D σ H1
theorem zal {c:Expr}{a b:List Stmt}{tc:TT}(hc:PT X c tc) (ha:PSs X a t) (hb:PSs X b u):PS X (.If c a b pos) (tIfS tc t u):=by
  intro pins s σ H D I h;refine wpAny_If (thn (hc pins s σ H _ I h) fun d s1 hq0=>?_);obtain⟨H1,I1,q1⟩:=hq0;cases d with
  | true=>exact ha pins s1 σ H1 D I1 q1
  | false=>exact hb pins s1 σ H1 D I1 q1
def zxz:TS:=fun _ _ _=>False
theorem zbq:PS X st zxz:=fun _ _ _ _ _ _ h=>h.elim
end
abbrev TG:=V->St->Hp->(St->Hp->Prop)->Prop
abbrev TGs:=List V->St->Hp->(St->Hp->Prop)->Prop
def PG (X:Cx) (target:Expr) (t:TG):Prop:=
  ∀(pins:List (Addr×Obj)) (s:Shared) (σ:St) (H:Hp) (v:V) (u:Value) (Q:St->Hp->Prop),Inv X pins σ H s->RelV v u->t v σ H Q->
    wpAny (model X.prog X.w) X.A (assign target X.env u) (fun _ s'=>∃σ' H',Inv X pins σ' H' s'/\Q σ' H') X.xe s
def PGs (X:Cx) (ts:List Expr) (t:TGs):Prop:=
  ∀(pins:List (Addr×Obj)) (s:Shared) (σ:St) (H:Hp) (vs:List V) (us:List Value) (Q:St->Hp->Prop),Inv X pins σ H s->Vals vs us->t vs σ H Q->
    wpAny (model X.prog X.w) X.A (assignInOrder ((assignEach ts X.env).map (·.2)) us) (fun _ s'=>∃σ' H',Inv X pins σ' H' s'/\Q σ' H') X.xe s
section
variable {X:Cx}{pos:Pos}
def za0 (i:Nat):TG:=fun v σ H Q=>Q (σ.set i (some v)) H
theorem zas {i:Nat}{x:Str}(hN:X.N.Nodup) (hi:X.N[i]? = some x) (hx:Loc X.env.scope x) (hf:X.fn x=true\/X.env.scope.names.lookup x=some .local:=by first | exact .inl rfl | exact .inr rfl | assumption):PG X (.Name x pos) (za0 i):=by
  intro pins s σ H v u Q I r h;exact wpAny_assign_Name (zdf I hN hi hx r (fun s' I'=>⟨_,H,I',h⟩) hf)
def gNil:TGs:=fun vs σ H Q=>vs = []/\Q σ H
def zq3 (t:TG) (u:TGs):TGs:=fun vs σ H Q=>∃v r,vs=v::r/\t v σ H fun σ' H'=>u r σ' H' Q
theorem zgj:PGs X [] gNil:=by
  intro pins s σ H vs us Q I r h;obtain⟨e,h⟩:=h;subst e;cases r;exact assignInOrder_nil ⟨σ,H,I,h⟩
theorem zbr {e:Expr}{es:List Expr}{t:TG}{u:TGs}(h1:PG X e t) (h2:PGs X es u)
    (hs:(assignEach (e::es) X.env).map (·.2)=assign e X.env::(assignEach es X.env).map (·.2):=by rfl):PGs X (e::es) (zq3 t u):=by
  intro pins s σ H vs us Q I r h;obtain⟨v,vr,e1,h⟩:=h;subst e1;cases r with
  | cons r rr=>
    rw[hs];refine assignInOrder_cons (thn (h1 pins s σ H _ _ _ I r h) fun _ s1 hq0=>?_);obtain⟨σ1,H1,I1,q1⟩:=hq0;exact h2 pins s1 σ1 H1 _ _ Q I1 rr q1
def gTup (K:PySem.W.Frag) (n:Nat) (t:TGs):TG:=fun v σ H Q=>∃a xs,v = .ref a/\SqT K H a xs/\xs.length=n/\t xs σ H Q
theorem zx0 {es:List Expr}{k:Nat}{t:TGs}{n:Nat}(hc:X.calm=true) (h:PGs X es t)
    (hn:(assignEach es X.env).length=n:=by rfl) (hst:(assignEach es X.env).findIdx? (·.1)=none:=by rfl):PG X (.Tuple es k pos) (gTup X.K n t):=by
  intro pins s σ H v u Q I r hw;obtain⟨a,xs,e1,hq,hl,hw⟩:=hw;subst e1;cases r;obtain⟨its,rv,ht,hz⟩:=I.tuple hq;refine assign_Tuple_tuple (I.ok.hd hc) ht (by simp[hn,←hl,rv.length]) hst fun h' hx=>?_
  have I1:Inv X pins σ H { s with heap:=h' }:=I.kept (t':=s.toks) fun b o e=>hx b o (Nat.ne_of_lt (Heap.lt_size e)) e
  exact h pins _ σ H xs _ Q I1 (by simpa using rv) hw
def tAsg (te:TE) (g:TG):TS:=fun D σ H=>te σ H fun x H1=>g x σ H1 D.nx
theorem zvg {tg e:Expr}{te:TE}{g:TG}(he:PE X e te) (hg:PG X tg g) (hs:swapsWithSole [tg] e pos.line X.env=pure false:=by rfl) (hw:swappedStores [tg] e X.env=pure none:=by rfl)
    (h1:(assignEach [tg] X.env).map (·.2) = [assign tg X.env]:=by rfl):PS X (.Assign [tg] e pos) (tAsg te g):=by
  intro pins s σ H D I h;refine wpAny_Assign_stores (thn (he pins s σ H _ I h) fun v s1 hq0=>?_) hs hw;obtain⟨x,H1,I1,r1,q1⟩:=hq0;rw[h1];exact thn (hg pins s1 σ H1 x v _ I1 r1 q1) fun _ s2 q=>q
theorem zah {i:Nat}{x:Str}{e:Expr}{te:TE}{pos':Pos}(hN:X.N.Nodup) (hi:X.N[i]? = some x) (hx:Loc X.env.scope x) (he:PE X e te) (hs:swapsWith e (some (.Name x pos')) pos.line X.env=pure false:=by rfl) (hf:X.fn x=true\/X.env.scope.names.lookup x=some .local:=by first | exact .inl rfl | exact .inr rfl | assumption) :
    PS X (.Assign [.Name x pos'] e pos) (tAsg te (za0 i)):=by
  intro pins s σ H D I h;refine wpAny_Assign_Name (thn (he pins s σ H _ I h) fun v s1 hq0=>?_) hs;obtain⟨y,H1,I1,r1,q1⟩:=hq0;exact zdf I1 hN hi hx r1 (fun s2 I2=>⟨_,H1,I2,q1⟩) hf
end
structure It where
  go:Nat->Hp->Prop
  yld:Nat->Hp->V->Hp->Prop
  stop:Nat->Hp->Prop
def FpOk (X:Cx) (pins:List (Addr×Obj)) (H:Hp) (b:Addr):Prop:=
  H b=none/\b≠X.env.locals/\b ∉ X.fs/\(b∈X.ex\/X.s₀.heap.objs.size<=b)/\(∀x c,X.env.cells.lookup x=some c->c≠b)/\∀p∈X.pn++pins,p.1≠b
theorem Inv.fpOk {X:Cx}{pins:List (Addr×Obj)}{σ:St}{H H':Hp}{s:Shared}{b:Addr}(I:Inv X pins σ H s) (hb:s.heap.objs.size<=b) (hn:H' b=none):FpOk X pins H' b:=by
  refine⟨hn,Nat.ne_of_gt (Nat.lt_of_lt_of_le I.lt hb),I.nofs hb,.inr (Nat.le_trans I.sz hb),fun x c e z=>?_,fun p hp z=>?_⟩
  · obtain⟨v,q⟩:=I.cell x c e;exact absurd (Nat.lt_of_lt_of_le q.lt (by rw[z];exact hb)) (Nat.lt_irrefl _)
  · exact absurd (Nat.lt_of_lt_of_le (Heap.lt_size (I.pin p hp).1) (by rw[z];exact hb)) (Nat.lt_irrefl _)
structure Turn (P:Program) (w:World) (K:PySem.W.Frag) (tg:Expr) (J:It) (fp:List Addr) (it:Addr) (tn:Nat->Heap->Prop):Prop where
  mem:it∈fp
  obj:∀i h,tn i h->∀b∈fp,∃o,h.get? b=some o/\∀v,o.data≠.cell v
  keep:∀i h h',tn i h->(∀b∈fp,∀o,h.get? b=some o->h'.get? b=some o)->tn i h'
  item:∀(X:Cx),X.prog=P->X.w=w->X.K=K->X.calm=true->∀(i:Nat) (pins:List (Addr×Obj)) (s:Shared) (σ:St) (H:Hp) (E:Value->Shared->Prop),Inv X pins σ H s->(∀b∈fp,FpOk X pins H b)->tn i s.heap->J.go i H->
    wpAny (model P w) X.A (pyNext (.ref it)) (fun r s1=>∃u,r=some u/\
      wpAny (model P w) X.A (letOwnedTupleGo tg (.ref it) u) (fun _ s2=>∃x H',Inv X pins σ H' s2/\RelV x u/\J.yld i H x H'/\tn (i+1) s2.heap/\∀b∈fp,H' b=none) E s1) E s
  done:∀(X:Cx),X.prog=P->X.w=w->X.K=K->X.calm=true->∀(i:Nat) (pins:List (Addr×Obj)) (s:Shared) (σ:St) (H:Hp) (E:Value->Shared->Prop),Inv X pins σ H s->(∀b∈fp,FpOk X pins H b)->tn i s.heap->J.stop i H->
    wpAny (model P w) X.A (pyNext (.ref it)) (fun r s1=>r=none/\Inv X pins σ H s1) E s
  self:∀(A:Around) (i:Nat) (s:Shared) (Q:Value->Shared->Prop) (E:Value->Shared->Prop),tn i s.heap->Q (.ref it) s->wpAny (model P w) A (pyIter (.ref it)) Q E s
abbrev TI:=St->Hp->(It->Hp->Prop)->Prop
def PIE (X:Cx) (pins:List (Addr×Obj)) (σ:St) (tg:Expr) (R:It->Hp->Prop) (itv:Value) (s2:Shared):Prop:=
  ∃(it:Addr) (fp:List Addr) (tn:Nat->Heap->Prop) (J:It) (H':Hp),itv = .ref it/\Inv X pins σ H' s2/\Turn X.prog X.w X.K tg J fp it tn/\tn 0 s2.heap/\(∀b∈fp,FpOk X pins H' b)/\R J H'
def PI (X:Cx) (tg iter:Expr) (wi:TI):Prop:=
  ∀(pins:List (Addr×Obj)) (s:Shared) (σ:St) (H:Hp) (R:It->Hp->Prop),Inv X pins σ H s->wi σ H R->
    wpAny (model X.prog X.w) X.A (eval iter X.env) (fun v s1=>wpAny (model X.prog X.w) X.A (pyIter v) (PIE X pins σ tg R) X.xe s1) X.xe s
theorem ztn {M:Model}{A:Around}{E:Value->Shared->Prop}{s:Shared}{tg:Expr}{it:Addr}{u:Value}{o:Obj}{n:String}{vs:Array Value}{Q:Unit->Shared->Prop}(ho:s.heap.get? it=some o) (hc:o.cls = .type n) (hd:o.data = .fields vs)
    (hn : ["enumerate","zip","dict_itemiterator","dict_reverseitemiterator","odict_iterator","itertools.zip_longest","itertools.pairwise"].contains n=false) (hQ:Q () s):wpAny M A (letOwnedTupleGo tg (.ref it) u) Q E s:=by
  unfold letOwnedTupleGo;cases tg<;>first
    | exact wpAny_pure hQ
    | (cases u<;>first
        | exact wpAny_pure hQ
        | (refine wpAny_bind (wpAny_load ho ?_)
           rw[hc,hd];show wpAny M A (if (["enumerate","zip","dict_itemiterator","dict_reverseitemiterator","odict_iterator","itertools.zip_longest","itertools.pairwise"].contains n&&vs[0]? == some (rawInt _))=true then _ else _) Q E s;rw[if_neg (by intro h;rw[hn,Bool.false_and] at h;cases h)];exact wpAny_pure hQ))
def Itl (K:PySem.W.Frag) (a:Addr):It:=
  ⟨fun i H=>∃xs x,SqL K H a xs/\xs[i]? = some x,fun i H x H'=>H'=H/\∀xs,SqL K H a xs->xs[i]? = some x,fun i H=>∃xs,SqL K H a xs/\xs.length<=i⟩
def Itt (K:PySem.W.Frag) (a:Addr):It:=
  ⟨fun i H=>∃xs x,SqT K H a xs/\xs[i]? = some x,fun i H x H'=>H'=H/\∀xs,SqT K H a xs->xs[i]? = some x,fun i H=>∃xs,SqT K H a xs/\xs.length<=i⟩
def Itr (lo:Int) (n:Nat):It:=⟨fun i _=>i<n,fun i H x H'=>H'=H/\x = .int (lo+i),fun i _=>n<=i⟩
theorem zq4 {P:Program}{w:World}{K:PySem.W.Frag}{tg:Expr}(a it:Addr):Turn P w K tg (Itl K a) [it] it (fun i h=>h.IsListIter it a i) where
  mem:=by simp
  obj:=fun i h st b hb=>by
    have e:b=it:=by simpa using hb
    subst e;obtain⟨o,e,c,d⟩:=st;exact⟨o,e,fun v z=>by rw[d] at z;cases z⟩
  keep:=fun i h h' st k=>st.at fun o e=>k it (by simp) o e
  item:=by
    intro X hP hw hK hc i pins s σ H E I hf st hg;subst hP hw hK;obtain⟨xs,x,hq,hx⟩:=hg;obtain⟨its,rv,p,hz⟩:=I.list hq;obtain⟨u,hu,ru⟩:=rv.get hx;obtain⟨f0,f1,f2,f3,f4,f5⟩:=hf it (by simp);refine wpAny_pyNext_list_item st p.isList (x:=u) (by simpa using hu) fun h' st' sb=>?_
    have I1:Inv X pins σ H { s with heap:=h' }:=I.turned (t':=s.toks) (fun b o hb e=>(sb.2 b hb).trans e) f0 f1 f3 f4 f5;obtain⟨o,e,c,d⟩:=id st';exact⟨u,rfl,ztn (s:={ s with heap:=h' }) e c d (by decide) ⟨x,H,I1,ru,⟨rfl,fun ys hy=>by rw[I.list_inj hy hq];exact hx⟩,st',fun b hb=>(hf b hb).1⟩⟩
  done:=by
    intro X hP hw hK hc i pins s σ H E I hf st hg;subst hP hw hK;obtain⟨xs,hq,hx⟩:=hg;obtain⟨its,rv,p,hz⟩:=I.list hq;obtain⟨f0,f1,f2,f3,f4,f5⟩:=hf it (by simp);have hl:=rv.length;exact wpAny_pyNext_list_end (I.ok.hd hc) st p.isList (by simp;omega) fun h' eb=>⟨rfl,I.turned (t':=s.toks) (fun b o hb e=>eb b o hb e) f0 f1 f3 f4 f5⟩
  self:=fun _ _ _ _ _ st h=>wpAny_pyIter_listiter st h
theorem zpg {P:Program}{w:World}{K:PySem.W.Frag}{tg:Expr}(a it:Addr):Turn P w K tg (Itt K a) [it] it (fun i h=>h.IsTupleIter it a i) where
  mem:=by simp
  obj:=fun i h st b hb=>by
    have e:b=it:=by simpa using hb
    subst e;obtain⟨o,e,c,d⟩:=st;exact⟨o,e,fun v z=>by rw[d] at z;cases z⟩
  keep:=fun i h h' st k=>st.at fun o e=>k it (by simp) o e
  item:=by
    intro X hP hw hK hc i pins s σ H E I hf st hg;subst hP hw hK;obtain⟨xs,x,hq,hx⟩:=hg;obtain⟨its,rv,p,hz⟩:=I.tuple hq;obtain⟨u,hu,ru⟩:=rv.get hx;obtain⟨f0,f1,f2,f3,f4,f5⟩:=hf it (by simp);refine wpAny_pyNext_tuple_item st (show s.heap.IsTuple a its.toArray from p) (x:=u) (by simpa using hu) fun h' st' sb=>?_
    have I1:Inv X pins σ H { s with heap:=h' }:=I.turned (t':=s.toks) (fun b o hb e=>(sb.2 b hb).trans e) f0 f1 f3 f4 f5;obtain⟨o,e,c,d⟩:=id st';exact⟨u,rfl,ztn (s:={ s with heap:=h' }) e c d (by decide) ⟨x,H,I1,ru,⟨rfl,fun ys hy=>by rw[I.tuple_inj hy hq];exact hx⟩,st',fun b hb=>(hf b hb).1⟩⟩
  done:=by
    intro X hP hw hK hc i pins s σ H E I hf st hg;subst hP hw hK;obtain⟨xs,hq,hx⟩:=hg;obtain⟨its,rv,p,hz⟩:=I.tuple hq;obtain⟨f0,f1,f2,f3,f4,f5⟩:=hf it (by simp);have hl:=rv.length;exact wpAny_pyNext_tuple_end (I.ok.hd hc) st (show s.heap.IsTuple a its.toArray from p) (by simp;omega) fun h' eb=>⟨rfl,I.turned (t':=s.toks) (fun b o hb e=>eb b o hb e) f0 f1 f3 f4 f5⟩
  self:=fun _ _ _ _ _ st h=>wpAny_pyIter_tupleiter st h
theorem zph {P:Program}{w:World}{K:PySem.W.Frag}{tg:Expr}(it:Addr) (lo:Int) (n:Nat):Turn P w K tg (Itr lo n) [it] it (fun i h=>IsRangeIter h it (lo+(i:Nat) * 1) ((n:Int)-(i:Nat)) 1) where
  mem:=by simp
  obj:=fun i h st b hb=>by
    have e:b=it:=by simpa using hb
    subst e;exact⟨_,st,fun v z=>by
      have z':Data.fields _=Data.cell v:=z;cases z'⟩
  keep:=fun i h h' st k=>k it (by simp) _ st
  item:=by
    intro X hP hw hK hc i pins s σ H E I hf st hg;subst hP hw hK;obtain⟨f0,f1,f2,f3,f4,f5⟩:=hf it (by simp);have W:=Walks.range (prog:=X.prog) (w:=X.w) (I.ok.hd hc) it lo 1 n;refine W.item i s _ _ hg st fun v h' tk hv st' kk=>?_
    obtain⟨t,rfl⟩:=hv;have I1:Inv X pins σ H { s with heap:=h',toks:=tk }:=I.turned (fun b o hb e=>kk b o (by simpa using hb) e) f0 f1 f3 f4 f5;refine⟨_,rfl,ztn (s:={ s with heap:=h',toks:=tk }) (n:="range_iterator") st' rfl rfl (by decide) ⟨.int (lo+i),H,I1,⟨t,?_⟩,⟨rfl,rfl⟩,st',fun b hb=>(hf b hb).1⟩⟩;rw[Int.mul_one]
  done:=by
    intro X hP hw hK hc i pins s σ H E I hf st hg;subst hP hw hK;obtain⟨f0,f1,f2,f3,f4,f5⟩:=hf it (by simp);exact wpAny_pyNext_range_end (I.ok.hd hc) st (by have:n<=i:=hg;omega) fun h' eb=>⟨rfl,I.turned (t':=s.toks) (fun b o hb e=>eb b o hb e) f0 f1 f3 f4 f5⟩
  self:=fun _ _ _ _ _ st h=>wpAny_pyIter_rangeiter st h
section
variable {X:Cx}{tg:Expr}
def zx1 (K:PySem.W.Frag) (tl:TE):TI:=fun σ H R=>tl σ H fun x H1=>∃a,x = .ref a/\(∃xs,SqL K H1 a xs)/\R (Itl K a) H1
def iTup (K:PySem.W.Frag) (tl:TE):TI:=fun σ H R=>tl σ H fun x H1=>∃a,x = .ref a/\(∃xs,SqT K H1 a xs)/\R (Itt K a) H1
theorem zvx {l:Expr}{tl:TE}(hl:PE X l tl):PI X tg l (zx1 X.K tl):=by
  intro pins s σ H R I h;refine thn (hl pins s σ H _ I h) fun v s1 hq0=>?_
  obtain⟨x,H1,I1,r1,q1⟩:=hq0;obtain⟨a,e,⟨xs,hq⟩,q⟩:=q1;subst e;cases r1;obtain⟨its,rv,p,hz⟩:=I1.list hq;refine wpAny_pyIter_list p.isList ?_;refine⟨s1.heap.objs.size,[s1.heap.objs.size],_,_,H1,rfl,I1.kept (t':=s1.toks) fun b o e=>Heap.get?_push_of_some _ e,zq4 a _,⟨_,Heap.get?_push_size _ rfl,rfl,rfl⟩,fun b hb=>?_,q⟩;have e:b=s1.heap.objs.size:=by simpa using hb
  subst e;exact I1.fpOk (Nat.le_refl _) (I1.hok.fresh (Nat.le_refl _))
theorem zx2 {l:Expr}{tl:TE}(hl:PE X l tl):PI X tg l (iTup X.K tl):=by
  intro pins s σ H R I h;refine thn (hl pins s σ H _ I h) fun v s1 hq0=>?_
  obtain⟨x,H1,I1,r1,q1⟩:=hq0;obtain⟨a,e,⟨xs,hq⟩,q⟩:=q1;subst e;cases r1;obtain⟨its,rv,p,hz⟩:=I1.tuple hq;refine wpAny_pyIter_tuple (show s1.heap.IsTuple a its.toArray from p) ?_;refine⟨s1.heap.objs.size,[s1.heap.objs.size],_,_,H1,rfl,I1.kept (t':=s1.toks) fun b o e=>Heap.get?_push_of_some _ e,zpg a _,⟨_,Heap.get?_push_size _ rfl,rfl,rfl⟩,fun b hb=>?_,q⟩;have e:b=s1.heap.objs.size:=by simpa using hb
  subst e;exact I1.fpOk (Nat.le_refl _) (I1.hok.fresh (Nat.le_refl _))
theorem zto {pins:List (Addr×Obj)}{σ:St}{H:Hp}{s:Shared}{R:It->Hp->Prop}{E:Value->Shared->Prop}{lo hi:Int}{t u v:Tok}{tk:Nat}(I:Inv X pins σ H s) (h1 : -(2 ^ 62)<=lo) (h2:lo<2 ^ 62) (h3 : -(2 ^ 62)<=hi) (h4:hi<2 ^ 62)
    (q:R (Itr lo (hi-lo).toNat) H):wpAny (model X.prog X.w) X.A (pyIter (.ref s.heap.objs.size)) (PIE X pins σ tg R) E { s with heap:=s.heap.push { cls:=.type "range",data:=.fields #[.int lo t,.int hi u,.int 1 v] },toks:=tk }:=by
  refine wpAny_pyIter_range (IsRange.new ..) (small_one h1 h2 h3 h4) ?_;have I1:Inv X pins σ H { s with heap:=s.heap.push { cls:=.type "range",data:=.fields #[.int lo t,.int hi u,.int 1 v] },toks:=tk }:=I.kept fun b o e=>Heap.get?_push_of_some _ e
  refine⟨(s.heap.push { cls:=.type "range",data:=.fields #[.int lo t,.int hi u,.int 1 v] }).objs.size,[(s.heap.push { cls:=.type "range",data:=.fields #[.int lo t,.int hi u,.int 1 v] }).objs.size],_,_,H,rfl,
    I1.kept (t':=tk) fun b o e=>Heap.get?_push_of_some _ e,zph _ lo (hi-lo).toNat,?_,fun b hb=>?_,q⟩
  · have e1:lo+((0:Nat):Int) * 1=lo:=by simp
    have e2:(((hi-lo).toNat:Nat):Int)-((0:Nat):Int)=Builtin.Range.rangeSize lo hi 1:=by rw[rangeSize_one];split<;>omega
    show IsRangeIter _ _ (lo+((0:Nat):Int) * 1) ((((hi-lo).toNat:Nat):Int)-((0:Nat):Int)) 1;rw[e1,e2];exact Heap.get?_push_size _ rfl
  · have e:b=(s.heap.push { cls:=.type "range",data:=.fields #[.int lo t,.int hi u,.int 1 v] }).objs.size:=by simpa using hb
    subst e;exact I1.fpOk (Nat.le_refl _) (I1.hok.fresh (Nat.le_refl _))
def zzl (ta:TA):TI:=fun σ H R=>ta σ H fun vs H1=>∃j:Int,vs = [.int j]/\-(2 ^ 62)<=j/\j<2 ^ 62/\R (Itr 0 j.toNat) H1
theorem zc9 {a:Expr}{ta:TA}{p pos:Pos}(hg:Gl X "range") (hm:X.mg "range" = none) (ha:PA X [a] ta) (hs:starEach [a] X.env = [(false,eval a X.env)]:=by rfl):PI X tg (.Call (.Name "range" p) [a] [] pos) (zzl ta):=by
  intro pins s σ H R I h;refine Call_ (zi7 I hg hm boot_range (PyProof.Rows.callWith_type1 (thn (ha pos pins s σ H _ I h) fun us s1 hq0=>?_) hs rfl));obtain⟨vs,H1,I1,r1,q1⟩:=hq0;obtain⟨j,e,q1,q2,q⟩:=q1;subst e;cases r1 with
  | cons r rr=>
    cases rr;obtain⟨t,rfl⟩:=r;exact call_range_1 (zto I1 (by omega) (by omega) q1 q2 (by simpa using q))
def tFor (wi:TI) (g:TG) (tb:TS):TS:=fun D σ H=>wi σ H fun J H1=>∃W:Nat->Nat->St->Hp->Prop,(∃m,W 0 m σ H1)/\∀i m σ H,W i m σ H->
  (J.stop i H/\D.nx σ H)\/(J.go i H/\∃N:St->Hp->Prop,(∀σ' H',N σ' H'->∃m',m'<m/\W (i+1) m' σ' H')/\∀x H',J.yld i H x H'->g x σ H' fun σ2 H2=>tb { D with nx:=N,ct:=N,bk:=D.nx } σ2 H2)
def zja (fp:List Addr) (h:Heap):List (Addr×Obj):=fp.filterMap fun b=>(h.get? b).map fun o=>(b,o)
theorem zcl {fp:List Addr}{h:Heap}{b:Addr}{o:Obj}(hb:b∈fp) (e:h.get? b=some o):(b,o)∈zja fp h:=List.mem_filterMap.mpr ⟨b,hb,by rw[e];rfl⟩
theorem zq5 {fp:List Addr}{h:Heap}{p:Addr×Obj}(hp:p∈zja fp h):p.1∈fp/\h.get? p.1=some p.2:=by
  obtain⟨b,hb,e⟩:=List.mem_filterMap.mp hp;cases q:h.get? b with
  | none=>rw[q] at e;cases e
  | some o=>
    rw[q] at e;have e':(b,o)=p:=Option.some.inj e;subst e';exact⟨hb,q⟩
theorem Inv.pinned {pins:List (Addr×Obj)}{σ:St}{H:Hp}{s:Shared}{fp:List Addr}(I:Inv X pins σ H s) (hf:∀b∈fp,FpOk X pins H b) (ho:∀b∈fp,∃o,s.heap.get? b=some o/\∀v,o.data≠.cell v):Inv X (pins++zja fp s.heap) σ H s:=
  I.pins_of fun p hp=>(List.mem_append.mp hp).elim (fun z=>I.pin p (List.mem_append_right _ z)) fun z=>by
    obtain⟨hb,e⟩:=zq5 z;obtain⟨f0,f1,f2,_⟩:=hf p.1 hb;obtain⟨o,e',d⟩:=ho p.1 hb;rw[e] at e';cases e';exact⟨e,f0,f1,f2,d⟩
theorem Inv.unpinned {pins pl:List (Addr×Obj)}{σ:St}{H:Hp}{s:Shared}(I:Inv X (pins++pl) σ H s):Inv X pins σ H s:=I.pins_of fun p hp=>I.pin p (List.mem_append_right _ (List.mem_append_left _ hp))
theorem zg0 {iter:Expr}{body:List Stmt}{wi:TI}{g:TG}{tb:TS}{pos:Pos}(hp:PassesOwn (model X.prog X.w) X.A X.env X.xe) (hc:X.calm=true) (hi:PI X tg iter wi) (hg:PG X tg g) (hb:PSs X body tb)
    (hs:∀x,foldedSetIterable iter X.env x=pure x:=by intro _;rfl):PS X (.For tg iter body [] pos) (tFor wi g tb):=by
  intro pins s σ H D I h;refine wpAny_For (thn (hi pins s σ H _ I h) fun v s1 h1=>thn h1 fun itv s2 h2=>?_) hs;obtain⟨it,fp,tn,J,H2,e,I2,T,st2,f2,W,⟨m0,w0⟩,turn⟩:=h2;subst e;have stat:∀{H':Hp},(∀b∈fp,H' b=none)->∀b∈fp,FpOk X pins H' b:=fun hn b hb=>⟨hn b hb,(f2 b hb).2⟩
  refine codeAny_forLoop_any (fun n s'=>∃i σ' H',Inv X pins σ' H' s'/\tn i s'.heap/\(∀b∈fp,H' b=none)/\W i n σ' H') ?_ m0 ⟨0,σ,H2,I2,st2,fun b hb=>(f2 b hb).1,w0⟩;rintro n s3 ⟨i,σ3,H3,I3,st3,fr3,w3⟩;rcases turn i n σ3 H3 w3 with ⟨stop,qn⟩ | ⟨go,N,hN,step⟩
  · refine wpAny_passesOwn hp (thn (T.done X rfl rfl rfl hc i pins s3 σ3 H3 X.xe I3 (stat fr3) st3 stop) fun r s4 hq0=>?_);obtain⟨hr,I4⟩:=hq0;subst hr;exact wpAny_execs_nil ⟨σ3,H3,I4,qn⟩
  · refine wpAny_passesOwn hp (thn (T.item X rfl rfl rfl hc i pins s3 σ3 H3 X.xe I3 (stat fr3) st3 go) fun r s4 hq0=>?_);obtain⟨u,hr,h4⟩:=hq0;subst hr;refine wpAny_passesOwn hp (thn h4 fun _ s5 hq0=>?_);obtain⟨x,H5,I5,r5,y5,st5,fr5⟩:=hq0;have I5':=I5.pinned (stat fr5) (T.obj _ _ st5);refine wpAny_passesOwn hp (thn (hg _ s5 σ3 H5 x u _ I5' r5 (step x H5 y5)) fun _ s6 hq0=>?_);obtain⟨σ6,H6,I6,q6⟩:=hq0;refine wpAny_passesOwn hp (thn (hb _ s6 σ6 H6 _ I6 q6) fun f s7 q7=>?_);have again:∀{σ7:St}{H7:Hp},Inv X (pins++zja fp s5.heap) σ7 H7 s7->N σ7 H7->∃m,m<n/\∃i σ' H',Inv X pins σ' H' s7/\tn i s7.heap/\(∀b∈fp,H' b=none)/\W i m σ' H':=fun {σ7 H7} I7 n7=>by
      obtain⟨m',hm,w7⟩:=hN σ7 H7 n7;refine⟨m',hm,i+1,σ7,H7,I7.unpinned,T.keep _ _ _ st5 fun b hb o e=>(I7.pin (b,o) (List.mem_append_right _ (List.mem_append_right _ (zcl hb e)))).1,fun b hb=>?_,w7⟩;obtain⟨o,e,d⟩:=T.obj _ _ st5 b hb;exact (I7.pin (b,o) (List.mem_append_right _ (List.mem_append_right _ (zcl hb e)))).2.1
    cases f with
    | next=>obtain⟨σ7,H7,I7,n7⟩:=q7;exact again I7 n7
    | cont=>obtain⟨σ7,H7,I7,n7⟩:=q7;exact again I7 n7
    | brk=>obtain⟨σ7,H7,I7,q7⟩:=q7;exact⟨σ7,H7,I7.unpinned,q7⟩
    | ret v=>obtain⟨x7,σ7,H7,I7,r7,q7⟩:=q7;exact⟨x7,σ7,H7,I7.unpinned,r7,q7⟩
end
theorem ztp {K:PySem.W.Frag}{a:Addr}{xs:List V}{g:TG}{tb:TS}{D:Ends}{σ:St}{H:Hp}(Pv:Nat->St->Hp->Prop) (h0:Pv 0 σ H) (hl:∀i σ H,i<=xs.length->Pv i σ H->SqL K H a xs)
    (hs:∀i x σ H,xs[i]? = some x->Pv i σ H->g x σ H fun σ2 H2=>tb { D with nx:=Pv (i+1),ct:=Pv (i+1),bk:=D.nx } σ2 H2) (hd:∀σ H,Pv xs.length σ H->D.nx σ H) :
    ∃W:Nat->Nat->St->Hp->Prop,(∃m,W 0 m σ H)/\∀i m σ H,W i m σ H->
      ((Itl K a).stop i H/\D.nx σ H)\/((Itl K a).go i H/\∃N:St->Hp->Prop,(∀σ' H',N σ' H'->∃m',m'<m/\W (i+1) m' σ' H')/\∀x H',(Itl K a).yld i H x H'->g x σ H' fun σ2 H2=>tb { D with nx:=N,ct:=N,bk:=D.nx } σ2 H2):=by
  refine⟨fun i m σ H=>m=xs.length-i/\i<=xs.length/\Pv i σ H,⟨xs.length,by simp,Nat.zero_le _,h0⟩,?_⟩;rintro i m σ H ⟨rfl,hi,p⟩;have q:=hl i σ H hi p
  by_cases hlt:i<xs.length
  · refine .inr ⟨⟨xs,xs[i],q,by simp[hlt]⟩,Pv (i+1),fun σ' H' p'=>⟨xs.length-(i+1),by omega,rfl,hlt,p'⟩,fun x H' y=>?_⟩;obtain⟨e,y⟩:=y;subst e;exact hs i x σ _ (y xs q) p
  · have e:i=xs.length:=by omega
    subst e;exact .inl ⟨⟨xs,q,Nat.le_refl _⟩,hd σ H p⟩
theorem zdy {lo:Int}{n:Nat}{g:TG}{tb:TS}{D:Ends}{σ:St}{H:Hp}(Pv:Nat->St->Hp->Prop) (h0:Pv 0 σ H)
    (hs:∀i σ H,i<n->Pv i σ H->g (.int (lo+i)) σ H fun σ2 H2=>tb { D with nx:=Pv (i+1),ct:=Pv (i+1),bk:=D.nx } σ2 H2) (hd:∀σ H,Pv n σ H->D.nx σ H) :
    ∃W:Nat->Nat->St->Hp->Prop,(∃m,W 0 m σ H)/\∀i m σ H,W i m σ H->
      ((Itr lo n).stop i H/\D.nx σ H)\/((Itr lo n).go i H/\∃N:St->Hp->Prop,(∀σ' H',N σ' H'->∃m',m'<m/\W (i+1) m' σ' H')/\∀x H',(Itr lo n).yld i H x H'->g x σ H' fun σ2 H2=>tb { D with nx:=N,ct:=N,bk:=D.nx } σ2 H2):=by
  refine⟨fun i m σ H=>m=n-i/\i<=n/\Pv i σ H,⟨n,by simp,Nat.zero_le _,h0⟩,?_⟩;rintro i m σ H ⟨rfl,hi,p⟩
  by_cases hlt:i<n
  · refine .inr ⟨hlt,Pv (i+1),fun σ' H' p'=>⟨n-(i+1),by omega,rfl,hlt,p'⟩,fun x H' y=>?_⟩;obtain⟨e,y⟩:=y;subst e y;exact hs i σ _ hlt p
  · have e:i=n:=by omega
    subst e;exact .inl ⟨Nat.le_refl _,hd σ H p⟩
abbrev R2:=V->V->Hp->VK->Prop
def OpR (X:Cx) (f:Value->Value->Sem Value) (r:R2):Prop:=
  ∀(pins:List (Addr×Obj)) (s:Shared) (σ:St) (H:Hp) (x y:V) (v u:Value) (Q:VK),Inv X pins σ H s->RelV x v->RelV y u->r x y H Q->
    wpAny (model X.prog X.w) X.A (f v u) (EP X pins σ Q) X.xe s
def UnR (X:Cx) (f:Value->Sem Value) (r:V->Hp->VK->Prop):Prop:=
  ∀(pins:List (Addr×Obj)) (s:Shared) (σ:St) (H:Hp) (x:V) (v:Value) (Q:VK),Inv X pins σ H s->RelV x v->r x H Q->
    wpAny (model X.prog X.w) X.A (f v) (EP X pins σ Q) X.xe s
def zdw (X:Cx) (f:Value) (r:List V->Hp->VK->Prop):Prop:=
  ∀(pins:List (Addr×Obj)) (s:Shared) (σ:St) (H:Hp) (xs:List V) (us:List Value) (Q:VK),Inv X pins σ H s->Vals xs us->r xs H Q->
    wpAny (model X.prog X.w) X.A (call f us) (EP X pins σ Q) X.xe s
def tOp (r:R2) (ta tb:TE):TE:=fun σ H Q=>ta σ H fun x H1=>tb σ H1 fun y H2=>r x y H2 Q
def tUn (r:V->Hp->VK->Prop) (ta:TE):TE:=fun σ H Q=>ta σ H fun x H1=>r x H1 Q
def rI (C:Int->Int->Prop) (g:Int->Int->V):R2:=fun x y H Q=>∃i j,x = .int i/\y = .int j/\C i j/\Q (g i j) H
def rI0 (g:Int->Int->V):R2:=fun x y H Q=>∃i j,x = .int i/\y = .int j/\Q (g i j) H
def rU (g:Int->V):V->Hp->VK->Prop:=fun x H Q=>∃i,x = .int i/\Q (g i) H
section
variable {X:Cx}{a b c:Expr}{ta tb tc:TE}{pos:Pos}
theorem binT (ha:PE X a ta) (hb:PE X b tb) {pins:List (Addr×Obj)}{s:Shared}{σ:St}{H:Hp}{R:V->V->Hp->Prop}(I:Inv X pins σ H s)
    (h:ta σ H fun x H1=>tb σ H1 fun y H2=>R x y H2) {Q:Value->Shared->Prop}{f:Value->Value->Sem Value}
    (hf:∀v u s2 x y H2,Inv X pins σ H2 s2->RelV x v->RelV y u->R x y H2->wpAny (model X.prog X.w) X.A (f v u) Q X.xe s2) :
    wpAny (model X.prog X.w) X.A (eval a X.env) (fun v s₁=>wpAny (model X.prog X.w) X.A (eval b X.env) (fun u s₂=>wpAny (model X.prog X.w) X.A (f v u) Q X.xe s₂) X.xe s₁) X.xe s:=by
  refine thn (ha pins s σ H _ I h) fun v s1 hq0=>?_
  obtain⟨x,H1,I1,r1,q1⟩:=hq0;refine thn (hb pins s1 σ H1 _ I1 q1) fun u s2 hq0=>?_
  obtain⟨y,H2,I2,r2,q2⟩:=hq0;exact hf v u s2 x y H2 I2 r1 r2 q2
theorem zai {op:Operator}{r:R2}(ho:OpR X (binaryOp op) r) (ha:PE X a ta) (hb:PE X b tb):PE X (.BinOp a op b pos) (tOp r ta tb):=by
  intro pins s σ H Q I h;exact wpAny_BinOp (binT ha hb I h fun v u s2 x y H2 I2 rx ry q=>ho pins s2 σ H2 x y v u Q I2 rx ry q)
theorem zj2 {op:UnaryOp}{r:V->Hp->VK->Prop}(ho:UnR X (unaryOp op) r) (ha:PE X a ta):PE X (.UnaryOp op a pos) (tUn r ta):=by
  intro pins s σ H Q I h;exact UnaryOp_ (thn (ha pins s σ H _ I h) fun v s1 ⟨x,H1,I1,r1,q1⟩=>ho pins s1 σ H1 x v Q I1 r1 q1)
theorem opI {f:Value->Value->Sem Value}{C:Int->Int->Prop}{g:Int->Int->Int}
    (rule:∀(i j:Int) (t u:Tok) (s:Shared) (Q:Value->Shared->Prop) (E:Value->Shared->Prop),C i j->Q (.int (g i j) s.toks) { s with toks:=s.toks+1 }->wpAny (model X.prog X.w) X.A (f (.int i t) (.int j u)) Q E s) :
    OpR X f (rI C fun i j=>.int (g i j)):=by
  intro pins s σ H x y v u Q I rx ry h;obtain⟨i,j,rfl,rfl,hc,q⟩:=h;obtain⟨t,rfl⟩:=rx;obtain⟨t',rfl⟩:=ry;exact rule i j t t' s _ _ hc ⟨.int (g i j),H,I.tok _,⟨_,rfl⟩,q⟩
theorem opI0 {f:Value->Value->Sem Value}{g:Int->Int->Int}
    (rule:∀(i j:Int) (t u:Tok) (s:Shared) (Q:Value->Shared->Prop) (E:Value->Shared->Prop),Q (.int (g i j) s.toks) { s with toks:=s.toks+1 }->wpAny (model X.prog X.w) X.A (f (.int i t) (.int j u)) Q E s) :
    OpR X f (rI0 fun i j=>.int (g i j)):=by
  intro pins s σ H x y v u Q I rx ry h;obtain⟨i,j,rfl,rfl,q⟩:=h;obtain⟨t,rfl⟩:=rx;obtain⟨t',rfl⟩:=ry;exact rule i j t t' s _ _ ⟨.int (g i j),H,I.tok _,⟨_,rfl⟩,q⟩
theorem opB0 {f:Value->Value->Sem Value}{g:Int->Int->Bool}
    (rule:∀(i j:Int) (t u:Tok) (s:Shared) (Q:Value->Shared->Prop) (E:Value->Shared->Prop),Q (.bool (g i j)) s->wpAny (model X.prog X.w) X.A (f (.int i t) (.int j u)) Q E s) :
    OpR X f (rI0 fun i j=>.bl (g i j)):=by
  intro pins s σ H x y v u Q I rx ry h;obtain⟨i,j,rfl,rfl,q⟩:=h;obtain⟨t,rfl⟩:=rx;obtain⟨t',rfl⟩:=ry;exact rule i j t t' s _ _ ⟨.bl (g i j),H,I,rfl,q⟩
def CDiv (i j:Int):Prop:=0<j/\j<1073741824
def CPow (i j:Int):Prop:=0<=j/\j<=1000000/\i.natAbs<2 ^ 64
def CMul (i j:Int):Prop:=(-(2 ^ 64)<i/\i<2 ^ 64)\/(-(2 ^ 64)<j/\j<2 ^ 64)
theorem CMul.ok {i j:Int}(h:CMul i j):IntMulOk i j:=by
  rcases h with ⟨h1,h2⟩ | ⟨h1,h2⟩
  · exact .of_left (intBits_le_64 h1 h2)
  · exact .of_right (intBits_le_64 h1 h2)
theorem zdz:OpR X (binaryOp .Add) (rI0 fun i j=>.int (i+j)):=opI0 fun _ _ _ _ _ _ _ q=>add_int q
theorem zk5:OpR X (binaryOp .Sub) (rI0 fun i j=>.int (i-j)):=opI0 fun _ _ _ _ _ _ _ q=>sub_int q
theorem zjb:OpR X (binaryOp .Mult) (rI CMul fun i j=>.int (i * j)):=opI fun _ _ _ _ _ _ _ hc q=>mul_int q hc.ok
theorem zm7:OpR X (binaryOp .FloorDiv) (rI CDiv fun i j=>.int (i / j)):=opI fun i j _ _ _ _ _ hc q=>by
  have h1:(0:Int)<j:=hc.1;have h2:j<1073741824:=hc.2;exact floordiv_int (by omega) (by rw[Int.fdiv_eq_ediv_of_nonneg i (by omega)];exact q) (.inl (PyProof.noPylong_small (by omega)))
theorem zbu:OpR X (binaryOp .Mod) (rI (fun _ j=>0<j) fun i j=>.int (i%j)):=opI fun i j _ _ _ _ _ hc q=>by
  have h1:(0:Int)<j:=hc;exact mod_int' (by omega) (by rw[Int.fmod_eq_emod_of_nonneg i (by omega)];exact q)
theorem zoe:OpR X (binaryOp .Pow) (rI CPow fun i j=>.int (i ^ j.toNat)):=opI fun _ _ _ _ _ _ _ hc q=>pow_int_small hc.1 hc.2.1 hc.2.2 q
theorem unI {f:Value->Sem Value}{g:Int->Int}
    (rule:∀(i:Int) (t:Tok) (s:Shared) (Q:Value->Shared->Prop) (E:Value->Shared->Prop),Q (.int (g i) s.toks) { s with toks:=s.toks+1 }->wpAny (model X.prog X.w) X.A (f (.int i t)) Q E s) :
    UnR X f (rU fun i=>.int (g i)):=by
  intro pins s σ H x v Q I rx h;obtain⟨i,rfl,q⟩:=h;obtain⟨t,rfl⟩:=rx;exact rule i t s _ _ ⟨.int (g i),H,I.tok _,⟨_,rfl⟩,q⟩
theorem zfp:UnR X (unaryOp .USub) (rU fun i=>.int (-i)):=unI fun _ _ _ _ _ q=>neg_int q
end
def scal:V->V->Bool
  | .non,.non=>true | .non,.int _=>true | .int _,.non=>true | .non,.bl _=>true | .bl _,.non=>true | .non,.str _=>true | .str _,.non=>true
  | .int _,.int _=>true | .bl _,.bl _=>true | .str _,.str _=>true | .byt _,.byt _=>true
  | .int _,.str _=>true | .str _,.int _=>true | .bl _,.str _=>true | .str _,.bl _=>true
  | _,_=>false
def rEq:R2:=fun x y H Q=>scal x y=true/\Q (.bl (decide (x=y))) H
def rNe:R2:=fun x y H Q=>scal x y=true/\Q (.bl (!decide (x=y))) H
theorem zq6 {i j:Int}:decide (V.int i=V.int j)=(i == j):=by
  rw[Bool.eq_iff_iff];simp
theorem zvh {i j:Bool}:decide (V.bl i=V.bl j)=(i == j):=by
  rw[Bool.eq_iff_iff];simp
theorem zq7 {i j:Str}:decide (V.str i=V.str j)=(i == j):=by
  rw[Bool.eq_iff_iff];simp
theorem zq8 {i j:Array UInt8}:decide (V.byt i=V.byt j)=(i.toList == j.toList):=by
  rw[Bool.eq_iff_iff];cases i;cases j;simp
section
variable {X:Cx}{a b c:Expr}{ta tb tc:TE}{pos:Pos}
theorem za1 {pins:List (Addr×Obj)}{σ:St}{H:Hp}{s:Shared}{Q:VK}{k k':Bool}(I:Inv X pins σ H s) (q:Q (.bl k) H) (e:k=k'):EP X pins σ Q (.bool k') s:=by
  subst e;exact⟨.bl k,H,I,rfl,q⟩
theorem zbv:OpR X (compareOp .Eq) rEq:=by
  intro pins s σ H x y v u Q I rx ry h;obtain⟨hs,q⟩:=h;cases x with
  | non=>
    cases rx;cases y with
    | non=>cases ry;exact PySem.EqNone.eq_none_none (za1 I q (by simp))
    | bl j=>cases ry;exact PySem.EqNone.eq_none_bool (za1 I q (by simp))
    | int j=>obtain⟨t',rfl⟩:=ry;exact PySem.EqNone.eq_none_int (za1 I q (by simp))
    | str j=>obtain⟨t',rfl⟩:=ry;exact PySem.EqNone.eq_none_str (za1 I q (by simp))
    | _=>exact absurd (show false=true from hs) Bool.false_ne_true
  | bl i=>
    cases rx;cases y with
    | non=>cases ry;exact PySem.EqNone.eq_bool_none (za1 I q (by simp))
    | bl j=>cases ry;exact eq_bool (za1 I q zvh)
    | str j=>obtain⟨t',rfl⟩:=ry;exact PySem.EqMixed.eq_bool_str (za1 I q (by simp))
    | _=>exact absurd (show false=true from hs) Bool.false_ne_true
  | int i=>
    obtain⟨t,rfl⟩:=rx;cases y with
    | non=>cases ry;exact PySem.EqNone.eq_int_none (za1 I q (by simp))
    | int j=>obtain⟨t',rfl⟩:=ry;exact eq_int (za1 I q zq6)
    | str j=>obtain⟨t',rfl⟩:=ry;exact PySem.EqMixed.eq_int_str (za1 I q (by simp))
    | _=>exact absurd (show false=true from hs) Bool.false_ne_true
  | str i=>
    obtain⟨t,rfl⟩:=rx;cases y with
    | non=>cases ry;exact PySem.EqNone.eq_str_none (za1 I q (by simp))
    | bl j=>cases ry;exact PySem.EqMixed.eq_str_bool (za1 I q (by simp))
    | int j=>obtain⟨t',rfl⟩:=ry;exact PySem.EqMixed.eq_str_int (za1 I q (by simp))
    | str j=>obtain⟨t',rfl⟩:=ry;exact eq_str (za1 I q zq7)
    | _=>exact absurd (show false=true from hs) Bool.false_ne_true
  | byt i=>
    obtain⟨t,rfl⟩:=rx;cases y with
    | byt j=>obtain⟨t',rfl⟩:=ry;exact PySem.W.eq_bytes (za1 I q zq8)
    | _=>exact absurd (show false=true from hs) Bool.false_ne_true
  | _=>cases y<;>exact absurd (show false=true from hs) Bool.false_ne_true
theorem zj3:OpR X (compareOp .NotEq) rNe:=by
  intro pins s σ H x y v u Q I rx ry h;obtain⟨hs,q⟩:=h;cases x with
  | non=>
    cases rx;cases y with
    | non=>cases ry;exact PySem.EqNone.ne_none_none (za1 I q (by simp))
    | bl j=>cases ry;exact PySem.EqNone.ne_none_bool (za1 I q (by simp))
    | int j=>obtain⟨t',rfl⟩:=ry;exact PySem.EqNone.ne_none_int (za1 I q (by simp))
    | str j=>obtain⟨t',rfl⟩:=ry;exact PySem.EqNone.ne_none_str (za1 I q (by simp))
    | _=>exact absurd (show false=true from hs) Bool.false_ne_true
  | bl i=>
    cases rx;cases y with
    | non=>cases ry;exact PySem.EqNone.ne_bool_none (za1 I q (by simp))
    | bl j=>cases ry;exact ne_bool (za1 I q (congrArg not zvh))
    | str j=>obtain⟨t',rfl⟩:=ry;exact PySem.EqMixed.ne_bool_str (za1 I q (by simp))
    | _=>exact absurd (show false=true from hs) Bool.false_ne_true
  | int i=>
    obtain⟨t,rfl⟩:=rx;cases y with
    | non=>cases ry;exact PySem.EqNone.ne_int_none (za1 I q (by simp))
    | int j=>obtain⟨t',rfl⟩:=ry;exact ne_int (za1 I q (congrArg not zq6))
    | str j=>obtain⟨t',rfl⟩:=ry;exact PySem.EqMixed.ne_int_str (za1 I q (by simp))
    | _=>exact absurd (show false=true from hs) Bool.false_ne_true
  | str i=>
    obtain⟨t,rfl⟩:=rx;cases y with
    | non=>cases ry;exact PySem.EqNone.ne_str_none (za1 I q (by simp))
    | bl j=>cases ry;exact PySem.EqMixed.ne_str_bool (za1 I q (by simp))
    | int j=>obtain⟨t',rfl⟩:=ry;exact PySem.EqMixed.ne_str_int (za1 I q (by simp))
    | str j=>obtain⟨t',rfl⟩:=ry;exact ne_str (za1 I q (congrArg not zq7))
    | _=>exact absurd (show false=true from hs) Bool.false_ne_true
  | byt i=>
    obtain⟨t,rfl⟩:=rx;cases y with
    | byt j=>obtain⟨t',rfl⟩:=ry;exact PySem.W.ne_bytes (za1 I q (congrArg not zq8))
    | _=>exact absurd (show false=true from hs) Bool.false_ne_true
  | _=>cases y<;>exact absurd (show false=true from hs) Bool.false_ne_true
theorem zq9:OpR X (compareOp .Lt) (rI0 fun i j=>.bl (decide (i<j))):=opB0 fun _ _ _ _ _ _ _ q=>lt_int q
theorem ztq:OpR X (compareOp .LtE) (rI0 fun i j=>.bl (decide (i<=j))):=opB0 fun _ _ _ _ _ _ _ q=>le_int q
theorem ztr:OpR X (compareOp .Gt) (rI0 fun i j=>.bl (decide (j<i))):=opB0 fun _ _ _ _ _ _ _ q=>gt_int q
theorem zzm:OpR X (compareOp .GtE) (rI0 fun i j=>.bl (decide (j<=i))):=opB0 fun _ _ _ _ _ _ _ q=>ge_int q
theorem zra:OpR X (compareOp .In) (fun x y H Q=>∃i j,x = .str i/\y = .str j/\Q (.bl (!(Builtin.Str.occurrences j i 0 j.length 1).isEmpty)) H):=by
  intro pins s σ H x y v u Q I rx ry h;obtain⟨i,j,rfl,rfl,q⟩:=h;obtain⟨t,rfl⟩:=rx;obtain⟨t',rfl⟩:=ry;exact in_str (za1 I q rfl)
theorem zaf (b:Expr) {op:CmpOp}(h:op≠.In:=by decide) (h2:op≠.NotIn:=by decide):behindInMarks op b=false:=by
  have e1:(op == CmpOp.In)=false:=by cases op<;>first | rfl | exact absurd rfl h
  have e2:(op == CmpOp.NotIn)=false:=by cases op<;>first | rfl | exact absurd rfl h2
  cases b<;>simp[behindInMarks,e1,e2]
theorem zgk {op:CmpOp}{r:R2}(ho:OpR X (compareOp op) r) (ha:PE X a ta) (hb:PE X b tb) (hm:behindInMarks op b=false):PE X (.Compare a [op] [b] pos) (tOp r ta tb):=by
  intro pins s σ H Q I h;exact wpAny_Compare1 (binT ha hb I h fun v u s2 x y H2 I2 rx ry q=>ho pins s2 σ H2 x y v u Q I2 rx ry q) hm
def zx3 (t:TE):TT:=fun σ H Q=>t σ H fun x H'=>∃k,x = .bl k/\Q k H'
theorem zy {op:CmpOp}{r:R2}(ho:OpR X (compareOp op) r) (ha:PE X a ta) (hb:PE X b tb) (hm:behindInMarks op b=false):PT X (.Compare a [op] [b] pos) (zx3 (tOp r ta tb)):=by
  intro pins s σ H Q I h;refine wpAny_isTrue_Compare1 (thn (ha pins s σ H _ I h) fun v s1 ⟨x,H1,I1,r1,q1⟩=>thn (hb pins s1 σ H1 _ I1 q1) fun u s2 ⟨y,H2,I2,r2,q2⟩=>
    thn (ho pins s2 σ H2 x y v u _ I2 r1 r2 q2) fun c s3 ⟨z,H3,I3,r3,k,e,q3⟩=>?_) hm
  subst e;cases r3;exact wpAny_truthy_bool ⟨H3,I3,q3⟩
def zvi (r r':R2) (ta tb tc:TE):TE:=fun σ H Q=>ta σ H fun x H1=>tb σ H1 fun y H2=>r x y H2 fun z H3=>∃k,z = .bl k/\
  (if k=true then tc σ H3 fun w' H4=>r' y w' H4 Q else Q (.bl false) H3)
theorem zts {op op':CmpOp}{r r':R2}(ho:OpR X (compareOp op) r) (ho':OpR X (compareOp op') r') (ha:PE X a ta) (hb:PE X b tb) (hc:PE X c tc)
    (hm:lastMarks [op,op'] [b,c]=false:=by with_unfolding_all rfl):PE X (.Compare a [op,op'] [b,c] pos) (zvi r r' ta tb tc):=by
  intro pins s σ H Q I h;refine Compare_chain (thn (ha pins s σ H _ I h) fun v s1 ⟨x,H1,I1,r1,q1⟩=>chain_link (thn (hb pins s1 σ H1 _ I1 q1) fun u s2 ⟨y,H2,I2,r2,q2⟩=>
    thn (ho pins s2 σ H2 x y v u _ I2 r1 r2 q2) fun d s3 ⟨z,H3,I3,r3,k,e,q3⟩=>?_)) hm
  subst e;cases r3;refine wpAny_truthy_bool ?_;cases k with
  | false=>exact ite_ff ⟨.bl false,H3,I3,rfl,q3⟩
  | true=>exact ite_tt (chain_last (thn (hc pins s3 σ H3 _ I3 q3) fun w' s4 ⟨z',H4,I4,r4,q4⟩=>ho' pins s4 σ H4 y z' u w' Q I4 r2 r4 q4))
theorem ztt {op op':CmpOp}{r r':R2}(ho:OpR X (compareOp op) r) (ho':OpR X (compareOp op') r') (ha:PE X a ta) (hb:PE X b tb) (hc:PE X c tc)
    (hm:lastMarks [op,op'] [b,c]=false:=by with_unfolding_all rfl):PT X (.Compare a [op,op'] [b,c] pos) (zx3 (zvi r r' ta tb tc)):=by
  intro pins s σ H Q I h;refine isTrue_chain (thn (ha pins s σ H _ I h) fun v s1 ⟨x,H1,I1,r1,q1⟩=>test_link (thn (hb pins s1 σ H1 _ I1 q1) fun u s2 ⟨y,H2,I2,r2,q2⟩=>
    thn (ho pins s2 σ H2 x y v u _ I2 r1 r2 q2) fun d s3 ⟨z,H3,I3,r3,k,e,q3⟩=>?_)) hm
  subst e;cases r3;refine wpAny_truthy_bool ?_;cases k with
  | false=>
    obtain⟨k',e',q'⟩:=q3;cases e';exact ite_ff ⟨H3,I3,q'⟩
  | true=>
    refine ite_tt (test_last (thn (hc pins s3 σ H3 _ I3 q3) fun w' s4 ⟨z',H4,I4,r4,q4⟩=>thn (ho' pins s4 σ H4 y z' u w' _ I4 r2 r4 q4) fun d' s5 hq0=>?_));obtain⟨z2,H5,I5,r5,k2,e2,q5⟩:=hq0;subst e2;cases r5;exact wpAny_truthy_bool ⟨H5,I5,q5⟩
theorem zk6:(sizeLine:Nat)<2 ^ 63:=by rw[sizeLine_eq];decide
theorem zgl:OpR X (binaryOp .Add) (fun x y H Q=>∃i j,x = .str i/\y = .str j/\i.length+j.length<=sizeLine/\Q (.str (i++j)) H):=by
  intro pins s σ H x y v u Q I rx ry h;obtain⟨i,j,rfl,rfl,hz,q⟩:=h;obtain⟨t,rfl⟩:=rx;obtain⟨t',rfl⟩:=ry;exact add_str (fun t' tk=>⟨.str (i++j),H,I.tok _,⟨_,rfl⟩,q⟩) hz
theorem zel {x:V}{us:List Value}(r:Vals [x] us):∃u,us = [u]/\RelV x u:=by
  cases r with
  | cons r1 r2=>cases r2;exact⟨_,rfl,r1⟩
theorem zx4 {x y:V}{us:List Value}(r:Vals [x,y] us):∃u w',us = [u,w']/\RelV x u/\RelV y w':=by
  cases r with
  | cons r1 r2=>
    cases r2 with
    | cons r3 r4=>cases r4;exact⟨_,_,rfl,r1,r3⟩
end
structure ObjM (h:Heap) (x dx C:Addr) (mA:Str->Option Value):Prop where
  obj:h.get? x=some (PySem.W.instObj C dx)
  ns:h.Ns1 dx mA
  ne:dx≠x
theorem zk7 {h:Heap}{dx:Addr}{mA:Str->Option Value}(n:h.Ns1 dx mA):∃od,h.get? dx=some od/\∀name,PySem.W.lookIn name od=some (mA name):=by
  obtain⟨o,es,ep,ho,hd,hk,_,hm⟩:=n;refine⟨o,ho,fun name=>?_⟩;have e:=hm name;unfold nsFind findBy at e;rw[←Array.find?_toList] at e;unfold PySem.W.lookIn;rw[hd];dsimp only;split
  · rename_i y q;rw[q] at e;exact congrArg some e
  · rename_i q;rw[q] at e;have a:es.toList.any (·.refKey)=false:=by
      rw[List.any_eq_false];intro y hy;obtain⟨z,t,hkey⟩:=hk y (Array.mem_toList_iff.mp hy);simp[DictEntry.refKey,hkey]
    have a':¬es.toList.any (·.refKey)=true:=by rw[a];exact Bool.false_ne_true
    rw[if_neg a'];exact congrArg some e
theorem ObjM.look {h:Heap}{x dx C:Addr}{mA:Str->Option Value}(I:ObjM h x dx C mA):∃od,PySem.W.InstAt h x (PySem.W.instObj C dx) C (some od)/\∀name,PySem.W.lookIn name od=some (mA name):=
  let ⟨od,ho,hl⟩:=zk7 I.ns
  ⟨od,⟨I.obj,rfl,rfl,ho⟩,hl⟩
section
variable {prog:Program}{w:World}{A:Around}{E:Value->Shared->Prop}{s:Shared}{K:PySem.W.Frag}{x dx C f:Addr}{mA:Str->Option Value}{name:Str}{v:Value}
theorem zvy {expr:Bool}{Q:Value->Shared->Prop}(X:K.In s.heap) (I:ObjM s.heap x dx C mA) (hg:PySem.W.plainGet K C name=true) (hh:PySem.W.hasDictIn K C=true)
    (ha:PySem.W.findIn K (.ref C) name=some none) (hv:mA name=some v) (hv':PySem.W.handedIn v=true) (h:Q v { s with toks:=s.toks+1 }) :
    wpAny (model prog w) A (getAttr (.ref x) name expr) Q E s:=by
  obtain⟨od,J,hl⟩:=I.look;exact PySem.W.get_value X J (PySem.W.plainGet_of hg).1 (PySem.W.findObj_own hh ha rfl (by rw[hl,hv])) hv' h
theorem ztu {pl:Sem Bool}{Q:Value×List Value->Shared->Prop}(X:K.In s.heap) (I:ObjM s.heap x dx C mA) (hg:PySem.W.plainGet K C name=true)
    (hf:PySem.W.findIn K (.ref C) name=some (some (.ref f))) (ht:PySem.W.isFn K (.ref f)=true) (hv:mA name=none) (h:Q (.ref f,[.ref x]) s) :
    wpAny (model prog w) A (getMethod (.ref x) name pl) Q E s:=by
  obtain⟨od,J,hl⟩:=I.look;exact PySem.W.method_fn X J (PySem.W.plainGet_of hg).1 (PySem.W.plainGet_of hg).2 hf (beq_iff_eq.mp ht) (by show (PySem.W.lookIn name od).map (·.isSome)=some false;rw[hl,hv];rfl) h
theorem zvz {ns:List Str}{Q:Unit->Shared->Prop}(X:K.In s.heap) (I:ObjM s.heap x dx C mA)
    (hs:PySem.W.findIn K (.ref C) "__setattr__" = some (some (.builtin "object.__setattr__"))) (hp:PySem.W.plainOver K C=true) (ht:PySem.W.takerIn K C name=some none) (hh:PySem.W.hasDictIn K C=true)
    (hw:PySem.Within mA ns) (hsz:ns.length<=sizeLine)
    (h:∀h',ObjM h' x dx C (fun y=>if y=name then some v else mA y)->Heap.SameBut dx s.heap h'->Q () { s with heap:=h',toks:=s.toks+2 }) :
    wpAny (model prog w) A (setAttr (.ref x) name v) Q E s:=by
  obtain⟨od,J,hl⟩:=I.look;refine PySem.W.set_plain X J hs (PySem.W.osa_open (s:={ s with toks:=s.toks+1 }) (r:=none) X J hp ht fun b=>?_);obtain⟨cd,hc,hd'⟩:=PySem.W.any_some hh;have hx:s.heap.get? x=some ⟨.ref C,some dx,.plain,#[]⟩:=I.obj;refine wpAny_bind (wpAny_pure (wpAny_bind (wpAny_bind (wpAny_loadPart hx (wpAny_bind (PySem.W.Looks.here (s:={ s with toks:=s.toks+1 }) (PySem.W.looks_clsIn X hc) ?_))))));rw[hd'];refine wpAny_pure (a:=some dx) (wpAny_bind (wpAny_pure (wpAny_bind ?_)));refine wpAny_nsSet1 (s:={ s with toks:=s.toks+1 }) I.ns fun h' hn2 hs2=>?_
  obtain⟨oD,esD,epD,hoD,hdD,hcD⟩:=hn2.count (PySem.Within.cons name v hw);refine wpAny_bind (wpAny_lookBehind hoD (by rw[hdD];exact pastItsLine_dict (Nat.le_trans hcD (by rw[List.length_cons];omega))) ?_);exact wpAny_pure (h _ ⟨(hs2.2 _ (Ne.symm I.ne)).trans I.obj,hn2,I.ne⟩ hs2)
theorem ztv {R:Result->Shared->Prop}{vs:List Value}{kw:List (Str×Value)}(X:K.In s.heap) (hm:PySem.W.makesIn K C=true)
    (hi:PySem.W.findIn K (.ref C) "__init__" = some (some (.ref f))) (hf:PySem.W.typeIn K (.ref f)=some (.type "function"))
    (h:codeAny (model prog w) (A.under (.builtin "type.__call__" ⟨.ref C::vs,kw⟩)) (.call (.ref f) ⟨.ref (s.heap.objs.size+1)::vs,kw⟩) (PySem.W.InitBack (s.heap.objs.size+1) R)
      { s with heap:=(s.heap.push PySem.W.emptyDict).push (PySem.W.instObj C s.heap.objs.size) }) :
    codeAny (model prog w) A (.call (.ref C) ⟨vs,kw⟩) R s:=by
  obtain⟨hh,g,d,t,os⟩:=s;exact PySem.W.make_core (PySem.W.makes_of X hm) (PySem.W.looks_findIn X hi) (fun self=>PySem.W.bind_fn X self hf) (.inl rfl) h
end
def putF (f:Str) (v:V):List (Str×V)->List (Str×V)
  | []=>[(f,v)]
  | (g,x)::r=>if g=f then (g,v)::r else (g,x)::putF f v r
theorem zhp (f g:Str) (v:V):∀fs:List (Str×V),(putF f v fs).lookup g=if g=f then some v else fs.lookup g
  | []=>by
    show List.lookup g [(f,v)]=_
    by_cases h:g=f
    · have hb:(g == f)=true:=beq_iff_eq.mpr h;simp only [List.lookup,hb,if_pos h]
    · have hb:(g == f)=false:=beq_eq_false_iff_ne.mpr h;simp only [List.lookup,hb,if_neg h]
  | (k,x)::r=>by
    have ih:=zhp f g v r;rw[show putF f v ((k,x)::r)=(if k=f then (k,v)::r else (k,x)::putF f v r) from rfl]
    by_cases hk:k=f
    · rw[if_pos hk]
      by_cases h:g=k
      · have hb:(g == k)=true:=beq_iff_eq.mpr h;simp only [List.lookup,hb,if_pos (h.trans hk)]
      · have hb:(g == k)=false:=beq_eq_false_iff_ne.mpr h;simp only [List.lookup,hb,if_neg (fun e:g=f=>h (e.trans hk.symm))]
    · rw[if_neg hk]
      by_cases h:g=k
      · have hb:(g == k)=true:=beq_iff_eq.mpr h;simp only [List.lookup,hb,if_neg (fun e:g=f=>hk (h.symm.trans e))]
      · have hb:(g == k)=false:=beq_eq_false_iff_ne.mpr h;simp only [List.lookup,hb];exact ih
theorem zhq (f:Str) (v:V):∀fs:List (Str×V),f∈(putF f v fs).map (·.1)/\∀g,g∈fs.map (·.1)->g∈(putF f v fs).map (·.1)
  | []=>⟨by simp[putF],fun g h=>by simp at h⟩
  | (k,x)::r=>by
    obtain⟨i1,i2⟩:=zhq f v r;rw[show putF f v ((k,x)::r)=(if k=f then (k,v)::r else (k,x)::putF f v r) from rfl]
    by_cases hk:k=f
    · rw[if_pos hk];subst hk;exact⟨by simp,fun g h=>by simpa using h⟩
    · rw[if_neg hk];refine⟨?_,fun g h=>?_⟩
      · rw[List.map_cons];exact List.mem_cons_of_mem _ i1
      · rw[List.map_cons] at h ⊢;rcases List.mem_cons.mp h with e | e
        · exact List.mem_cons.mpr (.inl e)
        · exact List.mem_cons_of_mem _ (i2 g e)
theorem zcm (f:Str) (v:V):∀fs:List (Str×V),(putF f v fs).length<=fs.length+1
  | []=>by simp[putF]
  | (k,x)::r=>by
    have ih:=zcm f v r;rw[show putF f v ((k,x)::r)=(if k=f then (k,v)::r else (k,x)::putF f v r) from rfl]
    by_cases hk:k=f
    · rw[if_pos hk,List.length_cons,List.length_cons];omega
    · rw[if_neg hk,List.length_cons,List.length_cons];omega
theorem RelO.some_of {v:V}{o:Option Value}(r:RelO (some v) o):∃u,o=some u/\RelV v u:=by
  cases o with
  | none=>exact (show False from r).elim
  | some u=>exact⟨u,rfl,r⟩
theorem RelO.none_of {o:Option Value}(r:RelO none o):o=none:=by
  cases o with
  | none=>rfl
  | some u=>exact (show False from r).elim
theorem zk8 {v:V}{u:Value}(r:RelV v u):PySem.W.handedIn u=true:=by
  cases v with
  | non=>cases (show u=Value.none from r);rfl
  | bl b=>cases (show u=Value.bool b from r);rfl
  | int i=>obtain⟨t,e⟩:=(show ∃t,u=Value.int i t from r);cases e;rfl
  | str x=>obtain⟨t,e⟩:=(show ∃t,u=Value.str x t from r);cases e;rfl
  | byt b=>obtain⟨t,e⟩:=(show ∃t,u=Value.bytes b t from r);cases e;rfl
  | flt b=>obtain⟨t,e⟩:=(show ∃t,u=Value.float b t from r);cases e;rfl
  | ref a=>cases (show u=Value.ref a from r);rfl
  | ty n=>cases (show u=Value.type n from r);rfl
section
variable {P:Program}{w:World}{H H':Hp}{h h':Heap}{a C dx:Addr}{fs fs':List (Str×V)}
theorem zj4 (hok:HOk P w H h) (e:H a=some (.ins C dx fs)):∃mA,ObjM h a dx C mA/\(∀f,RelO (fs.lookup f) (mA f))/\PySem.Within mA (fs.map (·.1))/\fs.length<=1000/\H dx=some (.own a):=by
  obtain⟨d,z,ne,ob,mA,n,r,q⟩:=(show ObjOk P w H h a (.ins C dx fs) from hok a _ e);exact⟨mA,⟨ob,n,ne⟩,r,q,z,d⟩
end
structure Cls (K:PySem.W.Frag) (C:Addr):Prop where
  pg:PySem.W.plainGet K C Str.empty=true
  hd:PySem.W.hasDictIn K C=true
  po:PySem.W.plainOver K C=true
  sa:PySem.W.findIn K (.ref C) "__setattr__" = some (some (.builtin "object.__setattr__"))
theorem Cls.get {K:PySem.W.Frag}{C:Addr}(c:Cls K C) (f:Str):PySem.W.plainGet K C f=true:=c.pg
def NoAttr (K:PySem.W.Frag) (C:Addr) (f:Str):Prop:=PySem.W.findIn K (.ref C) f=some none
theorem NoAttr.taker {K:PySem.W.Frag}{C:Addr}{f:Str}(n:NoAttr K C f):PySem.W.takerIn K C f=some none:=by
  unfold PySem.W.takerIn;rw[show PySem.W.findIn K (.ref C) f=some none from n];rfl
structure Meth (K:PySem.W.Frag) (C:Addr) (m:Str) (f:Addr):Prop where
  at_:PySem.W.findIn K (.ref C) m=some (some (.ref f))
  fn:PySem.W.isFn K (.ref f)=true
  kp:PySem.W.keepIn K (.ref f)=true
section
variable {X:Cx}{pins:List (Addr×Obj)}{σ:St}{H:Hp}{s:Shared}{a C dx:Addr}{fs:List (Str×V)}{f:Str}{v:V}{A:Around}{E:Value->Shared->Prop}
theorem zpi {b:Bool}{Q:Value->Shared->Prop}(I:Inv X pins σ H s) (e:H a=some (.ins C dx fs)) (c:Cls X.K C) (n:NoAttr X.K C f) (l:fs.lookup f=some v)
    (h:∀u s',Inv X pins σ H s'->RelV v u->Q u s'):wpAny (model X.prog X.w) A (getAttr (.ref a) f b) Q E s:=by
  obtain⟨mA,O,r,_,_,_⟩:=zj4 I.hok e;obtain⟨u,hu,ru⟩:=RelO.some_of (v:=v) (o:=mA f) (by rw[←l];exact r f);exact zvy I.kIn O (c.get f) c.hd n hu (zk8 ru) (h u _ (I.tok _) ru)
theorem zgm {m:Str}{g:Addr}{pl:Sem Bool}{Q:Value×List Value->Shared->Prop}(I:Inv X pins σ H s) (e:H a=some (.ins C dx fs)) (c:Cls X.K C) (k:Meth X.K C m g) (l:fs.lookup m=none)
    (h:Q (.ref g,[.ref a]) s):wpAny (model X.prog X.w) A (getMethod (.ref a) m pl) Q E s:=by
  obtain⟨mA,O,r,_,_,_⟩:=zj4 I.hok e;have hn:mA m=none:=RelO.none_of (by rw[←l];exact r m);exact ztu I.kIn O (c.get m) k.at_ k.fn hn h
theorem zpj {y:V}{u:Value}{Q:Unit->Shared->Prop}(I:Inv X pins σ H s) (e:H a=some (.ins C dx fs)) (c:Cls X.K C) (n:NoAttr X.K C f) (hl:fs.length<1000) (ry:RelV y u)
    (h:∀s',Inv X pins σ (upd H a (.ins C dx (putF f y fs))) s'->Q () s'):wpAny (model X.prog X.w) A (setAttr (.ref a) f u) Q E s:=by
  obtain⟨mA,O,r,wi,_,ho⟩:=zj4 I.hok e;have hz:(fs.map (·.1)).length<=sizeLine:=by rw[List.length_map,sizeLine_eq];omega
  refine zvz I.kIn O c.sa c.po n.taker c.hd wi hz fun h' O' sb=>h _ ?_
  have hd:∃o,h'.get? dx=some o:=let ⟨o,_,_,e',_⟩:=O'.ns;⟨o,e'⟩
  refine I.write (x:=a) (e:=dx) (by rw[e];exact True.intro) (.inr ho) (fun b q hb z=>(sb.2 b hb).trans z) hd ?_;refine⟨by rw[zv O.ne];exact ho,?_,O.ne,O'.obj,_,O'.ns,fun g=>?_,fun g hg=>?_⟩
  · have:=zcm f y fs;omega
  · show RelO ((putF f y fs).lookup g) (if g=f then some u else mA g);rw[zhp]
    by_cases q:g=f
    · rw[if_pos q,if_pos q];exact ry
    · rw[if_neg q,if_neg q];exact r g
  · by_cases q:g=f
    · rw[q];exact (zhq f y fs).1
    · refine (zhq f y fs).2 g (wi g fun z=>hg ?_);show (if g=f then some u else mA g)=none;rw[if_neg q];exact z
theorem Inv.made (I:Inv X pins σ H s):Inv X pins σ (upd (upd H s.heap.objs.size (.own (s.heap.objs.size+1))) (s.heap.objs.size+1) (.ins C s.heap.objs.size []))
    { s with heap:=(s.heap.push PySem.W.emptyDict).push (PySem.W.instObj C s.heap.objs.size) }:=by
  have e1:(s.heap.push PySem.W.emptyDict).get? s.heap.objs.size=some PySem.W.emptyDict:=Heap.get?_push_size s.heap rfl;have e2:((s.heap.push PySem.W.emptyDict).push (PySem.W.instObj C s.heap.objs.size)).get? (s.heap.objs.size+1)=some (PySem.W.instObj C s.heap.objs.size):=by
    have:=Heap.get?_push_size (s.heap.push PySem.W.emptyDict) (o:=PySem.W.instObj C s.heap.objs.size) rfl
    rwa [Heap.size_push] at this
  have e3:(s.heap.push PySem.W.emptyDict).Ns s.heap.objs.size (fun _=>none):=⟨PySem.W.emptyDict,#[],_,e1,rfl,(fun e he=>absurd he (by simp)),fun _=>rfl⟩;have I1:=I.laid (a:=s.heap.objs.size) (o:=.own (s.heap.objs.size+1)) (h':=s.heap.push PySem.W.emptyDict) (t':=s.toks) (fun b u q=>Heap.get?_push_of_some _ q) (Nat.le_refl _) ⟨_,e1⟩;refine I1.laid (a:=s.heap.objs.size+1) (o:=.ins C s.heap.objs.size []) (t':=s.toks) (fun b u q=>Heap.get?_push_of_some _ q) (Nat.le_of_eq (Heap.size_push _ _)) ?_;have ne:s.heap.objs.size≠s.heap.objs.size+1:=Nat.ne_of_lt (Nat.lt_succ_self _);refine⟨by rw[zv ne,zc],Nat.zero_le _,ne,e2,fun _=>none,(Heap.Ns1.of_empty e3).at fun o q=>Heap.get?_push_of_some _ q,fun _=>True.intro,fun y hy=>absurd rfl hy⟩
theorem zrb {prog:Program}{w:World}{env:Env}{e:Expr}{f:Str}{pos:Pos}{s:Shared}{Q:Value->Shared->Prop}(hb:attributeBase e f env (eval e env)=eval e env)
    (h:wpAny (model prog w) A (eval e env) (fun o s₁=>wpAny (model prog w) A (getAttr o f true) Q E s₁) E s):wpAny (model prog w) A (eval (.Attribute e f pos) env) Q E s:=
  Attribute_any_ h (by rw[arm_eval_Attribute,hb])
end
def tFld (K:PySem.W.Frag) (ta:TE) (f:Str):TE:=fun σ H Q=>ta σ H fun x H1=>∃a C dx fs v,x = .ref a/\H1 a=some (.ins C dx fs)/\Cls K C/\NoAttr K C f/\fs.lookup f=some v/\Q v H1
def sFld (K:PySem.W.Frag) (ta tv:TE) (f:Str):TS:=fun D σ H=>tv σ H fun y H1=>ta σ H1 fun x H2=>∃a C dx fs,x = .ref a/\H2 a=some (.ins C dx fs)/\Cls K C/\NoAttr K C f/\fs.length<1000/\
  D.nx σ (upd H2 a (.ins C dx (putF f y fs)))
section
variable {X:Cx}{o e value:Expr}{f:Str}{pos pos' tpos:Pos}{ta tv:TE}
theorem zbn (he:PE X e ta) (hb:attributeBase e f X.env (eval e X.env)=eval e X.env):PE X (.Attribute e f pos) (tFld X.K ta f):=by
  intro pins s σ H Q I h;refine zrb hb (thn (he pins s σ H _ I h) fun u s1 hq0=>?_);obtain⟨x,H1,I1,rx,a,C,dx,fs,v,ex,ea,c,n,l,q⟩:=hq0;subst ex;obtain rfl:u=Value.ref a:=rx;exact zpi I1 ea c n l fun u' s2 I2 ru=>⟨v,H1,I2,ru,q⟩
theorem zjc (ha:PE X o ta) (hv:PE X value tv) (hs:swapsWith value (some (.Attribute o f pos')) pos.line X.env=pure false):PS X (.Assign [.Attribute o f pos'] value pos) (sFld X.K ta tv f):=by
  intro pins s σ H D I h;refine plainObj_wpAny_Assign_Attribute (thn (hv pins s σ H _ I h) fun u s1 ⟨y,H1,I1,ry,q⟩=>thn (ha pins s1 σ H1 _ I1 q) fun ov s2 hq0=>?_) hs;obtain⟨x,H2,I2,rx,a,C,dx,fs,ex,ea,c,n,l,q2⟩:=hq0;subst ex;obtain rfl:ov=Value.ref a:=rx;exact zpj I2 ea c n l ry fun s3 I3=>⟨σ,_,I3,q2⟩
theorem zv0 {pl:Sem Bool}{m:Str}{apos:Pos}{args:List Expr}{pins:List (Addr×Obj)}{s:Shared}{σ:St}{H:Hp}{Q:Value->Shared->Prop}{te:TE}(he:PE X e te) (I:Inv X pins σ H s)
    (h:te σ H fun x H1=>∃a C dx fs g,x = .ref a/\H1 a=some (.ins C dx fs)/\Cls X.K C/\Meth X.K C m g/\fs.lookup m=none/\
      ∀s1,Inv X pins σ H1 s1->wpAny (model X.prog X.w) X.A (callWith pos (.ref g) [.ref a] (backTo pos (starEach args X.env)) (backToKw pos (keywordEach [] X.env))) Q X.xe s1)
    (ht:eval (.Call (.Attribute e m apos) args [] pos) X.env=(do
      let ov ←eval e X.env
      standAt apos.atName
      let (f,first) ←holding [ov] (getMethod ov m pl)
      callWith pos f first (backTo pos (starEach args X.env)) (backToKw pos (keywordEach [] X.env)))) :
    wpAny (model X.prog X.w) X.A (eval (.Call (.Attribute e m apos) args [] pos) X.env) Q X.xe s:=by
  refine PySem.W.methodCall_KW (pl:=pl) (thn (he pins s σ H _ I h) fun u s1 hq0=>?_) ht;obtain⟨x,H1,I1,rx,a,C,dx,fs,g,ex,ea,c,k,l,q⟩:=hq0;subst ex;obtain rfl:u=Value.ref a:=rx;exact zgm I1 ea c k l (q s1 I1)
end
section
variable {X:Cx}{pins:List (Addr×Obj)}{σ:St}{H:Hp}{s:Shared}{A:Around}{E:Value->Shared->Prop}{Q:Value->Shared->Prop}{c:Value}{b:Bool}
inductive TyOf (K:PySem.W.Frag) (H:Hp):V->Value->Prop where
  | non:TyOf K H .non (.type "NoneType")
  | bl (x:Bool):TyOf K H (.bl x) (.type "bool")
  | int (i:Int):TyOf K H (.int i) (.type "int")
  | str (x:Str):TyOf K H (.str x) (.type "str")
  | flt (x:UInt64):TyOf K H (.flt x) (.type "float")
  | lst {a:Addr}{xs:List V}(e:H a=some (.lst xs)):TyOf K H (.ref a) (.type "list")
  | frz {a:Addr}{o:Obj}{xs:List V}(e:H a=some (.frz o (.lst xs))):TyOf K H (.ref a) (.type "list")
  | tup {a:Addr}{xs:List V}(e:H a=some (.tup xs)):TyOf K H (.ref a) (.type "tuple")
  | dK {a:Addr}{kvs:List (Key×V)}(e:H a=some (.dK kvs)):TyOf K H (.ref a) (.type "dict")
  | dT {a:Addr}{kvs:List (List Key×V)}(e:H a=some (.dT kvs)):TyOf K H (.ref a) (.type "dict")
  | ins {a C dx:Addr}{fs:List (Str×V)}(e:H a=some (.ins C dx fs)) (cl:Cls K C) (ha:PySem.W.findIn K (.ref C) "__class__" = some (some (.builtin "object.__class__")))
      (hn:PySem.W.specialIn K (.builtin "object.__class__") "__get__" = some (some (.builtin "getset_descriptor.__get__"))) (htk:PySem.W.takesIn K (.builtin "object.__class__")=some true)
      (hm:PySem.W.mroIn K C (.type "object")=some true):TyOf K H (.ref a) (.ref C)
theorem zrc {x:V}{u t:Value}(I:Inv X pins σ H s) (rx:RelV x u) (ty:TyOf X.K H x t) (e:PySem.W.kitOne X.K t c=some b) (h:∀tk,Q (.bool b) { s with toks:=tk }) :
    wpAny (model X.prog X.w) A (call (.builtin "isinstance") [u,c]) Q E s:=by
  cases ty with
  | non=>cases (show u=Value.none from rx);exact PySem.W.kia_one PySem.W.kitx_none I.kIn True.intro e (fun z=>nomatch z) h
  | bl y=>cases (show u=Value.bool y from rx);exact PySem.W.kia_one PySem.W.kitx_bool I.kIn True.intro e (fun z=>nomatch z) h
  | int i=>obtain⟨t,q⟩:=(show ∃t,u=Value.int i t from rx);cases q;exact PySem.W.kia_one PySem.W.kitx_int I.kIn True.intro e (fun z=>nomatch z) h
  | str y=>obtain⟨t,q⟩:=(show ∃t,u=Value.str y t from rx);cases q;exact PySem.W.kia_one PySem.W.kitx_str I.kIn True.intro e (fun z=>nomatch z) h
  | flt y=>obtain⟨t,q⟩:=(show ∃t,u=Value.float y t from rx);cases q;exact PySem.W.kia_one PySem.W.kitx_float I.kIn True.intro e (fun z=>nomatch z) h
  | @lst a xs ea=>
    cases (show u=Value.ref a from rx);obtain⟨_,_,n,_,h1⟩:=(show ObjOk X.prog X.w H s.heap a (.lst xs) from I.hok a _ ea);exact PySem.W.kia_one PySem.W.kitx_list I.kIn ⟨_,h1,rfl⟩ e (fun z=>nomatch z) h
  | @frz a ob xs ea=>
    cases (show u=Value.ref a from rx);obtain⟨_,_,_,n,_,h1⟩:=(show ObjOk X.prog X.w H s.heap a (.frz ob (.lst xs)) from I.hok a _ ea);exact PySem.W.kia_one PySem.W.kitx_list I.kIn ⟨_,h1,rfl⟩ e (fun z=>nomatch z) h
  | @tup a xs ea=>
    cases (show u=Value.ref a from rx);obtain⟨_,_,_,p⟩:=(show ObjOk X.prog X.w H s.heap a (.tup xs) from I.hok a _ ea);obtain⟨o,h1,h2,_⟩:=p;exact PySem.W.kia_one PySem.W.kitx_tuple I.kIn ⟨o,h1,h2⟩ e (fun z=>nomatch z) h
  | @dK a kvs ea=>
    cases (show u=Value.ref a from rx);obtain⟨_,_,vs,_,p⟩:=(show ObjOk X.prog X.w H s.heap a (.dK kvs) from I.hok a _ ea);obtain⟨o,es,ep,h1,h2,_⟩:=p;exact PySem.W.kia_one PySem.W.kitx_dict I.kIn ⟨o,h1,h2.1⟩ e (fun z=>nomatch z) h
  | @dT a kvs ea=>
    cases (show u=Value.ref a from rx);obtain⟨_,_,xs,_,o,es,ep,h1,h2,_⟩:=(show ObjOk X.prog X.w H s.heap a (.dT kvs) from I.hok a _ ea);exact PySem.W.kia_one PySem.W.kitx_dict I.kIn ⟨o,h1,h2.1⟩ e (fun z=>nomatch z) h
  | @ins a C dx fs ea cl ha hn htk hm=>
    cases (show u=Value.ref a from rx);obtain⟨mA,O,_⟩:=zj4 I.hok ea;obtain⟨od,J,_⟩:=O.look;exact PySem.W.kia_one (PySem.W.kitx_own (cl.get _) cl.hd ha hn htk hm) I.kIn J e (fun z=>nomatch z) h
end
structure Room (k:Nat) (A:Around):Prop where
  hd:A.handled=none
  dp:A.depth+3 * k+5<recursionLimit
  un:A.units+16 * k+200<cLine
theorem Room.mono {j k:Nat}{A:Around}(r:Room k A) (h:j<=k):Room j A:=⟨r.hd,by have:=r.dp;omega,by have:=r.un;omega⟩
theorem Room.deeper {k:Nat}{A:Around}(r:Room (k+1) A) (env:Env):Room k (A.deeper env):=
  ⟨r.hd,by have:=r.dp;show A.depth+1+3 * k+5<_;omega,by have:=r.un;show A.units+3+16 * k+200<_;omega⟩
theorem zpk {A:Around}{C:Addr}{us:List Value}{kw:List (Str×Value)}:(A.under (.builtin "type.__call__" ⟨.ref C::us,kw⟩)).depth=A.depth+1:=by
  first | rfl | simp[Around.under,Code.weight,Code.isCreation,Code.isGuard,Code.isCaller,Code.frames,Code.isFrame,guardIds]
theorem zpl {A:Around}{C:Addr}{us:List Value}{kw:List (Str×Value)}:(A.under (.builtin "type.__call__" ⟨.ref C::us,kw⟩)).units=A.units+1:=by
  first | rfl | simp[Around.under,Code.cUnits,Code.frames,Code.isFrame]
theorem Room.make {k:Nat}{A:Around}(r:Room (k+1) A) (C:Addr) (us:List Value) (kw:List (Str×Value)):Room k (A.under (.builtin "type.__call__" ⟨.ref C::us,kw⟩)):=
  ⟨r.hd,by have:=r.dp;rw[zpk];omega,by have:=r.un;rw[zpl];omega⟩
theorem Room.depth {k:Nat}{A:Around}(r:Room k A):A.depth<recursionLimit:=by have:=r.dp;omega
theorem Room.units {k:Nat}{A:Around}(r:Room k A):A.units+64<cLine:=by have:=r.un;omega
def tNil:TA:=fun _ H Q=>Q [] H
def zv1 (ta:TE) (tr:TA):TA:=fun σ H Q=>ta σ H fun x H1=>tr σ H1 fun xs H2=>Q (x::xs) H2
section
variable {X:Cx}{e:Expr}{es:List Expr}{te:TE}{t:TA}{pos:Pos}
theorem zi:PA X [] tNil:=fun _ _ _ _ H Q I h=>Calls.spliced_nil ⟨[],H,I,.nil,h⟩
theorem za (ha:PE X e te) (hr:PA X es t) (hs:starEach (e::es) X.env=(false,eval e X.env)::starEach es X.env:=by rfl):PA X (e::es) (zv1 te t):=by
  intro pos pins s σ H Q I h;rw[hs];show wpAny _ _ (spliced ((false,eval e X.env)::backTo pos (starEach es X.env))) _ _ s;refine Calls.spliced_cons (thn (ha pins s σ H _ I h) fun u s1 hq0=>?_);obtain⟨x,H1,I1,r1,q1⟩:=hq0;exact thn (hr pos pins s1 σ H1 _ I1 q1) fun us s2 ⟨xs,H2,I2,r2,q2⟩=>⟨x::xs,H2,I2,.cons r1 r2,q2⟩
def tTup (t:TA):TE:=fun σ H Q=>t σ H fun xs H1=>xs.length<=sizeLine/\∀p,H1 p=none->Q (.ref p) (upd H1 p (.tup xs))
def tLst (t:TA):TE:=fun σ H Q=>t σ H fun xs H1=>xs.length<=sizeLine/\∀p,H1 p=none->Q (.ref p) (upd H1 p (.lst xs))
theorem za7 {x1}(h:PA X es t):PE X (.Tuple es x1 pos) (tTup t):=by
  intro pins s σ H Q I hq;refine wpAny_Tuple_spliced (thn (h pos pins s σ H _ I hq) fun us s1 ⟨xs,H1,I1,r,z,q⟩=>⟨by rw[←r.length];exact z,?_⟩);have hf:H1 s1.heap.objs.size=none:=I1.hok.fresh (Nat.le_refl _);refine⟨.ref s1.heap.objs.size,upd H1 s1.heap.objs.size (.tup xs),I1.laid (t':=s1.toks) (fun b u e=>Heap.get?_push_of_some _ e) (Nat.le_refl _) ?_,rfl,q _ hf⟩;exact⟨z,us,r,⟨_,Heap.get?_push_size _ rfl,rfl,_,rfl⟩⟩
theorem za2 (h:PA X es t):PE X (.List es pos) (tLst t):=by
  intro pins s σ H Q I hq;refine wpAny_List_spliced (thn (h pos pins s σ H _ I hq) fun us s1 ⟨xs,H1,I1,r,z,q⟩=>⟨by rw[←r.length];exact z,?_⟩);have hf:H1 s1.heap.objs.size=none:=I1.hok.fresh (Nat.le_refl _);refine⟨.ref s1.heap.objs.size,upd H1 s1.heap.objs.size (.lst xs),I1.laid (t':=s1.toks) (fun b u e=>Heap.get?_push_of_some _ e) (Nat.le_refl _) ?_,rfl,q _ hf⟩;exact⟨z,us,0,r,Heap.get?_push_size _ rfl⟩
end
abbrev Sp:=List V->Hp->VK->XK->Prop
abbrev CXT:=List Env->Hp->Shared->XK->Value->Shared->Prop
structure Env0 (P:Program) (w:World) (K:PySem.W.Frag) (mg:Str->Option Value) (base:Heap) (A:Around) (outer:List Env) (s:Shared) (H:Hp):Prop where
  frames:A.frames=some outer
  mod:Mod K mg base
  bs:∀b o,base.get? b=some o->s.heap.get? b=some o/\H b=none
  bsz:base.objs.size<=s.heap.objs.size
  funs:s.heap.FunFrames base outer
  frf:∀b∈frs outer,H b=none
  hok:HOk P w H s.heap
  bare:AllBare s.gens
def CE (outer:List Env) (P:Program) (w:World) (H:Hp) (s:Shared) (Q:VK) (u:Value) (s':Shared):Prop:=
  ∃v H',s'.os=s.os/\AllBare s'.gens/\Un (frs outer) [] H H' s.heap s'.heap/\HOk P w H' s'.heap/\RelV v u/\Q v H'
def CR (CX:CXT) (outer:List Env) (P:Program) (w:World) (H:Hp) (s:Shared) (Q:VK) (E:XK) (r:Result) (s':Shared):Prop:=
  match r with
  | .ok (.ret u)=>CE outer P w H s Q u s'
  | .ok _=>False
  | .error e=>CX outer H s E e s'
structure FnOk (P:Program) (w:World) (K:PySem.W.Frag) (mg:Str->Option Value) (base:Heap) (CX:CXT) (k:Nat) (f:Addr) (fd:FuncData) (ps:List Str) (sp:Sp):Prop where
  len:∀vs H Q E,sp vs H Q E->vs.length=ps.length
  run:∀(A:Around) (outer:List Env) (s:Shared) (H:Hp) (args:Args) (us:List Value) (vs:List V) (Q:VK) (E:XK),Room k A->Env0 P w K mg base A outer s H->BindsTo s fd args (ps.zip us)->Vals vs us->sp vs H Q E->
    codeAny (model P w) A (.call (.ref f) args) (CR CX outer P w H s Q E) s
theorem Env0.make {P:Program}{w:World}{K:PySem.W.Frag}{mg:Str->Option Value}{base:Heap}{A:Around}{outer:List Env}{s:Shared}{H:Hp}(e:Env0 P w K mg base A outer s H) (C:Addr) (us:List Value) (kw:List (Str×Value)) :
    Env0 P w K mg base (A.under (.builtin "type.__call__" ⟨.ref C::us,kw⟩)) outer s H:=⟨by first | exact e.frames | (simpa[Around.under,Code.envs,Code.isFrame,pushEnvs] using e.frames),e.mod,e.bs,e.bsz,e.funs,e.frf,e.hok,e.bare⟩
section
variable {X:Cx}{pins:List (Addr×Obj)}{σ:St}{H:Hp}{s s':Shared}
theorem Inv.env0 (I:Inv X pins σ H s):Env0 X.prog X.w X.K X.mg X.base X.A X.stack s H:=
  ⟨I.ok.frames,I.ok.mod,I.bs,Nat.le_trans I.ok.bsz I.sz,I.stack,I.stkFree,I.hok,I.bare⟩
theorem Inv.after {Q:VK}{u:Value}(I:Inv X pins σ H s) (h:CE X.stack X.prog X.w H s Q u s'):EP X pins σ Q u s':=by
  obtain⟨v,H',os,bare,un,hok,r,q⟩:=h;obtain⟨hh,g,d,t,os'⟩:=s';obtain rfl:os'=s.os:=os;exact⟨v,H',I.call (h':=hh) (g':=g) (d':=d) (t':=t) (ch:=[]) un hok bare (fun b z=>absurd z (by simp)),r,q⟩
end
def ztw (sp:Sp) (dvs:List V) (E:XK) (t:TA):TE:=fun σ H Q=>t σ H fun vs H1=>sp (vs++dvs) H1 Q E
def zrd (C:Addr) (m:Str) (sp:Sp) (dvs:List V) (E:XK) (ta:TE) (t:TA):TE:=fun σ H Q=>ta σ H fun x H1=>∃a dx fs,x = .ref a/\H1 a=some (.ins C dx fs)/\fs.lookup m=none/\
  t σ H1 fun vs H2=>sp (x::(vs++dvs)) H2 Q E
def zx5 (C:Addr) (sp:Sp) (dvs:List V) (E:XK) (t:TA):TE:=fun σ H Q=>t σ H fun vs H1=>∀x dx,H1 x=none->H1 dx=none->dx≠x->
  sp (.ref x::(vs++dvs)) (upd (upd H1 dx (.own x)) x (.ins C dx [])) (fun v H2=>v = .non/\Q (.ref x) H2) E
def Binds (K:PySem.W.Frag) (fd:FuncData) (ps:List Str) (ds:List Value):Prop:=
  ∀(s:Shared) (us:List Value),K.In s.heap->(us++ds).length=ps.length->BindsTo s fd ⟨us,[]⟩ (ps.zip (us++ds))
theorem Binds.all {K:PySem.W.Frag}{fd:FuncData}{ps:List Str}(h:∀us:List Value,us.length=ps.length->bindArgs fd ⟨us,[]⟩=pure (ps.zip us)):Binds K fd ps []:=fun s us _ hl=>by
  rw[List.append_nil] at hl ⊢;exact .of_eq (h us hl)
def zda (CX:CXT) (X:Cx) (E:XK):Prop:=∀(pins:List (Addr×Obj)) (σ:St) (H:Hp) (s:Shared) (e:Value) (s':Shared),Inv X pins σ H s->CX X.stack H s E e s'->X.xe e s'
section
variable {X:Cx}{CX:CXT}{k:Nat}{f C:Addr}{fd:FuncData}{ps:List Str}{sp:Sp}{dvs:List V}{ds:List Value}{E:XK}{x m:Str}{p pos apos:Pos}{e o:Expr}{es:List Expr}{ta:TE}{t:TA}
theorem zre {pins:List (Addr×Obj)}{σ:St}{H:Hp}{s:Shared}{Q:VK}{us:List Value}{vs:List V}(F:FnOk X.prog X.w X.K X.mg X.base CX k f fd ps sp) (hr:Room k X.A) (hb:Binds X.K fd ps ds) (hd:Vals dvs ds) (hx:zda CX X E)
    (I:Inv X pins σ H s) (r:Vals vs us) (h:sp (vs++dvs) H Q E):wpAny (model X.prog X.w) X.A (call (.ref f) us) (EP X pins σ Q) X.xe s:=by
  have r2:Vals (vs++dvs) (us++ds):=r.append hd;have hl:(us++ds).length=ps.length:=by rw[←r2.length];exact F.len _ _ _ _ h
  refine wpAny_call (codeAny_mono (F.run X.A X.stack s H ⟨us,[]⟩ (us++ds) (vs++dvs) Q E hr I.env0 (hb s us I.kIn hl) r2 h) fun r s' hq=>?_);cases r with
  | error e=>exact hx pins σ H s e s' I hq
  | ok fl=>
    cases fl with
    | ret u=>exact I.after hq
    | next=>exact False.elim hq
    | brk=>exact False.elim hq
    | cont=>exact False.elim hq
theorem zm8 (F:FnOk X.prog X.w X.K X.mg X.base CX k f fd ps sp) (hr:Room k X.A) (hg:Gl X x) (hm:X.mg x=some (.ref f)) (hk:PySem.W.keepIn X.K (.ref f)=true) (hb:Binds X.K fd ps ds) (hd:Vals dvs ds) (hx:zda CX X E)
    (ha:PA X (e::es) t) (hdb:(x == ("__debug__" : Str))=false:=by decide) (he:starEach (e::es) X.env=(false,eval e X.env)::starEach es X.env:=by rfl) (hpl:(backTo pos (starEach es X.env)).any (·.1)=false:=by rfl) :
    PE X (.Call (.Name x p) (e::es) [] pos) (ztw sp dvs E t):=by
  intro pins s σ H Q I h;refine wpAny_Call_Name_kw (zdg I hg hm ?_ hdb);refine PySem.W.callWith_K (h₀:=X.base) I.ok.mod.kin hk (thn (ha pos pins s σ H _ I h) fun us s1 ⟨vs,H1,I1,r,q⟩=>⟨I1.kIn,?_⟩) he hpl;exact zre F hr hb hd hx I1 r q
theorem zrf {pl:Sem Bool}(he:PE X o ta) (c:Cls X.K C) (hm:Meth X.K C m f) (F:FnOk X.prog X.w X.K X.mg X.base CX k f fd ps sp) (hr:Room k X.A) (hb:Binds X.K fd ps ds) (hd:Vals dvs ds) (hx:zda CX X E) (ha:PA X (e::es) t)
    (hst:starEach (e::es) X.env=(false,eval e X.env)::starEach es X.env:=by rfl) (hpl:(backTo pos (starEach es X.env)).any (·.1)=false:=by rfl)
    (ht:eval (.Call (.Attribute o m apos) (e::es) [] pos) X.env=(do
      let ov ←eval o X.env
      standAt apos.atName
      let (f,first) ←holding [ov] (getMethod ov m pl)
      callWith pos f first (backTo pos (starEach (e::es) X.env)) (backToKw pos (keywordEach [] X.env))):=by rfl) :
    PE X (.Call (.Attribute o m apos) (e::es) [] pos) (zrd C m sp dvs E ta t):=by
  intro pins s σ H Q I h;refine PySem.W.methodCall_KW (pl:=pl) (thn (he pins s σ H _ I h) fun u s1 hq0=>?_) ht;obtain⟨x,H1,I1,rx,a,dx,fs,ex,ea,l,q⟩:=hq0;subst ex;obtain rfl:u=Value.ref a:=rx;refine zgm I1 ea c hm l ?_;refine PySem.W.callWith_K (first:=[.ref a]) (h₀:=X.base) I.ok.mod.kin hm.kp (thn (ha pos pins s1 σ H1 _ I1 q) fun us s2 ⟨vs,H2,I2,r,q2⟩=>⟨I2.kIn,?_⟩) hst hpl;exact zre (us:=.ref a::us) (vs:=.ref a::vs) F hr hb hd hx I2 (.cons rfl r) q2
theorem ztx {pl:Sem Bool}(he:PE X o ta) (c:Cls X.K C) (hm:Meth X.K C m f) (F:FnOk X.prog X.w X.K X.mg X.base CX k f fd ps sp) (hr:Room k X.A) (hb:Binds X.K fd ps ds) (hd:Vals dvs ds) (hx:zda CX X E)
    (ht:eval (.Call (.Attribute o m apos) [] [] pos) X.env=(do
      let ov ←eval o X.env
      standAt apos.atName
      let (f,first) ←holding [ov] (getMethod ov m pl)
      callWith pos f first (backTo pos (starEach [] X.env)) (backToKw pos (keywordEach [] X.env))):=by rfl) :
    PE X (.Call (.Attribute o m apos) [] [] pos) (zrd C m sp dvs E ta tNil):=by
  intro pins s σ H Q I h;refine PySem.W.methodCall_KW (pl:=pl) (thn (he pins s σ H _ I h) fun u s1 hq0=>?_) ht;obtain⟨x,H1,I1,rx,a,dx,fs,ex,ea,l,q⟩:=hq0;subst ex;obtain rfl:u=Value.ref a:=rx;refine zgm I1 ea c hm l ?_;exact PySem.W.callWith_K0 (first:=[.ref a]) I1.kIn hm.kp (zre (us:=[.ref a]) (vs:=[.ref a]) F hr hb hd hx I1 (.cons rfl .nil) q)
structure Mk (K:PySem.W.Frag) (C f:Addr):Prop where
  makes:PySem.W.makesIn K C=true
  init:PySem.W.findIn K (.ref C) "__init__" = some (some (.ref f))
  fn:PySem.W.isFn K (.ref f)=true
  kp:PySem.W.keepIn K (.ref C)=true
theorem zty {pins:List (Addr×Obj)}{σ:St}{H:Hp}{s:Shared}{Q:VK}{us:List Value}{vs:List V}(M:Mk X.K C f) (F:FnOk X.prog X.w X.K X.mg X.base CX k f fd ps sp) (hr:Room (k+1) X.A) (hb:Binds X.K fd ps ds) (hd:Vals dvs ds)
    (hx:zda CX X E) (I:Inv X pins σ H s) (r:Vals vs us)
    (h:∀x dx,H x=none->H dx=none->dx≠x->sp (.ref x::(vs++dvs)) (upd (upd H dx (.own x)) x (.ins C dx [])) (fun v H2=>v = .non/\Q (.ref x) H2) E) :
    wpAny (model X.prog X.w) X.A (call (.ref C) us) (EP X pins σ Q) X.xe s:=by
  have hq:=h (s.heap.objs.size+1) s.heap.objs.size (I.hok.fresh (Nat.le_succ _)) (I.hok.fresh (Nat.le_refl _)) (Nat.ne_of_lt (Nat.lt_succ_self _));have I2:=Inv.made (C:=C) I;have r2:Vals (V.ref (s.heap.objs.size+1)::(vs++dvs)) (Value.ref (s.heap.objs.size+1)::(us++ds)):=.cons rfl (r.append hd);have hl:(Value.ref (s.heap.objs.size+1)::us++ds).length=ps.length:=by
    have e:=r2.length;rw[F.len _ _ _ _ hq] at e;exact e.symm
  refine wpAny_call (ztv (f:=f) I.kIn M.makes M.init (beq_iff_eq.mp M.fn) (codeAny_mono (F.run _ X.stack _ _ ⟨Value.ref (s.heap.objs.size+1)::us,[]⟩ (Value.ref (s.heap.objs.size+1)::(us++ds)) _ _ E (hr.make C us [])
    (I2.env0.make C us []) (hb _ (Value.ref (s.heap.objs.size+1)::us) I2.kIn hl) r2 hq) fun r s' hq'=>?_))
  cases r with
  | error e=>exact hx pins σ _ _ e s' I2 hq'
  | ok fl=>
    cases fl with
    | ret u=>
      obtain⟨v,H',I3,rv,ev,q3⟩:=I2.after hq';subst ev;exact⟨rv,⟨V.ref (s.heap.objs.size+1),H',I3,rfl,q3⟩⟩
    | next=>exact False.elim hq'
    | brk=>exact False.elim hq'
    | cont=>exact False.elim hq'
theorem ztz (M:Mk X.K C f) (F:FnOk X.prog X.w X.K X.mg X.base CX k f fd ps sp) (hr:Room (k+1) X.A) (hg:Gl X x) (hm:X.mg x=some (.ref C)) (hb:Binds X.K fd ps ds) (hd:Vals dvs ds) (hx:zda CX X E)
    (hdb:(x == ("__debug__" : Str))=false:=by decide):PE X (.Call (.Name x p) [] [] pos) (zx5 C sp dvs E tNil):=by
  intro pins s σ H Q I h;refine wpAny_Call_Name_kw (zdg I hg hm ?_ hdb);exact PySem.W.callWith_K0 I.kIn M.kp (zty (us:=[]) M F hr hb hd hx I .nil h)
end
def PK (X:Cx) (kws:List Keyword) (t:TA):Prop:=
  ∀(pos:Pos) (pins:List (Addr×Obj)) (s:Shared) (σ:St) (H:Hp) (Q:List V->Hp->Prop),Inv X pins σ H s->t σ H Q->wpAny (model X.prog X.w) X.A (evalAll ((backToKw pos (keywordEach kws X.env)).map (·.2))) (AP X pins σ Q) X.xe s
section
variable {X:Cx}{CX:CXT}{k:Nat}{f C:Addr}{fd:FuncData}{ps ks:List Str}{sp:Sp}{E:XK}{x m:Str}{p pos apos kpos:Pos}{e o:Expr}{es:List Expr}{kws:List Keyword}{te ta:TE}{t tk:TA}{nm:Option Str}
theorem zx6:PK X [] tNil:=fun _ _ _ _ H Q I h=>wpAny_evalAll_nil ⟨[],H,I,.nil,h⟩
theorem zv2 (ha:PE X e te) (hr:PK X kws t):PK X (⟨nm,e,kpos⟩::kws) (zv1 te t):=by
  intro pos pins s σ H Q I h;show wpAny _ _ (evalAll ((do let v ←eval e X.env;standAt pos;pure v)::(backToKw pos (keywordEach kws X.env)).map (·.2))) _ _ s;refine wpAny_evalAll_cons (wpAny_bind (thn (ha pins s σ H _ I h) fun u s1 ⟨x,H1,I1,r1,q1⟩=>wpAny_bind (wpAny_standAt (wpAny_pure ?_))));exact thn (hr pos pins s1 σ H1 _ I1 q1) fun us s2 ⟨xs,H2,I2,r2,q2⟩=>⟨x::xs,H2,I2,.cons r1 r2,q2⟩
variable {g:List Value->List Value->List Value}{gV:List V->List V->List V}
end
structure FnScope (N P:List Str) (sc:Scope):Prop where
  kind:sc.kind = .function
  co:sc.isCoroutine=false
  gen:sc.isGenerator=false
  nd:N.Nodup
  pre:N.take P.length=P
  par:∀x∈P,sc.names.lookup x=some .local\/sc.names.lookup x=some .cell
  nofree:∀y∈sc.names,y.2≠.free
theorem zk9 {kindOf:Str->Option NameKind}{x:Str}:∀{binds:List (Str×Value)}{m:Str->Option Value},(∀v,(x,v) ∉ binds)->bindL kindOf binds m x=m x
  | [],_,_=>rfl
  | (n,v)::r,m,h=>by
    unfold bindL;rw[zk9 fun w hw=>h w (List.mem_cons_of_mem _ hw)];split
    · have:x≠n:=by rintro rfl;exact h v List.mem_cons_self
      simp[this]
    · rfl
theorem zla {kindOf:Str->Option NameKind}{x:Str}:∀{binds:List (Str×Value)}{m:Str->Option Value},(∀v,(x,v) ∉ binds)->bindC kindOf binds m x=m x
  | [],_,_=>rfl
  | (n,v)::r,m,h=>by
    unfold bindC;rw[zla fun w hw=>h w (List.mem_cons_of_mem _ hw)];split
    · rfl
    · have:x≠n:=by rintro rfl;exact h v List.mem_cons_self
      simp[this]
theorem zlb {kindOf:Str->Option NameKind}{x:Str}{v:Value}:∀{P:List Str}{vs:List Value}{i:Nat}{m:Str->Option Value},P.Nodup->P[i]? = some x->vs[i]? = some v->kindOf x=some .local->
    bindL kindOf (P.zip vs) m x=some v
  | [],_,_,_,_,h,_,_=>by simp at h
  | _::_,[],_,_,_,_,h,_=>by simp at h
  | p::P,w::vs,0,m,nd,h1,h2,hk=>by
    simp at h1 h2;subst h1;subst h2;show bindL kindOf ((p,w)::P.zip vs) m p=_;unfold bindL;rw[zk9 fun v hv=>(List.nodup_cons.mp nd).1 (List.of_mem_zip hv).1,if_pos hk];simp
  | p::P,w::vs,i+1,m,nd,h1,h2,hk=>by
    show bindL kindOf ((p,w)::P.zip vs) m x=_;unfold bindL;exact zlb (i:=i) (List.nodup_cons.mp nd).2 (by simpa using h1) (by simpa using h2) hk
theorem zlc {kindOf:Str->Option NameKind}{x:Str}{v:Value}:∀{P:List Str}{vs:List Value}{i:Nat}{m:Str->Option Value},P.Nodup->P[i]? = some x->vs[i]? = some v->kindOf x≠some .local->
    bindC kindOf (P.zip vs) m x=some v
  | [],_,_,_,_,h,_,_=>by simp at h
  | _::_,[],_,_,_,_,h,_=>by simp at h
  | p::P,w::vs,0,m,nd,h1,h2,hk=>by
    simp at h1 h2;subst h1;subst h2;show bindC kindOf ((p,w)::P.zip vs) m p=_;unfold bindC;rw[zla fun v hv=>(List.nodup_cons.mp nd).1 (List.of_mem_zip hv).1,if_neg hk];simp
  | p::P,w::vs,i+1,m,nd,h1,h2,hk=>by
    show bindC kindOf ((p,w)::P.zip vs) m x=_;unfold bindC;exact zlc (i:=i) (List.nodup_cons.mp nd).2 (by simpa using h1) (by simpa using h2) hk
def start (N:List Str) (vs:List V):St:=vs.map some++List.replicate (N.length-vs.length) none
def cxOf (CX:CXT) (P:Program) (w:World) (K:PySem.W.Frag) (mg:Str->Option Value) (base:Heap) (N:List Str) (qual:Str) (scope:Scope) (f:Addr) (cd:Value) (A:Around) (outer:List Env) (s:Shared) (H:Hp) (E:XK):Cx where
  prog:=P
  w:=w
  K:=K
  mg:=mg
  base:=base
  A:=A.deeper (envOfC qual scope s.heap.objs.size f cd)
  N:=N
  s₀:=s
  H₀:=H
  env:=envOfC qual scope s.heap.objs.size f cd
  outer:=outer
  stack:=envOfC qual scope s.heap.objs.size f cd::outer
  ex:=[]
  calm:=true
  fn:=fun _=>true
  pn:=[]
  xe:=fun e s'=>wpAny (model P w) (A.deeper (envOfC qual scope s.heap.objs.size f cd)) (leaving (envOfC qual scope s.heap.objs.size f cd) e) (fun _ s''=>CX outer H s E e s'') (fun e' s''=>CX outer H s E e' s'') s'
theorem zof {sc:Scope}{n:Nat}{x:Str}(h:sc.names.lookup x=some .cell):∃c,(cellsFrom n sc.names []).lookup x=some c:=by
  have q:=PySem.W.cellsFrom_some sc.names n [] (.inl h);exact Option.isSome_iff_exists.mp q
theorem zrg {CX:CXT}{P:Program}{w:World}{K:PySem.W.Frag}{mg:Str->Option Value}{base:Heap}{N ps:List Str}{qual:Str}{scope:Scope}{f:Addr}{cd:Value}{A:Around}{outer:List Env}{s s1:Shared}{H:Hp}{E:XK}{us:List Value}{vs:List V}
    (S:FnScope N ps scope) (hd:A.handled=none) (e0:Env0 P w K mg base A outer s H) (hl:vs.length=ps.length) (r:Vals vs us)
    (x:InCallC s s.heap.objs.size (bindL (envOfC qual scope s.heap.objs.size f cd).kindOf (ps.zip us) fun _=>none) (cellsFrom (s.heap.objs.size+1) scope.names []) (bindC (envOfC qual scope s.heap.objs.size f cd).kindOf (ps.zip us) fun _=>none) s1) :
    Inv (cxOf CX P w K mg base N qual scope f cd A outer s H E) [] (start N vs) H s1:=by
  have hpl:ps.length<=N.length:=by have:=congrArg List.length S.pre;rw[List.length_take] at this;omega
  obtain⟨h1,tk,rfl,hk⟩:=x.done;have noA:∀b:Addr,b ∉ (cxOf CX P w K mg base N qual scope f cd A outer s H E).ex:=fun b z=>absurd (show b∈([]:List Addr) from z) (by simp)
  refine⟨⟨e0.mod,S.kind,rfl,rfl,Nat.le_refl _,fun y z c h1 h2=>?_,fun y hy=>?_,fun y c _ h=>?_,fun _=>hd,Around.frames_deeper e0.frames,.inr ⟨rfl,rfl⟩,fun b z=>absurd z (noA b),e0.bs,e0.bsz,fun b _ _=>noA b,fun b z=>absurd z (noA b),e0.funs,e0.frf⟩,
    rfl,e0.bare,Un.kept hk,⟨_,x.toInCall.ns,fun i y v h1 h2 h3=>?_⟩,fun y c h=>⟨_,x.cell y c h⟩,e0.hok.fresh (Nat.le_refl _),fun y c h=>?_,fun p hp=>absurd (show p∈([]:List (Addr×Obj)) from hp) (by simp),e0.hok.kept hk,?_⟩
  · exact name_of_addr x.apart (PySem.mem_of_lookup h1) (PySem.mem_of_lookup h2)
  · have hy:scope.names.lookup y=some .cell\/scope.names.lookup y=some .free:=hy;rcases hy with hy | hy
    · exact zof hy
    · exact absurd rfl (S.nofree _ (PySem.mem_of_lookup hy))
  · exact Nat.le_of_lt (x.above y c (PySem.mem_of_lookup h))
  · have hi:i<vs.length:=by
      unfold start at h2
      by_cases hi:i<vs.length
      · exact hi
      · rw[List.getElem?_append_right (by simpa using hi)] at h2;rw[List.getElem?_replicate] at h2;split at h2<;>cases h2
    have ha:vs[i]? = some v:=by
      unfold start at h2;rw[List.getElem?_append_left (by simpa using hi),List.getElem?_map] at h2;cases e:vs[i]? with
      | none=>rw[e] at h2;cases h2
      | some a=>rw[e] at h2;cases h2;rfl
    obtain⟨u,hu,rv⟩:=r.get ha;have hp:ps[i]? = some y:=by
      rw[←S.pre,List.getElem?_take_of_lt (by omega)];exact h1
    have ndP:ps.Nodup:=by rw[←S.pre];exact S.nd.sublist (List.take_sublist _ _)
    refine⟨u,rv,?_⟩;rcases S.par y (List.mem_of_getElem? hp) with k | k
    · exact .inl ⟨k,zlb ndP hp hu k⟩
    · obtain⟨c,e⟩:=zof (n:=s.heap.objs.size+1) k;refine .inr ⟨.inl k,c,e,?_⟩;have q:=x.cell y c e;rw[zlc ndP hp hu (by show scope.names.lookup y≠_;rw[k];decide)] at q;exact q
  · exact e0.hok.fresh (Nat.le_of_lt (x.above y c (PySem.mem_of_lookup h)))
  · unfold start;show _=N.length;rw[List.length_append,List.length_map,List.length_replicate];omega
theorem zv3 {CX:CXT}{P:Program}{w:World}{K:PySem.W.Frag}{mg:Str->Option Value}{base:Heap}{k:Nat}{f:Addr}{name qual:Str}{params:Arguments}{body:List Stmt}{scope:Scope}{dV kV doc pm cdv ct oc:Value}{an od:Option Addr}
    {osl:Array (Option Value)}{N ps:List Str}{sp:Sp}(lk:K.lookup f=some ⟨oc,od,.func (PySem.W.fnOf name qual params body scope dV kV doc pm an cdv ct),osl⟩) (hcd:PySem.W.codeIn K cdv qual=true) (S:FnScope N ps scope)
    (len:∀vs H Q E,sp vs H Q E->vs.length=ps.length)
    (hbody:∀(A:Around) (outer:List Env) (s:Shared) (H:Hp) (vs:List V) (Q:VK) (E:XK),Room k (A.deeper (envOfC qual scope s.heap.objs.size f cdv))->sp vs H Q E->
      ∃t,PSs (cxOf CX P w K mg base N qual scope f cdv A outer s H E) body t/\t { nx:=fun _ H'=>Q .non H',rt:=Q } (start N vs) H) :
    FnOk P w K mg base CX (k+1) f (PySem.W.fnOf name qual params body scope dV kV doc pm an cdv ct) ps sp:=by
  refine⟨len,fun A outer s H args us vs Q E hr e0 hb r hsp=>?_⟩;have hl:=len _ _ _ _ hsp;have KX:K.In s.heap:=e0.mod.kin.keeps fun b o e=>(e0.bs b o e).1
  have lim:s.heap.NoLimit:=e0.mod.nolimit.keeps fun b o e=>(e0.bs b o e).1
  have hkind:∀y∈ps.zip us,scope.names.lookup y.1=some .local\/(scope.names.lookup y.1=some .cell/\((cellsFrom (s.heap.objs.size+1) scope.names []).lookup y.1).isSome=true):=fun ⟨n,v⟩ hy=>by
    rcases S.par n (List.of_mem_zip hy).1 with q | q
    · exact .inl q
    · exact .inr ⟨q,PySem.W.cellsFrom_some _ _ _ (.inl q)⟩
  refine codeAny_call_function hr.depth (KX _ _ lk) rfl S.co S.gen rfl (PySem.W.codeRec_of KX hcd) (hb _ _ _ _ ?_);refine wpAny_newFunctionEnv_cells S.kind hkind fun env he s1 x=>?_
  subst he;refine⟨lim.keeps x.toInCall.keep,codeAny_func ?_⟩;obtain⟨t,ht,hq⟩:=hbody A outer s H vs Q E (hr.deeper _) hsp;have I:Inv (cxOf CX P w K mg base N qual scope f cdv A outer s H E) [] (start N vs) H s1:=zrg S hr.hd e0 hl r x;refine wpAny_mono (ht [] s1 (start N vs) H _ I hq) (fun fl s' hs=>?_) fun e s' hs=>hs
  have fin:∀{σ':St}{H':Hp}{v:V}{u:Value},Inv (cxOf CX P w K mg base N qual scope f cdv A outer s H E) [] σ' H' s'->RelV v u->Q v H'->CE outer P w H s Q u s':=
    fun {σ' H' v u} J rv q=>⟨v,H',J.os,J.bare,J.base,J.hok,rv,q⟩
  cases fl with
  | ret u=>
    obtain⟨v,σ',H',J,rv,q⟩:=hs;exact fin J rv q
  | next=>
    obtain⟨σ',H',J,q⟩:=hs;exact fin (v:=V.non) (u:=Value.none) J rfl q
  | brk=>
    obtain⟨_,_,_,q⟩:=hs;exact False.elim q
  | cont=>
    obtain⟨_,_,_,q⟩:=hs;exact False.elim q
section
variable {X:Cx}{x:Str}{p pos:Pos}{e:Expr}{es:List Expr}{t:TA}{id T:String}{r:List V->Hp->VK->Prop}
def tCB (r:List V->Hp->VK->Prop) (t:TA):TE:=fun σ H Q=>t σ H fun vs H1=>r vs H1 Q
theorem za5 (hc:zdw X (.builtin id) r) (hg:Gl X x) (hm:X.mg x=none) (hv:bootBuiltins x=some (.builtin id)) (ha:PA X (e::es) t) (hn:x≠"__name__":=by decide) (hdb:(x == ("__debug__" : Str))=false:=by decide)
    (he:starEach (e::es) X.env=(false,eval e X.env)::starEach es X.env:=by rfl) (hpl:(backTo pos (starEach es X.env)).any (·.1)=false:=by rfl):PE X (.Call (.Name x p) (e::es) [] pos) (tCB r t):=by
  intro pins s σ H Q I h;refine wpAny_Call_Name_kw (zi7 I hg hm hv ?_ hn hdb);exact PyProof.Rows.callWith_builtin1 (thn (ha pos pins s σ H _ I h) fun us s1 ⟨vs,H1,I1,r1,q1⟩=>hc pins s1 σ H1 vs us Q I1 r1 q1) he hpl
theorem zbb (hc:zdw X (.type T) r) (hg:Gl X x) (hm:X.mg x=none) (hv:bootBuiltins x=some (.type T)) (ha:PA X (e::es) t) (hn:x≠"__name__":=by decide) (hdb:(x == ("__debug__" : Str))=false:=by decide)
    (he:starEach (e::es) X.env=(false,eval e X.env)::starEach es X.env:=by rfl) (hpl:(backTo pos (starEach es X.env)).any (·.1)=false:=by rfl):PE X (.Call (.Name x p) (e::es) [] pos) (tCB r t):=by
  intro pins s σ H Q I h;refine wpAny_Call_Name_kw (zi7 I hg hm hv ?_ hn hdb);exact PyProof.Rows.callWith_type1 (thn (ha pos pins s σ H _ I h) fun us s1 ⟨vs,H1,I1,r1,q1⟩=>hc pins s1 σ H1 vs us Q I1 r1 q1) he hpl
end
end L2
namespace HT
open PySem PyProof.Rows
section
open PySem.SeqAt
open PySem.AutoSeq1 (wpAny_loadPart')
open PySem.MeetsSeq PySem.MeetsSeq2 PySem.MeetsSeq3
end
section
variable {prog:Program}{w:World}{A:Around}{E:Value->Shared->Prop}{s:Shared}
theorem cat_tup {t b:Addr}{vs ws:List Value}{Q:Value->Shared->Prop}(ht:IsTup s.heap t vs.toArray) (hb:IsTup s.heap b ws.toArray) (hv:vs≠[])
    (h1:ws = []->Q (.ref t) s) (h2:ws≠[]->Q (.ref s.heap.objs.size) { s with heap:=s.heap.push { cls:=.type "tuple",data:=.seq (vs++ws).toArray } })
    (hsz:vs.length+ws.length<=sizeLine):wpAny (model prog w) A (binaryOp .Add (.ref t) (.ref b)) Q E s:=by
  obtain⟨⟨cls,dd,data,sl⟩,ho,hc,n,hd⟩:=id ht;obtain⟨⟨cls2,dd2,data2,sl2⟩,ho2,hc2,n2,hd2⟩:=id hb;simp only at hc hd hc2 hd2;subst hc hd hc2 hd2;have e:vs.toArray++ws.toArray=(vs++ws).toArray:=by simp
  by_cases hw:ws = []
  · exact concat_meets ⟨_,ho,rfl⟩ ⟨_,ho2,rfl⟩ noFill_tuple_add seq_tuple_add PySem.F.slot_tuple_add PySem.F.entry_tuple_add (PySem.F.args_tuple_add_2 _ _)
      (tuple_addW1 t b vs.toArray ws.toArray n n2 dd dd2 sl sl2 (by simpa using hv) (by simp[hw])) ⟨ho,ho2,h1 hw⟩
  · refine concat_meets ⟨_,ho,rfl⟩ ⟨_,ho2,rfl⟩ noFill_tuple_add seq_tuple_add PySem.F.slot_tuple_add PySem.F.entry_tuple_add (PySem.F.args_tuple_add_2 _ _)
      (tuple_addW2 t b vs.toArray ws.toArray n n2 dd dd2 sl sl2 (by simpa using hv) (by simpa using hw) (by rw[List.size_toArray,List.size_toArray];exact hsz)) ⟨ho,ho2,?_⟩
    rw[e];exact h2 hw
def sIx (n d:Nat):Option Int->Nat
  | none=>d
  | some v=>if v<0 then (v+(n:Int)).toNat else min v.toNat n
theorem zx7 (n d:Nat) (hd:d<=n) (o:Option Int):sIx n d o<=n:=by
  cases o with
  | none=>exact hd
  | some v=>
    show (if v<0 then (v+(n:Int)).toNat else min v.toNat n)<=n
    by_cases hv:v<0
    · rw[if_pos hv];omega
    · rw[if_neg hv];exact Nat.min_le_right _ _
theorem zrh (v:Int) (n d:Nat):(if v<0 then max (v+(n:Int)) 0 else min v (n:Int))=((sIx n d (some v):Nat):Int):=by
  show (if v<0 then max (v+(n:Int)) 0 else min v (n:Int))=(((if v<0 then (v+(n:Int)).toNat else min v.toNat n):Nat):Int)
  by_cases hv:v<0
  · simp only [if_pos hv];omega
  · simp only [if_neg hv];omega
theorem zpm (lo hi:Option Int) (n:Nat):Builtin.Slice.sliceAdjust lo hi 1 (n:Int)=(((sIx n 0 lo:Nat):Int),((sIx n n hi:Nat):Int)):=by
  have h1:¬((1:Int)<0):=by omega
  unfold Builtin.Slice.sliceAdjust;simp only [h1,if_false];refine Prod.ext ?_ ?_
  · cases lo with
    | none=>rfl
    | some v=>exact zrh v n 0
  · cases hi with
    | none=>rfl
    | some v=>exact zrh v n n
theorem zpn (i j:Nat):Builtin.Slice.slicePlaces (i:Int) (j:Int) 1=j-i:=by
  unfold Builtin.Slice.slicePlaces;have h1:(1:Int) > 0:=by omega
  simp only [h1,if_true,Int.ediv_one];split<;>omega
theorem zjd {v:Value}{o:Option Int}{Q:Option Int->Shared->Prop}(p:IsPart v o) (h:Q o s):wpAny (model prog w) A (Builtin.Slice.slicePartIndex v) Q E s:=by
  cases p with
  | none=>exact slicePart_none h
  | int i t=>exact slicePart_int h
theorem zdt {sl:Addr}{vl vu:Value}{lo hi:Option Int}{n:Nat}{Q:Int×Int×Nat->Shared->Prop}(hs:s.heap.IsSliceOf sl vl vu .none) (pl:IsPart vl lo) (pu:IsPart vu hi)
    (h:Q (((sIx n 0 lo:Nat):Int),1,sIx n n hi-sIx n 0 lo) s):wpAny (model prog w) A (Builtin.Slice.sliceApplied (.ref sl) (pure (n:Int))) Q E s:=by
  obtain⟨os,hos,hcs,hds⟩:=id hs;unfold Builtin.Slice.sliceApplied Builtin.Slice.sliceFields;refine wpAny_bind (wpAny_bind (wpAny_field hos hds (x:=vl) rfl (wpAny_bind (wpAny_field hos hds (x:=vu) rfl (wpAny_bind (wpAny_field hos hds (x:=.none) rfl (wpAny_pure ?_)))))));refine wpAny_bind (slicePart_none ?_);show wpAny _ _ (if ((1:Int) == 0)=true then _ else _) _ _ s;rw[if_neg (by decide)];refine wpAny_bind (zjd pl (wpAny_bind (zjd pu (wpAny_bind (wpAny_pure ?_)))));show wpAny _ _ (match Builtin.Slice.sliceAdjust lo hi 1 (n:Int) with | (lo,hi)=>pure (lo,(1:Int),Builtin.Slice.slicePlaces lo hi 1)) _ _ s;rw[zpm lo hi n];show wpAny _ _ (pure (((sIx n 0 lo:Nat):Int),(1:Int),Builtin.Slice.slicePlaces ((sIx n 0 lo:Nat):Int) ((sIx n n hi:Nat):Int) 1)) _ _ s;rw[zpn];exact wpAny_pure h
theorem zt0 (xs:Array Value) (i k:Nat):((List.range k).filterMap fun (m:Nat)=>xs[((i:Int)+(m:Int) * 1).toNat]?).toArray=((xs.toList.drop i).take k).toArray:=by
  have e:(fun (m:Nat)=>xs[((i:Int)+(m:Int) * 1).toNat]?)=fun m=>xs[i+m]?:=by
    funext m;have:((i:Int)+(m:Int) * 1).toNat=i+m:=by omega
    rw[this]
  rw[e];have:=pick_run xs i k;rw[List.filterMap_map] at this;have e2:((fun x=>xs[x]?) ∘ fun x=>i+x)=fun m=>xs[i+m]?:=rfl
  rw[e2] at this;rw[this]
theorem getItem_tuple_cut {t sl:Addr}{items:Array Value}{vl vu:Value}{lo hi:Option Int}{Q:Value->Shared->Prop}(ht:IsTup s.heap t items) (hs:s.heap.IsSliceOf sl vl vu .none) (pl:IsPart vl lo) (pu:IsPart vu hi)
    (hw:¬(sIx items.size 0 lo=0/\sIx items.size items.size hi=items.size))
    (h:Q (.ref s.heap.objs.size) { s with heap:=s.heap.push { cls:=.type "tuple",data:=.seq ((items.toList.drop (sIx items.size 0 lo)).take (sIx items.size items.size hi-sIx items.size 0 lo)).toArray } })
    (hsz:items.size<=sizeLine):wpAny (model prog w) A (getItem (.ref t) (.ref sl)) Q E s:=by
  have htake:sizeOk (.seq ((items.toList.drop (sIx items.size 0 lo)).take (sIx items.size items.size hi-sIx items.size 0 lo)).toArray):=by
    show ((items.toList.drop (sIx items.size 0 lo)).take (sIx items.size items.size hi-sIx items.size 0 lo)).toArray.size<=sizeLine;rw[List.size_toArray,List.length_take,List.length_drop,Array.length_toList];omega
  have hj:sIx items.size items.size hi<=items.size:=zx7 _ _ (Nat.le_refl _) hi;obtain⟨os,hos,hcs,hds⟩:=id hs;have hTs:s.TypeIs (.ref sl) "slice":=⟨os,hos,hcs⟩;unfold getItem
  try with_reducible refine wpAny_holding ?_
  first | refine wpAny_bind (wpAny_pure ?_) | skip
  refine wpAny_bind (wpAny_sequenceKey ht.typeIs (by decide) ?_);refine wpAny_bind (wpAny_callSpecial?_slot (name:=Str.ofString "__getitem__") ht.typeIs PyProof.Rows.slot_tuple_getitem
    (wpAny_call_entry PyProof.Rows.slot_tuple_getitem ht.typeIs entry_tuple_getitem ?_ (args_tuple_getitem _ _)))
  show wpAny _ _ (Builtin.Tuple.tupleItemsOf (.ref t) >>= _) _ _ s;refine wpAny_bind (tupleItemsOf_ ht ?_);refine wpAny_bind (wpAny_typeOf hTs ?_);rw[if_pos (by decide)];refine wpAny_bind (zdt hs pl pu ?_);have hno:¬((((sIx items.size 0 lo:Nat):Int) == 0&&(1:Int) == 1&&(sIx items.size items.size hi-sIx items.size 0 lo) == items.size)=true):=by
    intro q;rw[Bool.and_eq_true,Bool.and_eq_true] at q;have q1:((sIx items.size 0 lo:Nat):Int)=0:=eq_of_beq q.1.1;have q2:sIx items.size items.size hi-sIx items.size 0 lo=items.size:=eq_of_beq q.2;exact hw ⟨by omega,by omega⟩
  show wpAny _ _ (if (((sIx items.size 0 lo:Nat):Int) == 0&&(1:Int) == 1&&(sIx items.size items.size hi-sIx items.size 0 lo) == items.size)=true then _ else _) _ _ s;rw[if_neg hno,zt0]
  first
    | exact wpAny_bind (m:=Builtin.Tuple.tupleExact _) (wpAny_newObj_type (wpAny_pure ⟨_,rfl,wpAny_pure h⟩) htake)
    | exact wpAny_bind (m:=Builtin.Tuple.tupleExact _) (wpAny_newObj_type (wpAny_bind (wpAny_pure (wpAny_pure ⟨_,rfl,wpAny_pure h⟩))) htake)
    | exact wpAny_bind (wpAny_bind (m:=Builtin.Tuple.tupleExact _) (wpAny_newObj_type (wpAny_pure (wpAny_pure ⟨_,rfl,wpAny_pure h⟩)) htake))
    | exact wpAny_bind (wpAny_bind (m:=Builtin.Tuple.tupleExact _) (wpAny_newObj_type (wpAny_pure ⟨_,rfl,wpAny_pure h⟩) htake))
end
end HT
namespace L2
open PySem PySem.Spec PyProof.Rows
abbrev TO:=St->Hp->(Option Int->Hp->Prop)->Prop
def PO (X:Cx) (e:Option Expr) (t:TO):Prop:=
  ∀(pins:List (Addr×Obj)) (s:Shared) (σ:St) (H:Hp) (Q:Option Int->Hp->Prop),Inv X pins σ H s->t σ H Q->
    wpAny (model X.prog X.w) X.A (evalPart e X.env) (fun u s'=>∃o H',Inv X pins σ H' s'/\IsPart u o/\Q o H') X.xe s
def zri:TO:=fun _ H Q=>Q none H
def zx8 (t:TE):TO:=fun σ H Q=>t σ H fun x H1=>∃i,x = .int i/\Q (some i) H1
theorem zpo {ns:List Int}:∀{us:List Value},Vals (ns.map V.int) us->IntsAre us ns:=by
  induction ns with
  | nil=>intro us r;rw[List.map_nil] at r;cases r;exact .nil
  | cons n ns ih=>
    intro us r;rw[List.map_cons] at r;cases r with
    | cons r1 r2=>
      obtain⟨t,e⟩:=r1;subst e;exact .cons n t (ih r2)
section
variable {X:Cx}{e:Expr}{te:TE}{lo hi:Option Expr}{tl th:TO}{pos p2:Pos}
theorem za3:PO X none zri:=by
  intro pins s σ H Q I h;rw[evalPart_none];exact wpAny_pure ⟨none,H,I,.none,h⟩
theorem zaw (h:PE X e te):PO X (some e) (zx8 te):=by
  intro pins s σ H Q I hw;rw[evalPart_some];refine thn (h pins s σ H _ I hw) fun u s1 hq0=>?_
  obtain⟨x,H1,I1,r1,q1⟩:=hq0;obtain⟨i,rfl,q⟩:=q1;obtain⟨t,rfl⟩:=r1;exact⟨some i,H1,I1,.int i t,q⟩
def SlR (X:Cx) (r:V->Option Int->Option Int->Hp->VK->Prop):Prop:=
  ∀(pins:List (Addr×Obj)) (s:Shared) (σ:St) (H:Hp) (x:V) (v vl vu:Value) (lo hi:Option Int) (sl:Addr) (Q:VK),Inv X pins σ H s->RelV x v->s.heap.IsSliceOf sl vl vu .none->IsPart vl lo->IsPart vu hi->r x lo hi H Q->
    ∃T id,typeLookup (.type T) "__getitem__" = pure (some (.builtin id))/\s.TypeIs v T/\wpAny (model X.prog X.w) X.A (getItem v (.ref sl)) (EP X pins σ Q) X.xe s
def tSl (r:V->Option Int->Option Int->Hp->VK->Prop) (te:TE) (tl th:TO):TE:=fun σ H Q=>te σ H fun x H1=>tl σ H1 fun l H2=>th σ H2 fun u H3=>r x l u H3 Q
theorem zaq {r:V->Option Int->Option Int->Hp->VK->Prop}(hr:SlR X r) (he:PE X e te) (hl:PO X lo tl) (hu:PO X hi th):PE X (.Subscript e (.Slice lo hi none p2) pos) (tSl r te tl th):=by
  intro pins s σ H Q I h;refine Subscript_ (thn (he pins s σ H _ I h) fun v s1 hq0=>?_);obtain⟨x,H1,I1,r1,q1⟩:=hq0;refine wpAny_Slice (thn (hl pins s1 σ H1 _ I1 q1) fun vl s2 ⟨l,H2,I2,pl,q2⟩=>thn (hu pins s2 σ H2 _ I2 q2) fun vu s3 hq0=>?_);obtain⟨u,H3,I3,pu,q3⟩:=hq0;rw[evalPart_none];refine wpAny_pure ?_;have I4:Inv X pins σ H3 { s3 with heap:=s3.heap.push { cls:=.type "slice",data:=.fields #[vl,vu,.none] } }:=I3.kept (t':=s3.toks) fun b ob q=>Heap.get?_push_of_some _ q
  obtain⟨T,id,hT,ht,hg⟩:=hr pins { s3 with heap:=s3.heap.push { cls:=.type "slice",data:=.fields #[vl,vu,.none] } } σ H3 x v vl vu l u s3.heap.objs.size Q I4 r1 (Heap.IsSliceOf.new ..) pl pu q3;show wpAny (model X.prog X.w) X.A (subscriptTail e (.Slice lo hi none p2) v (.ref s3.heap.objs.size)) (EP X pins σ Q) X.xe { s3 with heap:=s3.heap.push { cls:=.type "slice",data:=.fields #[vl,vu,.none] } };exact tail_any (ops:=[.ref s3.heap.objs.size,v]) ht hT hg (by with_unfolding_all rfl)
def cutV (xs:List V) (lo hi:Option Int):List V:=(xs.drop (HT.sIx xs.length 0 lo)).take (HT.sIx xs.length xs.length hi-HT.sIx xs.length 0 lo)
theorem zhr (xs:List V) (lo hi:Option Int):(cutV xs lo hi).length<=xs.length:=by
  unfold cutV;rw[List.length_take,List.length_drop];omega
def rSlT (K:PySem.W.Frag):V->Option Int->Option Int->Hp->VK->Prop:=fun x lo hi H Q=>∃a xs,x = .ref a/\SqT K H a xs/\
  ¬(HT.sIx xs.length 0 lo=0/\HT.sIx xs.length xs.length hi=xs.length)/\∀p,H p=none->Q (.ref p) (upd H p (.tup (cutV xs lo hi)))
theorem zvj:SlR X (rSlT X.K):=by
  intro pins s σ H x v vl vu lo hi sl Q I rx hs pl pu h;obtain⟨a,xs,rfl,hx,hw,q⟩:=h;cases rx;obtain⟨its,r,ht,hz⟩:=I.tuple hx;have hlen:its.toArray.size=xs.length:=by rw[List.size_toArray];exact r.length.symm
  refine⟨"tuple",_,PyProof.Rows.slot_tuple_getitem.lookup,ht.typeIs,?_⟩;refine HT.getItem_tuple_cut ht hs pl pu (by rw[hlen];exact hw) ?_ (by rw[hlen];exact hz);rw[hlen];refine⟨.ref s.heap.objs.size,_,I.laid (t':=s.toks) (o:=.tup (cutV xs lo hi)) (fun b ob q=>Heap.get?_push_of_some _ q) (Nat.le_refl _) ?_,rfl,q _ (I.hok.fresh (Nat.le_refl _))⟩;exact⟨Nat.le_trans (zhr xs lo hi) hz,_,(r.drop (HT.sIx xs.length 0 lo)).take (HT.sIx xs.length xs.length hi-HT.sIx xs.length 0 lo),IsTup.new _ _⟩
def zx9 (K:PySem.W.Frag):R2:=fun x y H Q=>∃a b xs ys,x = .ref a/\y = .ref b/\SqT K H a xs/\SqT K H b ys/\xs≠[]/\xs.length+ys.length<=sizeLine/\
  (ys = []->Q (.ref a) H)/\(ys≠[]->∀p,H p=none->Q (.ref p) (upd H p (.tup (xs++ys))))
theorem Vals.nil_iff {xs:List V}{us:List Value}(r:Vals xs us):us = []↔xs = []:=by
  cases r with
  | nil=>simp
  | cons _ _=>simp
theorem zv4:OpR X (binaryOp .Add) (zx9 X.K):=by
  intro pins s σ H x y v u Q I rx ry h;obtain⟨a,b,xs,ys,rfl,rfl,ha,hb,hx,hz,q1,q2⟩:=h;cases rx;cases ry;obtain⟨its,r1,p1,_⟩:=I.tuple ha;obtain⟨its2,r2,p2,_⟩:=I.tuple hb;refine HT.cat_tup p1 p2 (fun z=>hx (r1.nil_iff.mp z)) (fun z=>⟨.ref a,H,I,rfl,q1 (r2.nil_iff.mp z)⟩) (fun z=>?_) (by rw[←r1.length,←r2.length];exact hz);refine⟨.ref s.heap.objs.size,_,I.laid (t':=s.toks) (o:=.tup (xs++ys)) (fun b ob q=>Heap.get?_push_of_some _ q) (Nat.le_refl _) ?_,rfl,q2 (fun w=>z (r2.nil_iff.mpr w)) _ (I.hok.fresh (Nat.le_refl _))⟩;exact⟨by rw[List.length_append];exact hz,_,r1.append r2,IsTup.new _ _⟩
end
def ixN (n:Nat) (i:Int):Option Nat:=if 0<=i then (if i<n then some i.toNat else none) else if -(n:Int)<=i then some (i+n).toNat else none
def atI {α:Type}(xs:List α) (i:Int):Option α:=(ixN xs.length i).bind fun j=>xs[j]?
theorem zv5 {n:Nat}{i:Int}{j:Nat}(h:ixN n i=some j):seqIndex? i n=some j/\j<n/\-(n:Int)<=i/\i<n:=by
  unfold ixN at h
  by_cases h0:0<=i
  · rw[if_pos h0] at h
    by_cases h1:i<n
    · rw[if_pos h1] at h;have e:i.toNat=j:=Option.some.inj h;exact⟨by rw[seqIndex_of h0 h1,e],by omega,by omega,h1⟩
    · rw[if_neg h1] at h;cases h
  · rw[if_neg h0] at h
    by_cases h1 : -(n:Int)<=i
    · rw[if_pos h1] at h;have e:(i+n).toNat=j:=Option.some.inj h;exact⟨by rw[seqIndex_neg (by omega) h1,e],by omega,h1,by omega⟩
    · rw[if_neg h1] at h;cases h
theorem zm9 {α:Type}{xs:List α}{i:Int}{v:α}(h:atI xs i=some v):∃j,seqIndex? i xs.length=some j/\xs[j]? = some v/\j<xs.length/\-(xs.length:Int)<=i/\i<xs.length:=by
  unfold atI at h;cases e:ixN xs.length i with
  | none=>rw[e] at h;cases h
  | some j=>
    rw[e] at h;obtain⟨h1,h2,h3,h4⟩:=zv5 e;exact⟨j,h1,h,h2,h3,h4⟩
theorem zan {α:Type}{xs:List α}{j:Nat}{v:α}(h:xs[j]? = some v):atI xs (j:Int)=some v:=by
  have hj:j<xs.length:=(List.getElem?_eq_some_iff.mp h).1;have e:ixN xs.length (j:Int)=some j:=by
    unfold ixN;rw[if_pos (by omega),if_pos (by omega)];simp
  unfold atI;rw[e];exact h
theorem zt1 {α:Type}(xs:List α) (v:α):atI (xs++[v]) (-1)=some v:=by
  have hl:(xs++[v]).length=xs.length+1:=by simp
  have e:ixN (xs++[v]).length (-1)=some xs.length:=by
    unfold ixN;rw[hl,if_neg (by decide),if_pos (by omega)]
    congr 1
    omega
  unfold atI;rw[e];show (xs++[v])[xs.length]? = some v;simp
def zv6 (b:Expr):Prop:=∀o i,subscripted b false o i=operate [o,i] (getItem o i)
def IxR (X:Cx) (r:R2):Prop:=
  ∀(value slice:Expr) (pins:List (Addr×Obj)) (s:Shared) (σ:St) (H:Hp) (x y:V) (v u:Value) (Q:VK),Inv X pins σ H s->RelV x v->RelV y u->r x y H Q->
    subscripted slice false v u=operate [v,u] (getItem v u)->wpAny (model X.prog X.w) X.A (subscriptTail value slice v u) (EP X pins σ Q) X.xe s
def MtR (X:Cx) (id:String) (r:V->List V->Hp->VK->Prop):Prop:=
  ∀(pins:List (Addr×Obj)) (s:Shared) (σ:St) (H:Hp) (x:V) (xs:List V) (v:Value) (us:List Value) (Q:VK),Inv X pins σ H s->RelV x v->Vals xs us->r x xs H Q->
    wpAny (model X.prog X.w) X.A (call (.builtin id) (v::us)) (EP X pins σ Q) X.xe s
section
variable {X:Cx}{a b:Expr}{ta tb:TE}{pos:Pos}
theorem zae {r:R2}(hr:IxR X r) (ha:PE X a ta) (hb:PE X b tb) (hs:zv6 b):PE X (.Subscript a b pos) (tOp r ta tb):=by
  intro pins s σ H Q I h;exact Subscript_ (binT ha hb I h fun v u s2 x y H2 I2 rx ry q=>hr a b pins s2 σ H2 x y v u Q I2 rx ry q (hs _ _))
def rIxL (K:PySem.W.Frag):R2:=fun x y H Q=>∃p xs i v,x = .ref p/\y = .int i/\SqL K H p xs/\atI xs i=some v/\Q v H
def rIxT (K:PySem.W.Frag):R2:=fun x y H Q=>∃p xs i v,x = .ref p/\y = .int i/\SqT K H p xs/\atI xs i=some v/\Q v H
def rIxS:R2:=fun x y H Q=>∃z i c,x = .str z/\y = .int i/\z.length<=sizeLine/\atI z.cps.toList i=some c/\Q (.str ⟨#[c]⟩) H
theorem zv7:IxR X (rIxL X.K):=by
  intro value slice pins s σ H x y v u Q I rx ry h hs;obtain⟨p,xs,i,z,rfl,rfl,hq,he,q⟩:=h;cases rx;obtain⟨t,rfl⟩:=ry;obtain⟨its,r,pl,hz⟩:=I.list hq;obtain⟨j,h1,h2,h3,h4,h5⟩:=zm9 he;obtain⟨w,ew,rw'⟩:=r.get h2;have hl:=r.length;have hn:=zk6;have fin:EP X pins σ Q w s:=⟨z,H,I,rw',q⟩
  by_cases h0:0<=i
  · have hj:i.toNat=j:=by
      rw[seqIndex_of h0 h5] at h1;exact Option.some.inj h1
    exact item_listR pl.isList h0 (by omega) (by rw[hj];simpa using ew) fin hs
  · have hj:(i+(its.toArray.size:Int)).toNat=j:=by
      rw[seqIndex_neg (by omega) h4] at h1;rw[List.size_toArray,←hl];exact Option.some.inj h1
    exact subscriptTail_builtinR (x:=w) pl.isList.typeIs slot_list_getitem.lookup
      (wpAny_getItem_list_neg (Q:=fun r s'=>r=w/\EP X pins σ Q r s') pl.isList (by omega) (by rw[List.size_toArray]<;>omega) (by omega) (by rw[hj];simpa using ew) ⟨rfl,fin⟩) hs
theorem zya:IxR X (rIxT X.K):=by
  intro value slice pins s σ H x y v u Q I rx ry h hs;obtain⟨p,xs,i,z,rfl,rfl,hq,he,q⟩:=h;cases rx;obtain⟨t,rfl⟩:=ry;obtain⟨its,r,pl,hz⟩:=I.tuple hq;obtain⟨j,h1,h2,h3,h4,h5⟩:=zm9 he;obtain⟨w,ew,rw'⟩:=r.get h2;have hl:=r.length;have hn:=zk6;have fin:EP X pins σ Q w s:=⟨z,H,I,rw',q⟩;exact subscriptTail_builtinR (x:=w) pl.typeIs slot_tuple_getitem.lookup
    (getItem_tuple (j:=j) (Q:=fun r s'=>r=w/\EP X pins σ Q r s') pl (by omega) (by omega) (by rw[List.size_toArray,←hl];exact h1) (by simpa using ew) ⟨rfl,fin⟩) hs
theorem zyb:IxR X rIxS:=by
  intro value slice pins s σ H x y v u Q I rx ry h hs;obtain⟨z,i,c,rfl,rfl,hz,he,q⟩:=h;obtain⟨t,rfl⟩:=rx;obtain⟨t',rfl⟩:=ry;obtain⟨j,h1,h2,h3,h4,h5⟩:=zm9 he;have hl:z.cps.toList.length=z.length:=by simp[Str.length]
  rw[hl] at h1 h4 h5;have hn:=zk6;exact tail_any (typeIs_str s z t) slot_str_getitem.lookup (getItem_str (c:=c) (by
    have e1:decide (i < -(2 ^ 63:Int))=false:=decide_eq_false (by omega);have e2:decide (i≥2 ^ 63)=false:=decide_eq_false (by omega);rw[e1,e2,Bool.or_false]) (by rw[h1];simpa using h2) ⟨.str ⟨#[c]⟩,H,I.tok _,⟨_,rfl⟩,q⟩) hs
theorem zld (lo hi:Option Int) (n:Nat):(sliceBounds lo hi none n).1=((HT.sIx n 0 lo:Nat):Int)/\(sliceBounds lo hi none n).2.1=((HT.sIx n n hi:Nat):Int)/\(sliceBounds lo hi none n).2.2=1:=by
  refine⟨?_,?_,rfl⟩
  · cases lo with
    | none=>simp[sliceBounds,HT.sIx]
    | some i=>
      simp only [sliceBounds,HT.sIx,Option.getD_none,show (1:Int) > 0 by decide,if_true]
      by_cases h:i<0
      · simp only [h,if_true]<;>omega
      · simp only [h,if_false]<;>omega
  · cases hi with
    | none=>simp[sliceBounds,HT.sIx]
    | some i=>
      simp only [sliceBounds,HT.sIx,Option.getD_none,show (1:Int) > 0 by decide,if_true]
      by_cases h:i<0
      · simp only [h,if_true]<;>omega
      · simp only [h,if_false]<;>omega
theorem zj5 (its:List Value) (lo hi:Option Int):slicePick its.toArray lo hi none=((its.drop (HT.sIx its.length 0 lo)).take (HT.sIx its.length its.length hi-HT.sIx its.length 0 lo)).toArray:=by
  obtain⟨h1,h2,h3⟩:=zld lo hi its.toArray.size;unfold slicePick;rw[h1,h2,h3];simp only [sliceRange_one,pick_run,List.size_toArray]<;>rfl
def rSlL (K:PySem.W.Frag):V->Option Int->Option Int->Hp->VK->Prop:=fun x lo hi H Q=>∃a xs,x = .ref a/\SqL K H a xs/\∀p,H p=none->Q (.ref p) (upd H p (.lst (cutV xs lo hi)))
theorem zv8:SlR X (rSlL X.K):=by
  intro pins s σ H x v vl vu lo hi sl Q I rx hs pl pu h;obtain⟨a,xs,rfl,hx,q⟩:=h;cases rx;obtain⟨its,r,ht,hz⟩:=I.list hx;have hlen:=r.length;refine⟨"list",_,slot_list_getitem.lookup,ht.isList.typeIs,?_⟩;refine wpAny_getItem_list_slice ht.isList hs pl pu .none (by simp) ?_ (by rw[List.size_toArray]<;>omega);rw[zj5,←hlen];refine⟨.ref s.heap.objs.size,_,I.laid (t':=s.toks) (o:=.lst (cutV xs lo hi)) (fun b ob q=>Heap.get?_push_of_some _ q) (Nat.le_refl _) ?_,rfl,q _ (I.hok.fresh (Nat.le_refl _))⟩;exact⟨Nat.le_trans (zhr xs lo hi) hz,_,0,(r.drop (HT.sIx xs.length 0 lo)).take (HT.sIx xs.length xs.length hi-HT.sIx xs.length 0 lo),Heap.get?_push_size _ rfl⟩
def zcn:V->Bool
  | .non=>true
  | .bl _=>true
  | .int _=>true
  | .str _=>true
  | _=>false
def eqV:V->V->Bool
  | .non,.non=>true
  | .bl a,.bl b=>a == b
  | .bl a,.int b=>(if a then 1 else 0) == b
  | .int a,.bl b=>a == (if b then 1 else 0)
  | .int a,.int b=>a == b
  | .str a,.str b=>a == b
  | _,_=>false
theorem zvk {A:Around}{s:Shared}{y x:V}{u v:Value}(ry:RelV y u) (rx:RelV x v) (fy:zcn y=true) (fx:zcn x=true):SeqAt.EqAt A s u v (eqV y x):=by
  cases y with
  | non=>
    cases ry;cases x with
    | non=>cases rx;exact SeqAt.EqAt.same _
    | bl b=>cases rx;exact SeqAt.EqAt.none_bool b
    | int b=>obtain⟨t,rfl⟩:=rx;exact SeqAt.EqAt.none_int b t
    | str b=>obtain⟨t,rfl⟩:=rx;exact SeqAt.EqAt.none_str b t
    | _=>exact absurd (show false=true from fx) Bool.false_ne_true
  | bl a=>
    cases ry;cases x with
    | non=>cases rx;exact SeqAt.EqAt.bool_none a
    | bl b=>cases rx;exact SeqAt.EqAt.bool_bool a b
    | int b=>obtain⟨t,rfl⟩:=rx;exact SeqAt.EqAt.bool_int a b t
    | str b=>obtain⟨t,rfl⟩:=rx;exact SeqAt.EqAt.bool_str a b t
    | _=>exact absurd (show false=true from fx) Bool.false_ne_true
  | int a=>
    obtain⟨t',rfl⟩:=ry;cases x with
    | non=>cases rx;exact SeqAt.EqAt.int_none a t'
    | bl b=>cases rx;exact SeqAt.EqAt.int_bool a t' b
    | int b=>obtain⟨t,rfl⟩:=rx;exact SeqAt.EqAt.int_int a t' b t
    | str b=>obtain⟨t,rfl⟩:=rx;exact SeqAt.EqAt.int_str a t' b t
    | _=>exact absurd (show false=true from fx) Bool.false_ne_true
  | str a=>
    obtain⟨t',rfl⟩:=ry;cases x with
    | non=>cases rx;exact SeqAt.EqAt.str_none a t'
    | bl b=>cases rx;exact SeqAt.EqAt.str_bool a t' b
    | int b=>obtain⟨t,rfl⟩:=rx;exact SeqAt.EqAt.str_int a t' b t
    | str b=>obtain⟨t,rfl⟩:=rx;exact SeqAt.EqAt.str_str a t' b t
    | _=>exact absurd (show false=true from fx) Bool.false_ne_true
  | _=>exact absurd (show false=true from fy) Bool.false_ne_true
def eqU (x:V) (u:Value):Bool:=match u with
  | .none=>eqV .non x
  | .bool b=>eqV (.bl b) x
  | .int i _=>eqV (.int i) x
  | .str z _=>eqV (.str z) x
  | _=>false
theorem zvl {x y:V}{u:Value}(r:RelV y u) (f:zcn y=true):eqU x u=eqV y x:=by
  cases y with
  | non=>cases r;rfl
  | bl b=>cases r;rfl
  | int i=>obtain⟨t,rfl⟩:=r;rfl
  | str z=>obtain⟨t,rfl⟩:=r;rfl
  | _=>exact absurd (show false=true from f) Bool.false_ne_true
theorem zhs {x:V}:∀{xs:List V}{us:List Value},Vals xs us->xs.all zcn=true->us.any (eqU x)=xs.any fun y=>eqV y x
  | _,_,.nil,_=>rfl
  | y::xs,u::us,.cons r t,f=>by
    rw[List.all_cons,Bool.and_eq_true] at f;rw[List.any_cons,List.any_cons,zvl r f.1,zhs t f.2]
theorem zfq {A:Around}{s:Shared}{x:V}{v:Value}(rx:RelV x v) (fx:zcn x=true):∀{xs:List V}{us:List Value},Vals xs us->xs.all zcn=true->∀u∈us,SeqAt.EqAt A s u v (eqU x u)
  | _,_,.nil,_=>fun u hu=>by cases hu
  | y::xs,u::us,.cons r t,f=>fun u' hu=>by
    rw[List.all_cons,Bool.and_eq_true] at f;rcases List.mem_cons.mp hu with rfl | hu
    · rw[zvl r f.1];exact zvk r rx f.1 fx
    · exact zfq rx fx t f.2 u' hu
def inV (x:V) (xs:List V):Bool:=xs.any fun y=>eqV y x
def rIn (K:PySem.W.Frag) (neg:Bool):R2:=fun x y H Q=>∃p xs,y = .ref p/\(SqL K H p xs\/SqT K H p xs)/\zcn x=true/\xs.all zcn=true/\Q (.bl (if neg then !inV x xs else inV x xs)) H
theorem zrj:OpR X (compareOp .In) (rIn X.K false):=by
  intro pins s σ H x y v u Q I rx ry h;obtain⟨p,xs,rfl,hq,fx,fs,q⟩:=h;cases ry;rcases hq with hq | hq
  · obtain⟨its,r,pl,hz⟩:=I.list hq;refine SeqAt.in_listAt (eqU x) pl.isList (fun w hw=>zfq rx fx r fs w (by simpa using hw)) ⟨.bl _,H,I,rfl,?_⟩;rw[show its.toArray.any (eqU x)=its.any (eqU x) by simp,zhs r fs];exact q
  · obtain⟨its,r,pl,hz⟩:=I.tuple hq;refine SeqAt.in_tupleAt (eqU x) pl (fun w hw=>zfq rx fx r fs w (by simpa using hw)) ⟨.bl _,H,I,rfl,?_⟩;rw[show its.toArray.any (eqU x)=its.any (eqU x) by simp,zhs r fs];exact q
theorem zle:OpR X (compareOp .NotIn) (rIn X.K true):=by
  intro pins s σ H x y v u Q I rx ry h;obtain⟨p,xs,rfl,hq,fx,fs,q⟩:=h;cases ry;rcases hq with hq | hq
  · obtain⟨its,r,pl,hz⟩:=I.list hq;refine SeqAt.notIn_listAt (eqU x) pl.isList (fun w hw=>zfq rx fx r fs w (by simpa using hw)) ⟨.bl _,H,I,rfl,?_⟩;rw[show its.toArray.any (eqU x)=its.any (eqU x) by simp,zhs r fs];exact q
  · obtain⟨its,r,pl,hz⟩:=I.tuple hq;refine SeqAt.notIn_tupleAt (eqU x) pl (fun w hw=>zfq rx fx r fs w (by simpa using hw)) ⟨.bl _,H,I,rfl,?_⟩;rw[show its.toArray.any (eqU x)=its.any (eqU x) by simp,zhs r fs];exact q
theorem zlf:zdw X (.builtin "len") (fun xs H Q=>∃p ys,xs = [.ref p]/\(SqL X.K H p ys\/SqT X.K H p ys)/\Q (.int ys.length) H):=by
  intro pins s σ H xs us Q I r h;obtain⟨p,ys,rfl,hq,q⟩:=h;obtain⟨u,rfl,rx⟩:=zel r;cases rx;have hn:=zk6;rcases hq with hq | hq
  · obtain⟨its,r',pl,hz⟩:=I.list hq;have hlen:=r'.length;exact Calls.call_len_list pl.isList (by simp only [List.size_toArray]<;>omega) ⟨.int ys.length,H,I.tok _,⟨s.toks+1,by rw[List.size_toArray,hlen]⟩,q⟩
  · obtain⟨its,r',pl,hz⟩:=I.tuple hq;have hlen:=r'.length;exact len_tuple pl (by simp only [List.size_toArray]<;>omega) ⟨.int ys.length,H,I.tok _,⟨s.toks+1,by rw[List.size_toArray,hlen]⟩,q⟩
theorem zg1:zdw X (.builtin "len") (fun xs H Q=>∃z,xs = [.str z]/\z.length<=sizeLine/\Q (.int z.length) H):=by
  intro pins s σ H xs us Q I r h;obtain⟨z,rfl,hz,q⟩:=h;obtain⟨u,rfl,t,rfl⟩:=zel r;have hn:=zk6;exact len_str (by omega) ⟨.int z.length,H,I.tok _,⟨_,rfl⟩,q⟩
theorem zj6:zdw X (.type "tuple") (fun xs H Q=>∃p ys,xs = [.ref p]/\((SqL X.K H p ys/\∀l,H l=none->Q (.ref l) (upd H l (.tup ys)))\/(SqT X.K H p ys/\Q (.ref p) H))):=by
  intro pins s σ H xs us Q I r h;obtain⟨p,ys,rfl,h⟩:=h;obtain⟨u,rfl,rx⟩:=zel r;cases rx;rcases h with ⟨hq,q⟩ | ⟨hq,q⟩
  · obtain⟨its,r',pl,hz⟩:=I.list hq;have hlen:=r'.length;refine call_tuple_list pl.isList (fun h' kp=>?_) (by simp only [List.size_toArray]<;>omega);have I1:Inv X pins σ H { s with heap:=h' }:=I.kept (t':=s.toks) kp;have I2:Inv X pins σ (upd H h'.objs.size (.tup ys)) { s with heap:=h'.push { cls:=.type "tuple",data:=.seq its.toArray } }:=
      I1.laid (t':=s.toks) (fun b o e=>Heap.get?_push_of_some _ e) (Nat.le_refl _) (show ObjOk X.prog X.w _ _ _ (.tup ys) from ⟨hz,its,r',IsTup.new _ _⟩)
    exact⟨.ref h'.objs.size,_,I2,rfl,q _ (I1.hok.fresh (Nat.le_refl _))⟩
  · obtain⟨its,r',pl,hz⟩:=I.tuple hq;exact call_tuple_same pl ⟨.ref p,H,I,rfl,q⟩
def tyV (K:PySem.W.Frag) (T:String) (x:V) (H:Hp):Prop:=match x with
  | .str _=>T = "str"
  | .int _=>T = "int"
  | .ref p=>(T = "list"/\∃xs,SqL K H p xs)\/(T = "tuple"/\∃o,K.lookup p=some o/\o.cls = .type "tuple"/\o.dict=none)\/
      (T = "dict"/\((∃kvs,H p=some (.dK kvs))\/∃kvs,H p=some (.dT kvs)))\/(T = "set"/\∃S n,H p=some (.set S n))
  | _=>False
theorem zvm {pins:List (Addr×Obj)}{σ:St}{H:Hp}{s:Shared}{T:String}{x:V}{v:Value}(I:Inv X pins σ H s) (r:RelV x v) (ty:tyV X.K T x H) :
    s.TypeIs v T/\∀a,v = .ref a->∃ob,s.heap.get? a=some ob/\ob.dict=none:=by
  cases x with
  | str z=>
    obtain⟨t,rfl⟩:=r;cases (show T = "str" from ty);exact⟨typeIs_str s z t,fun _ e=>nomatch e⟩
  | int i=>
    obtain⟨t,rfl⟩:=r;cases (show T = "int" from ty);exact⟨typeIs_int s i t,fun _ e=>nomatch e⟩
  | ref p=>
    cases r;rcases ty with ⟨rfl,xs,hq⟩ | ⟨rfl,o,hk,hc,hd⟩ | ⟨rfl,hk⟩ | ⟨rfl,S,n,hk⟩
    · obtain⟨its,_,pl,_⟩:=I.list hq;refine⟨pl.isList.typeIs,fun a e=>?_⟩;cases e;obtain⟨o,n,e,c,hd,_⟩:=pl;exact⟨o,e,hd⟩
    · refine⟨⟨o,I.kIn p o hk,hc⟩,fun a e=>?_⟩;cases e;exact⟨o,I.kIn _ o hk,hd⟩
    · have z:∃o,s.heap.get? p=some o/\o.ExactDict:=by
        rcases hk with ⟨kvs,hk⟩ | ⟨kvs,hk⟩
        · obtain⟨_,_,_,_,o,_,_,e,ex,_⟩:=I.hok p _ hk;exact⟨o,e,ex⟩
        · obtain⟨_,_,_,_,o,_,_,e,ex,_⟩:=I.hok p _ hk;exact⟨o,e,ex⟩
      obtain⟨o,e,ex⟩:=z;refine⟨⟨o,e,ex.1⟩,fun a e2=>?_⟩;cases e2;exact⟨o,e,ex.2.1⟩
    · obtain⟨o,_,_,_,e,ex,_⟩:=I.hok p _ hk;refine⟨⟨o,e,ex.1⟩,fun a e2=>?_⟩;cases e2;exact⟨o,e,ex.2.1⟩
  | _=>exact False.elim ty
def tBM0 (K:PySem.W.Frag) (T:String) (r:V->List V->Hp->VK->Prop) (to:TE):TE:=fun σ H Q=>to σ H fun x H1=>tyV K T x H1/\r x [] H1 Q
def tBM (K:PySem.W.Frag) (T:String) (r:V->List V->Hp->VK->Prop) (to:TE) (t:TA):TE:=fun σ H Q=>to σ H fun x H1=>tyV K T x H1/\t σ H1 fun xs H2=>r x xs H2 Q
variable {o e:Expr}{es:List Expr}{to:TE}{t:TA}{name:Str}{apos cpos:Pos}{T id:String}{r:V->List V->Hp->VK->Prop}
theorem zyc (pa:PlainAttrs T) (slot:Slot T name id) (hty:typeOf (.builtin id)=pure (.type "method_descriptor")) (hm:MtR X id r) (ho:PE X o to)
    (hbase:attributeBase o name X.env (eval o X.env)=eval o X.env:=by rfl) (hline:(apos.endLine == cpos.line)=true:=by rfl):PE X (.Call (.Attribute o name apos) [] [] cpos) (tBM0 X.K T r to):=by
  intro pins s σ H Q I h;refine wpAny_Call_method0_late hbase hline (thn (ho pins s σ H _ I h) fun v s1 hq0=>?_);obtain⟨x,H1,I1,r1,ty,q1⟩:=hq0;obtain⟨h1,h2⟩:=zvm I1 r1 ty;exact⟨T,id,pa,slot,hty,h1,h2,Calls.callWith_builtin rfl (PySem.evalArgs_none (hm pins s1 σ H1 x [] v [] Q I1 r1 .nil q1))⟩
theorem zzn (pa:PlainAttrs T) (slot:Slot T name id) (hty:typeOf (.builtin id)=pure (.type "method_descriptor")) (hm:MtR X id r) (ho:PE X o to) (ha:PA X (e::es) t)
    (hbase:attributeBase o name X.env (eval o X.env)=eval o X.env:=by rfl)
    (hfew:((backTo cpos (starEach (e::es) X.env)).all (fun x=>!x.1)&&(backToKw cpos (keywordEach [] X.env)).all (fun x=>x.1.isSome)
      && decide ((e::es).length+([]:List Keyword).length+(if ([]:List Keyword).isEmpty then 0 else 1)<30))=true:=by rfl)
    (hline:(apos.endLine == cpos.line)=true:=by rfl) (hs:starEach (e::es) X.env=(false,eval e X.env)::starEach es X.env:=by rfl) (hplain:(backTo cpos (starEach es X.env)).any (·.1)=false:=by rfl) :
    PE X (.Call (.Attribute o name apos) (e::es) [] cpos) (tBM X.K T r to t):=by
  intro pins s σ H Q I h;refine wpAny_Call_method_late hbase hfew hline rfl (thn (ho pins s σ H _ I h) fun v s1 hq0=>?_);obtain⟨x,H1,I1,r1,ty,q1⟩:=hq0;obtain⟨h1,h2⟩:=zvm I1 r1 ty;refine⟨T,id,pa,slot,hty,h1,h2,?_⟩;have hA:=ha cpos pins s1 σ H1 _ I1 q1;rw[hs] at hA ⊢;refine Calls.callWith_builtin (by show (false||(backTo cpos (starEach es X.env)).any (·.1))=false;rw[hplain]<;>rfl) (Calls.evalArgs_plain ?_);exact thn hA fun us s2 ⟨vs,H2,I2,r2,q2⟩=>hm pins s2 σ H2 x vs v us Q I2 r1 r2 q2
end
def MtM (X:Cx) (id:String) (r:V->List V->Hp->VK->Prop):Prop:=
  ∀(pins:List (Addr×Obj)) (s:Shared) (σ:St) (H:Hp) (x:V) (xs:List V) (v:Value) (us:List Value) (Q:VK),Inv X pins σ H s->RelV x v->Vals xs us->r x xs H Q->
    wpAny (model X.prog X.w) X.A (call (.builtin id) (v::us)) (EP X pins σ Q) X.xe s
theorem Vals.one:∀{x:V}{us:List Value},Vals [x] us->∃u,us = [u]/\RelV x u
  | _,_,.cons r .nil=>⟨_,rfl,r⟩
section
variable {X:Cx}{pins:List (Addr×Obj)}{σ:St}{H:Hp}{s:Shared}{l b:Addr}{xs ys zs:List V}
theorem Inv.lset {its its':List Value}{n:Nat}{f:Array Value->Array Value}{t':Nat}(I:Inv X pins σ H s) (hH:H l=some (.lst xs))
    (e:s.heap.get? l=some { cls:=.type "list",data:=.seq its.toArray n }) (hf:f its.toArray=its'.toArray) (hv:Vals ys its') (hz:ys.length<=sizeLine) :
    Inv X pins σ (upd H l (.lst ys)) { s with heap:=s.heap.update l (Obj.mapSeq f),toks:=t' }:=by
  have q:=PySem.IsL.update e f;rw[hf] at q;refine I.write (x:=l) (e:=l) (by rw[hH];exact trivial) (.inl rfl) (fun b' u hb hu=>(Heap.get?_update_other s.heap (Obj.mapSeq f) (Ne.symm hb)).trans hu) ⟨_,q⟩ ?_;exact⟨hz,its',_,hv,q⟩
theorem Inv.lnew {its:List Value}{t':Nat}(I:Inv X pins σ H s) (hv:Vals ys its) (hz:ys.length<=sizeLine) :
    Inv X pins σ (upd H s.heap.objs.size (.lst ys)) { s with heap:=s.heap.push { cls:=.type "list",data:=.seq its.toArray },toks:=t' }:=
  I.laid (fun _ _ q=>Heap.get?_push_of_some _ q) (Nat.le_refl _) ⟨hz,its,0,hv,Heap.get?_push_size _ rfl⟩
theorem Inv.fresh (I:Inv X pins σ H s):H s.heap.objs.size=none:=I.hok.fresh (Nat.le_refl _)
theorem Inv.lstM (I:Inv X pins σ H s) (hH:H l=some (.lst xs)):xs.length<=sizeLine/\∃(its:List Value) (n:Nat),Vals xs its/\xs.length=its.length/\s.heap.get? l=some { cls:=.type "list",data:=.seq its.toArray n }:=by
  obtain⟨z,its,n,r,e⟩:=I.hok l _ hH;exact⟨z,its,n,r,r.length,e⟩
theorem zt2 {n:Nat}(h:n<=sizeLine):Builtin.List.listTooLong n=false:=by
  unfold Builtin.List.listTooLong;exact decide_eq_false (by omega)
end
section
variable {X:Cx}
def zv9:V->List V->Hp->VK->Prop:=fun x vs H Q=>∃l xs y,x = .ref l/\vs = [y]/\H l=some (.lst xs)/\xs.length<sizeLine/\Q .non (upd H l (.lst (xs++[y])))
theorem zb2:MtM X "list.append" zv9:=by
  intro pins s σ H x vs v us Q I rx rv h;obtain⟨l,xs,y,rfl,rfl,hH,hz,q⟩:=h;cases rx;obtain⟨u,rfl,ru⟩:=rv.one;obtain⟨z,its,n,r,hl,e⟩:=I.lstM hH;refine call_meets F.slot_list_append ⟨_,e,rfl⟩ F.entry_list_append (F.args_list_append_2 _ _) (PySem.list_append l its.toArray n u (by rw[List.size_toArray];omega)) ⟨e,?_⟩;refine⟨.non,_,I.lset (its':=its++[u]) hH e (by simp) (r.append (.cons ru .nil)) ?_,rfl,q⟩;rw[List.length_append,List.length_singleton];omega
def zwa:V->List V->Hp->VK->Prop:=fun x vs H Q=>∃l b xs zs,x = .ref l/\vs = [.ref b]/\H l=some (.lst xs)/\H b=some (.lst zs)/\xs.length+zs.length<=sizeLine/\Q .non (upd H l (.lst (xs++zs)))
theorem zht:MtM X "list.extend" zwa:=by
  intro pins s σ H x vs v us Q I rx rv h;obtain⟨l,b,xs,zs,rfl,rfl,hH,hB,hz,q⟩:=h;cases rx;obtain⟨u,rfl,ru⟩:=rv.one;cases ru;obtain⟨z,its,n,r,hl,e⟩:=I.lstM hH;obtain⟨z2,its2,n2,r2,hl2,e2⟩:=I.lstM hB;have hsz:its.toArray.size+its2.toArray.size<=sizeLine:=by rw[List.size_toArray,List.size_toArray];omega
  have hlong:¬(!its.toArray.isEmpty&&Builtin.List.listTooLong (its.toArray.size+its2.toArray.size))=true:=by
    rw[zt2 hsz,Bool.and_false];exact Bool.false_ne_true
  refine call_meets F.slot_list_extend ⟨_,e,rfl⟩ F.entry_list_extend (F.args_list_extend_2 _ _)
    (AutoSeq1.list_extend_list_list_0 l its.toArray n b its2.toArray n2 hlong (by rw[List.size_toArray];omega) (by omega)) ⟨e,e2,?_⟩
  refine⟨.non,_,I.lset (its':=its++its2) hH e (by simp) (r.append r2) ?_,rfl,q⟩;rw[List.length_append];omega
def rCat:R2:=fun x y H Q=>∃l b xs zs,x = .ref l/\y = .ref b/\H l=some (.lst xs)/\H b=some (.lst zs)/\xs.length+zs.length<=sizeLine/\∀p,H p=none->Q (.ref p) (upd H p (.lst (xs++zs)))
theorem zyd:OpR X (binaryOp .Add) rCat:=by
  intro pins s σ H x y v u Q I rx ry h;obtain⟨l,b,xs,zs,rfl,rfl,hH,hB,hz,q⟩:=h;cases rx;cases ry;obtain⟨z,its,n,r,hl,e⟩:=I.lstM hH;obtain⟨z2,its2,n2,r2,hl2,e2⟩:=I.lstM hB;refine PySem.P.add_list e e2 ?_ (by rw[List.size_toArray,List.size_toArray];omega);have ea:its.toArray++its2.toArray=(its++its2).toArray:=by simp
  rw[ea];exact⟨.ref _,_,I.lnew (t':=s.toks) (r.append r2) (by rw[List.length_append];omega),rfl,q _ I.fresh⟩
end
section
variable {κ:Type} [DecidableEq κ]
def valV (kvs:List (κ×V)) (k:κ):Option V:=(kvs.find? fun kv=>decide (kv.1=k)).map (·.2)
def putK (kvs:List (κ×V)) (k:κ) (v:V):List (κ×V):=
  if (kvs.any fun kv=>decide (kv.1=k))=true then kvs.map (fun kv=>if kv.1=k then (kv.1,v) else kv) else kvs++[(k,v)]
theorem zj7 {p:κ×V}{r:List (κ×V)}{k:κ}(e:p.1=k):valV (p::r) k=some p.2:=by simp[valV,List.find?_cons,e]
theorem zj8 {p:κ×V}{r:List (κ×V)}{k:κ}(e:¬p.1=k):valV (p::r) k=valV r k:=by simp[valV,List.find?_cons,e]
theorem zhi (k:κ):∀kvs:List (κ×V),(kvs.any fun kv=>decide (kv.1=k))=(valV kvs k).isSome
  | []=>rfl
  | p::r=>by
    rw[List.any_cons]
    by_cases e:p.1=k
    · simp only [zj7 e,decide_eq_true e,Bool.true_or,Option.isSome_some]
    · rw[zj8 e,decide_eq_false e,Bool.false_or];exact zhi k r
theorem zhu (kvs:List (κ×V)) (k:κ) (v:V):(putK kvs k v).length<=kvs.length+1:=by
  unfold putK;split
  · rw[List.length_map];omega
  · rw[List.length_append,List.length_cons,List.length_nil];omega
theorem zj9 {kvs:List (κ×V)}{k:κ}(v:V) (h:valV kvs k=none):putK kvs k v=kvs++[(k,v)]:=by
  unfold putK;rw[zhi,h];exact if_neg (by decide)
theorem RelO.isSome_eq {o:Option V}{u:Option Value}(r:RelO o u):o.isSome=u.isSome:=by
  cases o with
  | none=>cases u with
    | none=>rfl
    | some _=>exact (show False from r).elim
  | some _=>cases u with
    | none=>exact (show False from r).elim
    | some _=>rfl
theorem KV.val {kvs:List (κ×V)}{vs:List (κ×Value)}(r:KV kvs vs) (k:κ):RelO (valV kvs k) (valueAt vs k):=by
  unfold KV at r
  induction r with
  | nil=>exact True.intro
  | @cons p q ps qs h t ih=>
    obtain⟨h1,h2⟩:=h
    by_cases e:p.1=k
    · have e':q.1=k:=h1.symm.trans e;have b:valueAt (q::qs) k=some q.2:=by simp[valueAt,List.find?_cons,e']
      rw[zj7 e,b];exact h2
    · have e':¬q.1=k:=fun z=>e (h1.trans z)
      have b:valueAt (q::qs) k=valueAt qs k:=by simp[valueAt,List.find?_cons,e']
      rw[zj8 e,b];exact ih
theorem KV.any {kvs:List (κ×V)}{vs:List (κ×Value)}(r:KV kvs vs) (k:κ):(kvs.any fun kv=>decide (kv.1=k))=vs.any fun kv=>decide (kv.1=k):=by
  unfold KV at r
  induction r with
  | nil=>rfl
  | cons h t ih=>rw[List.any_cons,List.any_cons,ih,h.1]
theorem KV.repl {kvs:List (κ×V)}{vs:List (κ×Value)}(r:KV kvs vs) (k:κ) {y:V}{u:Value}(ry:RelV y u) :
    KV (kvs.map fun kv=>if kv.1=k then (kv.1,y) else kv) (vs.map fun kv=>if kv.1=k then (kv.1,u) else kv):=by
  unfold KV at r ⊢
  induction r with
  | nil=>exact .nil
  | @cons p q ps qs h t ih=>
    rw[List.map_cons,List.map_cons];refine .cons ?_ ih;obtain⟨h1,h2⟩:=h
    by_cases e:p.1=k
    · rw[if_pos e,if_pos (h1.symm.trans e)];exact⟨h1,ry⟩
    · rw[if_neg e,if_neg (fun z=>e (h1.trans z))];exact⟨h1,h2⟩
theorem KV.put {kvs:List (κ×V)}{vs:List (κ×Value)}(r:KV kvs vs) (k:κ) {y:V}{u:Value}(ry:RelV y u):KV (putK kvs k y) (stored vs k u):=by
  unfold putK stored;rw[r.any k]
  by_cases e:(vs.any fun kv=>decide (kv.1=k))=true
  · rw[if_pos e,if_pos e];exact r.repl k ry
  · rw[if_neg e,if_neg e];exact Paired.snoc r ⟨rfl,ry⟩
theorem KV.length {kvs:List (κ×V)}{vs:List (κ×Value)}(r:KV kvs vs):kvs.length=vs.length:=Paired.length r
end
theorem zpp {P:Program}{w:World}{k:Key}{u:Value}(r:RelV (kV k) u):(zbi P w).is k u=true:=by
  cases k with
  | inl i=>obtain⟨t,e⟩:=(show ∃t,u=Value.int i t from r);subst e;exact zm6 P w i t
  | inr x=>obtain⟨t,e⟩:=(show ∃t,u=Value.str x t from r);subst e;exact ze6 P w x t
theorem zlg {P:Program}{w:World}:∀{ks:List Key}{us:List Value},Vals (ks.map kV) us->ItemsAre (zbi P w) ks us
  | [],_,r=>by rw[List.map_nil] at r;cases r;exact .nil
  | k::ks,_,r=>by
    rw[List.map_cons] at r;cases r with
    | cons h t=>exact .cons (zpp h) (zlg t)
abbrev KT (H:Hp):List (List Key×V)->List (List Key×Addr×Value)->Prop:=Paired fun p q=>p.1=q.1/\H q.2.1=some (.tup (p.1.map kV))/\RelV p.2 q.2.2
theorem KT.val {H:Hp}{kvs:List (List Key×V)}{xs:List (List Key×Addr×Value)}(r:KT H kvs xs) (k:List Key):RelO (valV kvs k) ((atKey xs k).map (·.2)):=by
  induction r with
  | nil=>exact True.intro
  | @cons p q ps qs h t ih=>
    obtain⟨h1,_,h2⟩:=h
    by_cases e:p.1=k
    · have e':q.1=k:=h1.symm.trans e;have b:atKey (q::qs) k=some q.2:=by simp[atKey,List.find?_cons,e']
      rw[zj7 e,b];exact h2
    · have e':¬q.1=k:=fun z=>e (h1.trans z)
      have b:atKey (q::qs) k=atKey qs k:=by simp[atKey,List.find?_cons,e']
      rw[zj8 e,b];exact ih
theorem KT.repl {H:Hp}{kvs:List (List Key×V)}{xs:List (List Key×Addr×Value)}(r:KT H kvs xs) (k:List Key) {y:V}{u:Value}(ry:RelV y u) :
    KT H (kvs.map fun kv=>if kv.1=k then (kv.1,y) else kv) (xs.map (putAt k u)):=by
  induction r with
  | nil=>exact .nil
  | @cons p q ps qs h t ih=>
    rw[List.map_cons,List.map_cons];refine .cons ?_ ih;obtain⟨h1,h2,h3⟩:=h;unfold putAt
    by_cases e:p.1=k
    · rw[if_pos e,if_pos (h1.symm.trans e)];exact⟨h1,h2,ry⟩
    · rw[if_neg e,if_neg (fun z=>e (h1.trans z))];exact⟨h1,h2,h3⟩
theorem KT.put {H:Hp}{kvs:List (List Key×V)}{xs:List (List Key×Addr×Value)}(r:KT H kvs xs) (k:List Key) {b:Addr}{y:V}{u:Value}(hb:H b=some (.tup (k.map kV))) (ry:RelV y u) :
    KT H (putK kvs k y) (storedH xs k b u):=by
  have e:(kvs.any fun kv=>decide (kv.1=k))=(atKey xs k).isSome:=by
    rw[zhi,(r.val k).isSome_eq,Option.isSome_map]
  unfold putK storedH;rw[e]
  by_cases q:(atKey xs k).isSome=true
  · rw[if_pos q,if_pos q];exact r.repl k ry
  · rw[if_neg q,if_neg q];exact Paired.snoc r ⟨rfl,hb,ry⟩
theorem KT.keeps {H H':Hp}{kvs:List (List Key×V)}{xs:List (List Key×Addr×Value)}(r:KT H kvs xs) (ht:∀b ys,H b=some (.tup ys)->H' b=some (.tup ys)):KT H' kvs xs:=
  Paired.mapP r fun _ _ z=>⟨z.1,ht _ _ z.2.1,z.2.2⟩
section
variable {P:Program}{w:World}{H:Hp}{h:Heap}{a:Addr}
theorem zye {u:HO}(ok:HOk P w H h) (e:Rd H a u):ObjOk P w H h a u:=e.ok ok
theorem zwb {kvs:List (Key×V)}(ok:HOk P w H h) (e:Rd H a (.dK kvs)):kvs.length<=sizeLine/\(a == sysModules)=false/\∃vs,KV kvs vs/\h.DictOf (zbi P w) a vs:=
  show ObjOk P w H h a (.dK kvs) from zye ok e
theorem zzo {kvs:List (Key×V)}(ok:HOk P w H h) (e:H a=some (.dK kvs)):kvs.length<=sizeLine/\(a == sysModules)=false/\∃vs,KV kvs vs/\h.DictOf (zbi P w) a vs:=zwb ok (.inl e)
theorem zog {ks:List Key}(ok:HOk P w H h) (e:H a=some (.tup (ks.map kV))):(tupleKind (zbi P w)).is h ks a:=by
  obtain⟨_,its,r,o,h1,h2,n,h3⟩:=(show ObjOk P w H h a (.tup (ks.map kV)) from ok a _ e);exact⟨o,its.toArray,n,h1,h2,h3,by simpa using zlg r⟩
theorem zwc {kvs:List (List Key×V)}(ok:HOk P w H h) (e:Rd H a (.dT kvs)):kvs.length<=sizeLine/\(a == sysModules)=false/\
    ∃xs,KT H kvs xs/\h.DictOfH (tupleKind (zbi P w)) a xs:=by
  obtain⟨z,y,xs,r,o,es,ep,h1,h2,h3,h4,h5⟩:=(show ObjOk P w H h a (.dT kvs) from zye ok e);refine⟨z,y,xs,r,o,es,ep,h1,h2,h3,h4,fun x hx=>?_,h5⟩;have all:∀{l:List (List Key×V)}{m:List (List Key×Addr×Value)},KT H l m->∀x∈m,(tupleKind (zbi P w)).is h x.1 x.2.1:=by
    intro l m q
    induction q with
    | nil=>intro x hx;exact nomatch hx
    | @cons p q ps qs hq t ih=>
      intro x hx;rcases List.mem_cons.mp hx with e | hx
      · subst e;exact zog ok (by rw[←hq.1];exact hq.2.1)
      · exact ih x hx
  exact all r x hx
theorem zzp {kvs:List (List Key×V)}(ok:HOk P w H h) (e:H a=some (.dT kvs)):kvs.length<=sizeLine/\(a == sysModules)=false/\
    ∃xs,KT H kvs xs/\h.DictOfH (tupleKind (zbi P w)) a xs:=zwc ok (.inl e)
end
def DGet (H:Hp) (a:Addr) (y:V) (r:Option V):Prop:=
  (∃kvs k,Rd H a (.dK kvs)/\y=kV k/\r=valV kvs k)\/∃kvs k b,Rd H a (.dT kvs)/\y = .ref b/\H b=some (.tup (k.map kV))/\r=valV kvs k
def DPut (H:Hp) (a:Addr) (y v:V) (H':Hp):Prop:=
  (∃kvs k,H a=some (.dK kvs)/\y=kV k/\kvs.length<sizeLine/\H'=upd H a (.dK (putK kvs k v)))\/
  ∃kvs k b,H a=some (.dT kvs)/\y = .ref b/\H b=some (.tup (k.map kV))/\kvs.length<sizeLine/\H'=upd H a (.dT (putK kvs k v))
theorem DGet.k {H:Hp}{a:Addr}{kvs:List (Key×V)}{k:Key}(e:H a=some (.dK kvs)):DGet H a (kV k) (valV kvs k):=.inl ⟨kvs,k,.inl e,rfl,rfl⟩
theorem DGet.t {H:Hp}{a b:Addr}{kvs:List (List Key×V)}{k:List Key}(e:H a=some (.dT kvs)) (eb:H b=some (.tup (k.map kV))):DGet H a (.ref b) (valV kvs k):=.inr ⟨kvs,k,b,.inl e,rfl,eb,rfl⟩
theorem DPut.k {H:Hp}{a:Addr}{kvs:List (Key×V)}{k:Key}{v:V}(e:H a=some (.dK kvs)) (hl:kvs.length<sizeLine):DPut H a (kV k) v (upd H a (.dK (putK kvs k v))):=.inl ⟨kvs,k,e,rfl,hl,rfl⟩
theorem DPut.t {H:Hp}{a b:Addr}{kvs:List (List Key×V)}{k:List Key}{v:V}(e:H a=some (.dT kvs)) (eb:H b=some (.tup (k.map kV))) (hl:kvs.length<sizeLine) :
    DPut H a (.ref b) v (upd H a (.dT (putK kvs k v))):=.inr ⟨kvs,k,b,e,rfl,eb,hl,rfl⟩
section
variable {X:Cx}{pins:List (Addr×Obj)}{σ:St}{H:Hp}{s:Shared}{a:Addr}{y v:V}{u r:Value}{o:Option V}{A:Around}{E:Value->Shared->Prop}
theorem Inv.big (I:Inv X pins σ H s):sysModules<s.heap.objs.size:=by
  have h:mainGlobals<s.heap.objs.size:=(I.mod.glob.keeps I.bk).lt;exact Nat.lt_trans (by decide) h
theorem d_in {Q:Value->Shared->Prop}(hu:A.units+1<cLine) (I:Inv X pins σ H s) (g:DGet H a y o) (ry:RelV y u) (h:∀s',Inv X pins σ H s'->Q (.bool o.isSome) s') :
    wpAny (model X.prog X.w) A (compareOp .In u (.ref a)) Q E s:=by
  rcases g with ⟨kvs,k,e,ey,l⟩ | ⟨kvs,k,b,e,ey,eb,l⟩
  · subst ey;obtain⟨z,hd,vs,rel,dd⟩:=zwb I.hok e;refine wpAny_in_of (zpp ry) hd dd.mapOf ?_;rw[←(rel.val k).isSome_eq,←l];exact h _ (I.tok _)
  · subst ey;cases (show u=Value.ref b from ry);obtain⟨z,hd,xs,rel,dd⟩:=zwc I.hok e;refine wpAny_in_heap (tupleKind_room_in1 hu) (zog I.hok eb) hd dd ?_;have q:=(rel.val k).isSome_eq;rw[Option.isSome_map] at q;rw[←q,←l];exact h _ (I.tok _)
theorem zwd {Q:Value->Shared->Prop}(hu:A.units+1<cLine) (I:Inv X pins σ H s) (g:DGet H a y o) (ry:RelV y u) (h:∀s',Inv X pins σ H s'->Q (.bool (!o.isSome)) s') :
    wpAny (model X.prog X.w) A (compareOp .NotIn u (.ref a)) Q E s:=by
  rcases g with ⟨kvs,k,e,ey,l⟩ | ⟨kvs,k,b,e,ey,eb,l⟩
  · subst ey;obtain⟨z,hd,vs,rel,dd⟩:=zwb I.hok e;refine wpAny_notIn_of (zpp ry) hd dd.mapOf ?_;rw[←(rel.val k).isSome_eq,←l];exact h _ (I.tok _)
  · subst ey;cases (show u=Value.ref b from ry);obtain⟨z,hd,xs,rel,dd⟩:=zwc I.hok e;refine wpAny_notIn_heap (tupleKind_room_in1 hu) (zog I.hok eb) hd dd ?_;have q:=(rel.val k).isSome_eq;rw[Option.isSome_map] at q;rw[←q,←l];exact h _ (I.tok _)
theorem zrk {h':Heap}{t':Nat}{ob:HO}(I:Inv X pins σ H s) (mu:Mut (H a)) (hs:Heap.SameBut a s.heap h') (he:∃q,h'.get? a=some q) (new:ObjOk X.prog X.w (upd H a ob) h' a ob) :
    Inv X pins σ (upd H a ob) { s with heap:=h',toks:=t' }:=
  I.write (x:=a) (e:=a) mu (.inl rfl) (fun b q hb z=>(hs.2 b hb).trans z) he new
theorem zyf {P:Program}{w:World}{H':Hp}{h':Heap}{kvs:List (Key×V)}{vs:List (Key×Value)}(z:kvs.length<=sizeLine) (hd:(a == sysModules)=false) (rel:KV kvs vs) (dd:h'.DictOf (zbi P w) a vs) :
    ObjOk P w H' h' a (.dK kvs):=⟨z,hd,vs,rel,dd⟩
theorem zrl {H':Hp}{Q:Unit->Shared->Prop}(hu:A.units+1<cLine) (I:Inv X pins σ H s) (g:DPut H a y v H') (ry:RelV y u) (rv:RelV v r) (h:∀s',Inv X pins σ H' s'->Q () s') :
    wpAny (model X.prog X.w) A (setItem (.ref a) u r) Q E s:=by
  rcases g with ⟨kvs,k,e,ey,l,eH⟩ | ⟨kvs,k,b,e,ey,eb,l,eH⟩
  · subst ey eH;obtain⟨z,hd,vs,rel,dd⟩:=zzo I.hok e;have hz:vs.length<=sizeLine:=by rw[←rel.length];exact z
    have hl:(putK kvs k v).length<=sizeLine:=by have:=zhu kvs k v;omega
    refine wpAny_setItem_pairs (hsz:=hz) (zpp ry) dd fun h' dd' hs=>h _ ?_
    have he:∃q,h'.get? a=some q:=let ⟨q,_,_,hq,_⟩:=dd';⟨q,hq⟩
    exact zrk I (by rw[e];exact True.intro) hs he (zyf hl hd (rel.put k rv) dd')
  · subst ey eH;cases (show u=Value.ref b from ry);obtain⟨z,hd,xs,rel,dd⟩:=zzp I.hok e;have hz:xs.length<=sizeLine:=by rw[←Paired.length rel];exact z
    have hl:(putK kvs k v).length<=sizeLine:=by have:=zhu kvs k v;omega
    refine wpAny_setItem_heap (hsz:=hz) (tupleKind_room_in1 hu) (zog I.hok eb) dd fun h' dd' hs=>h _ ?_
    obtain⟨q,es,ep,hq,h2,h3,h4,_,h5⟩:=dd';refine zrk I (by rw[e];exact True.intro) hs ⟨q,hq⟩ ⟨hl,hd,_,(rel.put k eb rv).keeps fun c ys ec=>?_,q,es,ep,hq,h2,h3,h4,h5⟩;rw[zv (zek ec e (fun z=>nomatch z))];exact ec
end
def NoSl (i:Expr):Prop:=∀ov iv,subscripted i false ov iv=operate [ov,iv] (getItem ov iv)
theorem zwe {prog:Program}{w:World}{A:Around}{E:Value->Shared->Prop}{s:Shared}{env:Env}{value slice:Expr}{pos:Pos}{T id:String}{Q:Value->Shared->Prop}
    (hl:typeLookup (.type T) "__getitem__" = pure (some (.builtin id))) (hs:NoSl slice)
    (h:wpAny (model prog w) A (eval value env) (fun o s₁=>wpAny (model prog w) A (eval slice env) (fun i s₂=>s₂.TypeIs o T/\wpAny (model prog w) A (getItem o i) Q E s₂) E s₁) E s) :
    wpAny (model prog w) A (eval (.Subscript value slice pos) env) Q E s:=by
  refine Subscript_ (wpAny_mono h (fun o s₁ h₁=>wpAny_mono h₁ (fun i s₂ h₂=>?_) fun _ _ x=>x) fun _ _ x=>x);obtain⟨hT,h₂⟩:=h₂;unfold subscriptTail;refine wpAny_bind ?_;rw[getitemInPython_of_ne hT.not_modules];refine wpAny_bind (wpAny_specialOf hT hl ?_);have fin:wpAny (model prog w) A (subscripted slice false o i) (fun r s₃=>wpAny (model prog w) A (letTemporaryGo value o r >>= fun _=>pure r) Q E s₃) E s₂:=by
    rw[hs o i];exact wpAny_operating (wpAny_mono h₂ (fun r s₃ h₃=>wpAny_bind (wpAny_letTemporaryGo (wpAny_pure h₃))) fun _ _ x=>x)
  first
    | exact wpAny_pure (wpAny_bind fin)
    | exact wpAny_bind (wpAny_pure (wpAny_bind fin))
    | exact wpAny_bind fin
def tDIn (ty td:TE):TE:=fun σ H Q=>ty σ H fun y H1=>td σ H1 fun x H2=>∃a o,x = .ref a/\DGet H2 a y o/\Q (.bl o.isSome) H2
def zwf (ty td:TE):TE:=fun σ H Q=>ty σ H fun y H1=>td σ H1 fun x H2=>∃a o,x = .ref a/\DGet H2 a y o/\Q (.bl (!o.isSome)) H2
def zzq (td ty tv:TE):TS:=fun D σ H=>tv σ H fun v H1=>td σ H1 fun x H2=>ty σ H2 fun y H3=>∃a H4,x = .ref a/\DPut H3 a y v H4/\D.nx σ H4
section
variable {X:Cx}{o i e value:Expr}{pos pos' tpos:Pos}{td ty tv:TE}
theorem zje (hu:X.A.units+1<cLine) (hi:PE X i ty) (ho:PE X o td):PC X .In i o (tDIn ty td):=by
  intro pins s σ H Q I h;refine thn (hi pins s σ H _ I h) fun iv s1 ⟨y,H1,I1,ry,q1⟩=>thn (ho pins s1 σ H1 _ I1 q1) fun u s2 hq0=>?_
  obtain⟨x,H2,I2,rx,a,ov,ex,g,q2⟩:=hq0;subst ex;obtain rfl:u=Value.ref a:=rx;exact d_in hu I2 g ry fun s3 I3=>⟨.bl ov.isSome,H2,I3,rfl,q2⟩
theorem zlh (hu:X.A.units+1<cLine) (hi:PE X i ty) (ho:PE X o td):PC X .NotIn i o (zwf ty td):=by
  intro pins s σ H Q I h;refine thn (hi pins s σ H _ I h) fun iv s1 ⟨y,H1,I1,ry,q1⟩=>thn (ho pins s1 σ H1 _ I1 q1) fun u s2 hq0=>?_
  obtain⟨x,H2,I2,rx,a,ov,ex,g,q2⟩:=hq0;subst ex;obtain rfl:u=Value.ref a:=rx;exact zwd hu I2 g ry fun s3 I3=>⟨.bl (!ov.isSome),H2,I3,rfl,q2⟩
theorem zgn (hu:X.A.units+1<cLine) (ho:PE X o td) (hi:PE X i ty) (hv:PE X value tv) (hs:swapsWith value (some (.Subscript o i pos')) pos.line X.env=pure false) :
    PS X (.Assign [.Subscript o i pos'] value pos) (zzq td ty tv):=by
  intro pins s σ H D I h;refine wpAny_Assign_Subscript (thn (hv pins s σ H _ I h) fun r s1 ⟨v,H1,I1,rv,q1⟩=>thn (ho pins s1 σ H1 _ I1 q1) fun u s2 ⟨x,H2,I2,rx,q2⟩=>thn (hi pins s2 σ H2 _ I2 q2) fun iv s3 hq0=>?_) hs;obtain⟨y,H3,I3,ry,a,H4,ex,g,q3⟩:=hq0;subst ex;obtain rfl:u=Value.ref a:=rx;exact zrl hu I3 g ry rv fun s4 I4=>⟨σ,H4,I4,q3⟩
end
theorem zt3 {P:Program}{w:World}{H:Hp}(h:Heap) (hb:sysModules<h.objs.size):ObjOk P w H (h.push { cls:=.type "dict",data:=.dict #[] }) h.objs.size (.dK []):=
  ⟨Nat.zero_le _,beq_eq_false_iff_ne.mpr (Ne.symm (Nat.ne_of_lt hb)),[],.nil,Heap.DictOf.new h⟩
theorem zt4 {P:Program}{w:World}{H:Hp}(h:Heap) (hb:sysModules<h.objs.size):ObjOk P w H (h.push { cls:=.type "dict",data:=.dict #[] }) h.objs.size (.dT []):=
  ⟨Nat.zero_le _,beq_eq_false_iff_ne.mpr (Ne.symm (Nat.ne_of_lt hb)),[],.nil,_,#[],0,Heap.get?_push_size _ rfl,⟨rfl,rfl,rfl⟩,rfl,rfl,List.nodup_nil⟩
def zyg:TE:=fun _ H Q=>∀p,H p=none->Q (.ref p) (upd H p (.dK []))
def zyh:TE:=fun _ H Q=>∀p,H p=none->Q (.ref p) (upd H p (.dT []))
section
variable {X:Cx}{pos:Pos}
theorem zoh:PE X (.Dict [] [] pos) zyg:=fun pins s σ H Q I h=>
  wpAny_Dict_empty ⟨.ref s.heap.objs.size,_,I.laid (a:=s.heap.objs.size) (o:=.dK []) (t':=s.toks) (fun _ _ q=>Heap.get?_push_of_some _ q) (Nat.le_refl _) (zt3 s.heap I.big),rfl,h _ (I.hok.fresh (Nat.le_refl _))⟩
theorem zt5:PE X (.Dict [] [] pos) zyh:=fun pins s σ H Q I h=>
  wpAny_Dict_empty ⟨.ref s.heap.objs.size,_,I.laid (a:=s.heap.objs.size) (o:=.dT []) (t':=s.toks) (fun _ _ q=>Heap.get?_push_of_some _ q) (Nat.le_refl _) (zt4 s.heap I.big),rfl,h _ (I.hok.fresh (Nat.le_refl _))⟩
end
end L2
namespace Att
open PySem PySem.W PySem.Calls PyProof.Rows
theorem zhv {P:Params}{h:Heap}:∀(ns:List Int) (vs:List Value),WellAll P h vs (ns.map WData.int)->IntsAre vs ns:=by
  intro ns
  induction ns with
  | nil=>
    intro vs w;rw[List.map_nil] at w;cases w;exact .nil
  | cons n ns ih=>
    intro vs w;rw[List.map_cons] at w;cases w with
    | cons a b=>
      cases a;exact .cons _ _ (ih _ b)
theorem zrm {l:OpenLaw}{n:Nat}(hn:l.most=some n) {P:Params}{h:Heap}{args:List WData}{vals:List Value}
    (hpre:l.row.toRowW.claim.pre args=true) (hwl:WellAll P h vals args) :
    ∃a vs ns,vals = [Value.ref a]/\args = [WData.list (ns.map WData.int)]/\h.get? a=some { cls:=.type "list",data:=.seq vs.toArray }/\IntsAre vs ns/\ns.length<=n:=by
  have hsh:WShape.hasAll [] args [.list .int]=true:=(pre_splitW hpre).1;have hc:l.pre.holds [] { args:=args } = true:=(pre_splitW hpre).2;obtain⟨d,r,rfl,h1,h2⟩:=hasAllW_cons hsh;obtain rfl:=hasAllW_nil h2;obtain⟨xs,rfl,h3⟩:=hasW_list h1;obtain⟨ns,rfl⟩:=items_int h3;have hlen:ns.length<=n:=by
    unfold OpenLaw.pre at hc;have h4:(WTm.not (.lt (.lit (.int (n:Int))) (.len (.arg 0)))).holds [] { args:=[.list (ns.map .int)] } = true:=by
      have h4:=(holds_andW hc).1;rw[hn] at h4;exact h4
    have h5:=condW_of h4 (w_not (w_lt w_lit (w_len_list (w_arg rfl))));rw[List.length_map] at h5;refine Nat.le_of_not_lt fun q=>?_
    have q':(n:Int)<((ns.length:Nat):Int):=by omega
    first
      | (rw[decide_eq_true q'] at h5;exact absurd h5 (by decide))
      | (simp at h5;omega)
  cases hwl with
  | cons w1 w2=>
    cases w2;cases w1 with
    | list ho hall=>exact⟨_,_,ns,rfl,rfl,ho,zhv ns _ hall,hlen⟩
theorem zrn (l:OpenLaw) (args:List WData):l.row.toRowW.claim.post args (.bool true) args=true:=
  postW_of (r:=l.row.toRowW) (X:=(true == true))
    (show WShape.has [] (.bool true) .bool=true by first | rfl | decide | simp[WShape.has,WShape.arms,WShape.armsAll])
    (show (WTm.eq .res (.lit (.bool true))).value [] { args:=args,res:=some (.bool true),after:=args } = some (.bool (true == true)) from w_eq_bool (w_res rfl) w_lit) rfl
theorem attach_call {l:OpenLaw}{n:Nat}{q:Program}{loose:List Str}{XP:(Str->Option Value)->Heap->Prop}{YP:World->Heap->Prop}{d:DefRec}
    (hn:l.most=some n) (hdf:d.params.defaults = [])
    (call:∀(w:World) (s₀ s₁:Shared) (mg mb:Str->Option Value) (fa:Addr) (o:Obj) (pm cd doc:Value) (a:Addr) (vs:List Value) (ns:List Int),
      Ground q loose [] XP w s₀ mg mb s₁.heap->YP w s₁.heap->
      s₁.heap.get? fa=some o->o.data = .func (docDef d.name d.params d.body d.scope pm cd doc)->s₁.heap.CodeRec cd d.name->mg d.name=some (.ref fa)->
      s₁.heap.get? a=some { cls:=.type "list",data:=.seq vs.toArray }->IntsAre vs ns->ns.length<=n->s₁.gens = #[]->
      codeAny (model l.prog w) callerA (.call (.ref fa) ⟨[.ref a],[]⟩) (fun r s'=>r = .ok (.ret (.bool true))/\OldK s₁.heap s'.heap/\s'.os=s₁.os/\AllBare s'.gens) s₁) :
    WalkO q loose XP YP l.row.toRowW d [] (fun f vs=>PySem.call f vs):=by
  intro w s₀ s₁ mg mb G Y fa o pm cd doc dV kV ho hd hcd hD hmg hg args vals as hpre hlay hrd hwl hlo;obtain rfl:dV = .none:=Dflts.none hD hdf;obtain rfl:kV = .none:=Dflts.noKw hD;obtain⟨a,vs,ns,rfl,rfl,hobj,hints,hlen⟩:=zrm hn hpre hwl;refine enter_call (codeAny_mono (call w s₀ s₁ mg mb fa o pm cd doc a vs ns G Y ho (fd_plain hd) hcd hmg hobj hints hlen hg) fun r s' hq=>?_);obtain⟨rfl,h2,h3,h4⟩:=hq;exact⟨.inl ⟨.bool true,.bool true,[],rfl,fun _=>rfl,.bool true,zrn l _,fun _=>⟨List.Pairwise.nil,fun _ hm=>(nomatch hm)⟩⟩,h2,h3,h4⟩
end Att
namespace L2
open PySem PySem.Spec PyProof.Rows
theorem zhw:∀{vs:List Value}{ns:List Int},IntsAre vs ns->Vals (ns.map V.int) vs
  | _,_,.nil=>.nil
  | _,_,.cons n t h=>.cons ⟨t,rfl⟩ (zhw h)
def Only (H:Hp):Prop:=∀b,H b=none\/∃o xs,H b=some (.frz o (.lst xs))
theorem zt6 {P:Program}{w:World}{K:PySem.W.Frag}{mg mb:Str->Option Value}{CX:CXT}{k:Nat}{fa a:Addr}{fd:FuncData}{x:Str}{sp:Sp}{s₁:Shared}{vs:List Value}{ns:List Int}
    (KX:K.In s₁.heap) (hns:s₁.heap.Ns mainGlobals mg) (hb:s₁.heap.Ns builtinsNs mb) (hbb:∀x:Str,x≠"__name__"->mb x=bootBuiltins x) (hlim:s₁.heap.NoLimit) (hg:s₁.gens = #[])
    (ha:s₁.heap.get? a=some { cls:=.type "list",data:=.seq vs.toArray }) (hi:IntsAre vs ns) (hl:ns.length<=sizeLine) (hr:Room k callerA)
    (F:∀base:Heap,K.In base->base.Ns mainGlobals mg->FnOk P w K mg base CX k fa fd [x] sp) (hbind:∀(s:Shared) (u:Value),BindsTo s fd ⟨[u],[]⟩ [(x,u)])
    (hsp:∀H:Hp,Only H->SqL K H a (ns.map V.int)->sp [.ref a] H (fun v _=>v = .bl true) fun _ _ _=>False)
    (hCX:∀H e s',CX [] H s₁ (fun _ _ _=>False) e s'->False) :
    codeAny (model P w) callerA (.call (.ref fa) ⟨[.ref a],[]⟩) (fun r s'=>r = .ok (.ret (.bool true))/\OldK s₁.heap s'.heap/\s'.os=s₁.os/\AllBare s'.gens) s₁:=by
  have rv:=zhw hi;have lenV:=hi.length;have core:∀H:Hp,Only H->SqL K H a (ns.map V.int)->HOk P w H s₁.heap->(∀b,H b≠none->b=a)->(H a≠none->K.lookup a=none)->
      codeAny (model P w) callerA (.call (.ref fa) ⟨[.ref a],[]⟩) (fun r s'=>r = .ok (.ret (.bool true))/\OldK s₁.heap s'.heap/\s'.os=s₁.os/\AllBare s'.gens) s₁:=by
    intro H hO hS hok hA hK;have base_of:∀{b:Addr}{o:Obj},s₁.heap.get? b=some o->H b=none->(hidT s₁.heap H).get? b=some o:=fun e n=>ztl e n
    have noA:∀{b:Addr}{o:Obj}{es:Array DictEntry}{ep:Nat},s₁.heap.get? b=some o->o.data = .dict es ep->H b=none:=fun {b o es ep} e d=>by
      cases q:H b with
      | none=>rfl
      | some u=>
        have e':b=a:=hA b (by rw[q];simp);subst e';rw[ha] at e;cases e;have d':Data.seq vs.toArray _=Data.dict es ep:=d;cases d'
    have nsK:∀{b:Addr}{m:Str->Option Value},s₁.heap.Ns b m->(hidT s₁.heap H).Ns b m:=fun {b m} ⟨o,es,ep,e,d,r⟩=>⟨o,es,ep,base_of e (noA e d),d,r⟩
    have hKb:K.In (hidT s₁.heap H):=fun b o e=>base_of (KX b o e) (by
      cases q:H b with
      | none=>rfl
      | some u=>
        have e':b=a:=hA b (by rw[q];simp);subst e';rw[hK (by rw[q];simp)] at e;cases e)
    have hM:Mod K mg (hidT s₁.heap H):=⟨hKb,nsK hns,⟨mb,nsK hb,hbb⟩,let ⟨mc,h1,h2⟩:=hlim;⟨mc,nsK h1,h2⟩⟩;have e0:Env0 P w K mg (hidT s₁.heap H) callerA [] s₁ H:=⟨rfl,hM,fun b o e=>zvv e,Nat.le_of_eq (zq1 _ _),trivial,fun b hb=>absurd (show b∈([]:List Addr) from hb) (by simp),hok,.of_eq hg⟩;refine codeAny_mono ((F _ hKb (nsK hns)).run callerA [] s₁ H ⟨[.ref a],[]⟩ [.ref a] [.ref a] _ _ hr e0 (hbind s₁ (.ref a)) (.cons rfl .nil) (hsp H hO hS)) fun r s' h=>?_
    cases r with
    | error e=>exact (hCX H e s' h).elim
    | ok fl=>
      cases fl with
      | next=>exact False.elim h
      | brk=>exact False.elim h
      | cont=>exact False.elim h
      | ret u=>
        obtain⟨v,H',os,bare,un,hok',r',q⟩:=h;have q':v = .bl true:=q;subst q';obtain rfl:u=Value.bool true:=r';refine⟨rfl,OldK.of_keep fun b o e=>?_,os,bare⟩;cases q:H b with
        | none=>exact un.keep b o e q (by intro z;exact absurd (show b∈([]:List Addr) from z) (by simp)) (by simp)
        | some u=>
          rcases hO b with z | ⟨ob,xs,z⟩
          · rw[q] at z;cases z
          · have z2:=un.frzs b ob _ z;obtain⟨e1,_⟩:=hok b _ z;obtain⟨e2,_⟩:=hok' b _ z2;rw[e] at e1;cases e1;exact e2
  cases hk:K.lookup a with
  | some o=>
    have e:=KX a o hk;rw[ha] at e;cases e;refine core (fun _=>none) (fun _=>.inl rfl) (.inr ⟨_,vs.toArray,_,hk,rfl,rfl,rfl,by rw[List.size_toArray,lenV];exact hl,by simpa using rv⟩) (fun b u z=>by have z':(none:Option HO)=some u:=z;cases z') (fun b z=>absurd rfl z) fun z=>absurd rfl z
  | none=>
    refine core (fun b=>if b=a then some (.frz { cls:=.type "list",data:=.seq vs.toArray } (.lst (ns.map V.int))) else none) (fun b=>?_) (.inl (.inr ⟨{ cls:=.type "list",data:=.seq vs.toArray },if_pos rfl⟩)) (fun b u z=>?_) (fun b z=>?_) fun _=>hk
    · by_cases hb:b=a
      · exact .inr ⟨_,_,if_pos hb⟩
      · exact .inl (if_neg hb)
    · by_cases hb:b=a
      · have z':=(if_pos hb).symm.trans z;cases z';subst hb;exact⟨ha,by rw[List.length_map];exact hl,vs,_,rv,ha⟩
      · have z':=(if_neg hb).symm.trans z;cases z'
    · by_cases hb:b=a
      · exact hb
      · exact absurd (if_neg hb) z
abbrev KOf {K:PySem.W.Frag}{h:Heap}(_:K.In h):PySem.W.Frag:=K
theorem zwg {l:PySem.W.OpenLaw}{n k:Nat}{q:Program}{loose:List Str}{XP:(Str->Option Value)->Heap->Prop}{YP:World->Heap->Prop}{d:DefRec}{K:Params->PySem.W.Frag}{CX:World->CXT}{sp:World->Sp}{x:Str}
    (hn:l.most=some n) (hn2:n<=sizeLine) (hdf:d.params.defaults = []) (hr:Room k callerA)
    (hY:∀(w:World) (h:Heap),YP w h->(K w.params).In h)
    (F:∀(w:World) (mg:Str->Option Value) (fa:Addr) (h:Heap),(K w.params).In h->h.Ns mainGlobals mg->mg d.name=some (.ref fa)->
      ∃fd:FuncData,(∀(s:Shared) (u:Value),BindsTo s fd ⟨[u],[]⟩ [(x,u)])/\
        ∀base:Heap,(K w.params).In base->base.Ns mainGlobals mg->FnOk l.prog w (K w.params) mg base (CX w) k fa fd [x] (sp w))
    (hsp:∀(w:World) (H:Hp) (a:Addr) (ns:List Int),ns.length<=n->Only H->SqL (K w.params) H a (ns.map V.int)->sp w [.ref a] H (fun v _=>v = .bl true) fun _ _ _=>False)
    (hCX:∀(w:World) (H:Hp) (s:Shared) (e:Value) (s':Shared),CX w [] H s (fun _ _ _=>False) e s'->False) :
    PySem.W.WalkO q loose XP YP l.row.toRowW d [] (fun f vs=>PySem.call f vs):=by
  refine Att.attach_call hn hdf fun w s₀ s₁ mg mb fa o pm cd doc a vs ns G Y ho hd hcd hmg hobj hints hlen hg=>?_
  have KX:=hY w _ Y;obtain⟨fd,hb,hF⟩:=F w mg fa _ KX G.T.g hmg;exact zt6 KX G.T.g G.T.b G.T.builtins G.T.nolimit hg hobj hints (Nat.le_trans hlen hn2) hr hF hb (fun H hO hS=>hsp w H a ns hlen hO hS) fun H e s'=>hCX w H s₁ e s'
theorem walk_ofK {l:PySem.W.OpenLaw}{n k:Nat}{q:Program}{loose:List Str}{XP:(Str->Option Value)->Heap->Prop}{YP:World->Heap->Prop}{d:DefRec}{K:Params->PySem.W.Frag}{CX:CXT}{sp:PySem.W.Frag->Sp}{x:Str}
    (hn:l.most=some n) (hn2:n<=sizeLine) (hdf:d.params.defaults = []) (hr:Room k callerA)
    (hY:∀(w:World) (h:Heap),YP w h->(K w.params).In h)
    (F:∀(w:World) (mg:Str->Option Value) (fa:Addr) (h:Heap),(K w.params).In h->h.Ns mainGlobals mg->mg d.name=some (.ref fa)->
      ∃fd:FuncData,(∀(s:Shared) (u:Value),BindsTo s fd ⟨[u],[]⟩ [(x,u)])/\
        ∀base:Heap,(K w.params).In base->base.Ns mainGlobals mg->FnOk l.prog w (K w.params) mg base CX k fa fd [x] (sp (K w.params)))
    (hsp:∀(K:PySem.W.Frag) (H:Hp) (a:Addr) (ns:List Int),ns.length<=n->Only H->SqL K H a (ns.map V.int)->sp K [.ref a] H (fun v _=>v = .bl true) fun _ _ _=>False)
    (hCX:∀(H:Hp) (s:Shared) (e:Value) (s':Shared),CX [] H s (fun _ _ _=>False) e s'->False) :
    PySem.W.WalkO q loose XP YP l.row.toRowW d [] (fun f vs=>PySem.call f vs):=
  zwg (K:=K) (CX:=fun _=>CX) (sp:=fun w=>sp (K w.params)) hn hn2 hdf hr hY F (fun w H a ns h1 h2 h3=>hsp (K w.params) H a ns h1 h2 h3) fun _ H s e s'=>hCX H s e s'
def zax (s:Stmt) (j:Nat):Stmt:=match s with
  | .ClassDef _ _ _ body _ _ _ _ _ _ _=>body.getD j (.Pass ⟨0,0,0,0⟩)
  | _=>.Pass ⟨0,0,0,0⟩
def ze7 (s:Stmt):Arguments:=match s with
  | .FunctionDef _ a _ _ _ _ _ _ _ _=>a
  | _=>{ posonlyargs:=[],args:=[],vararg:=none,kwonlyargs:=[],kw_defaults:=[],kwarg:=none,defaults:=[] }
def zh (s:Stmt):List Stmt:=match s with
  | .FunctionDef _ _ b _ _ _ _ _ _ _=>b
  | _=>[]
def zm (s:Stmt):Scope:=match s with
  | .FunctionDef _ _ _ _ _ _ sc _ _ _=>sc
  | _=>{ kind:=.function,names:=[],isGenerator:=false,isCoroutine:=false }
abbrev CX0:CXT:=fun _ _ _ _ _ _=>False
abbrev E0:XK:=fun _ _ _=>False
theorem zt7 {X:Cx}:zda CX0 X E0:=fun _ _ _ _ _ _ _ h=>h.elim
structure Fun (K:PySem.W.Frag) (x qual:Str) (st:Stmt) (f:Addr) (fd:FuncData):Prop where
  ex:∃(oc:Value) (od:Option Addr) (kV doc pm:Value) (an:Option Addr) (cdv ct:Value) (osl:Array (Option Value)),
    fd=PySem.W.fnOf x qual (ze7 st) (zh st) (zm st) .none kV doc pm an cdv ct/\K.lookup f=some ⟨oc,od,.func fd,osl⟩/\PySem.W.codeIn K cdv qual=true
  kp:PySem.W.keepIn K (.ref f)=true
section
variable {P:Program}{w:World}{K:PySem.W.Frag}{mg:Str->Option Value}{base:Heap}
theorem Fun.ok {x qual:Str}{st:Stmt}{f:Addr}{fd:FuncData}{N ps:List Str}{k:Nat}{sp:Sp}(F:Fun K x qual st f fd) (S:FnScope N ps (zm st)) (len:∀vs H Q E,sp vs H Q E->vs.length=ps.length)
    (hbody:∀(cdv:Value) (A:Around) (outer:List Env) (s:Shared) (H:Hp) (vs:List V) (Q:VK) (E:XK),Room k (A.deeper (envOfC qual (zm st) s.heap.objs.size f cdv))->sp vs H Q E->
      ∃t,PSs (cxOf CX0 P w K mg base N qual (zm st) f cdv A outer s H E).nox (zh st) t/\t { nx:=fun _ H'=>Q .non H',rt:=Q } (start N vs) H):FnOk P w K mg base CX0 (k+1) f fd ps sp:=by
  obtain⟨oc,od,kV,doc,pm,an,cdv,ct,osl,rfl,lk,hcd⟩:=F.ex;refine zv3 lk hcd S len fun A outer s H vs Q E hr hsp=>?_
  obtain⟨t,h,q⟩:=hbody cdv A outer s H vs Q E hr hsp;exact⟨t,h.nox,q⟩
theorem zvn {x qual:Str}{st:Stmt}{f:Addr}{oc:Value}{od an:Option Addr}{osl:Array (Option Value)}{kV doc pm cdv ct:Value}(l:K.lookup f=some ⟨oc,od,.func (PySem.W.fnOf x qual (ze7 st) (zh st) (zm st) .none kV doc pm an cdv ct),osl⟩)
    (c:PySem.W.codeIn K cdv qual=true) (k:PySem.W.keepIn K (.ref f)=true):Fun K x qual st f (PySem.W.fnOf x qual (ze7 st) (zh st) (zm st) .none kV doc pm an cdv ct):=⟨⟨oc,od,kV,doc,pm,an,cdv,ct,osl,rfl,l,c⟩,k⟩
end
theorem zli {A:Around}{k:Nat}(hr:Room k A):A.units+1<cLine:=Nat.lt_of_le_of_lt (Nat.add_le_add_left (by decide:1<=64) _) hr.units
theorem zb3 {n:Nat}(h:n<=1000):n<sizeLine:=Nat.lt_of_le_of_lt h (by decide)
section
variable {X:Cx}
theorem pv (i:Nat) {x:Str}{pos:Pos}(hN:X.N[i]? = some x:=by rfl) (hv:Vis X.env.scope x:=by first | exact Or.inl rfl | exact Or.inr (Or.inl rfl) | exact Or.inr (Or.inr rfl)) (hd:(x == ("__debug__" : Str))=false:=by decide)
    (hcd:(x == ("__classdict__" : Str))=false:=by decide):PE X (.Name x pos) (tVar i):=zxx hN hv hd hcd
end
theorem iteF {A B:Prop}(h:B):if false=true then A else B:=by
  rw[if_neg Bool.false_ne_true];exact h
theorem iteT {A B:Prop}(h:A):if true=true then A else B:=by
  rw[if_pos rfl];exact h
theorem ite2 {c A B:Prop} [Decidable c] (h1:c->A) (h2:¬c->B):if c then A else B:=by
  by_cases h:c
  · rw[if_pos h];exact h1 h
  · rw[if_neg h];exact h2 h
def Same (H H':Hp):Prop:=∀b o,H b=some o->H' b=some o
theorem Same.refl (H:Hp):Same H H:=fun _ _ h=>h
theorem Same.trans {H H1 H2:Hp}(a:Same H H1) (b:Same H1 H2):Same H H2:=fun c o h=>b c o (a c o h)
theorem Same.free {H H':Hp}(e:Same H H') {l:Addr}(h:H' l=Option.none):H l=Option.none:=by
  cases q:H l with
  | none=>rfl
  | some o=>
    rw[e l o q] at h;cases h
theorem Same.seq {K:PySem.W.Frag}{H H':Hp}{a:Addr}{xs:List V}(e:Same H H') (h:SqL K H a xs):SqL K H' a xs:=by
  rcases h with (h | ⟨o,h⟩) | h
  · exact .inl (.inl (e _ _ h))
  · exact .inl (.inr ⟨o,e _ _ h⟩)
  · exact .inr h
def zco (cells:List (Str×Addr)):List (Str×NameKind)->List (Str×Addr)->List (Str×Addr)
  | [],cs=>cs
  | (n,k)::r,cs=>zco cells r (if (k == NameKind.free)=true then (match cells.lookup n with | some c=>(n,c)::cs | none=>cs) else cs)
theorem zhf {scope:Scope}{env:Env}(h:∀x∈scope.names,x.2 = .free->∃c,env.cells.lookup x.1=some c):closureFor scope env=pure (zco env.cells scope.names []):=by
  unfold closureFor;have go:∀(names:List (Str×NameKind)) (cs:List (Str×Addr)),(∀x∈names,x.2 = .free->∃c,env.cells.lookup x.1=some c)->
      (forIn names cs (fun (x:Str×NameKind) (r:List (Str×Addr))=>if (x.2 == NameKind.free)=true then (do let a ←cellOf env x.1;pure (ForInStep.yield ((x.1,a)::r))) else pure (ForInStep.yield r)):Sem (List (Str×Addr)))=pure (zco env.cells names cs):=by
    intro names
    induction names with
    | nil=>intro cs _;rfl
    | cons x r ih=>
      intro cs hc;obtain⟨n,k⟩:=x;have hr:∀y∈r,y.2 = .free->∃c,env.cells.lookup y.1=some c:=fun y hy=>hc y (List.mem_cons_of_mem _ hy)
      rw[List.forIn_cons];cases e:(k == NameKind.free) with
      | true=>
        obtain⟨c,hl⟩:=hc (n,k) List.mem_cons_self (by simpa using e);have hl':env.cells.lookup n=some c:=hl;have ec:cellOf env n=pure c:=by unfold cellOf;rw[hl']
        show (_ >>= _)=pure (zco env.cells r (if (k == NameKind.free)=true then _ else _));rw[e,hl'];simp only [if_true,ec,pure_bind];exact ih _ hr
      | false=>
        show (_ >>= _)=pure (zco env.cells r (if (k == NameKind.free)=true then _ else _));rw[e];simp only [Bool.false_eq_true,if_false,pure_bind];exact ih _ hr
  exact (congrArg (· >>= fun r=>pure r) (go scope.names [] h)).trans (pure_bind _ _)
theorem zbf {α:Type}{y n:Str}{c:α}{r:List (Str×α)}(h:y=n):((n,c)::r).lookup y=some c:=by
  subst h;simp
theorem zbp {α:Type}{y n:Str}{c:α}{r:List (Str×α)}(h:¬y=n):((n,c)::r).lookup y=r.lookup y:=by
  rw[List.lookup_cons,beq_eq_false_iff_ne.mpr h]
theorem zhx {cells:List (Str×Addr)}{n:Str}{k:NameKind}{cs:List (Str×Addr)}(hs:∀y d,cs.lookup y=some d->cells.lookup y=some d) :
    ∀y d,(if (k == NameKind.free)=true then (match cells.lookup n with | some c=>(n,c)::cs | none=>cs) else cs).lookup y=some d->cells.lookup y=some d:=by
  intro y d h;split at h
  · split at h
    · rename_i c hc
      by_cases hy:y=n
      · rw[zbf hy] at h;rw[hy,hc];exact h
      · rw[zbp hy] at h;exact hs y d h
    · exact hs y d h
  · exact hs y d h
theorem zee (cells:List (Str×Addr)):∀(names:List (Str×NameKind)) (cs:List (Str×Addr)),(∀y d,cs.lookup y=some d->cells.lookup y=some d)->
    ∀y d,(zco cells names cs).lookup y=some d->cells.lookup y=some d
  | [],_,hs,y,d,h=>hs y d h
  | (n,k)::r,cs,hs,y,d,h=>zee cells r _ (zhx hs) y d h
theorem zjf (cells:List (Str×Addr)) {x:Str}{c:Addr}(hc:cells.lookup x=some c):∀(names:List (Str×NameKind)) (cs:List (Str×Addr)),(∀y d,cs.lookup y=some d->cells.lookup y=some d)->
    ((x,NameKind.free)∈names\/cs.lookup x=some c)->(zco cells names cs).lookup x=some c
  | [],_,_,h=>by
    rcases h with h | h
    · cases h
    · exact h
  | (n,k)::r,cs,hs,h=>by
    refine zjf cells hc r _ (zhx hs) ?_
    by_cases hx:(x,NameKind.free)=(n,k)
    · cases hx
      right
      rw[if_pos (by rfl),hc];exact zbf rfl
    · rcases h with h | h
      · rcases List.mem_cons.mp h with h | h
        · exact absurd h hx
        · exact .inl h
      · right
        split
        · split
          · rename_i c' hc'
            by_cases hn:x=n
            · rw[zbf hn];rw[hn,hc'] at hc;exact hc
            · rw[zbp hn];exact h
          · exact h
        · exact h
theorem zc4 (env:Env) (x:Str):∀names:List (Str×NameKind),
    (names.map fun (n,k)=>if (k == NameKind.free&&env.scope.kind == .function&&env.kindOf n == some .cell) then (n,NameKind.cell) else (n,k)).lookup x =
      (names.lookup x).map fun k=>if (k == NameKind.free&&env.scope.kind == .function&&env.kindOf x == some .cell) then NameKind.cell else k
  | []=>rfl
  | (n,k)::r=>by
    have ih:=zc4 env x r;rw[List.map_cons]
    by_cases hx:x=n
    · subst hx;rw[zbf rfl];show List.lookup x ((if (k == NameKind.free&&env.scope.kind == .function&&env.kindOf x == some .cell)=true then (x,NameKind.cell) else (x,k))::_)=some (if (k == NameKind.free&&env.scope.kind == .function&&env.kindOf x == some .cell)=true then NameKind.cell else k)
      by_cases hc:(k == NameKind.free&&env.scope.kind == .function&&env.kindOf x == some .cell)=true
      · rw[if_pos hc,if_pos hc];exact zbf rfl
      · rw[if_neg hc,if_neg hc];exact zbf rfl
    · rw[zbp hx,←ih];show List.lookup x ((if (k == NameKind.free&&env.scope.kind == .function&&env.kindOf n == some .cell)=true then (n,NameKind.cell) else (n,k))::_)=_
      by_cases hc:(k == NameKind.free&&env.scope.kind == .function&&env.kindOf n == some .cell)=true
      · rw[if_pos hc];exact zbp hx
      · rw[if_neg hc];exact zbp hx
theorem zlj {scope:Scope}{env:Env}{x:Str}(h:scope.names.lookup x=some .free):(relabel scope env).names.lookup x=some .cell\/(relabel scope env).names.lookup x=some .free:=by
  have e:=zc4 env x scope.names;rw[h] at e;have e':(relabel scope env).names.lookup x=some (if (NameKind.free == NameKind.free&&env.scope.kind == .function&&env.kindOf x == some .cell)=true then NameKind.cell else NameKind.free):=e;rw[e'];split
  · exact .inl rfl
  · exact .inr rfl
theorem zlk {scope:Scope}{env:Env}{x:Str}(nc:∀y∈scope.names,y.2≠.cell) (h:(relabel scope env).names.lookup x=some .cell\/(relabel scope env).names.lookup x=some .free):(x,NameKind.free)∈scope.names:=by
  have e:=zc4 env x scope.names;have e':(relabel scope env).names.lookup x=_:=e;cases q:scope.names.lookup x with
  | none=>
    rw[q] at e';rw[e'] at h;rcases h with h | h<;>cases h
  | some k=>
    rw[q] at e';have m:=PySem.mem_of_lookup q;cases k with
    | free=>exact m
    | cell=>exact absurd rfl (nc _ m)
    | _=>
      rw[e'] at h;rcases h with h | h<;>cases h
structure CompScope (scope osc:Scope) (cap:List Str):Prop where
  kind:scope.kind = .function
  nocell:∀y∈scope.names,y.2≠.cell
  loc:∀y∈scope.names,y.2 = .local->scope.names.lookup y.1=some .local
  free:∀y∈scope.names,y.2 = .free->osc.names.lookup y.1=some .cell\/osc.names.lookup y.1=some .free
  cap:∀x∈cap,scope.names.lookup x=some .free
def cxC (X:Cx) (N:List Str) (scope:Scope) (C:Addr) (s:Shared) (H:Hp) (ex:List Addr):Cx where
  prog:=X.prog
  w:=X.w
  K:=X.K
  mg:=X.mg
  base:=X.base
  A:=X.A
  N:=N
  s₀:=s
  H₀:=H
  env:=compEnvC scope (zco X.env.cells scope.names []) C X.env
  outer:=X.stack
  stack:=X.stack
  ex:=ex
  fn:=fun _=>false
  calm:=X.calm
  pn:=[]
  xe:=fun _ _=>False
def st0 (own:List Str) (ix:List Nat) (σ:St):St:=own.map (fun _=>none)++ix.map fun i=>(σ[i]?).join
theorem zgo {X:Cx}{pins:List (Addr×Obj)}{σ:St}{H:Hp}{s:Shared}{scope:Scope}{cap:List Str}(I:Inv X pins σ H s) (S:CompScope scope X.env.scope cap) :
    closureFor scope X.env=pure (zco X.env.cells scope.names []):=
  zhf fun x hx hf=>I.ok.has x.1 (S.free x hx hf)
theorem zoi {X:Cx}{pins:List (Addr×Obj)}{σ:St}{H:Hp}{s:Shared}{scope:Scope}{own cap:List Str}{ix:List Nat}{fp:List Addr}{h₁:Heap}{m:Str->Option Value}{tk:Nat}
    (I:Inv X pins σ H s) (S:CompScope scope X.env.scope cap) (hix:ix.map (fun i=>X.N[i]?)=cap.map some) (hf:∀b∈fp,FpOk X pins H b) (hlt:∀b∈fp,b<s.heap.objs.size)
    (hn:h₁.Ns s.heap.objs.size m) (hk:∀b o,s.heap.get? b=some o->h₁.get? b=some o) :
    Inv (cxC X (own++cap) scope s.heap.objs.size s H fp) [] (st0 own ix σ) H { s with heap:=h₁,toks:=tk }:=by
  have sub:∀y d,(zco X.env.cells scope.names []).lookup y=some d->X.env.cells.lookup y=some d:=zee _ _ _ (fun y d h=>by cases h);have has:∀y c,(y,NameKind.free)∈scope.names->X.env.cells.lookup y=some c->(zco X.env.cells scope.names []).lookup y=some c:=fun y c hy hc=>zjf _ hc _ _ (fun y d h=>by cases h) (.inl hy)
  have hlen:ix.length=cap.length:=by
    have:=congrArg List.length hix;simpa using this
  refine⟨⟨I.mod,S.kind,I.ok.glob,I.ok.blt,Nat.le_refl _,fun x y c e1 e2=>I.ok.inj x y c (sub _ _ e1) (sub _ _ e2),fun x hx=>?_,fun x c z=>(by cases z),I.ok.hd,I.ok.frames,.inl rfl,fun b hb=>⟨Nat.ne_of_lt (hlt b hb),fun x c e=>(hf b hb).2.2.2.2.1 x c (sub _ _ e)⟩,I.bs,
      Nat.le_trans I.ok.bsz I.sz,fun b o e hb=>?_,fun b hb z=>?_,I.stack,I.stkFree⟩,rfl,I.bare,Un.kept hk,⟨m,hn,fun i x v e1 e2 e3=>?_⟩,fun x c e=>?_,I.hok.fresh (Nat.le_refl _),fun x c e=>I.freeC x c (sub _ _ e),fun p hp=>absurd (show p∈([]:List (Addr×Obj)) from hp) (by simp),I.hok.kept hk,?_⟩
  · have m':=zlk (env:=X.env) S.nocell hx;obtain⟨c,hc⟩:=I.ok.has x (S.free _ m' rfl);exact⟨c,has x c m' hc⟩
  · obtain⟨f0,f1,f2,f3,f4,f5⟩:=hf b hb;rcases f3 with z | z
    · exact I.ok.noex b o e z
    · exact absurd (Nat.lt_of_lt_of_le (Nat.lt_of_lt_of_le (Heap.lt_size e) I.ok.bsz) z) (Nat.lt_irrefl _)
  · obtain⟨f0,f1,f2,f3,f4,f5⟩:=hf b hb;rcases List.mem_cons.mp (I.stkSub b z) with z | z
    · exact f1 z
    · exact f2 z
  · have e1:(own++cap)[i]? = some x:=e1;unfold st0 at e2
    by_cases hi:i<own.length
    · rw[List.getElem?_append_left (by simpa using hi),List.getElem?_map] at e2;cases q:own[i]? with
      | none=>rw[q] at e2;cases e2
      | some y=>rw[q] at e2;cases e2
    · rw[List.getElem?_append_right (by simpa using hi)] at e1;rw[List.getElem?_append_right (by simpa using hi),List.length_map,List.getElem?_map] at e2;generalize i-own.length=j at e1 e2;cases q:ix[j]? with
      | none=>rw[q] at e2;cases e2
      | some k=>
        rw[q] at e2;have e2:(σ[k]?).join=some v:=Option.some.inj e2;have eσ:σ[k]? = some (some v):=by
          cases q2:σ[k]? with
          | none=>rw[q2] at e2;cases e2
          | some o=>rw[q2] at e2;exact congrArg some e2
        have eN:X.N[k]? = some x:=by
          have:=congrArg (fun l=>l[j]?) hix;simp only [List.getElem?_map,q,e1,Option.map_some] at this;exact Option.some.inj this
        have hfr:=S.cap x (List.mem_of_getElem? e1);have hmem:=PySem.mem_of_lookup hfr;have hout:=S.free _ hmem rfl;obtain⟨m0,hn0,hl⟩:=I.loc;obtain⟨u,r,l⟩:=hl k x v eN eσ (.inr hout);rcases l with ⟨kd,_⟩ | ⟨kd,c,e,z⟩
        · have kd:X.env.scope.names.lookup x=some .local:=kd;rcases hout with ho | ho<;>(have ho:X.env.scope.names.lookup x=_:=ho;rw[kd] at ho;cases ho)
        · exact⟨u,r,.inr ⟨zlj hfr,c,has x c hmem e,z.keeps hk⟩⟩
  · obtain⟨v,q⟩:=I.cell x c (sub _ _ e);exact⟨v,q.keeps hk⟩
  · show (st0 own ix σ).length=(own++cap).length;unfold st0;simp[hlen]
theorem zka {X:Cx}{pins:List (Addr×Obj)}{σ σ':St}{H H':Hp}{s s':Shared}{scope:Scope}{N:List Str}{fp:List Addr}{h':Heap}
    (I:Inv X pins σ H s) (hf:∀b∈fp,FpOk X pins H b) (J:Inv (cxC X N scope s.heap.objs.size s H fp) [] σ' H' s') (hs:Heap.SameBut s.heap.objs.size s'.heap h'):Inv X pins σ H' { s' with heap:=h' }:=by
  have ne:∀b o,s.heap.get? b=some o->b≠s.heap.objs.size:=fun b o e=>Nat.ne_of_lt (Heap.lt_size e)
  have B:Un (frs X.stack) fp H H' s.heap s'.heap:=J.base;refine I.call' (s':={ s' with heap:=h' }) (ch:=fp) J.os ⟨fun b o e n hb hx=>?_,fun b o e n hb hx=>?_,B.free,fun b o e hx=>?_,B.tups,B.frzs,B.tbls⟩ (fun b ob e=>?_) J.bare fun b hb=>?_
  · exact (hs.2 b (ne b o e)).trans (B.keep b o e n hb hx)
  · obtain⟨sl,e1⟩:=B.slot b o e n hb hx;exact⟨sl,(hs.2 b (ne b o e)).trans e1⟩
  · obtain⟨o',e1⟩:=B.there b o e hx;exact⟨o',(hs.2 b (ne b o e)).trans e1⟩
  · have fr:H' s.heap.objs.size=none:=J.free;refine (J.hok b ob e).stay (fun c w' hc q=>(hs.2 c ?_).trans q) (fun _ q=>q) fun _ _ q=>q
    rintro rfl;rcases hc with hc | hc
    · rw[←hc,fr] at e;cases e
    · rw[fr] at hc;cases hc
  · obtain⟨f0,f1,f2,f3,f4,f5⟩:=hf b hb;exact⟨f3,f1,f4,f5⟩
def PIf (X:Cx) (ifs:List Expr) (t:TT):Prop:=
  ∀(pins:List (Addr×Obj)) (s:Shared) (σ:St) (H:Hp) (Q:Bool->Hp->Prop),Inv X pins σ H s->t σ H Q->
    wpAny (model X.prog X.w) X.A (forIn ifs true fun c r=>if r=true then do let ok ←isTrue c X.env (eval c X.env);pure (ForInStep.yield ok) else pure (ForInStep.yield r)) (TP X pins σ Q) X.xe s
def tYes:TT:=fun _ H Q=>Q true H
theorem zcp {X:Cx}:PIf X [] tYes:=fun _ s σ H Q I h=>wpAny_tests_nil ⟨H,I,h⟩
theorem zwh {X:Cx}{c:Expr}{t:TT}(h:PT X c t):PIf X [c] t:=fun pins s σ H Q I hw=>wpAny_tests_one (h pins s σ H Q I hw)
theorem zcc {prog:Program}{w:World}{A:Around}{R:Result->Shared->Prop}{s:Shared}{elt target iter:Expr}{ifs:List Expr}{scope:Scope}{pos:Pos}{it acc:Value}{env:Env}(I:Nat->Shared->Prop)
    (turn:∀n s,I n s->wpAny (model prog w) A (pyNext it) (fun r s₁=>match r with
      | none=>R (.ok .next) s₁
      | some v=>wpAny (model prog w) A (letOwnedTupleGo target it v) (fun _ s₁'=>wpAny (model prog w) A (assign target env v) (fun _ s₂=>
          wpAny (model prog w) A (forIn ifs true fun c r=>if r=true then do let ok ←isTrue c env (eval c env);pure (ForInStep.yield ok) else pure (ForInStep.yield r)) (fun ok s₃=>
            if ok=true then wpAny (model prog w) A (eval elt env) (fun x s₄=>
              wpAny (model prog w) A (call (.builtin "list.append") [acc,x]) (fun _ s₅=>∃m,m<n/\I m s₅) (notedBy (model prog w) A env fun e s'=>R (.error e) s') s₄) (notedBy (model prog w) A env fun e s'=>R (.error e) s') s₃
            else ∃m,m<n/\I m s₃) (notedBy (model prog w) A env fun e s'=>R (.error e) s') s₂) (notedBy (model prog w) A env fun e s'=>R (.error e) s') s₁') (notedBy (model prog w) A env fun e s'=>R (.error e) s') s₁) (notedBy (model prog w) A env fun e s'=>R (.error e) s') s)
    (n:Nat) (h:I n s):codeAny (model prog w) A (.compLoop (.ListComp elt [⟨target,iter,ifs,0⟩] scope pos) 0 it acc env) R s:=by
  refine codeAny_loop rfl I (fun n s hI=>?_) n h;show wpAny _ A ((compTurn (.ListComp elt [⟨target,iter,ifs,0⟩] scope pos) 0 it acc env).onRaise (fun x=>do noteFrame x env;theTreesLotGoes x)) _ _ s;refine wpAny_noted ?_;rw[compTurn_list];refine wpAny_bind (wpAny_standAt (wpAny_bind (wpAny_mono (turn n s hI) (fun r s₁ h₁=>?_) fun _ _ h'=>h')));cases r with
  | none=>exact wpAny_pure h₁
  | some v=>
    refine wpAny_bind (wpAny_mono h₁ (fun _ s₁' h₁'=>?_) fun _ _ h'=>h');refine wpAny_bind (wpAny_mono h₁' (fun _ s₂ h₂=>wpAny_bind (wpAny_mono h₂ (fun ok s₃ h₃=>?_) fun _ _ h'=>h')) fun _ _ h'=>h');cases ok with
    | false=>exact wpAny_pure ⟨rfl,h₃⟩
    | true=>
      exact wpAny_bind (wpAny_bind (wpAny_mono h₃ (fun x s₄ h₄=>wpAny_bind (wpAny_mono h₄ (fun _ s₅ h₅=>wpAny_pure (wpAny_pure ⟨rfl,h₅⟩)) fun _ _ h'=>h')) fun _ _ h'=>h'))
def zkb (own:List Str) (ix:List Nat) (J:It) (g:TG) (tc:TT) (te:TE) (σ:St) (H1:Hp) (D:Addr) (Q:VK):Prop:=
  ∃W:Nat->Nat->St->List V->Hp->Prop,(∃m,W 0 m (st0 own ix σ) [] (upd H1 D (.lst [])))/\∀i m σ' ys H',W i m σ' ys H'->H' D=some (.lst ys)/\
    ((J.stop i H'/\Q (.ref D) H')\/(J.go i H'/\ys.length<sizeLine/\∀x H2,J.yld i H' x H2->g x σ' H2 fun σ3 H3=>tc σ3 H3 fun b H4=>
      if b=true then te σ3 H4 fun y H5=>H5 D=some (.lst ys)/\∃m',m'<m/\W (i+1) m' σ3 (ys++[y]) (upd H5 D (.lst (ys++[y]))) else H4 D=some (.lst ys)/\∃m',m'<m/\W (i+1) m' σ3 ys H4))
def zwi (own:List Str) (ix:List Nat) (wi:TI) (g:TG) (tc:TT) (te:TE):TE:=fun σ H Q=>wi σ H fun J H1=>∀D,H1 D=none->zkb own ix J g tc te σ H1 D Q
section
variable {X:Cx}{tg iter elt:Expr}{ifs:List Expr}{scope:Scope}{pos:Pos}{own cap:List Str}{ix:List Nat}{wi:TI}{g:TG}{tc:TT}{te:TE}
theorem zoj {pins:List (Addr×Obj)}{σ:St}{s:Shared}{E:Value->Shared->Prop}{RR:Value->Addr->Result->Shared->Prop}{Q:VK}
    (hc:X.calm=true) (S:CompScope scope X.env.scope cap) (hix:ix.map (fun i=>X.N[i]?)=cap.map some)
    (hg:∀C s H ex,PG (cxC X (own++cap) scope C s H ex) tg g) (ht:∀C s H ex,PIf (cxC X (own++cap) scope C s H ex) ifs tc) (he:∀C s H ex,PE (cxC X (own++cap) scope C s H ex) elt te)
    {itv:Value}(h:PIE X pins σ tg (fun J H1=>∀D,H1 D=none->zkb own ix J g tc te σ H1 D Q) itv s)
    (hR:∀(D C:Addr) (s':Shared) (H':Hp) (m:Str->Option Value),s'.heap.Ns C m->FpOk X pins H' C->(∀h',Heap.SameBut C s'.heap h'->Inv X pins σ H' { s' with heap:=h' })->Q (.ref D) H'->RR (.ref D) C (.ok .next) s') :
    wpAny (model X.prog X.w) X.A (newList []) (fun acc s₃=>wpAny (model X.prog X.w) X.A (newFunctionEnv scope X.env.globals (zco X.env.cells scope.names []) [] X.env.qual none .none (some X.env)) (fun cenv s₄=>
      codeAny (model X.prog X.w) X.A (.compStart (.ListComp elt [⟨tg,iter,ifs,0⟩] scope pos) 0 itv acc { cenv with scope:=relabel scope X.env }) (RR acc cenv.locals) s₄) E s₃) E s:=by
  obtain⟨it,fp,tn,J,H2,rfl,I2,T,st2,f2,q2⟩:=h;refine wpAny_newObj_type (wpAny_newFunctionEnv S.nocell (by intro y hy;simp at hy) (fun h₁ hns₁ hsb₁=>?_) S.kind);dsimp only at hns₁ hsb₁ ⊢;have hD:H2 s.heap.objs.size=none:=I2.hok.fresh (Nat.le_refl _);obtain⟨W,⟨m0,w0⟩,turn⟩:=q2 s.heap.objs.size hD;have I3:Inv X pins σ (upd H2 s.heap.objs.size (.lst [])) { s with heap:=s.heap.push { cls:=.type "list",data:=.seq ([]:List Value).toArray } }:=I2.lnew (t':=s.toks) (its:=[]) .nil (Nat.zero_le _);have ltD:∀b∈fp,b<s.heap.objs.size:=fun b hb=>by
    obtain⟨o,e,_⟩:=T.obj 0 _ st2 b hb;exact Heap.lt_size e
  have f3:∀b∈fp,FpOk X pins (upd H2 s.heap.objs.size (.lst [])) b:=fun b hb=>⟨by rw[zv (Nat.ne_of_lt (ltD b hb))];exact (f2 b hb).1,(f2 b hb).2⟩
  generalize hH:s.heap.push { cls:=.type "list",data:=.seq ([]:List Value).toArray } = H3 at I3 hns₁ hsb₁ ⊢;have sz:H3.objs.size=s.heap.objs.size+1:=by rw[←hH,Heap.size_push]
  have up:∀b o,H3.get? b=some o->h₁.get? b=some o:=fun b o e=>hsb₁.extBut b o (Nat.ne_of_lt (Heap.lt_size e)) (Heap.get?_push_of_some _ e)
  have old:∀b o,s.heap.get? b=some o->h₁.get? b=some o:=fun b o e=>up b o (by rw[←hH];exact Heap.get?_push_of_some _ e)
  have lt3:∀b∈fp,b<({ s with heap:=H3 }:Shared).heap.objs.size:=fun b hb=>by show b<H3.objs.size;rw[sz];exact Nat.lt_succ_of_lt (ltD b hb)
  have st4:tn 0 h₁:=T.keep _ _ _ st2 fun b _ o e=>old b o e
  have stat:∀{H':Hp},(∀b∈fp,H' b=none)->∀b∈fp,FpOk (cxC X (own++cap) scope H3.objs.size { s with heap:=H3 } (upd H2 s.heap.objs.size (.lst [])) fp) [] H' b:=fun hn b hb=>
    ⟨hn b hb,Nat.ne_of_lt (lt3 b hb),fun z=>(List.mem_cons.mp (I3.stkSub b z)).elim (f2 b hb).2.1 (f2 b hb).2.2.1,.inl hb,fun x c e=>(f2 b hb).2.2.2.2.1 x c (zee _ _ _ (fun y d h=>by cases h) _ _ e),fun p hp=>absurd (show p∈([]:List (Addr×Obj)) from hp) (by simp)⟩
  have loop:∀s₄:Shared,s₄ = { s with heap:=h₁,toks:=s.toks+([]:List (Str×Value)).length }->
      codeAny (model X.prog X.w) X.A (.compLoop (.ListComp elt [⟨tg,iter,ifs,0⟩] scope pos) 0 (.ref it) (.ref s.heap.objs.size) (compEnvC scope (zco X.env.cells scope.names []) H3.objs.size X.env))
        (RR (.ref s.heap.objs.size) H3.objs.size) s₄:=by
    rintro s₄ rfl;have I4:=zoi (own:=own) (fp:=fp) (tk:=s.toks+([]:List (Str×Value)).length) I3 S hix f3 lt3 hns₁ up;refine zcc (fun n s'=>∃i σ' ys H',Inv (cxC X (own++cap) scope H3.objs.size { s with heap:=H3 } (upd H2 s.heap.objs.size (.lst [])) fp) [] σ' H' s'/\tn i s'.heap/\(∀b∈fp,H' b=none)/\W i n σ' ys H') ?_ m0
      ⟨0,_,[],_,I4,st4,fun b hb=>(f3 b hb).1,w0⟩
    rintro n s5 ⟨i,σ5,ys,H5,I5,st5,fr5,w5⟩;obtain⟨hD5,turn5⟩:=turn i n σ5 ys H5 w5;rcases turn5 with ⟨stop,q⟩ | ⟨go,hz,step⟩
    · refine thn (T.done (cxC X (own++cap) scope H3.objs.size { s with heap:=H3 } (upd H2 s.heap.objs.size (.lst [])) fp) rfl rfl rfl hc i [] s5 σ5 H5 _ I5 (stat fr5) st5 stop) fun r s6 hq0=>?_
      obtain⟨hr,I6⟩:=hq0;subst hr;obtain⟨m6,hn6,_⟩:=I6.loc;exact hR _ _ s6 H5 m6 hn6 (I3.fpOk (Nat.le_refl _) I6.free) (fun h' hs=>zka I3 f3 I6 hs) q
    · refine thn (T.item (cxC X (own++cap) scope H3.objs.size { s with heap:=H3 } (upd H2 s.heap.objs.size (.lst [])) fp) rfl rfl rfl hc i [] s5 σ5 H5 _ I5 (stat fr5) st5 go) fun r s6 hq0=>?_
      obtain⟨u,hr,h6⟩:=hq0;subst hr;refine thn h6 fun _ s7 hq0=>?_
      obtain⟨x,H7,I7,r7,y7,st7,fr7⟩:=hq0;have I7':=I7.pinned (stat fr7) (T.obj _ _ st7);refine wpAny_mono (hg _ _ _ _ _ s7 σ5 H7 x u _ I7' r7 (step x H7 y7)) (fun _ s8 hq0=>?_) fun _ _ z=>False.elim z
      obtain⟨σ8,H8,I8,q8⟩:=hq0;refine wpAny_mono (ht _ _ _ _ _ s8 σ8 H8 _ I8 q8) (fun ok s9 hq0=>?_) fun _ _ z=>False.elim z
      obtain⟨H9,I9,q9⟩:=hq0;have again:∀{s':Shared}{σ':St}{H':Hp}{ys':List V}{m':Nat},Inv (cxC X (own++cap) scope H3.objs.size { s with heap:=H3 } (upd H2 s.heap.objs.size (.lst [])) fp) ([]++zja fp s7.heap) σ' H' s'->m'<n->W (i+1) m' σ' ys' H'->
          ∃m,m<n/\∃i σ' ys H',Inv (cxC X (own++cap) scope H3.objs.size { s with heap:=H3 } (upd H2 s.heap.objs.size (.lst [])) fp) [] σ' H' s'/\tn i s'.heap/\(∀b∈fp,H' b=none)/\W i m σ' ys H':=fun {s' σ' H' ys' m'} I' hm w'=>by
        refine⟨m',hm,i+1,σ',ys',H',I'.unpinned,T.keep _ _ _ st7 fun b hb o e=>(I'.pin (b,o) (List.mem_append_right _ (List.mem_append_right _ (zcl hb e)))).1,fun b hb=>?_,w'⟩;obtain⟨o,e,d⟩:=T.obj _ _ st7 b hb;exact (I'.pin (b,o) (List.mem_append_right _ (List.mem_append_right _ (zcl hb e)))).2.1
      cases ok with
      | false=>
        rw[if_neg Bool.false_ne_true] at q9 ⊢;obtain⟨_,m',hm,w'⟩:=q9;exact again I9 hm w'
      | true=>
        rw[if_pos rfl] at q9 ⊢;refine wpAny_mono (he _ _ _ _ _ s9 σ8 H9 _ I9 q9) (fun v s10 hq0=>?_) fun _ _ z=>False.elim z
        obtain⟨y,H10,I10,r10,hD10,m',hm,w'⟩:=hq0;refine wpAny_mono (zb2 (X:=cxC X (own++cap) scope H3.objs.size { s with heap:=H3 } (upd H2 s.heap.objs.size (.lst [])) fp) _ s10 σ8 H10 (.ref s.heap.objs.size) [y] (.ref s.heap.objs.size) [v] (fun _ H'=>H'=upd H10 s.heap.objs.size (.lst (ys++[y]))) I10 rfl (.cons r10 .nil) ⟨_,ys,y,rfl,rfl,hD10,hz,rfl⟩)
          (fun _ s11 ⟨_,H11,I11,_,e11⟩=>?_) fun _ _ z=>False.elim z
        subst e11;exact again I11 hm w'
  exact codeAny_compStart_list (loop _ rfl) (T.self _ 0 _ _ _ st4 (loop _ rfl))
theorem zc5 {osc:Scope}(hc:X.calm=true) (S':CompScope scope osc cap) (hix:ix.map (fun i=>X.N[i]?)=cap.map some) (hi:PI X tg iter wi)
    (hg:∀C s H ex,PG (cxC X (own++cap) scope C s H ex) tg g) (ht:∀C s H ex,PIf (cxC X (own++cap) scope C s H ex) ifs tc) (he:∀C s H ex,PE (cxC X (own++cap) scope C s H ex) elt te)
    (hs:∀x,foldedSetIterable iter X.env x=pure x:=by intro _;rfl) (ho:X.env.scope=osc:=by rfl):PE X (.ListComp elt [⟨tg,iter,ifs,0⟩] scope pos) (zwi own ix wi g tc te):=by
  have S:CompScope scope X.env.scope cap:=ho▸S';intro pins s σ H Q I h;rw[eval_ListComp];refine wpAny_comprehension_free (use:=none) rfl hs (zgo I S) S.kind S.loc (thn (hi pins s σ H _ I h) fun xv s₁ h₁=>thn h₁ fun itv s₂ h₂=>?_);refine zoj (RR:=fun acc C=>compPost (model X.prog X.w) X.A X.xe none (EP X pins σ Q) acc C) hc S hix hg ht he h₂ fun D C s' H' m hn _ hI q=>?_
  exact⟨m,hn,fun h' hs'=>⟨.ref D,H',hI h' hs',rfl,q⟩⟩
theorem zwj {osc:Scope}{i:Nat}{y:Str}{py spos:Pos}(hc:X.calm=true) (hN:X.N.Nodup) (hi':X.N[i]? = some y) (hy:X.env.scope.names.lookup y=some .local)
    (hsw:swapsWith (.ListComp elt [⟨tg,iter,ifs,0⟩] scope pos) (some (.Name y py)) spos.line X.env=pure true) (S':CompScope scope osc cap) (hix:ix.map (fun i=>X.N[i]?)=cap.map some) (hi:PI X tg iter wi)
    (hg:∀C s H ex,PG (cxC X (own++cap) scope C s H ex) tg g) (ht:∀C s H ex,PIf (cxC X (own++cap) scope C s H ex) ifs tc) (he:∀C s H ex,PE (cxC X (own++cap) scope C s H ex) elt te)
    (hs:∀x,foldedSetIterable iter X.env x=pure x:=by intro _;rfl) (ho:X.env.scope=osc:=by rfl):PS X (.Assign [.Name y py] (.ListComp elt [⟨tg,iter,ifs,0⟩] scope pos) spos) (tAsg (zwi own ix wi g tc te) (za0 i)):=by
  have S:CompScope scope X.env.scope cap:=ho▸S';intro pins s σ H D I h;rw[exec_Assign_Name_used _ _ _ _ hsw];refine wpAny_bind (wpAny_standAt (wpAny_bind ?_));show wpAny _ X.A (do let _ ←comprehension (.ListComp elt [⟨tg,iter,ifs,0⟩] scope pos) scope X.env _ (newList []) false (eval iter X.env) (some (assign (.Name y py) X.env))) _ _ s;refine wpAny_bind (wpAny_mono (wpAny_comprehension_free (use:=some (assign (.Name y py) X.env)) (Q:=fun _ s'=>SP X pins D .next s') rfl hs (zgo I S) S.kind S.loc
    (thn (hi pins s σ H _ I h) fun xv s₁ h₁=>thn h₁ fun itv s₂ h₂=>?_)) (fun _ s' hq=>wpAny_pure (wpAny_pure hq)) fun _ _ e=>e)
  refine zoj (RR:=fun acc C=>compPost (model X.prog X.w) X.A X.xe (some (assign (.Name y py) X.env)) (fun _ s'=>SP X pins D .next s') acc C) hc S hix hg ht he h₂ fun D' C s' H' m hn hF hI q=>?_
  show wpAny _ X.A (assign (.Name y py) X.env (.ref D')) _ _ _;have I':Inv X pins σ H' s':=hI s'.heap (Heap.SameBut.refl ..);refine wpAny_assign_Name (zhn I' hN hi' (.inl hy) (v:=.ref D') rfl (fun s'' I'' hq0=>?_) (.inr hy));obtain⟨a,hs'',ha⟩:=hq0;obtain⟨f0,f1,f2,f3,f4,f5⟩:=hF;have hCa:C≠a:=by
    rcases ha with ha | ha
    · rw[ha];exact f1
    · exact fun z=>f4 _ _ ha z.symm
  exact⟨m,hn.sameBut hs'' hCa,fun h' hs'=>⟨_,H',I''.turned (t':=s''.toks) (fun b o hb e=>(hs'.2 b hb).trans e) f0 f1 f3 f4 f5,q⟩⟩
end
structure Fix (J:It) (xs:List V) (P:Hp->Prop):Prop where
  go:∀i H,P H->i<xs.length->J.go i H
  yld:∀i H x H',P H->J.yld i H x H'->H'=H/\(i<xs.length->xs[i]? = some x)
  stop:∀i H,P H->xs.length<=i->J.stop i H
theorem zdh {K:PySem.W.Frag}{a:Addr}{xs:List V}:Fix (Itl K a) xs (fun H=>SqL K H a xs):=
  ⟨fun i H h hi=>⟨xs,xs[i],h,by simp[hi]⟩,fun i H x H' h y=>⟨y.1,fun _=>y.2 xs h⟩,fun i H h hi=>⟨xs,h,hi⟩⟩
theorem zwk {K:PySem.W.Frag}{a:Addr}{xs:List V}:Fix (Itt K a) xs (fun H=>SqT K H a xs):=
  ⟨fun i H h hi=>⟨xs,xs[i],h,by simp[hi]⟩,fun i H x H' h y=>⟨y.1,fun _=>y.2 xs h⟩,fun i H h hi=>⟨xs,h,hi⟩⟩
theorem zwl {lo:Int}{n:Nat}:Fix (Itr lo n) ((List.range n).map fun i=>V.int (lo+(i:Nat))) (fun _=>True):=
  ⟨fun i H h hi=>by show i<n;simpa using hi,fun i H x H' h y=>⟨y.1,fun hi=>by
    have hi':i<n:=by simpa using hi
    rw[List.getElem?_map,List.getElem?_range hi',y.2];rfl⟩,fun i H h hi=>by show n<=i;simpa using hi⟩
theorem zd0 {J:It}{xs:List V}{P:Hp->Prop}{own:List Str}{ix:List Nat}{tc:TT}{te:TE}{σ:St}{H1:Hp}{D:Addr}{Q:VK}(F:Fix J xs P) (p:V->Bool) (f:V->V)
    (hP:∀ys,P (upd H1 D (.lst ys))) (hz:xs.length<=sizeLine)
    (ht:∀x∈xs,∀ys (Q':Bool->Hp->Prop),Q' (p x) (upd H1 D (.lst ys))->tc ((st0 own ix σ).set 0 (some x)) (upd H1 D (.lst ys)) Q')
    (he:∀x∈xs,p x=true->∀ys (Q':VK),Q' (f x) (upd H1 D (.lst ys))->te ((st0 own ix σ).set 0 (some x)) (upd H1 D (.lst ys)) Q')
    (hQ:Q (.ref D) (upd H1 D (.lst ((xs.filter p).map f)))):zkb own ix J (za0 0) tc te σ H1 D Q:=by
  refine⟨fun i m σ' ys H'=>m=xs.length-i/\i<=xs.length/\(∀z,σ'.set 0 z=(st0 own ix σ).set 0 z)/\ys=((xs.take i).filter p).map f/\H'=upd H1 D (.lst ys),
    ⟨xs.length,by simp,Nat.zero_le _,fun _=>rfl,by simp,rfl⟩,?_⟩
  rintro i m σ' ys H' ⟨rfl,hi,hσ,rfl,rfl⟩;refine⟨zc,?_⟩
  by_cases hlt:i<xs.length
  · refine .inr ⟨F.go i _ (hP _) hlt,?_,fun x H2 y=>?_⟩
    · rw[List.length_map];have h1:((xs.take i).filter p).length<=(xs.take i).length:=List.length_filter_le _ _;rw[List.length_take] at h1;omega
    · obtain⟨e,y'⟩:=F.yld i _ x H2 (hP _) y;subst e;have hx:=y' hlt;have hm:x∈xs:=List.mem_of_getElem? hx;have tk:=take_succ_filter p xs i x hx;show tc (σ'.set 0 (some x)) _ _;rw[hσ];refine ht x hm _ _ ?_;have σσ:∀z,((st0 own ix σ).set 0 (some x)).set 0 z=(st0 own ix σ).set 0 z:=fun z=>List.set_set ..
      cases hp:p x with
      | true=>
        rw[if_pos rfl];refine he x hm hp _ _ ⟨zc,xs.length-(i+1),by omega,rfl,hlt,σσ,?_,?_⟩
        · rw[tk,hp];simp
        · rw[zvu]
      | false=>
        rw[if_neg Bool.false_ne_true];refine⟨zc,xs.length-(i+1),by omega,rfl,hlt,σσ,?_,?_⟩
        · rw[tk,hp];simp
        · rfl
  · have e:i=xs.length:=by omega
    subst e;refine .inl ⟨F.stop _ _ (hP _) (Nat.le_refl _),?_⟩;rw[List.take_length];exact hQ
def sg (c:Nat):V:=.str ⟨#[c]⟩
def Its (x:Str):It:=⟨fun i _=>i<x.length,fun i H v H'=>H'=H/\∃c,x.cps.toList[i]? = some c/\v=sg c,fun i _=>x.length<=i⟩
theorem zwm {x:Str}:Fix (Its x) (x.cps.toList.map sg) (fun _=>True):=by
  have hl:x.cps.toList.length=x.length:=by simp[Str.length]
  refine⟨fun i H _ hi=>?_,fun i H v H' _ y=>⟨y.1,fun _=>?_⟩,fun i H _ hi=>?_⟩
  · rw[List.length_map,hl] at hi;exact hi
  · obtain⟨_,c,hc,rfl⟩:=y;rw[List.getElem?_map,hc];rfl
  · rw[List.length_map,hl] at hi;exact hi
theorem zok {P:Program}{w:World}{K:PySem.W.Frag}{tg:Expr}(it:Addr) (x:Str) (t:Tok) (ty:String)
    (hty : ["enumerate","zip","dict_itemiterator","dict_reverseitemiterator","odict_iterator","itertools.zip_longest","itertools.pairwise"].contains ty=false)
    (hi:∀{A:Around}{E:Value->Shared->Prop}{s:Shared}{i c:Nat}{Q:Option Value->Shared->Prop},s.heap.IsStrIter it ty x t i->x.cps[i]? = some c->
      (∀h',h'.IsStrIter it ty x t (i+1)->Heap.SameBut it s.heap h'->Q (some (.str ⟨#[c]⟩ s.toks)) { s with heap:=h',toks:=s.toks+1 })->wpAny (model P w) A (pyNext (.ref it)) Q E s)
    (hd:∀{A:Around}{E:Value->Shared->Prop}{s:Shared}{i:Nat}{Q:Option Value->Shared->Prop},A.handled=none->s.heap.IsStrIter it ty x t i->x.cps[i]? = none->
      (∀h',Heap.ExtBut it s.heap h'->Q none { s with heap:=h' })->wpAny (model P w) A (pyNext (.ref it)) Q E s)
    (hs:∀{A:Around}{E:Value->Shared->Prop}{s:Shared}{i:Nat}{Q:Value->Shared->Prop},s.heap.IsStrIter it ty x t i->Q (.ref it) s->wpAny (model P w) A (pyIter (.ref it)) Q E s) :
    Turn P w K tg (Its x) [it] it (fun i h=>h.IsStrIter it ty x t i) where
  mem:=by simp
  obj:=fun i h st b hb=>by
    have e:b=it:=by simpa using hb
    subst e;obtain⟨o,e,c,d⟩:=st;exact⟨o,e,fun v z=>by rw[d] at z;cases z⟩
  keep:=fun i h h' st k=>let ⟨o,ho,r⟩:=st;⟨o,k it (by simp) o ho,r⟩
  item:=by
    intro X hP hw hK hc i pins s σ H E I hf st hg;subst hP hw hK;obtain⟨f0,f1,f2,f3,f4,f5⟩:=hf it (by simp);have hg:i<x.cps.size:=hg;refine hi st (c:=x.cps[i]) (by simp[hg]) fun h' st' sb=>?_
    have I1:Inv X pins σ H { s with heap:=h',toks:=s.toks+1 }:=I.turned (fun b o hb e=>(sb.2 b hb).trans e) f0 f1 f3 f4 f5;obtain⟨o,e,c,d⟩:=id st';exact⟨_,rfl,ztn (s:={ s with heap:=h',toks:=s.toks+1 }) e c d hty ⟨sg x.cps[i],H,I1,⟨_,rfl⟩,⟨rfl,x.cps[i],by simp[hg],rfl⟩,st',fun b hb=>(hf b hb).1⟩⟩
  done:=by
    intro X hP hw hK hc i pins s σ H E I hf st hg;subst hP hw hK;obtain⟨f0,f1,f2,f3,f4,f5⟩:=hf it (by simp);have hg:x.cps.size<=i:=hg;exact hd (I.ok.hd hc) st (by simpa using hg) fun h' eb=>⟨rfl,I.turned (t':=s.toks) (fun b o hb e=>eb b o hb e) f0 f1 f3 f4 f5⟩
  self:=fun _ _ _ _ _ st h=>hs st h
def iStr (tl:TE):TI:=fun σ H R=>tl σ H fun v H1=>∃x,v = .str x/\R (Its x) H1
theorem zyi {X:Cx}{tg l:Expr}{tl:TE}(hl:PE X l tl):PI X tg l (iStr tl):=by
  intro pins s σ H R I h;refine thn (hl pins s σ H _ I h) fun v s1 hq0=>?_
  obtain⟨y,H1,I1,r1,q1⟩:=hq0;obtain⟨x,rfl,q⟩:=q1;obtain⟨t,rfl⟩:=r1;have fin:∀(ty:String),(Turn X.prog X.w X.K tg (Its x) [s1.heap.objs.size] s1.heap.objs.size (fun i h=>h.IsStrIter s1.heap.objs.size ty x t i))->
      PIE X pins σ tg R (.ref s1.heap.objs.size) { s1 with heap:=s1.heap.push { cls:=.type ty,data:=.fields #[.str x t,.int 0 0] } }:=fun ty T=>by
    refine⟨s1.heap.objs.size,[s1.heap.objs.size],_,_,H1,rfl,I1.kept (t':=s1.toks) fun b o e=>Heap.get?_push_of_some _ e,T,⟨_,Heap.get?_push_size _ rfl,rfl,rfl⟩,fun b hb=>?_,q⟩;have e:b=s1.heap.objs.size:=by simpa using hb
    subst e;exact I1.fpOk (Nat.le_refl _) (I1.hok.fresh (Nat.le_refl _))
  cases ha:x.cps.all (· < 128)
  · exact wpAny_pyIter_wide ha (fin "str_iterator" (zok _ x t _ (by decide) wpAny_pyNext_wide_item wpAny_pyNext_wide_end wpAny_pyIter_striter_wide))
  · exact wpAny_pyIter_ascii ha (fin "str_ascii_iterator" (zok _ x t _ (by decide) wpAny_pyNext_ascii_item wpAny_pyNext_ascii_end wpAny_pyIter_striter_ascii))
section
variable {X:Cx}
theorem zhy:∀{bs:List Bool}{us:List Value},Vals (bs.map V.bl) us->us=bs.map Value.bool
  | [],_,r=>by cases r;rfl
  | b::bs,_,r=>by
    cases r with
    | cons r1 r2=>rw[show _=Value.bool b from r1,zhy r2];rfl
theorem zro (bs:List Bool):((List.range bs.length).all fun i=>(bs[i]?).getD true)=bs.all id:=by
  rw[Bool.eq_iff_iff,List.all_eq_true,List.all_eq_true];constructor
  · intro h b hb;obtain⟨i,hi,e⟩:=List.mem_iff_getElem.mp hb;have:=h i (List.mem_range.mpr hi);rw[List.getElem?_eq_getElem hi,Option.getD_some,e] at this;exact this
  · intro h i hi;have hi':=List.mem_range.mp hi;rw[List.getElem?_eq_getElem hi',Option.getD_some];exact h _ (List.getElem_mem hi')
theorem zrp (hc:X.calm=true):zdw X (.builtin "all") (fun xs H Q=>∃(a:Addr) (bs:List Bool),xs = [V.ref a]/\SqL X.K H a (bs.map V.bl)/\Q (.bl (bs.all id)) H):=by
  intro pins s σ H xs us Q I r h;obtain⟨a,bs,rfl,ha,q⟩:=h;obtain⟨u,rfl,ru⟩:=zel r;cases ru;obtain⟨its,rv,pl,hz⟩:=I.list ha;have e:its=bs.map Value.bool:=zhy rv;subst e;have hl:=pl.isList;have hlt:a<s.heap.objs.size:=by obtain⟨_,e,_⟩:=hl;exact Heap.lt_size e
  refine call_all_walk (wpAny_pyIter_list hl ?_);refine⟨s.heap.objs.size,[s.heap.objs.size,a],[s.heap.objs.size],(bs.map Value.bool).toArray.size,_,_,fun i=>(bs[i]?).getD true,rfl,Walks.list (A:=X.A.in1) (I.ok.hd hc) _ a (Nat.ne_of_lt hlt) (bs.map Value.bool).toArray,
    ⟨⟨_,Heap.get?_push_size _ rfl,rfl,rfl⟩,hl.push _⟩,fun i v s' Q' E' hP hQ=>?_,fun h' tk hk=>?_⟩
  · have hP':(bs.map Value.bool)[i]? = some v:=by simpa using hP
    rw[List.getElem?_map] at hP';cases e:bs[i]? with
    | none=>rw[e] at hP';cases hP'
    | some b=>
      rw[e] at hP';cases hP';simp only [e,Option.getD_some] at hQ;exact wpAny_truthy_bool hQ
  · have e:((List.range (bs.map Value.bool).toArray.size).all fun i=>(bs[i]?).getD true)=bs.all id:=by
      rw[List.size_toArray,List.length_map];exact zro bs
    rw[e];refine⟨.bl (bs.all id),H,?_,rfl,q⟩;exact I.kept fun b o eb=>hk b o (fun z=>by rw[List.mem_singleton.mp z] at eb;exact absurd (Heap.lt_size eb) (Nat.lt_irrefl _)) (Heap.get?_push_of_some _ eb)
theorem zrq:zdw X (.type "int") (fun xs H Q=>∃x n,xs = [V.str x]/\PySem.intText? x=some n/\x.length<=640/\Q (.int n) H):=by
  intro pins s σ H xs us Q I r h;obtain⟨x,n,rfl,hn,hl,q⟩:=h;obtain⟨u,rfl,t,rfl⟩:=zel r;exact PySem.W.KIN.call_text hn hl ⟨.int n,H,I.tok _,⟨_,rfl⟩,q⟩
theorem zhz:MtR X "str.startswith" (fun x xs H Q=>∃a b,x=V.str a/\xs = [V.str b]/\Q (.bl (Txt.startswith a b)) H):=by
  intro pins s σ H x xs v us Q I rx rs h;obtain⟨a,b,rfl,rfl,q⟩:=h;obtain⟨t,rfl⟩:=rx;obtain⟨u,rfl,t',rfl⟩:=zel rs;exact SC.startswith ⟨.bl _,H,I,rfl,q⟩
theorem zjg:∀{ys:List Str}{us:List Value},Vals (ys.map V.str) us->StrsAre us ys
  | [],_,r=>by cases r;exact .nil
  | y::ys,_,r=>by
    cases r with
    | cons r1 r2=>
      obtain⟨t,rfl⟩:=r1;exact .cons y t (zjg r2)
theorem zwn:MtR X "str.join" (fun x xs H Q=>∃(sep:Str) (p:Addr) (ys:List Str),x=V.str sep/\xs = [V.ref p]/\SqL X.K H p (ys.map V.str)/\(ys.map (·.length)).sum+ys.length * sep.length<=16777216/\Q (.str (Txt.join sep ys)) H):=by
  intro pins s σ H x xs v us Q I rx rs h;obtain⟨sep,p,ys,rfl,rfl,hp,hz,q⟩:=h;obtain⟨t,rfl⟩:=rx;obtain⟨u,rfl,ru⟩:=zel rs;cases ru;obtain⟨its,rv,pl,_⟩:=I.list hp;exact PyProof.Rows.join_list pl.isList (by simpa using zjg rv) hz fun t' k=>⟨.str _,H,I.tok _,⟨_,rfl⟩,q⟩
def rSlS:V->Option Int->Option Int->Hp->VK->Prop:=fun x lo hi H Q=>∃z,x = .str z/\z.length<=sizeLine/\Q (.str (Txt.slice z lo hi)) H
theorem zvo:SlR X rSlS:=by
  intro pins s σ H x v vl vu lo hi sl Q I rx hs pl pu h;obtain⟨z,rfl,hz,q⟩:=h;obtain⟨t,rfl⟩:=rx;refine⟨"str",_,F.slot_str_getitem.lookup,typeIs_str _ _ _,?_⟩;have fin:∀(t':Tok) (k:Nat),EP X pins σ Q (.str (Txt.slice z lo hi) t') { s with toks:=k }:=fun t' k=>⟨.str _,H,I.tok k,⟨_,rfl⟩,q⟩
  obtain⟨o,ho,hcl,hd⟩:=hs;cases pl<;>cases pu
  · exact wpAny_getItem_str_slice (l:=none) (u:=none) (st:=none) ⟨o,ho,hcl,hd⟩ rfl (post_val_or_str ⟨Nat.le_trans (Txt.slice_le z _ _) hz,fin⟩)
  · exact wpAny_getItem_str_slice (l:=none) (u:=some (_,_)) (st:=none) ⟨o,ho,hcl,hd⟩ rfl (post_val_or_str ⟨Nat.le_trans (Txt.slice_le z _ _) hz,fin⟩)
  · exact wpAny_getItem_str_slice (l:=some (_,_)) (u:=none) (st:=none) ⟨o,ho,hcl,hd⟩ rfl (post_val_or_str ⟨Nat.le_trans (Txt.slice_le z _ _) hz,fin⟩)
  · exact wpAny_getItem_str_slice (l:=some (_,_)) (u:=some (_,_)) (st:=none) ⟨o,ho,hcl,hd⟩ rfl (post_val_or_str ⟨Nat.le_trans (Txt.slice_le z _ _) hz,fin⟩)
theorem zt8:zdw X (.builtin "isinstance") (fun xs H Q=>∃x t n b,xs = [x,V.ty n]/\TyOf X.K H x t/\PySem.W.kitOne X.K t (.type n)=some b/\Q (.bl b) H):=by
  intro pins s σ H xs us Q I r h;obtain⟨x,t,n,b,rfl,ty,e,q⟩:=h;obtain⟨u,w',rfl,ru,rw'⟩:=zx4 r;cases rw';exact zrc I ru ty e fun tk=>⟨.bl b,H,I.tok tk,rfl,q⟩
end
theorem len1 {Pl:List Value->Prop}(h:∀a,Pl [a]):∀us:List Value,us.length=1->Pl us
  | [a],_=>h a
theorem len2 {Pl:List Value->Prop}(h:∀a b,Pl [a,b]):∀us:List Value,us.length=2->Pl us
  | [a,b],_=>h a b
theorem len3 {Pl:List Value->Prop}(h:∀a b c,Pl [a,b,c]):∀us:List Value,us.length=3->Pl us
  | [a,b,c],_=>h a b c
theorem len4 {Pl:List Value->Prop}(h:∀a b c d,Pl [a,b,c,d]):∀us:List Value,us.length=4->Pl us
  | [a,b,c,d],_=>h a b c d
theorem len7 {Pl:List Value->Prop}(h:∀a b c d e f g,Pl [a,b,c,d,e,f,g]):∀us:List Value,us.length=7->Pl us
  | [a,b,c,d,e,f,g],_=>h a b c d e f g
def Df (K:PySem.W.Frag) (mg:Str->Option Value) (x:Str) (st:Stmt) (ps:List Str):Prop:=
  ∃(f:Addr) (fd:FuncData),Fun K x x st f fd/\mg x=some (.ref f)/\∀us:List Value,us.length=ps.length->bindArgs fd ⟨us,[]⟩=pure (ps.zip us)
theorem df_mk {K:PySem.W.Frag}{h:Heap}{mg:Str->Option Value}(X:K.In h) (G:h.Ns mainGlobals mg) {x:Str}{st:Stmt}{ps:List Str}{f:Addr}{oc kV dc pm cd ct:Value}{od an:Option Addr}{sl:Array (Option Value)}
    (hb:∀(kV doc pm:Value) (an:Option Addr) (cdv ct:Value) (us:List Value),us.length=ps.length->bindArgs (PySem.W.fnOf x x (ze7 st) (zh st) (zm st) .none kV doc pm an cdv ct) ⟨us,[]⟩=pure (ps.zip us))
    (a:PySem.W.nsIn K mainGlobals x=some (some (.ref f))) (l:K.lookup f=some ⟨oc,od,.func (PySem.W.fnOf x x (ze7 st) (zh st) (zm st) .none kV dc pm an cd ct),sl⟩) (c:PySem.W.codeIn K cd x=true) (k:PySem.W.keepIn K (.ref f)=true):Df K mg x st ps:=
  ⟨f,_,zvn l c k,PySem.W.mg_of X G a,fun us hl=>hb kV dc pm an cd ct us hl⟩
theorem const_mk {K:PySem.W.Frag}{h:Heap}{mg:Str->Option Value}(X:K.In h) (G:h.Ns mainGlobals mg) {x:Str}{u:Value}(a:PySem.W.nsIn K mainGlobals x=some (some u)):mg x=some u:=PySem.W.mg_of X G a
theorem rel_mk {K:PySem.W.Frag}{h:Heap}{mg:Str->Option Value}(X:K.In h) (G:h.Ns mainGlobals mg) {x:Str}{u:Value}{v:V}(a:PySem.W.nsIn K mainGlobals x=some (some u)) (r:RelV v u):∃u,mg x=some u/\RelV v u:=⟨u,PySem.W.mg_of X G a,r⟩
theorem blt_mk {K:PySem.W.Frag}{h:Heap}{mg:Str->Option Value}(X:K.In h) (G:h.Ns mainGlobals mg) {x:Str}(a:PySem.W.nsIn K mainGlobals x=some none):mg x=none:=PySem.W.mg_none_of X G a
def Has (P:Program) (w:World) (K:PySem.W.Frag) (mg:Str->Option Value) (base:Heap) (x:Str) (ps:List Str) (k:Nat) (sp:Sp):Prop:=
  ∃(f:Addr) (fd:FuncData),mg x=some (.ref f)/\PySem.W.keepIn K (.ref f)=true/\(∃oc od osl,K.lookup f=some ⟨oc,od,.func fd,osl⟩)/\(∀us:List Value,us.length=ps.length->bindArgs fd ⟨us,[]⟩=pure (ps.zip us))/\FnOk P w K mg base CX0 k f fd ps sp
section
variable {P:Program}{w:World}{K:PySem.W.Frag}{mg:Str->Option Value}{base:Heap}
theorem Df.has {x:Str}{st:Stmt}{N ps:List Str}{k:Nat}{sp:Sp}(D:Df K mg x st ps) (S:FnScope N ps (zm st)) (len:∀vs H Q E,sp vs H Q E->vs.length=ps.length)
    (hbody:∀(f:Addr) (cdv:Value) (A:Around) (outer:List Env) (s:Shared) (H:Hp) (vs:List V) (Q:VK) (E:XK),Room k (A.deeper (envOfC x (zm st) s.heap.objs.size f cdv))->sp vs H Q E->
      ∃t,PSs (cxOf CX0 P w K mg base N x (zm st) f cdv A outer s H E).nox (zh st) t/\t { nx:=fun _ H'=>Q .non H',rt:=Q } (start N vs) H):Has P w K mg base x ps (k+1) sp:=by
  obtain⟨f,fd,F,a,b⟩:=D;obtain⟨oc,od,kV,doc,pm,an,cdv,ct,osl,e,lk,hcd⟩:=id F.ex;exact⟨f,fd,a,F.kp,⟨oc,od,osl,lk⟩,b,F.ok S len (hbody f)⟩
end
section
variable {X:Cx}{k:Nat}{ps:List Str}{sp:Sp}{x:Str}{p pos:Pos}{e:Expr}{es:List Expr}{t:TA}
theorem zar (F:Has X.prog X.w X.K X.mg X.base x ps k sp) (hr:Room k X.A) (hg:Gl X x) (ha:PA X (e::es) t) (hdb:(x == ("__debug__" : Str))=false:=by decide)
    (he:starEach (e::es) X.env=(false,eval e X.env)::starEach es X.env:=by rfl) (hpl:(backTo pos (starEach es X.env)).any (·.1)=false:=by rfl):PE X (.Call (.Name x p) (e::es) [] pos) (ztw sp [] E0 t):=by
  obtain⟨f,fd,a,kp,lk,b,G⟩:=F;exact zm8 G hr hg a kp (.all b) .nil zt7 ha hdb he hpl
end
theorem law_walk {l:PySem.W.OpenLaw}{q:Program}{loose:List Str}{XP:(Str->Option Value)->Heap->Prop}{YP:World->Heap->Prop}{d:DefRec}{K:Params->PySem.W.Frag}{k:Nat}{x:Str}{sp:PySem.W.Frag->Sp}
    (hn:l.most=some 63) (hdf:d.params.defaults = []) (hr:Room k callerA) (hY:∀(w:World) (h:Heap),YP w h->(K w.params).In h)
    (hsp:∀(K:PySem.W.Frag) (H:Hp) (a:Addr) (ns:List Int),ns.length<=63->SqL K H a (ns.map V.int)->sp K [.ref a] H (fun v _=>v = .bl true) fun _ _ _=>False)
    (F:∀(w:World) (mg:Str->Option Value) (h:Heap),(K w.params).In h->h.Ns mainGlobals mg->∀base:Heap,(K w.params).In base->base.Ns mainGlobals mg->Has l.prog w (K w.params) mg base d.name [x] k (sp (K w.params))) :
    PySem.W.WalkO q loose XP YP l.row.toRowW d [] (fun f vs=>PySem.call f vs):=by
  refine L2.walk_ofK (n:=63) (k:=k) (x:=x) (CX:=CX0) (sp:=sp) hn (by decide) hdf hr hY (fun w mg fa h KX G hmg=>?_) (fun K H a ns hl _ hS=>hsp K H a ns hl hS) fun _ _ _ _ z=>z
  obtain⟨f,fd,a,kp,⟨oc,od,osl,lk⟩,b,_⟩:=F w mg h KX G h KX G;have ef:fa=f:=by
    rw[hmg] at a;cases a;rfl
  subst ef;refine⟨fd,fun s u=>.of_eq (b [u] rfl),fun base kb nb=>?_⟩;obtain⟨f',fd',a',kp',⟨oc',od',osl',lk'⟩,b',G'⟩:=F w mg h KX G base kb nb;have ef:f'=fa:=by
    rw[hmg] at a';cases a';rfl
  subst ef;rw[lk] at lk';cases lk';exact G'
inductive DEq (K:PySem.W.Frag) (H:Hp):Nat->V->V->Bool->Prop where
  | flat {n:Nat}{x y:V}(fx:zcn x=true) (fy:zcn y=true):DEq K H n x y (eqV x y)
  | lst {n:Nat}{a b:Addr}{xs ys:List V}(e:Nat->Bool) (hx:SqL K H a xs) (hy:SqL K H b ys) (hl:xs.length=ys.length) (he:∀(i:Nat) x y,xs[i]? = some x->ys[i]? = some y->DEq K H n x y (e i)) :
      DEq K H (n+1) (.ref a) (.ref b) ((List.range xs.length).all e)
  | lstN {n:Nat}{a b:Addr}{xs ys:List V}(hx:SqL K H a xs) (hy:SqL K H b ys) (hl:xs.length≠ys.length):DEq K H (n+1) (.ref a) (.ref b) false
  | tup {n:Nat}{a b:Addr}{xs ys:List V}(e:Nat->Bool) (hx:SqT K H a xs) (hy:SqT K H b ys) (he:∀(i:Nat) x y,xs[i]? = some x->ys[i]? = some y->DEq K H n x y (e i)) :
      DEq K H (n+1) (.ref a) (.ref b) ((List.range (min xs.length ys.length)).all e&&xs.length == ys.length)
  | lt {n:Nat}{a b:Addr}{xs ys:List V}(hx:SqL K H a xs) (hy:SqT K H b ys):DEq K H (n+1) (.ref a) (.ref b) false
  | tl {n:Nat}{a b:Addr}{xs ys:List V}(hx:SqT K H a xs) (hy:SqL K H b ys):DEq K H (n+1) (.ref a) (.ref b) false
theorem zkc {x:V}(h:zcn x=true):eqV x x=true:=by
  cases x<;>first | rfl | (simp[zcn] at h;done) | (simp[eqV];done)
section
variable {X:Cx}{pins:List (Addr×Obj)}{σ:St}{H:Hp}{s:Shared}
theorem zrr (I:Inv X pins σ H s) {a:Addr}{xs ys:List V}(hx:SqL X.K H a xs) (hy:SqT X.K H a ys):False:=by
  obtain⟨its,_,⟨o,n,e,c,_,_⟩,_⟩:=I.list hx;obtain⟨its',_,⟨o',e',c',_⟩,_⟩:=I.tuple hy;rw[e] at e';cases e';rw[c] at c';injection c' with c'
  exact absurd c' (by decide)
theorem DEq.refl (I:Inv X pins σ H s) {n:Nat}{x y:V}{b:Bool}(h:DEq X.K H n x y b):x=y->b=true:=by
  induction h with
  | flat fx fy=>intro e;subst e;exact zkc fx
  | lst e hx hy hl he ih=>
    intro q;cases q;have:=I.list_inj hx hy;subst this;rw[List.all_eq_true];intro i hi;have hi:=List.mem_range.mp hi;exact ih i _ _ (List.getElem?_eq_getElem hi) (List.getElem?_eq_getElem hi) rfl
  | lstN hx hy hl=>
    intro q;cases q;exact absurd (congrArg List.length (I.list_inj hx hy)) hl
  | tup e hx hy he ih=>
    intro q;cases q;have:=I.tuple_inj hx hy;subst this;rw[Nat.min_self,beq_self_eq_true,Bool.and_true,List.all_eq_true];intro i hi;have hi:=List.mem_range.mp hi;exact ih i _ _ (List.getElem?_eq_getElem hi) (List.getElem?_eq_getElem hi) rfl
  | lt hx hy=>intro q;cases q;exact (zrr I hx hy).elim
  | tl hx hy=>intro q;cases q;exact (zrr I hy hx).elim
theorem zfr (A:Around):A.in1.units<=A.units+1:=by
  first
    | exact Nat.le_refl _
    | exact Nat.le_succ _
    | (unfold Around.in1;simp)
theorem DEq.at (I:Inv X pins σ H s) {n:Nat}{x y:V}{b:Bool}(h:DEq X.K H n x y b):∀{u v:Value}{A:Around},RelV x u->RelV y v->A.units+n<cLine->
    SeqAt.EqAt A s u v b/\((∃p q,x = .ref p/\y = .ref q)->SeqAt.RcAt A s u v b):=by
  induction h with
  | flat fx fy=>
    intro u v A ru rv hu;refine⟨zvk ru rv fx fy,fun hq0=>?_⟩;obtain⟨p,q,e,_⟩:=hq0;subst e;cases fx
  | @lst n a b xs ys e hx hy hl he ih=>
    intro u v A ru rv hu;cases ru;cases rv;obtain⟨its,r1,p1,_⟩:=I.list hx;obtain⟨its2,r2,p2,_⟩:=I.list hy;have l1:=r1.length;have l2:=r2.length;have h1:=zfr A;have rc:SeqAt.RcAt A s (.ref a) (.ref b) ((List.range xs.length).all e):=by
      have:=SeqAt.RcAt.lists (A:=A) (e:=e) p1.isList p2.isList (by simp;omega) (by omega) (fun j j1 j2=>by
        have g1:xs[j]? = some (xs[j]'(by simp at j1;omega)):=List.getElem?_eq_getElem _;have g2:ys[j]? = some (ys[j]'(by simp at j2;omega)):=List.getElem?_eq_getElem _;obtain⟨w1,q1,t1⟩:=r1.get g1;obtain⟨w2,q2,t2⟩:=r2.get g2;have:=(ih j _ _ g1 g2 t1 t2 (A:=A.in1) (by omega)).1;have z1:its.toArray[j]=w1:=by
          have:=List.getElem?_eq_some_iff.mp q1;obtain⟨_,z⟩:=this;simpa using z
        have z2:its2.toArray[j]=w2:=by
          have:=List.getElem?_eq_some_iff.mp q2;obtain⟨_,z⟩:=this;simpa using z
        rw[z1,z2];exact this)
      have es:its.toArray.size=xs.length:=by simp;omega
      rw[es] at this;exact this
    refine⟨?_,fun _=>rc⟩
    by_cases hab:a=b
    · subst hab;have:=(DEq.lst e hx hy hl he).refl I rfl;rw[this];exact .same _
    · exact .of_refs hab rc
  | @lstN n a b xs ys hx hy hl=>
    intro u v A ru rv hu;cases ru;cases rv;obtain⟨its,r1,p1,_⟩:=I.list hx;obtain⟨its2,r2,p2,_⟩:=I.list hy;have l1:=r1.length;have l2:=r2.length;have rc:SeqAt.RcAt A s (.ref a) (.ref b) false:=SeqAt.RcAt.lists_lengths p1.isList p2.isList (by simp;omega) (by omega);refine⟨?_,fun _=>rc⟩
    by_cases hab:a=b
    · subst hab;exact absurd (congrArg List.length (I.list_inj hx hy)) hl
    · exact .of_refs hab rc
  | @tup n a b xs ys e hx hy he ih=>
    intro u v A ru rv hu;cases ru;cases rv;obtain⟨its,r1,p1,_⟩:=I.tuple hx;obtain⟨its2,r2,p2,_⟩:=I.tuple hy;have l1:=r1.length;have l2:=r2.length;have h1:=zfr A;have rc:SeqAt.RcAt A s (.ref a) (.ref b) ((List.range (min xs.length ys.length)).all e&&xs.length == ys.length):=by
      have:=SeqAt.RcAt.tuples (A:=A) (e:=e) (show s.heap.IsTuple a its.toArray from p1) (show s.heap.IsTuple b its2.toArray from p2) (by omega) (fun j j1 j2=>by
        have g1:xs[j]? = some (xs[j]'(by simp at j1;omega)):=List.getElem?_eq_getElem _;have g2:ys[j]? = some (ys[j]'(by simp at j2;omega)):=List.getElem?_eq_getElem _;obtain⟨w1,q1,t1⟩:=r1.get g1;obtain⟨w2,q2,t2⟩:=r2.get g2;have:=(ih j _ _ g1 g2 t1 t2 (A:=A.in1) (by omega)).1;have z1:its.toArray[j]=w1:=by
          have:=List.getElem?_eq_some_iff.mp q1;obtain⟨_,z⟩:=this;simpa using z
        have z2:its2.toArray[j]=w2:=by
          have:=List.getElem?_eq_some_iff.mp q2;obtain⟨_,z⟩:=this;simpa using z
        rw[z1,z2];exact this)
      have es:its.toArray.size=xs.length:=by simp;omega
      have es2:its2.toArray.size=ys.length:=by simp;omega
      rw[es,es2] at this;exact this
    refine⟨?_,fun _=>rc⟩
    by_cases hab:a=b
    · subst hab;have:=(DEq.tup e hx hy he).refl I rfl;rw[this];exact .same _
    · exact .of_refs hab rc
  | @lt n a b xs ys hx hy=>
    intro u v A ru rv hu;cases ru;cases rv;obtain⟨its,r1,p1,_⟩:=I.list hx;obtain⟨its2,r2,p2,_⟩:=I.tuple hy;exact⟨SeqAt.EqAt.list_tuple p1.isList (show s.heap.IsTuple b its2.toArray from p2) (by omega),fun _=>SeqAt.RcAt.list_tuple p1.isList (show s.heap.IsTuple b its2.toArray from p2) (by omega)⟩
  | @tl n a b xs ys hx hy=>
    intro u v A ru rv hu;cases ru;cases rv;obtain⟨its,r1,p1,_⟩:=I.tuple hx;obtain⟨its2,r2,p2,_⟩:=I.list hy;exact⟨SeqAt.EqAt.tuple_list (show s.heap.IsTuple a its.toArray from p1) p2.isList (by omega),fun _=>SeqAt.RcAt.tuple_list (show s.heap.IsTuple a its.toArray from p1) p2.isList (by omega)⟩
end
section
variable {X:Cx}{pins:List (Addr×Obj)}{σ:St}{H:Hp}{s:Shared}
theorem zol (I:Inv X pins σ H s) {n:Nat}{xs ys:List V}{its its2:List Value}{e:Nat->Bool}(r1:Vals xs its) (r2:Vals ys its2) (he:∀(i:Nat) x y,xs[i]? = some x->ys[i]? = some y->DEq X.K H n x y (e i)) {A:Around}(hu:A.units+n<cLine) :
    ∀(j:Nat) (h1:j<its.toArray.size) (h2:j<its2.toArray.size),SeqAt.EqAt A s its.toArray[j] its2.toArray[j] (e j):=fun j j1 j2=>by
  have l1:=r1.length;have l2:=r2.length;have g1:xs[j]? = some (xs[j]'(by simp at j1;omega)):=List.getElem?_eq_getElem _;have g2:ys[j]? = some (ys[j]'(by simp at j2;omega)):=List.getElem?_eq_getElem _;obtain⟨w1,q1,t1⟩:=r1.get g1;obtain⟨w2,q2,t2⟩:=r2.get g2;have:=((he j _ _ g1 g2).at I t1 t2 (A:=A) hu).1;have z1:its.toArray[j]=w1:=by
    obtain⟨_,z⟩:=List.getElem?_eq_some_iff.mp q1;simpa using z
  have z2:its2.toArray[j]=w2:=by
    obtain⟨_,z⟩:=List.getElem?_eq_some_iff.mp q2;simpa using z
  rw[z1,z2];exact this
theorem DEq.ne (I:Inv X pins σ H s) {n:Nat}{p q:Addr}{b:Bool}(h:DEq X.K H n (.ref p) (.ref q) b) {A:Around}(hu:A.units+n<cLine):SeqAt.RcNeAt A s (.ref p) (.ref q) (!b):=by
  have h1:=zfr A;cases h with
  | flat fx fy=>cases fx
  | lst e hx hy hl he=>
    obtain⟨its,r1,p1,_⟩:=I.list hx;obtain⟨its2,r2,p2,_⟩:=I.list hy;have l1:=r1.length;have l2:=r2.length;have:=SeqAt.RcNeAt.lists (A:=A) (e:=e) p1.isList p2.isList (by simp;omega) (by omega) (zol I r1 r2 he (A:=A.in1) (by omega));rw[List.size_toArray,←l1] at this;exact this
  | lstN hx hy hl=>
    obtain⟨its,r1,p1,_⟩:=I.list hx;obtain⟨its2,r2,p2,_⟩:=I.list hy;have l1:=r1.length;have l2:=r2.length;exact SeqAt.RcNeAt.lists_lengths p1.isList p2.isList (by simp;omega) (by omega)
  | tup e hx hy he=>
    obtain⟨its,r1,p1,_⟩:=I.tuple hx;obtain⟨its2,r2,p2,_⟩:=I.tuple hy;have l1:=r1.length;have l2:=r2.length;have:=SeqAt.RcNeAt.tuples (A:=A) (e:=e) (show s.heap.IsTuple p its.toArray from p1) (show s.heap.IsTuple q its2.toArray from p2) (by omega) (zol I r1 r2 he (A:=A.in1) (by omega));rw[List.size_toArray,List.size_toArray,←l1,←l2] at this;exact this
  | lt hx hy=>
    obtain⟨its,r1,p1,_⟩:=I.list hx;obtain⟨its2,r2,p2,_⟩:=I.tuple hy;exact SeqAt.RcNeAt.list_tuple p1.isList (show s.heap.IsTuple q its2.toArray from p2) (by omega)
  | tl hx hy=>
    obtain⟨its,r1,p1,_⟩:=I.tuple hx;obtain⟨its2,r2,p2,_⟩:=I.list hy;exact SeqAt.RcNeAt.tuple_list (show s.heap.IsTuple p its.toArray from p1) p2.isList (by omega)
end
section
variable {X:Cx}
def rEqD (K:PySem.W.Frag):R2:=fun x y H Q=>∃p q b,x = .ref p/\y = .ref q/\DEq K H 8 x y b/\Q (.bl b) H
theorem zyj (hu:X.A.units+9<cLine):OpR X (compareOp .Eq) (rEqD X.K):=by
  intro pins s σ H x y v u Q I rx ry h;obtain⟨p,q,b,rfl,rfl,d,hq⟩:=h;exact (d.at I rx ry (A:=X.A) (by omega)).2 ⟨p,q,rfl,rfl⟩ X.prog X.w _ _ ⟨.bl b,H,I,rfl,hq⟩
def rNeD (K:PySem.W.Frag):R2:=fun x y H Q=>∃p q b,x = .ref p/\y = .ref q/\DEq K H 8 x y b/\Q (.bl (!b)) H
theorem zyk (hu:X.A.units+9<cLine):OpR X (compareOp .NotEq) (rNeD X.K):=by
  intro pins s σ H x y v u Q I rx ry h;obtain⟨p,q,b,rfl,rfl,d,hq⟩:=h;cases rx;cases ry;exact d.ne I (A:=X.A) (by omega) X.prog X.w _ _ ⟨.bl (!b),H,I,rfl,hq⟩
def rInD (K:PySem.W.Frag) (neg:Bool):R2:=fun x y H Q=>∃(p:Addr) (xs:List V) (e:V->Bool),y = .ref p/\(SqL K H p xs\/SqT K H p xs)/\(∀z∈xs,DEq K H 8 z x (e z))/\Q (.bl (if neg then !xs.any e else xs.any e)) H
theorem zrs:∀{xs:List V}{us:List Value}{u:Value},Vals xs us->u∈us->∃x∈xs,RelV x u
  | _,_,_,.cons r t,h=>by
    rcases List.mem_cons.mp h with h | h
    · subst h;exact⟨_,List.mem_cons_self ..,r⟩
    · obtain⟨x,hx,q⟩:=zrs t h;exact⟨x,List.mem_cons_of_mem _ hx,q⟩
def absE (e:V->Bool) (u:Value):Bool:=match absV u with
  | some x=>e x
  | none=>false
theorem zrt {e:V->Bool}{x:V}{u:Value}(r:RelV x u):absE e u=e x:=by unfold absE;rw[r.abs]
theorem zna {e:V->Bool}:∀{xs:List V}{us:List Value},Vals xs us->us.any (absE e)=xs.any e
  | _,_,.nil=>rfl
  | _,_,.cons r t=>by rw[List.any_cons,List.any_cons,zrt r,zna t]
theorem zyl (hu:X.A.units+10<cLine):OpR X (compareOp .In) (rInD X.K false):=by
  intro pins s σ H x y v u Q I rx ry h;obtain⟨p,xs,e,rfl,hq,hd,q⟩:=h;cases ry;have h1:=zfr X.A;have items:∀{its:List Value},Vals xs its->∀z,z∈its.toArray->SeqAt.EqAt X.A.in1 s z v (absE e z):=fun {its} r z hz=>by
    obtain⟨x',hx',rz⟩:=zrs r (by simpa using hz);rw[zrt rz];exact ((hd x' hx').at I rz rx (A:=X.A.in1) (by omega)).1
  rcases hq with hq | hq
  · obtain⟨its,r,pl,hz⟩:=I.list hq;refine SeqAt.in_listAt (absE e) pl.isList (items r) ⟨.bl _,H,I,rfl,?_⟩;rw[show its.toArray.any (absE e)=its.any (absE e) by simp,zna r];exact q
  · obtain⟨its,r,pl,hz⟩:=I.tuple hq;refine SeqAt.in_tupleAt (absE e) pl (items r) ⟨.bl _,H,I,rfl,?_⟩;rw[show its.toArray.any (absE e)=its.any (absE e) by simp,zna r];exact q
end
def zab:V->Str
  | .str x=>x
  | .int i=>Str.ofString (toString i)
  | _=>Str.empty
def Wd (v:V):Prop:=(∃x,v = .str x/\x.length<=100)\/∃i:Int,v = .int i/\i.natAbs<10 ^ 60
theorem Wd.flat {v:V}(h:Wd v):zcn v=true:=by
  rcases h with ⟨x,rfl,_⟩ | ⟨i,rfl,_⟩<;>rfl
theorem zym {i:Int}(h:i.natAbs<10 ^ 60):i.natAbs.log2<1920:=by
  by_cases h0:i.natAbs=0
  · rw[h0];decide
  · exact (Nat.log2_lt h0).mpr (Nat.lt_of_lt_of_le h (by decide))
section
variable {X:Cx}
theorem zll:zdw X (.type "str") (fun xs H Q=>∃v,xs = [v]/\Wd v/\Q (.str (zab v)) H):=by
  intro pins s σ H xs us Q I r h;obtain⟨v,rfl,hv,q⟩:=h;rcases hv with ⟨x,rfl,_⟩ | ⟨i,rfl,hi⟩
  · obtain⟨u,rfl,t,rfl⟩:=zel r;exact PySem.P.str_of_str ⟨.str x,H,I,⟨_,rfl⟩,q⟩
  · obtain⟨u,rfl,t,rfl⟩:=zel r;exact PySem.P.str_of_int (zym hi) ⟨.str _,H,I.tok _,⟨_,rfl⟩,q⟩
theorem zlm:zdw X (.builtin "sorted") (fun xs H Q=>∃(a:Addr) (ns:List Int),xs = [V.ref a]/\SqL X.K H a (ns.map V.int)/\ns.length<64/\
    ∀(p:Addr) (ms:List Int),H p=none->ms.Perm ns->ms.Pairwise (·<=·)->Q (.ref p) (upd H p (.lst (ms.map V.int)))):=by
  intro pins s σ H xs us Q I r h;obtain⟨a,ns,rfl,ha,hn,q⟩:=h;obtain⟨u,rfl,ru⟩:=zel r;cases ru;obtain⟨its,rv,pl,hz⟩:=I.list ha;have hl:=rv.length;rw[List.length_map] at hl;refine PyProof.Rows.sorted_ints pl.isList (zpo rv) (by omega) fun out ms a1 a2 a3=>?_
  obtain⟨e,he⟩:=PyProof.Rows.sortedAll_at s.heap its out;have hn':H (s.heap.objs.size+1)=none:=I.hok.fresh (Nat.le_succ _);have hm:ms.length=ns.length:=a2.length_eq;have hs:sizeLine=16777216:=sizeLine_eq;refine⟨.ref (s.heap.objs.size+1),_,I.laid (t':=s.toks) (a:=s.heap.objs.size+1) (o:=.lst (ms.map V.int)) (fun b o eb=>PyProof.Rows.sortedAll_old eb) (Nat.le_succ _) ⟨?_,out.toList,e,zhw a1,?_⟩,rfl,q _ ms hn' a2 a3⟩
  · rw[List.length_map];omega
  · rw[he]
end
def eqL (xs ys:List V):Bool:=(List.range (min xs.length ys.length)).all (fun i=>match xs[i]?,ys[i]? with | some x,some y=>eqV x y | _,_=>true)&&xs.length == ys.length
theorem DEq.flatT {K:PySem.W.Frag}{H:Hp}{n:Nat}{a b:Addr}{xs ys:List V}(hx:SqT K H a xs) (hy:SqT K H b ys) (fx:∀x∈xs,zcn x=true) (fy:∀x∈ys,zcn x=true):DEq K H (n+1) (.ref a) (.ref b) (eqL xs ys):=by
  refine DEq.tup _ hx hy fun i x y e1 e2=>?_
  rw[e1,e2];exact DEq.flat (fx x (List.mem_of_getElem? e1)) (fy y (List.mem_of_getElem? e2))
theorem zfs {xs:List V}(h:∀x∈xs,zcn x=true):eqL xs xs=true:=by
  unfold eqL;rw[beq_self_eq_true,Bool.and_true,List.all_eq_true];intro i hi;rw[Nat.min_self] at hi;have hi:=List.mem_range.mp hi;rw[List.getElem?_eq_getElem hi];exact zkc (h _ (List.getElem_mem hi))
theorem DEq.sameL {K:PySem.W.Frag}{H:Hp}{n:Nat}{a b:Addr}{xs:List V}(hx:SqL K H a xs) (hy:SqL K H b xs) (h:∀x∈xs,DEq K H n x x true):DEq K H (n+1) (.ref a) (.ref b) true:=by
  have:=DEq.lst (n:=n) (fun _=>true) hx hy rfl fun i x y e1 e2=>by
    rw[e1] at e2;cases e2;exact h x (List.mem_of_getElem? e1)
  rw[show (List.range xs.length).all (fun _=>true)=true from List.all_eq_true.mpr fun _ _=>rfl] at this;exact this
theorem DEq.sameT {K:PySem.W.Frag}{H:Hp}{n:Nat}{a b:Addr}{xs ys:List V}(hx:SqT K H a xs) (hy:SqT K H b ys) (hl:xs.length=ys.length) (h:∀(i:Nat) x y,xs[i]? = some x->ys[i]? = some y->DEq K H n x y true):DEq K H (n+1) (.ref a) (.ref b) true:=by
  have:=DEq.tup (n:=n) (fun _=>true) hx hy h;rw[show (List.range (min xs.length ys.length)).all (fun _=>true)=true from List.all_eq_true.mpr fun _ _=>rfl,hl,beq_self_eq_true] at this;exact this
theorem Same.tup {K:PySem.W.Frag}{H H':Hp}{a:Addr}{xs:List V}(e:Same H H') (h:SqT K H a xs):SqT K H' a xs:=by
  rcases h with (h | ⟨o,h⟩) | h
  · exact .inl (.inl (e _ _ h))
  · exact .inl (.inr ⟨o,e _ _ h⟩)
  · exact .inr h
theorem Same.new {H:Hp}{D:Addr}{o:HO}(h:H D=none):Same H (upd H D o):=fun b u e=>by rw[zv (zr e h)];exact e
theorem Same.upd {H H':Hp}{D:Addr}{o:HO}(e:Same H H') (h:H D=none):Same H (upd H' D o):=fun b u q=>by
  rw[zv (zr q h)];exact e b u q
theorem zh0 {J:It}{xs:List V}{P:Hp->Prop}{own:List Str}{ix:List Nat}{te:TE}{σ:St}{H1:Hp}{D:Addr}{Q:VK}(F:Fix J xs P) (f:V->V) (hD:H1 D=none)
    (hP:∀H',Same H1 H'->P H') (hz:xs.length<=sizeLine)
    (he:∀x∈xs,∀H' (Q':VK),Same H1 H'->(∀H'',Same H' H''->Q' (f x) H'')->te ((st0 own ix σ).set 0 (some x)) H' Q')
    (hQ:∀H',Same H1 H'->H' D=some (.lst (xs.map f))->Q (.ref D) H'):zkb own ix J (za0 0) tYes te σ H1 D Q:=by
  refine⟨fun i m σ' ys H'=>m=xs.length-i/\i<=xs.length/\(∀z,σ'.set 0 z=(st0 own ix σ).set 0 z)/\ys=(xs.take i).map f/\Same H1 H'/\H' D=some (.lst ys),
    ⟨xs.length,by simp,Nat.zero_le _,fun _=>rfl,by simp,Same.new hD,zc⟩,?_⟩
  rintro i m σ' ys H' ⟨rfl,hi,hσ,rfl,hs,hDy⟩;refine⟨hDy,?_⟩
  by_cases hlt:i<xs.length
  · refine .inr ⟨F.go i _ (hP _ hs) hlt,?_,fun x H2 y=>?_⟩
    · rw[List.length_map,List.length_take];omega
    · obtain⟨e,y'⟩:=F.yld i _ x H2 (hP _ hs) y;subst e;have hx:=y' hlt;have hm:x∈xs:=List.mem_of_getElem? hx;unfold za0 tYes;dsimp only;rw[if_pos rfl,hσ];refine he x hm _ _ hs fun H'' hs'=>⟨hs' D _ hDy,xs.length-(i+1),by omega,rfl,hlt,fun z=>List.set_set ..,?_,(hs.trans hs').upd hD,zc⟩
      rw[List.take_add_one,hx,List.map_append];rfl
  · have e:i=xs.length:=by omega
    subst e;refine .inl ⟨F.stop _ _ (hP _ hs) (Nat.le_refl _),hQ _ hs ?_⟩;rw[List.take_length] at hDy;exact hDy
section
variable {X:Cx}(K:PySem.W.Frag) (h:X.K=K)
include h
theorem zaa:IxR X (rIxL K):=h▸zv7
theorem zag:IxR X (rIxT K):=h▸zya
theorem zba:SlR X (rSlL K):=h▸zv8
theorem zkd:SlR X (rSlT K):=h▸zvj
theorem zhj:OpR X (binaryOp .Add) (zx9 K):=h▸zv4
theorem zef:OpR X (compareOp .In) (rIn K false):=h▸zrj
theorem zbl:OpR X (compareOp .NotIn) (rIn K true):=h▸zle
theorem zke (hu:X.A.units+9<cLine):OpR X (compareOp .Eq) (rEqD K):=h▸zyj hu
theorem zru (hu:X.A.units+9<cLine):OpR X (compareOp .NotEq) (rNeD K):=h▸zyk hu
theorem zrv (hu:X.A.units+10<cLine):OpR X (compareOp .In) (rInD K false):=h▸zyl hu
theorem zau:zdw X (.builtin "len") (fun xs H Q=>∃p ys,xs = [.ref p]/\(SqL K H p ys\/SqT K H p ys)/\Q (.int ys.length) H):=h▸zlf
theorem zbg:zdw X (.type "tuple") (fun xs H Q=>∃p ys,xs = [.ref p]/\((SqL K H p ys/\∀l,H l=none->Q (.ref l) (upd H l (.tup ys)))\/(SqT K H p ys/\Q (.ref p) H))):=h▸zj6
theorem zln:zdw X (.builtin "isinstance") (fun xs H Q=>∃x t n b,xs = [x,V.ty n]/\TyOf K H x t/\PySem.W.kitOne K t (.type n)=some b/\Q (.bl b) H):=h▸zt8
theorem zft:zdw X (.builtin "sorted") (fun xs H Q=>∃(a:Addr) (ns:List Int),xs = [V.ref a]/\SqL K H a (ns.map V.int)/\ns.length<64/\
    ∀(p:Addr) (ms:List Int),H p=none->ms.Perm ns->ms.Pairwise (·<=·)->Q (.ref p) (upd H p (.lst (ms.map V.int)))):=h▸zlm
theorem zpq (hc:X.calm=true):zdw X (.builtin "all") (fun xs H Q=>∃(a:Addr) (bs:List Bool),xs = [V.ref a]/\SqL K H a (bs.map V.bl)/\Q (.bl (bs.all id)) H):=h▸zrp hc
theorem zhk:MtR X "str.join" (fun x xs H Q=>∃(sep:Str) (p:Addr) (ys:List Str),x=V.str sep/\xs = [V.ref p]/\SqL K H p (ys.map V.str)/\(ys.map (·.length)).sum+ys.length * sep.length<=16777216/\Q (.str (Txt.join sep ys)) H):=h▸zwn
variable {o e:Expr}{es:List Expr}{to:TE}{t:TA}{name:Str}{apos cpos:Pos}{T id:String}{r:V->List V->Hp->VK->Prop}
theorem zwo (pa:PlainAttrs T) (slot:Slot T name id) (hty:typeOf (.builtin id)=pure (.type "method_descriptor")) (hm:MtR X id r) (ho:PE X o to)
    (hbase:attributeBase o name X.env (eval o X.env)=eval o X.env:=by rfl) (hline:(apos.endLine == cpos.line)=true:=by rfl):PE X (.Call (.Attribute o name apos) [] [] cpos) (tBM0 K T r to):=h▸zyc pa slot hty hm ho hbase hline
theorem zbw (pa:PlainAttrs T) (slot:Slot T name id) (hty:typeOf (.builtin id)=pure (.type "method_descriptor")) (hm:MtR X id r) (ho:PE X o to) (ha:PA X (e::es) t)
    (hbase:attributeBase o name X.env (eval o X.env)=eval o X.env:=by rfl)
    (hfew:((backTo cpos (starEach (e::es) X.env)).all (fun x=>!x.1)&&(backToKw cpos (keywordEach [] X.env)).all (fun x=>x.1.isSome)
      && decide ((e::es).length+([]:List Keyword).length+(if ([]:List Keyword).isEmpty then 0 else 1)<30))=true:=by rfl)
    (hline:(apos.endLine == cpos.line)=true:=by rfl) (hs:starEach (e::es) X.env=(false,eval e X.env)::starEach es X.env:=by rfl) (hplain:(backTo cpos (starEach es X.env)).any (·.1)=false:=by rfl) :
    PE X (.Call (.Attribute o name apos) (e::es) [] cpos) (tBM K T r to t):=h▸zzn pa slot hty hm ho ha hbase hfew hline hs hplain
end
section
variable {X:Cx}{tg:Expr}(K:PySem.W.Frag) (h:X.K=K)
include h
theorem zcy {l:Expr}{tl:TE}(hl:PE X l tl):PI X tg l (zx1 K tl):=h▸zvx hl
theorem zwp {l:Expr}{tl:TE}(hl:PE X l tl):PI X tg l (iTup K tl):=h▸zx2 hl
theorem zgp {es:List Expr}{k:Nat}{t:TGs}{n:Nat}{pos:Pos}(hc:X.calm=true) (h':PGs X es t)
    (hn:(assignEach es X.env).length=n:=by rfl) (hst:(assignEach es X.env).findIdx? (·.1)=none:=by rfl):PG X (.Tuple es k pos) (gTup K n t):=h▸zx0 hc h' hn hst
end
theorem hu10 {A:Around}{k:Nat}(hr:Room k A):A.units+9<cLine:=Nat.lt_of_le_of_lt (Nat.add_le_add_left (by decide:9<=64) _) hr.units
theorem hu11 {A:Around}{k:Nat}(hr:Room k A):A.units+10<cLine:=Nat.lt_of_le_of_lt (Nat.add_le_add_left (by decide:10<=64) _) hr.units
theorem zeg {c:TT}{t u:TS}{D:Ends}{σ:St}{H:Hp}(b:Bool) (ht:∀Q':Bool->Hp->Prop,(∀H',Same H H'->Q' b H')->c σ H Q') (hs:∀H',Same H H'->if b=true then t D σ H' else u D σ H'):tIfS c t u D σ H:=ht _ hs
theorem zcq {c:TT}{t u:TS}{D:Ends}{σ:St}{H:Hp}(b:Bool) (ht:∀Q':Bool->Hp->Prop,Q' b H->c σ H Q') (hs:if b=true then t D σ H else u D σ H):tIfS c t u D σ H:=ht _ hs
theorem DEq.nilL {K:PySem.W.Frag}{H:Hp}{n:Nat}{a b:Addr}{xs:List V}(hx:SqL K H a xs) (hy:SqL K H b []):DEq K H (n+1) (.ref a) (.ref b) (decide (xs = [])):=by
  by_cases h:xs = []
  · subst h;exact DEq.lst (fun _=>true) hx hy rfl fun i x y e _=>by simp at e
  · rw[decide_eq_false h];exact DEq.lstN hx hy fun z=>h (List.length_eq_zero_iff.mp z)
theorem zbx {α:Type}{x:α}{xs:List α}:atI (x::xs) 0=some x:=by
  have:=zan (xs:=x::xs) (j:=0) (v:=x) rfl;exact this
theorem zby {x:V}{xs:List V}:cutV (x::xs) (some 1) none=xs:=by
  unfold cutV HT.sIx;simp
theorem zaj {n:Nat}(h:n<=1000):n<=sizeLine:=Nat.le_of_lt (zb3 h)
open Builtin Builtin.Str
theorem zfu:∀(ys:List Str) (k:Nat),Vals (ys.map V.str) (strsFrom k ys)
  | [],_=>.nil
  | y::ys,k=>.cons ⟨k,rfl⟩ (zfu ys (k+1))
section
variable {X:Cx}
theorem zom {pins:List (Addr×Obj)}{σ:St}{H:Hp}{s:Shared}{Q:VK}{ys:List Str}{us:List Value}{k n:Nat}(I:Inv X pins σ H s) (r:Vals (ys.map V.str) us) (hz:ys.length<=sizeLine) (q:∀p,H p=none->Q (.ref p) (upd H p (.lst (ys.map V.str)))) :
    EP X pins σ Q (.ref s.heap.objs.size) { s with heap:=s.heap.push { cls:=.type "list",data:=.seq us.toArray n },toks:=k }:=
  ⟨.ref s.heap.objs.size,_,I.laid (t':=k) (o:=.lst (ys.map V.str)) (fun b u e=>Heap.get?_push_of_some _ e) (Nat.le_refl _) ⟨by rw[List.length_map];exact hz,us,n,r,Heap.get?_push_size _ rfl⟩,rfl,q _ (I.hok.fresh (Nat.le_refl _))⟩
theorem zkf:MtR X "str.split" (fun x xs H Q=>∃a b,x=V.str a/\xs = [V.str b]/\(b.length == 0)=false/\a.length<=sizeLine/\(Txt.split a b).length<=sizeLine/\∀p,H p=none->Q (.ref p) (upd H p (.lst ((Txt.split a b).map V.str)))):=by
  intro pins s σ H x xs v us Q I rx rs h;obtain⟨a,b,rfl,rfl,hb,ha,hn,q⟩:=h;obtain⟨t,rfl⟩:=rx;obtain⟨u,rfl,t',rfl⟩:=zel rs;have one:Txt.split a b = [a]->EP X pins σ Q (.ref s.heap.objs.size) { s with heap:=s.heap.push { cls:=.type "list",data:=.seq [Value.str a t].toArray 0 },toks:=s.toks }:=fun e=>by
    rw[e] at q;exact zom I (ys:=[a]) (.cons ⟨t,rfl⟩ .nil) (by show 1<=sizeLine;decide) q
  cases h1:(decide (a.length<b.length)||decide (strKind a<strKind b))
  · cases hf:(occurrences a b 0 a.length (a.length+1)).isEmpty
    · have e:Txt.split a b=partsBetween a (occurrences a b 0 a.length (a.length+1)) b.length:=by
        unfold Txt.split;rw[h1,hf];rfl
      rw[e] at hn q;refine call_meets F.slot_str_split (typeIs_str _ _ _) F.entry_str_split (F.args_str_split_2 _ _) (meets_str_split_sep a b t t' h1 hb hf ha hn) ?_;exact zom I (zfu _ _) hn q
    · exact call_meets F.slot_str_split (typeIs_str _ _ _) F.entry_str_split (F.args_str_split_2 _ _) (meets_str_split_not_found a b t t' h1 hb hf) (one (by unfold Txt.split;rw[h1,hf];rfl))
  · exact call_meets F.slot_str_split (typeIs_str _ _ _) F.entry_str_split (F.args_str_split_2 _ _) (meets_str_split_cannot_occur a b t t' h1) (one (by unfold Txt.split;rw[h1];rfl))
end
section
variable {X:Cx}{pins:List (Addr×Obj)}{σ:St}{H:Hp}{s:Shared}{h':Heap}
theorem Inv.turnedL {t':Nat}{ch:List Addr}(I:Inv X pins σ H s) (k:∀b o,b ∉ ch->s.heap.get? b=some o->h'.get? b=some o) (hf:∀b∈ch,FpOk X pins H b):Inv X pins σ H { s with heap:=h',toks:=t' }:=by
  have nit:∀b u,H b=some u->b ∉ ch:=fun b u e z=>by rw[(hf b z).1] at e;cases e
  refine I.step (g':=s.gens) (d':=s.drawn) (ch:=ch) (fun b hb=>⟨(hf b hb).2.2.2.1,(hf b hb).2.1,(hf b hb).2.2.2.2.1,(hf b hb).2.2.2.2.2⟩) (fun b o _ _ hc e _=>k b o hc e) (fun b o _ _ hc e _=>⟨o.slots,k b o hc e⟩) (fun _ _ _ _ n=>n)
    (fun b o hc e=>⟨o,k b o hc e⟩) (fun _ _ e=>e) (fun _ _ _ e=>e) (fun b ps e=>⟨#[],by rw[e];simp⟩) (fun m hm=>?_) (fun b u e=>?_) I.bare
  · obtain⟨o,es,ep,ho,r⟩:=hm;exact⟨o,es,ep,k _ o (fun z=>(hf _ z).2.1 rfl) ho,r⟩
  · refine (I.hok b u e).stay (fun c v hc q=>k c v ?_ q) (fun _ q=>q) fun _ _ q=>q
    rcases hc with z | z
    · rw[z];exact nit b u e
    · exact nit c _ z
theorem Inv.turnedNew {t':Nat}{ch:List Addr}{T:Addr}{o:HO}(I:Inv X pins σ H s) (k:∀b u,b ∉ ch->s.heap.get? b=some u->h'.get? b=some u) (hf:∀b∈ch,FpOk X pins H b) (hT:s.heap.objs.size<=T)
    (new:ObjOk X.prog X.w (upd H T o) h' T o):Inv X pins σ (upd H T o) { s with heap:=h',toks:=t' }:=by
  have hn:H T=none:=I.hok.fresh hT;have nit:∀b u,H b=some u->b ∉ ch:=fun b u e z=>by rw[(hf b z).1] at e;cases e
  have neT:∀b u,s.heap.get? b=some u->b≠T:=fun b u e=>Nat.ne_of_lt (Nat.lt_of_lt_of_le (Heap.lt_size e) hT)
  refine I.step (g':=s.gens) (d':=s.drawn) (ch:=ch) (fun b hb=>⟨(hf b hb).2.2.2.1,(hf b hb).2.1,(hf b hb).2.2.2.2.1,(hf b hb).2.2.2.2.2⟩) (fun b u _ _ hc e _=>k b u hc e) (fun b u _ _ hc e _=>⟨u.slots,k b u hc e⟩) (fun b u _ e n=>by rw[zv (neT b u e)];exact n)
    (fun b u hc e=>⟨u,k b u hc e⟩) (fun b xs e=>by rw[zv (zr e hn)];exact e) (fun b u v e=>by rw[zv (zr e hn)];exact e) (fun b ps e=>⟨#[],by rw[zv (zr e hn),e];simp⟩) (fun m hm=>?_) (fun b u e=>?_) I.bare
  · obtain⟨u,es,ep,ho,r⟩:=hm;exact⟨u,es,ep,k _ u (fun z=>(hf _ z).2.1 rfl) ho,r⟩
  · by_cases hb:b=T
    · subst hb;rw[zc] at e;cases e;exact new
    · rw[zv hb] at e;refine (I.hok b u e).stay (fun c v hc q=>k c v ?_ q) (fun c q=>by rw[zv (zr q hn)];exact q) fun c xs q=>by rw[zv (zr q hn)];exact q
      rcases hc with z | z
      · rw[z];exact nit b u e
      · exact nit c _ z
end
theorem znb {prog:Program}{w:World}{A:Around}{it:Addr}{fp:List Addr}{n:Nat}{P:Nat->Value->Prop}{St:Nat->Heap->Prop}(D:Draws prog w A it fp n P St) (a:Nat) :
    Draws prog w A it fp (n+a) (fun i v=>P (i-a) v) (fun i h=>a<=i/\St (i-a) h) where
  live:=fun i h st=>D.live _ h st.2
  frame:=fun i h h' st k=>⟨st.1,D.frame _ h h' st.2 k⟩
  item:=fun i s Q E hi st hQ=>D.item (i-a) s Q E (by have:=st.1;omega) st.2 fun x h1 tk p q r=>hQ x h1 tk p ⟨by have:=st.1;omega,by
    have:i+1-a=i-a+1:=by have:=st.1;omega
    rw[this];exact q⟩ r
  done:=fun s Q E st hE=>D.done s Q E (by have:=st.2;rwa [Nat.add_sub_cancel] at this) hE
theorem zt9 {prog:Program}{w:World}{A:Around}{E:Value->Shared->Prop}{s:Shared}{e it l:Addr}{i:Nat}{j:Int}{items:Array Value}{old:Value}{Q:Option Value->Shared->Prop}(hd:A.handled=none)
    (he:IsEnum s.heap e it j old) (hi:s.heap.IsListIter it l i) (hl:s.heap.IsList l items) (hx:items[i]? = none) (hQ:∀h1,Heap.ExtBut it s.heap h1->Q none { s with heap:=h1 }):wpAny (model prog w) A (pyNext (.ref e)) Q E s:=by
  have D:Draws prog w A.in1 it [it,l] i (fun _ _=>False) (fun k h=>(k<i->False)/\h.IsListIter it l i/\h.IsList l items):=
    ⟨fun _ _ q=>let ⟨o,ho,_⟩:=q.2.1;⟨o,ho⟩,fun _ _ _ q k=>⟨q.1,q.2.1.at fun o x=>k it (by simp) o x,q.2.2.at fun o x=>k l (by simp) o x⟩,fun k _ _ _ hk q _=>(q.1 hk).elim,fun s1 _ _ q hE=>wpAny_nextOf_list_end (A:=A.in1) hd q.2.1 q.2.2 hx hE⟩
  exact wpAny_pyNext_enum_endD D he ⟨fun z=>Nat.lt_irrefl _ z,hi,hl⟩ hQ
def Ite (K:PySem.W.Frag) (a:Addr) (st:Nat):It:=
  ⟨fun i H=>∃xs x,SqL K H a xs/\xs[i]? = some x,fun i H v H'=>∃T x,H T=none/\v = .ref T/\H'=upd H T (.tup [.int ((st+i:Nat):Int),x])/\∀xs,SqL K H a xs->xs[i]? = some x,fun i H=>∃xs,SqL K H a xs/\xs.length<=i⟩
theorem zrw {P:Program}{w:World}{K:PySem.W.Frag}{elts:List Expr}{ct:Nat}{pos:Pos}(a e it:Addr) (st:Nat) (hne:e≠it) :
    Turn P w K (.Tuple elts ct pos) (Ite K a st) [e,it] e (fun i h=>(∃old,IsEnum h e it ((st+i:Nat):Int) old)/\h.IsListIter it a i) where
  mem:=by simp
  obj:=fun i h q b hb=>by
    obtain⟨⟨old,he⟩,o,ho,c,d⟩:=q;rcases List.mem_cons.mp hb with hb | hb
    · subst hb;exact⟨_,he,fun v z=>by cases z⟩
    · rw[List.mem_singleton] at hb;subst hb;exact⟨o,ho,fun v z=>by rw[d] at z;cases z⟩
  keep:=fun i h h' q k=>⟨let ⟨old,he⟩:=q.1;⟨old,k e (by simp) _ he⟩,q.2.at fun o x=>k it (by simp) o x⟩
  item:=by
    intro X hP hw hK hc i pins s σ H E I hf q hg;subst hP hw hK;obtain⟨xs,x,hq,hx⟩:=hg;obtain⟨⟨old,he⟩,hit⟩:=q;obtain⟨its,rv,p,hz⟩:=I.list hq;obtain⟨u,hu,ru⟩:=rv.get hx;have hl:=p.isList;have li:a≠it:=by
      rintro rfl;obtain⟨o,ho,c,d⟩:=hit;obtain⟨o2,ho2,c2,_⟩:=hl;rw[ho] at ho2;cases ho2;rw[c] at c2;injection c2 with c2
      exact absurd c2 (by decide)
    have le:e≠a:=by
      rintro rfl;obtain⟨o2,ho2,c2,_⟩:=hl;rw[he] at ho2;cases ho2;injection c2 with c2
      exact absurd c2 (by decide)
    have hi:i<its.toArray.size:=by
      have:=(List.getElem?_eq_some_iff.mp hu).1;simpa using this
    have hel:e<s.heap.objs.size:=Heap.lt_size he;have hil:it<s.heap.objs.size:=by obtain⟨o,ho,_⟩:=hit;exact Heap.lt_size ho
    refine wpAny_pyNext_enum_itemD (znb (Draws.list (A:=X.A.in1) (I.ok.hd hc) it a li its.toArray) st) he ⟨by omega,by rw[Nat.add_sub_cancel_left];exact⟨hit,hl⟩⟩ (by omega) hne (by simp[hne,le]) fun y h1 tk py eo sy ht hsz kk=>?_
    have ey:y=u:=by
      have py:its.toArray[st+i-st]? = some y:=py;rw[Nat.add_sub_cancel_left] at py;have hu':its.toArray[i]? = some u:=by simpa using hu
      rw[hu'] at py;exact (Option.some.inj py).symm
    subst ey;refine⟨_,rfl,?_⟩;have I1:Inv X pins σ (upd H s.heap.objs.size (.tup [.int ((st+i:Nat):Int),x])) { s with heap:=h1,toks:=tk+1 }:=
      I.turnedNew (ch:=[e,it]) (o:=.tup [.int ((st+i:Nat):Int),x]) (fun b o hb q=>kk b o (fun z=>hb (by simp[z])) (fun z=>hb (by simp[z])) q) hf (Nat.le_refl _) ⟨(by show 2<=sizeLine;decide),[_,y],.cons ⟨_,rfl⟩ (.cons ru .nil),_,ht,rfl,_,rfl⟩
    refine wpAny_letOwnedTupleGo_enum eo fun h2 he2 hs2=>?_
    have fn:∀b∈[e,it],upd H s.heap.objs.size (.tup [.int ((st+i:Nat):Int),x]) b=none:=fun b hb=>by
      have hb':b≠s.heap.objs.size:=by
        rcases List.mem_cons.mp hb with z | z
        · subst z;exact Nat.ne_of_lt hel
        · rw[List.mem_singleton] at z;subst z;exact Nat.ne_of_lt hil
      rw[zv hb'];exact (hf b hb).1
    have I2:=I1.turnedL (t':=tk+1) (h':=h2) (ch:=[e]) (fun b o hb q=>(hs2.2 b (fun z=>hb (by simp[z]))).trans q) (fun b hb=>by
      rw[List.mem_singleton] at hb;subst hb;exact⟨fn _ (by simp),(hf _ (by simp)).2⟩)
    have sy:=sy.2;rw[show st+i+1-st=i+1 by omega] at sy;refine⟨.ref s.heap.objs.size,_,I2,rfl,⟨_,x,I.hok.fresh (Nat.le_refl _),rfl,rfl,fun ys hy=>by rw[I.list_inj hy hq];exact hx⟩,⟨⟨y,?_⟩,sy.1.at fun o q=>(hs2.2 it hne.symm).trans q⟩,fn⟩;have:((st+(i+1):Nat):Int)=((st+i:Nat):Int)+1:=by omega
    rw[this];exact he2
  done:=by
    intro X hP hw hK hc i pins s σ H E I hf q hg;subst hP hw hK;obtain⟨xs,hq,hx⟩:=hg;obtain⟨⟨old,he⟩,hit⟩:=q;obtain⟨its,rv,p,hz⟩:=I.list hq;have hl:=rv.length;have hlist:=p.isList;have li:a≠it:=by
      rintro rfl;obtain⟨o,ho,c,d⟩:=hit;obtain⟨o2,ho2,c2,_⟩:=hlist;rw[ho] at ho2;cases ho2;rw[c] at c2;injection c2 with c2
      exact absurd c2 (by decide)
    exact zt9 (I.ok.hd hc) he hit hlist (by simp;omega) fun h1 eb=>⟨rfl,I.turnedL (t':=s.toks) (ch:=[it]) (fun b o hb q=>eb b o (fun z=>hb (by simp[z])) q) (fun b hb=>hf b (by rw[List.mem_singleton] at hb;simp[hb]))⟩
  self:=fun _ _ _ _ _ q h=>let ⟨_,he⟩:=q.1;wpAny_pyIter_enum he h
def SIt (b:Bool) (h:Heap) (it a:Addr) (i:Nat):Prop:=if b=true then h.IsTupleIter it a i else h.IsListIter it a i
def SSq (b:Bool) (h:Heap) (a:Addr) (items:Array Value):Prop:=if b=true then h.IsTuple a items else h.IsList a items
theorem SIt.at {b:Bool}{h h':Heap}{it a:Addr}{i:Nat}(q:SIt b h it a i) (k:∀o,h.get? it=some o->h'.get? it=some o):SIt b h' it a i:=by
  cases b with
  | true=>exact Heap.IsTupleIter.at (show h.IsTupleIter it a i from q) k
  | false=>exact Heap.IsListIter.at (show h.IsListIter it a i from q) k
theorem SSq.at {b:Bool}{h h':Heap}{a:Addr}{items:Array Value}(q:SSq b h a items) (k:∀o,h.get? a=some o->h'.get? a=some o):SSq b h' a items:=by
  cases b with
  | true=>
    obtain⟨o,ho,r⟩:=show h.IsTuple a items from q;exact⟨o,k o ho,r⟩
  | false=>exact Heap.IsList.at (show h.IsList a items from q) k
def zkg (b:Bool):String:=if b=true then "tuple_iterator" else "list_iterator"
theorem SIt.obj {b:Bool}{h:Heap}{it a:Addr}{i:Nat}(q:SIt b h it a i):∃o,h.get? it=some o/\o.cls = .type (zkg b)/\o.data = .fields #[.ref a,.int i 0]:=by
  cases b with
  | true=>
    obtain⟨o,ho,c,d⟩:=show h.IsTupleIter it a i from q;exact⟨o,ho,c,d⟩
  | false=>
    obtain⟨o,ho,c,d⟩:=show h.IsListIter it a i from q;exact⟨o,ho,c,d⟩
section
variable {prog:Program}{w:World}{A:Around}{E:Value->Shared->Prop}{s:Shared}
theorem zkh {b:Bool}{it a:Addr}{i:Nat}{items:Array Value}{x:Value}{Q:Value->Shared->Prop}(hi:SIt b s.heap it a i) (ha:SSq b s.heap a items) (hx:items[i]? = some x)
    (hQ:∀h1,SIt b h1 it a (i+1)->Heap.SameBut it s.heap h1->Q x { s with heap:=h1 }):wpAny (model prog w) A (Builtin.SmallTypes.nextOf (.ref it)) Q E s:=by
  cases b with
  | false=>exact wpAny_nextOf_list_item (show s.heap.IsListIter it a i from hi) (show s.heap.IsList a items from ha) hx hQ
  | true=>
    have hi:s.heap.IsTupleIter it a i:=hi;obtain⟨o,ho,hc,hd⟩:=id hi;obtain⟨oa,hoa,_,n,hda⟩:=show s.heap.IsTuple a items from ha;unfold Builtin.SmallTypes.nextOf;refine wpAny_bind (wpAny_callSpecial?_slot (name:=Str.ofString "__next__") hi.typeIs F.slot_tuple_iterator_next (wpAny_call_entry F.slot_tuple_iterator_next hi.typeIs F.entry_tuple_iterator_next ?_ (F.args_tuple_iterator_next_1 _)));show wpAny (model prog w) A.in1 (field (.ref it) 0 >>= _) _ _ s;refine wpAny_bind (wpAny_field ho hd (x:=.ref a) rfl ?_);show wpAny (model prog w) A.in1 (if (Value.ref a == Value.none)=true then _ else _) _ _ s;rw[if_neg (show ¬((Value.ref a == Value.none)=true) from Bool.false_ne_true)];show wpAny (model prog w) A.in1 (field (.ref it) 1 >>= _) _ _ s;refine wpAny_bind (wpAny_field ho hd (x:=.int i 0) rfl ?_);show wpAny (model prog w) A.in1 (seqItems? (.ref a) >>= _) _ _ s;refine wpAny_bind (wpAny_seqItems hoa hda ?_);simp only [Int.toNat_natCast,hx];refine wpAny_bind (wpAny_setField ho hd (by simp) (wpAny_pure ⟨x,rfl,wpAny_pure (hQ _ ?_ (Heap.SameBut.update ..))⟩));exact⟨_,Heap.get?_update_self _ ho (Obj.isFreed_of_fields (Obj.data_mapFields hd _)),(Obj.cls_mapFields ..).trans hc,by rw[Obj.data_mapFields hd];simp[rawInt]⟩
theorem zrx {b:Bool}{it a:Addr}{i:Nat}{items:Array Value}{Q:Value->Shared->Prop}(hd:A.handled=none) (hi:SIt b s.heap it a i) (ha:SSq b s.heap a items) (hx:items[i]? = none)
    (hE:∀h1 e,Heap.ExtBut it s.heap h1->(∃o,h1.get? e=some o/\o.cls = .type "StopIteration")->E (.ref e) { s with heap:=h1 }):wpAny (model prog w) A (Builtin.SmallTypes.nextOf (.ref it)) Q E s:=by
  cases b with
  | false=>exact wpAny_nextOf_list_end hd (show s.heap.IsListIter it a i from hi) (show s.heap.IsList a items from ha) hx hE
  | true=>
    have hi:s.heap.IsTupleIter it a i:=hi;obtain⟨o,ho,hc,hd'⟩:=id hi;obtain⟨oa,hoa,_,n,hda⟩:=show s.heap.IsTuple a items from ha;unfold Builtin.SmallTypes.nextOf;refine wpAny_bind (wpAny_callSpecial?_slot (name:=Str.ofString "__next__") hi.typeIs F.slot_tuple_iterator_next (wpAny_call_entry F.slot_tuple_iterator_next hi.typeIs F.entry_tuple_iterator_next ?_ (F.args_tuple_iterator_next_1 _)));show wpAny (model prog w) A.in1 (field (.ref it) 0 >>= _) _ _ s;refine wpAny_bind (wpAny_field ho hd' (x:=.ref a) rfl ?_);show wpAny (model prog w) A.in1 (if (Value.ref a == Value.none)=true then _ else _) _ _ s;rw[if_neg (show ¬((Value.ref a == Value.none)=true) from Bool.false_ne_true)];show wpAny (model prog w) A.in1 (field (.ref it) 1 >>= _) _ _ s;refine wpAny_bind (wpAny_field ho hd' (x:=.int i 0) rfl ?_);show wpAny (model prog w) A.in1 (seqItems? (.ref a) >>= _) _ _ s;refine wpAny_bind (wpAny_seqItems hoa hda ?_);simp only [Int.toNat_natCast,hx];refine wpAny_bind (wpAny_rule (wpAny_bind (wpAny_setField ho hd' (by simp) ?_)));show wpAny (model prog w) A.in1 (newExc (.type "StopIteration") [] >>= _) _ _ _;refine wpAny_bind ?_;simp only [newExc,newTuple];refine wpAny_bind (wpAny_newObj_type (wpAny_bind (m:=firstArgMember _ _) (wpAny_of_eq (a:=Value.none) (by first | rfl | (simp only [firstArgMember];rfl)) (wpAny_newObj_type ?_ (by size_fits)))) (by size_fits));simp only [raiseNew];refine wpAny_bind (wpAny_handled ?_);rw[show A.in1.handled=none from hd];exact wpAny_bind (wpAny_pure (wpAny_throw (hE _ _ (((Heap.SameBut.update ..).extBut.push _).push _) ⟨_,Heap.get?_push_size _ rfl,rfl⟩)))
end
structure ZAp (z TI TO i1 i2:Addr):Prop where
  a1:TI≠z
  a2:TO≠z
  a3:i1≠z
  a4:i2≠z
  a5:TI≠TO
  a6:TI≠i1
  a7:TI≠i2
  a8:TO≠i1
  a9:TO≠i2
  b1:i1≠i2
structure ZOff (l z TO i1 i2:Addr):Prop where
  c1:l≠z
  c2:l≠TO
  c3:l≠i1
  c4:l≠i2
section
variable {prog:Program}{w:World}{A:Around}{E:Value->Shared->Prop}{s:Shared}{z TI TO i1 i2 l1 l2:Addr}{k1 k2:Nat}{xs ys:Array Value}{x y a b:Value}{t1 t2:Bool}
theorem zua {Q:Value->Shared->Prop}(D:ZAp z TI TO i1 i2) (O1:ZOff l1 z TO i1 i2) (O2:ZOff l2 z TO i1 i2)
    (hz:IsZip s.heap z TI TO .none) (hI:IsPair s.heap TI (.ref i1) (.ref i2)) (hO:IsPair s.heap TO a b) (h1:SIt t1 s.heap i1 l1 k1) (h2:SIt t2 s.heap i2 l2 k2) (q1:SSq t1 s.heap l1 xs) (q2:SSq t2 s.heap l2 ys) (hx:xs[k1]? = some x) (hy:ys[k2]? = some y)
    (hQ:∀g,IsZip g z TI TO (rawInt s.heap.objs.size)->IsPair g TO x y->SIt t1 g i1 l1 (k1+1)->SIt t2 g i2 l2 (k2+1)->IsPair g s.heap.objs.size x y->
      (∀c o,c≠z->c≠TO->c≠i1->c≠i2->s.heap.get? c=some o->g.get? c=some o)->Q (.ref s.heap.objs.size) { s with heap:=g }) :
    wpAny (model prog w) A (Builtin.«zip.__next__» ⟨[.ref z],[]⟩) (fun fin s'=>∃v,fin = .done (.ret v)/\Q v s') E s:=by
  show wpAny (model prog w) A (field (.ref z) 2 >>= _) _ _ _;refine wpAny_bind (wpAny_field hz rfl (x:=.bool false) rfl ?_);show wpAny (model prog w) A (field (.ref z) 3 >>= _) _ _ _;refine wpAny_bind (wpAny_field hz rfl (x:=.ref TI) rfl (wpAny_bind (wpAny_seqItems hI rfl ?_)));show wpAny (model prog w) A (Builtin.SmallTypes.ownedTupleIsFree (.ref z) >>= _) _ _ _;unfold Builtin.SmallTypes.ownedTupleIsFree;refine wpAny_bind (wpAny_bind (wpAny_field hz rfl (x:=.none) rfl (wpAny_pure ?_)));simp only [if_true];refine wpAny_bind (wpAny_rule (wpAny_bind (wpAny_field hz rfl (x:=.ref TO) rfl (wpAny_bind (wpAny_setField_rec hz (by simp) fun g1 z1 e1=>?_)))));have z1:IsZip g1 z TI TO .ellipsis:=z1;have e1:Heap.SameBut z s.heap g1:=e1;refine wpAny_bind ?_;simp only [List.zipIdx_cons,List.zipIdx_nil,List.forIn_cons,List.forIn_nil];refine wpAny_bind (wpAny_bind (wpAny_onRaise ?_));show wpAny (model prog w) A (Builtin.SmallTypes.nextOf (.ref i1) >>= _) _ _ _;refine wpAny_bind (zkh (h1.at fun o q=>(e1.2 _ D.a3).trans q) (q1.at fun o q=>(e1.2 _ O1.c1).trans q) hx fun g2 j1 e2=>wpAny_pure ?_);have e2:Heap.SameBut i1 g1 g2:=e2;have O2':IsPair g2 TO a b:=(e2.2 _ D.a8).trans ((e1.2 _ D.a2).trans hO);refine wpAny_bind (wpAny_seqItems O2' rfl (wpAny_bind (wpAny_updateSeq_pair O2' fun g3 O3 e3=>wpAny_bind (wpAny_letGo (wpAny_pure ?_)))));have O3:IsPair g3 TO x b:=O3;have e3:Heap.SameBut TO g2 g3:=e3;refine wpAny_bind (wpAny_bind (wpAny_onRaise ?_));show wpAny (model prog w) A (Builtin.SmallTypes.nextOf (.ref i2) >>= _) _ _ _;refine wpAny_bind (zkh (h2.at fun o q=>(e3.2 _ D.a9.symm).trans ((e2.2 _ D.b1.symm).trans ((e1.2 _ D.a4).trans q))) (q2.at fun o q=>(e3.2 _ O2.c2).trans ((e2.2 _ O2.c3).trans ((e1.2 _ O2.c1).trans q))) hy fun g4 j2 e4=>wpAny_pure ?_);have e4:Heap.SameBut i2 g3 g4:=e4;have O4:IsPair g4 TO x b:=(e4.2 _ D.a9).trans O3;refine wpAny_bind (wpAny_seqItems O4 rfl (wpAny_bind (wpAny_updateSeq_pair O4 fun g5 O5 e5=>wpAny_bind (wpAny_letGo (wpAny_pure (wpAny_pure ?_))))));have O5:IsPair g5 TO x y:=O5;have e5:Heap.SameBut TO g4 g5:=e5;refine wpAny_bind (wpAny_seqItems O5 rfl (wpAny_bind (wpAny_newTuple ?_)));have sz:g5.objs.size=s.heap.objs.size:=by rw[e5.1,e4.1,e3.1,e2.1,e1.1]
  have z5:IsZip g5 z TI TO .ellipsis:=(e5.2 _ D.a2.symm).trans ((e4.2 _ D.a4.symm).trans ((e3.2 _ D.a2.symm).trans ((e2.2 _ D.a3.symm).trans z1)));have k5:∀c o,c≠z->c≠TO->c≠i1->c≠i2->s.heap.get? c=some o->g5.get? c=some o:=fun c o c1 c2 c3 c4 q=>(e5.2 _ c2).trans ((e4.2 _ c4).trans ((e3.2 _ c2).trans ((e2.2 _ c3).trans ((e1.2 _ c1).trans q))))
  have j1':SIt t1 g5 i1 l1 (k1+1):=j1.at fun o q=>(e5.2 _ D.a8.symm).trans ((e4.2 _ D.b1).trans ((e3.2 _ D.a8.symm).trans q))
  have j2':SIt t2 g5 i2 l2 (k2+1):=j2.at fun o q=>(e5.2 _ D.a9.symm).trans q
  have zl:z<g5.objs.size:=Heap.lt_size z5;show wpAny (model prog w) A (Builtin.SmallTypes.ownedTupleHandOut (.ref z) (.ref g5.objs.size) >>= _) _ _ _;unfold Builtin.SmallTypes.ownedTupleHandOut;have z6:IsZip (g5.push { cls:=.type "tuple",data:=.seq #[x,y] }) z TI TO .ellipsis:=Heap.get?_push_of_some _ z5;refine wpAny_bind (wpAny_bind (wpAny_setField_rec z6 (by simp) fun g7 z7 e7=>?_));have z7:IsZip g7 z TI TO (rawInt g5.objs.size):=z7;refine wpAny_setField_rec z7 (by simp) fun g8 z8 e8=>?_
  have z8:IsZip g8 z TI TO (rawInt g5.objs.size):=z8;have up:∀c o,c≠z->g5.get? c=some o->g8.get? c=some o:=fun c o c1 q=>(e8.2 c c1).trans ((e7.2 c c1).trans (Heap.get?_push_of_some _ q))
  have T8:IsPair g8 g5.objs.size x y:=(e8.2 _ (Nat.ne_of_gt zl)).trans ((e7.2 _ (Nat.ne_of_gt zl)).trans (Heap.get?_push_size _ rfl));rw[sz] at z8 T8;refine wpAny_pure ⟨_,rfl,?_⟩;show Q (.ref g5.objs.size) _;rw[sz];exact hQ g8 z8 (up _ _ D.a2 O5) (j1'.at fun o q=>up _ o D.a3 q) (j2'.at fun o q=>up _ o D.a4 q) T8 fun c o c1 c2 c3 c4 q=>up c o c1 (k5 c o c1 c2 c3 c4 q)
theorem zub {Q:Fin->Shared->Prop}(hd:A.handled=none) (D:ZAp z TI TO i1 i2) (O1:ZOff l1 z TO i1 i2) (O2:ZOff l2 z TO i1 i2)
    (hz:IsZip s.heap z TI TO .none) (hI:IsPair s.heap TI (.ref i1) (.ref i2)) (hO:IsPair s.heap TO a b) (h1:SIt t1 s.heap i1 l1 k1) (h2:SIt t2 s.heap i2 l2 k2) (q1:SSq t1 s.heap l1 xs) (q2:SSq t2 s.heap l2 ys) (hend:xs[k1]? = none\/ys[k2]? = none)
    (hE:∀g e,(∀c o,c≠z->c≠TO->c≠i1->c≠i2->s.heap.get? c=some o->g.get? c=some o)->(∃o,g.get? e=some o/\o.cls = .type "StopIteration")->E (.ref e) { s with heap:=g }) :
    wpAny (model prog w) A (Builtin.«zip.__next__» ⟨[.ref z],[]⟩) Q E s:=by
  show wpAny (model prog w) A (field (.ref z) 2 >>= _) _ _ _;refine wpAny_bind (wpAny_field hz rfl (x:=.bool false) rfl ?_);show wpAny (model prog w) A (field (.ref z) 3 >>= _) _ _ _;refine wpAny_bind (wpAny_field hz rfl (x:=.ref TI) rfl (wpAny_bind (wpAny_seqItems hI rfl ?_)));show wpAny (model prog w) A (Builtin.SmallTypes.ownedTupleIsFree (.ref z) >>= _) _ _ _;unfold Builtin.SmallTypes.ownedTupleIsFree;refine wpAny_bind (wpAny_bind (wpAny_field hz rfl (x:=.none) rfl (wpAny_pure ?_)));simp only [if_true];refine wpAny_bind (wpAny_rule (wpAny_bind (wpAny_field hz rfl (x:=.ref TO) rfl (wpAny_bind (wpAny_setField_rec hz (by simp) fun g1 z1 e1=>?_)))));have z1:IsZip g1 z TI TO .ellipsis:=z1;have e1:Heap.SameBut z s.heap g1:=e1;refine wpAny_bind ?_;simp only [List.zipIdx_cons,List.zipIdx_nil,List.forIn_cons,List.forIn_nil];refine wpAny_bind (wpAny_bind (wpAny_onRaise ?_));show wpAny (model prog w) A (Builtin.SmallTypes.nextOf (.ref i1) >>= _) _ _ _;cases hx:xs[k1]? with
  | none=>
    refine wpAny_bind (zrx hd (h1.at fun o q=>(e1.2 _ D.a3).trans q) (q1.at fun o q=>(e1.2 _ O1.c1).trans q) hx fun g2 e e2 he=>?_);obtain⟨oe,hoe,ce⟩:=he;have z2:IsZip g2 z TI TO .ellipsis:=e2 _ _ D.a3.symm z1;have nz:e≠z:=by
      rintro rfl;rw[z2] at hoe;cases hoe;injection ce with ce
      exact absurd ce (by decide)
    exact wpAny_setField_rec z2 (by simp) fun g3 _ e3=>hE g3 e (fun c o c1 _ c3 _ q=>(e3.2 c c1).trans (e2 c o c3 ((e1.2 c c1).trans q))) ⟨oe,(e3.2 e nz).trans hoe,ce⟩
  | some x=>
    have hy:ys[k2]? = none:=by
      rcases hend with h | h
      · rw[hx] at h;cases h
      · exact h
    refine wpAny_bind (zkh (h1.at fun o q=>(e1.2 _ D.a3).trans q) (q1.at fun o q=>(e1.2 _ O1.c1).trans q) hx fun g2 j1 e2=>wpAny_pure ?_);have e2:Heap.SameBut i1 g1 g2:=e2;have O2':IsPair g2 TO a b:=(e2.2 _ D.a8).trans ((e1.2 _ D.a2).trans hO);refine wpAny_bind (wpAny_seqItems O2' rfl (wpAny_bind (wpAny_updateSeq_pair O2' fun g3 O3 e3=>wpAny_bind (wpAny_letGo (wpAny_pure ?_)))));have e3:Heap.SameBut TO g2 g3:=e3;refine wpAny_bind (wpAny_bind (wpAny_onRaise ?_));show wpAny (model prog w) A (Builtin.SmallTypes.nextOf (.ref i2) >>= _) _ _ _;refine wpAny_bind (zrx hd (h2.at fun o q=>(e3.2 _ D.a9.symm).trans ((e2.2 _ D.b1.symm).trans ((e1.2 _ D.a4).trans q))) (q2.at fun o q=>(e3.2 _ O2.c2).trans ((e2.2 _ O2.c3).trans ((e1.2 _ O2.c1).trans q))) hy fun g4 e e4 he=>?_);obtain⟨oe,hoe,ce⟩:=he;have z4:IsZip g4 z TI TO .ellipsis:=e4 _ _ D.a4.symm ((e3.2 _ D.a2.symm).trans ((e2.2 _ D.a3.symm).trans z1));have nz:e≠z:=by
      rintro rfl;rw[z4] at hoe;cases hoe;injection ce with ce
      exact absurd ce (by decide)
    exact wpAny_setField_rec z4 (by simp) fun g5 _ e5=>hE g5 e (fun c o c1 c2 c3 c4 q=>(e5.2 c c1).trans (e4 c o c4 ((e3.2 c c2).trans ((e2.2 c c3).trans ((e1.2 c c1).trans q))))) ⟨oe,(e5.2 e nz).trans hoe,ce⟩
end
section
variable {prog:Program}{w:World}{A:Around}{E:Value->Shared->Prop}{s:Shared}{z TI TO i1 i2 l1 l2:Addr}{k1 k2:Nat}{xs ys:Array Value}{x y a b:Value}{t1 t2:Bool}
theorem zuc {Q:Option Value->Shared->Prop}(D:ZAp z TI TO i1 i2) (O1:ZOff l1 z TO i1 i2) (O2:ZOff l2 z TO i1 i2)
    (hz:IsZip s.heap z TI TO .none) (hI:IsPair s.heap TI (.ref i1) (.ref i2)) (hO:IsPair s.heap TO a b) (h1:SIt t1 s.heap i1 l1 k1) (h2:SIt t2 s.heap i2 l2 k2) (q1:SSq t1 s.heap l1 xs) (q2:SSq t2 s.heap l2 ys) (hx:xs[k1]? = some x) (hy:ys[k2]? = some y)
    (hQ:∀g,IsZip g z TI TO (rawInt s.heap.objs.size)->IsPair g TO x y->SIt t1 g i1 l1 (k1+1)->SIt t2 g i2 l2 (k2+1)->IsPair g s.heap.objs.size x y->
      (∀c o,c≠z->c≠TO->c≠i1->c≠i2->s.heap.get? c=some o->g.get? c=some o)->Q (some (.ref s.heap.objs.size)) { s with heap:=g }):wpAny (model prog w) A (pyNext (.ref z)) Q E s:=by
  have T:s.TypeIs (.ref z) "zip":=⟨_,hz,rfl⟩;unfold pyNext;exact wpAny_bind (wpAny_attempt (wpAny_callSpecial?_slot (name:=Str.ofString "__next__") T F.slot_zip_next (wpAny_call_entry F.slot_zip_next T F.entry_zip_next (zua D O1 O2 hz hI hO h1 h2 q1 q2 hx hy fun g r1 r2 r3 r4 r5 r6=>wpAny_pure (hQ g r1 r2 r3 r4 r5 r6)) (F.args_zip_next_1 _))))
theorem zwq {Q:Option Value->Shared->Prop}(hd:A.handled=none) (D:ZAp z TI TO i1 i2) (O1:ZOff l1 z TO i1 i2) (O2:ZOff l2 z TO i1 i2)
    (hz:IsZip s.heap z TI TO .none) (hI:IsPair s.heap TI (.ref i1) (.ref i2)) (hO:IsPair s.heap TO a b) (h1:SIt t1 s.heap i1 l1 k1) (h2:SIt t2 s.heap i2 l2 k2) (q1:SSq t1 s.heap l1 xs) (q2:SSq t2 s.heap l2 ys) (hend:xs[k1]? = none\/ys[k2]? = none)
    (hQ:∀g,(∀c o,c≠z->c≠TO->c≠i1->c≠i2->s.heap.get? c=some o->g.get? c=some o)->Q none { s with heap:=g }):wpAny (model prog w) A (pyNext (.ref z)) Q E s:=by
  have T:s.TypeIs (.ref z) "zip":=⟨_,hz,rfl⟩;unfold pyNext;refine wpAny_bind (wpAny_attempt (wpAny_callSpecial?_slot (name:=Str.ofString "__next__") T F.slot_zip_next (wpAny_call_entry F.slot_zip_next T F.entry_zip_next (zub hd D O1 O2 hz hI hO h1 h2 q1 q2 hend fun g e hk he=>?_) (F.args_zip_next_1 _))));obtain⟨o,ho,c⟩:=he;exact wpAny_bind (wpAny_isInstance (T:="StopIteration") (b:=true) ⟨o,ho,c⟩ isSubtype_stop (wpAny_pure (hQ _ hk)))
theorem zfv {b:Bool}{l:Addr}{items:Array Value}{Q:Value->Shared->Prop}(h:SSq b s.heap l items) (q:Q (.ref s.heap.objs.size) { s with heap:=s.heap.push { cls:=.type (zkg b),data:=.fields #[.ref l,.int 0 0] } }):wpAny (model prog w) A (pyIter (.ref l)) Q E s:=by
  cases b with
  | true=>exact wpAny_pyIter_tuple (show s.heap.IsTuple l items from h) q
  | false=>exact wpAny_pyIter_list (show s.heap.IsList l items from h) q
end
def SqV (K:PySem.W.Frag) (b:Bool) (H:Hp) (a:Addr) (xs:List V):Prop:=if b=true then SqT K H a xs else SqL K H a xs
section
variable {X:Cx}{pins:List (Addr×Obj)}{σ:St}{H:Hp}{s:Shared}{a:Addr}{xs ys:List V}
theorem Inv.sq {b:Bool}(I:Inv X pins σ H s) (h:SqV X.K b H a xs):∃its:List Value,Vals xs its/\SSq b s.heap a its.toArray:=by
  cases b with
  | true=>
    obtain⟨its,r,p,_⟩:=I.tuple (show SqT X.K H a xs from h);exact⟨its,r,p⟩
  | false=>
    obtain⟨its,r,p,_⟩:=I.list (show SqL X.K H a xs from h);exact⟨its,r,p.isList⟩
theorem Inv.sq_inj {b:Bool}(I:Inv X pins σ H s) (h:SqV X.K b H a xs) (h':SqV X.K b H a ys):xs=ys:=by
  cases b with
  | true=>exact I.tuple_inj (show SqT X.K H a xs from h) h'
  | false=>exact I.list_inj (show SqL X.K H a xs from h) h'
theorem Inv.off {b:Bool}{c:Addr}(I:Inv X pins σ H s) (h:SqV X.K b H a xs) (f:FpOk X pins H c):a≠c:=by
  have rd:∀u,Rd H a u->a≠c:=fun u q=>by
    rcases q with q | ⟨o,q⟩
    · exact zr q f.1
    · exact zr q f.1
  have kk:∀o,X.K.lookup a=some o->a≠c:=fun o q=>by
    have e:=I.ok.mod.kin a o q;rintro rfl;rcases f.2.2.2.1 with z | z
    · exact I.ok.noex a o e z
    · exact absurd (Nat.lt_of_lt_of_le (Nat.lt_of_lt_of_le (Heap.lt_size e) I.ok.bsz) z) (Nat.lt_irrefl _)
  cases b with
  | true=>
    rcases show SqT X.K H a xs from h with q | ⟨o,_,_,q,_⟩
    · exact rd _ q
    · exact kk o q
  | false=>
    rcases show SqL X.K H a xs from h with q | ⟨o,_,_,q,_⟩
    · exact rd _ q
    · exact kk o q
end
def Itz (K:PySem.W.Frag) (b1 b2:Bool) (l1 l2:Addr):It:=
  ⟨fun i H=>∃xs ys x y,SqV K b1 H l1 xs/\SqV K b2 H l2 ys/\xs[i]? = some x/\ys[i]? = some y,
   fun i H v H'=>∃T x y,H T=none/\v = .ref T/\H'=upd H T (.tup [x,y])/\∀xs ys,SqV K b1 H l1 xs->SqV K b2 H l2 ys->xs[i]? = some x/\ys[i]? = some y,
   fun i H=>∃xs ys,SqV K b1 H l1 xs/\SqV K b2 H l2 ys/\(xs.length<=i\/ys.length<=i)⟩
theorem zud {P:Program}{w:World}{K:PySem.W.Frag}{elts:List Expr}{ct:Nat}{pos:Pos}{b1 b2:Bool}{l1 l2 z TI TO i1 i2:Addr}(D:ZAp z TI TO i1 i2) :
    Turn P w K (.Tuple elts ct pos) (Itz K b1 b2 l1 l2) [z,TI,TO,i1,i2] z (fun i h=>IsZip h z TI TO .none/\IsPair h TI (.ref i1) (.ref i2)/\(∃a b,IsPair h TO a b)/\SIt b1 h i1 l1 i/\SIt b2 h i2 l2 i) where
  mem:=by simp
  obj:=fun i h q b hb=>by
    obtain⟨hz,hI,⟨a,c,hO⟩,h1,h2⟩:=q;obtain⟨o1,g1,_,d1⟩:=h1.obj;obtain⟨o2,g2,_,d2⟩:=h2.obj;simp only [List.mem_cons,List.not_mem_nil,or_false] at hb;rcases hb with rfl | rfl | rfl | rfl | rfl
    · exact⟨_,hz,fun v z=>by cases z⟩
    · exact⟨_,hI,fun v z=>by cases z⟩
    · exact⟨_,hO,fun v z=>by cases z⟩
    · exact⟨_,g1,fun v z=>by rw[d1] at z;cases z⟩
    · exact⟨_,g2,fun v z=>by rw[d2] at z;cases z⟩
  keep:=fun i h h' q k=>by
    obtain⟨hz,hI,⟨a,c,hO⟩,h1,h2⟩:=q;exact⟨k z (by simp) _ hz,k TI (by simp) _ hI,⟨a,c,k TO (by simp) _ hO⟩,h1.at fun o x=>k i1 (by simp) o x,h2.at fun o x=>k i2 (by simp) o x⟩
  item:=by
    intro X hP hw hK hc i pins s σ H E I hf q hg;subst hP hw hK;obtain⟨xs,ys,x,y,s1,s2,hx,hy⟩:=hg;obtain⟨hz,hI,⟨a,c,hO⟩,h1,h2⟩:=q;obtain⟨it1,r1,g1⟩:=I.sq s1;obtain⟨it2,r2,g2⟩:=I.sq s2;obtain⟨u,hu,ru⟩:=r1.get hx;obtain⟨v,hv,rv⟩:=r2.get hy;have off1:ZOff l1 z TO i1 i2:=⟨I.off s1 (hf z (by simp)),I.off s1 (hf TO (by simp)),I.off s1 (hf i1 (by simp)),I.off s1 (hf i2 (by simp))⟩;have off2:ZOff l2 z TO i1 i2:=⟨I.off s2 (hf z (by simp)),I.off s2 (hf TO (by simp)),I.off s2 (hf i1 (by simp)),I.off s2 (hf i2 (by simp))⟩;have lt:∀b o,s.heap.get? b=some o->b≠s.heap.objs.size:=fun b o e=>Nat.ne_of_lt (Heap.lt_size e)
    refine zuc D off1 off2 hz hI hO h1 h2 g1 g2 (x:=u) (y:=v) (by simpa using hu) (by simpa using hv) fun g z' O' j1 j2 T' kk=>⟨_,rfl,?_⟩
    have fn:∀b∈[z,TI,TO,i1,i2],upd H s.heap.objs.size (.tup [x,y]) b=none:=fun b hb=>by
      have hb':b≠s.heap.objs.size:=by
        obtain⟨o1,e1,_⟩:=h1.obj;obtain⟨o2,e2,_⟩:=h2.obj;simp only [List.mem_cons,List.not_mem_nil,or_false] at hb;rcases hb with rfl | rfl | rfl | rfl | rfl
        · exact lt _ _ hz
        · exact lt _ _ hI
        · exact lt _ _ hO
        · exact lt _ _ e1
        · exact lt _ _ e2
      rw[zv hb'];exact (hf b hb).1
    have I1:Inv X pins σ (upd H s.heap.objs.size (.tup [x,y])) { s with heap:=g,toks:=s.toks }:=
      I.turnedNew (ch:=[z,TO,i1,i2]) (o:=.tup [x,y]) (fun b o hb q=>kk b o (fun e=>hb (by simp[e])) (fun e=>hb (by simp[e])) (fun e=>hb (by simp[e])) (fun e=>hb (by simp[e])) q)
        (fun b hb=>hf b (by simp only [List.mem_cons,List.not_mem_nil,or_false] at hb ⊢;rcases hb with h | h | h | h<;>simp[h])) (Nat.le_refl _) ⟨(by show 2<=sizeLine;decide),[u,v],.cons ru (.cons rv .nil),_,T',rfl,_,rfl⟩
    refine wpAny_letOwnedTupleGo_zip z' fun g2 z2 e2=>?_
    have I2:=I1.turnedL (t':=s.toks) (h':=g2) (ch:=[z]) (fun b o hb q=>(e2.2 b (fun e=>hb (by simp[e]))).trans q) (fun b hb=>by
      rw[List.mem_singleton] at hb;subst hb;exact⟨fn _ (by simp),(hf _ (by simp)).2⟩)
    have hI2:IsPair g TI (.ref i1) (.ref i2):=kk TI _ D.a1 D.a5 D.a6 D.a7 hI;exact⟨.ref s.heap.objs.size,_,I2,rfl,⟨_,x,y,I.hok.fresh (Nat.le_refl _),rfl,rfl,fun xs' ys' p1 p2=>⟨by rw[I.sq_inj p1 s1];exact hx,by rw[I.sq_inj p2 s2];exact hy⟩⟩,
      ⟨z2,(e2.2 _ D.a1).trans hI2,⟨_,_,(e2.2 _ D.a2).trans O'⟩,j1.at fun o q=>(e2.2 _ D.a3).trans q,j2.at fun o q=>(e2.2 _ D.a4).trans q⟩,fn⟩
  done:=by
    intro X hP hw hK hc i pins s σ H E I hf q hg;subst hP hw hK;obtain⟨xs,ys,s1,s2,hend⟩:=hg;obtain⟨hz,hI,⟨a,c,hO⟩,h1,h2⟩:=q;obtain⟨it1,r1,g1⟩:=I.sq s1;obtain⟨it2,r2,g2⟩:=I.sq s2;have l1':=r1.length;have l2':=r2.length;have off1:ZOff l1 z TO i1 i2:=⟨I.off s1 (hf z (by simp)),I.off s1 (hf TO (by simp)),I.off s1 (hf i1 (by simp)),I.off s1 (hf i2 (by simp))⟩;have off2:ZOff l2 z TO i1 i2:=⟨I.off s2 (hf z (by simp)),I.off s2 (hf TO (by simp)),I.off s2 (hf i1 (by simp)),I.off s2 (hf i2 (by simp))⟩;refine zwq (I.ok.hd hc) D off1 off2 hz hI hO h1 h2 g1 g2 ?_ fun g kk=>⟨rfl,I.turnedL (t':=s.toks) (ch:=[z,TO,i1,i2]) (fun b o hb q=>kk b o (fun e=>hb (by simp[e])) (fun e=>hb (by simp[e])) (fun e=>hb (by simp[e])) (fun e=>hb (by simp[e])) q)
        (fun b hb=>hf b (by simp only [List.mem_cons,List.not_mem_nil,or_false] at hb ⊢;rcases hb with h | h | h | h<;>simp[h]))⟩
    rcases hend with h | h
    · exact .inl (by simp;omega)
    · exact .inr (by simp;omega)
  self:=fun _ _ _ _ _ q h=>wpAny_pyIter_zip q.1 h
open Sem (wp)
def ze8 (b:Bool) (l:Addr):Obj:={ cls:=.type (zkg b),data:=.fields #[.ref l,.int 0 0] }
def zp1 (h:Heap) (b1:Bool) (l1:Addr):Heap:=h.push (ze8 b1 l1)
def zp2 (h:Heap) (b1 b2:Bool) (l1 l2:Addr):Heap:=(zp1 h b1 l1).push (ze8 b2 l2)
def zp3 (h:Heap) (b1 b2:Bool) (l1 l2:Addr):Heap:=(zp2 h b1 b2 l1 l2).push { cls:=.type "tuple",data:=.seq #[.ref h.objs.size,.ref (zp1 h b1 l1).objs.size] }
def zp4 (h:Heap) (b1 b2:Bool) (l1 l2:Addr):Heap:=(zp3 h b1 b2 l1 l2).push { cls:=.type "tuple",data:=.seq #[.none,.none] }
def zp5 (h:Heap) (b1 b2:Bool) (l1 l2:Addr):Heap:=(zp4 h b1 b2 l1 l2).push { cls:=.type "zip",data:=.fields #[.none,.bool false,.bool false,.ref (zp2 h b1 b2 l1 l2).objs.size,.ref (zp3 h b1 b2 l1 l2).objs.size] }
theorem SSq.push {b:Bool}{h:Heap}{a:Addr}{items:Array Value}(q:SSq b h a items) (o:Obj):SSq b (h.push o) a items:=q.at fun _ e=>Heap.get?_push_of_some _ e
theorem zpr (b1 b2:Bool) (l1 l2:Addr) (xs ys:Array Value) :
    Meets (Builtin.«zip.__new__» ⟨[.type "zip",.ref l1,.ref l2],[]⟩) (fun _ R s=>SSq b1 s.heap l1 xs/\SSq b2 s.heap l2 ys/\R (.ok (.ret (.ref (zp4 s.heap b1 b2 l1 l2).objs.size))) { s with heap:=zp5 s.heap b1 b2 l1 l2 }):=
  .of_wp fun prog w A R s h=>by
    obtain⟨hp,g,d,tk,os⟩:=s;obtain⟨q1,q2,h⟩:=h;have sub:=sub_zip;have a1:SSq b1 (Shared.heap ⟨hp,g,d,tk,os⟩) l1 xs:=q1;have a2:SSq b2 (Shared.heap ⟨hp.push { cls:=.type (zkg b1),data:=.fields #[.ref l1,.int 0 0] },g,d,tk,os⟩) l2 ys:=q2.push _
    wp_walk using zfv a1,zfv a2
    exact⟨_,rfl,h⟩
section
variable {prog:Program}{w:World}{A:Around}{E:Value->Shared->Prop}{s:Shared}
theorem zue {b1 b2:Bool}{l1 l2:Addr}{xs ys:Array Value}{Q:Value->Shared->Prop}(q1:SSq b1 s.heap l1 xs) (q2:SSq b2 s.heap l2 ys)
    (h:∀g,IsZip g (s.heap.objs.size+4) (s.heap.objs.size+2) (s.heap.objs.size+3) .none->IsPair g (s.heap.objs.size+2) (.ref s.heap.objs.size) (.ref (s.heap.objs.size+1))->IsPair g (s.heap.objs.size+3) .none .none->
      SIt b1 g s.heap.objs.size l1 0->SIt b2 g (s.heap.objs.size+1) l2 0->(∀c o,s.heap.get? c=some o->g.get? c=some o)->Q (.ref (s.heap.objs.size+4)) { s with heap:=g }) :
    wpAny (model prog w) A (call (.type "zip") [.ref l1,.ref l2]) Q E s:=by
  refine callType_new F.called_zip (by decide) (F.typeCall_zip_2 _ _) (F.newCall_zip_2 _ _) (fun obj=>F.args_object_init_3 obj _ _) F.entry_zip_new (zpr b1 b2 l1 l2 xs ys) ⟨q1,q2,?_⟩;have n1:(zp1 s.heap b1 l1).objs.size=s.heap.objs.size+1:=Heap.size_push ..;have n2:(zp2 s.heap b1 b2 l1 l2).objs.size=s.heap.objs.size+2:=by unfold zp2;rw[Heap.size_push,n1]
  have n3:(zp3 s.heap b1 b2 l1 l2).objs.size=s.heap.objs.size+3:=by unfold zp3;rw[Heap.size_push,n2]
  have n4:(zp4 s.heap b1 b2 l1 l2).objs.size=s.heap.objs.size+4:=by unfold zp4;rw[Heap.size_push,n3]
  have up4:∀c o,(zp4 s.heap b1 b2 l1 l2).get? c=some o->(zp5 s.heap b1 b2 l1 l2).get? c=some o:=fun c o e=>Heap.get?_push_of_some _ e
  have up3:∀c o,(zp3 s.heap b1 b2 l1 l2).get? c=some o->(zp5 s.heap b1 b2 l1 l2).get? c=some o:=fun c o e=>up4 c o (Heap.get?_push_of_some _ e)
  have up2:∀c o,(zp2 s.heap b1 b2 l1 l2).get? c=some o->(zp5 s.heap b1 b2 l1 l2).get? c=some o:=fun c o e=>up3 c o (Heap.get?_push_of_some _ e)
  have up1:∀c o,(zp1 s.heap b1 l1).get? c=some o->(zp5 s.heap b1 b2 l1 l2).get? c=some o:=fun c o e=>up2 c o (Heap.get?_push_of_some _ e)
  have g5:IsZip (zp5 s.heap b1 b2 l1 l2) (s.heap.objs.size+4) (s.heap.objs.size+2) (s.heap.objs.size+3) .none:=by
    have:=Heap.get?_push_size (zp4 s.heap b1 b2 l1 l2) (o:={ cls:=.type "zip",data:=.fields #[.none,.bool false,.bool false,.ref (zp2 s.heap b1 b2 l1 l2).objs.size,.ref (zp3 s.heap b1 b2 l1 l2).objs.size] }) rfl;rw[n4,n2,n3] at this;unfold zp5;rw[n2,n3];exact this
  have g4:IsPair (zp5 s.heap b1 b2 l1 l2) (s.heap.objs.size+3) .none .none:=by
    have:=up4 _ _ (Heap.get?_push_size (zp3 s.heap b1 b2 l1 l2) (o:={ cls:=.type "tuple",data:=.seq #[.none,.none] }) rfl)
    rwa [n3] at this
  have g3:IsPair (zp5 s.heap b1 b2 l1 l2) (s.heap.objs.size+2) (.ref s.heap.objs.size) (.ref (s.heap.objs.size+1)):=by
    have:=up3 _ _ (Heap.get?_push_size (zp2 s.heap b1 b2 l1 l2) (o:={ cls:=.type "tuple",data:=.seq #[.ref s.heap.objs.size,.ref (zp1 s.heap b1 l1).objs.size] }) rfl)
    rwa [n2,n1] at this
  have g2:=up2 _ _ (Heap.get?_push_size (zp1 s.heap b1 l1) (o:=ze8 b2 l2) rfl);rw[n1] at g2;have g1:=up1 _ _ (Heap.get?_push_size s.heap (o:=ze8 b1 l1) rfl);have mk:∀(b:Bool) (l i:Addr),(zp5 s.heap b1 b2 l1 l2).get? i=some (ze8 b l)->SIt b (zp5 s.heap b1 b2 l1 l2) i l 0:=fun b l i e=>by
    cases b with
    | true=>exact⟨_,e,rfl,rfl⟩
    | false=>exact⟨_,e,rfl,rfl⟩
  show _/\_;rw[n4];exact⟨⟨_,g5,rfl⟩,h _ g5 g3 g4 (mk _ _ _ g1) (mk _ _ _ g2) fun c o e=>up1 c o (Heap.get?_push_of_some _ e)⟩
end
theorem zyn (n:Nat):ZAp (n+4) (n+2) (n+3) n (n+1):=
  ⟨fun h=>absurd (show (n+2:Nat)=n+4 from h) (by omega),fun h=>absurd (show (n+3:Nat)=n+4 from h) (by omega),fun h=>absurd (show (n:Nat)=n+4 from h) (by omega),fun h=>absurd (show (n+1:Nat)=n+4 from h) (by omega),fun h=>absurd (show (n+2:Nat)=n+3 from h) (by omega),
   fun h=>absurd (show (n+2:Nat)=n from h) (by omega),fun h=>absurd (show (n+2:Nat)=n+1 from h) (by omega),fun h=>absurd (show (n+3:Nat)=n from h) (by omega),fun h=>absurd (show (n+3:Nat)=n+1 from h) (by omega),fun h=>absurd (show (n:Nat)=n+1 from h) (by omega)⟩
def iZip (K:PySem.W.Frag) (b1 b2:Bool) (ta:TA):TI:=fun σ H R=>ta σ H fun vs H1=>∃l1 l2 xs ys,vs = [.ref l1,.ref l2]/\SqV K b1 H1 l1 xs/\SqV K b2 H1 l2 ys/\R (Itz K b1 b2 l1 l2) H1
section
variable {X:Cx}
theorem zyo {elts:List Expr}{ct:Nat}{tpos:Pos}{e1 e2:Expr}{ta:TA}{p pos:Pos}(b1 b2:Bool) (hg:Gl X "zip") (hm:X.mg "zip" = none) (ha:PA X [e1,e2] ta) (hs:starEach [e1,e2] X.env = [(false,eval e1 X.env),(false,eval e2 X.env)]:=by rfl) (hs2:starEach [e2] X.env = [(false,eval e2 X.env)]:=by rfl) :
    PI X (.Tuple elts ct tpos) (.Call (.Name "zip" p) [e1,e2] [] pos) (iZip X.K b1 b2 ta):=by
  intro pins s σ H R I h;refine Call_ (zi7 I hg hm boot_zip (PyProof.Rows.callWith_type1 (thn (ha pos pins s σ H _ I h) fun us s1 hq0=>?_) (by rw[hs,hs2]) (by rw[hs2];rfl)));obtain⟨vs,H1,I1,r1,q1⟩:=hq0;obtain⟨l1,l2,xs,ys,rfl,s1',s2',q⟩:=q1;obtain⟨u1,u2,rfl,ru1,ru2⟩:=zx4 r1;cases ru1;cases ru2;obtain⟨it1,r1',g1⟩:=I1.sq s1';obtain⟨it2,r2',g2⟩:=I1.sq s2';refine zue g1 g2 fun g z I' O' j1 j2 kk=>wpAny_pyIter_zip z ?_
  have f:∀k,FpOk X pins H1 (s1.heap.objs.size+k):=fun k=>I1.fpOk (Nat.le_add_right _ _) (I1.hok.fresh (Nat.le_add_right _ _))
  refine⟨s1.heap.objs.size+4,[s1.heap.objs.size+4,s1.heap.objs.size+2,s1.heap.objs.size+3,s1.heap.objs.size,s1.heap.objs.size+1],_,_,H1,rfl,I1.kept (t':=s1.toks) kk,zud (zyn _),⟨z,I',⟨_,_,O'⟩,j1,j2⟩,fun b hb=>?_,q⟩;simp only [List.mem_cons,List.not_mem_nil,or_false] at hb;rcases hb with rfl | rfl | rfl | rfl | rfl
  · exact f 4
  · exact f 2
  · exact f 3
  · exact f 0
  · exact f 1
end
def znc (it:Addr) (n:Int):Obj:={ cls:=.type "enumerate",data:=.fields #[.none,.bool false,.ref it,rawInt n,.none,.none] }
theorem zhg (a b:Value):checkTypeCall "enumerate" ⟨[a],[("start",b)]⟩=pure ():=by kernel_rfl
theorem zh1 (a b:Value):checkBuiltinCall "enumerate.__new__" ⟨[.type "enumerate",a],[("start",b)]⟩=pure ():=by kernel_rfl
theorem zps (b:Bool) (l:Addr) (xs:Array Value) (n:Int) (t:Tok) (hn:Builtin.SmallTypes.fitsIndex n=true) :
    Meets (Builtin.«enumerate.__new__» ⟨[.type "enumerate",.ref l],[("start",.int n t)]⟩) (fun _ R s=>SSq b s.heap l xs/\R (.ok (.ret (.ref (s.heap.push (ze8 b l)).objs.size))) { s with heap:=(s.heap.push (ze8 b l)).push (znc s.heap.objs.size n) }):=
  .of_wp fun prog w A R s h=>by
    obtain⟨hp,g,d,tk,os⟩:=s;obtain⟨q1,h⟩:=h;have sub:=sub_enumerate;have a1:SSq b (Shared.heap ⟨hp,g,d,tk,os⟩) l xs:=q1
    wp_walk using zfv a1
    refine wpAny_stack_any (fun stk=>wpAny_pure ?_);split
    · rename_i c _ _ _ _ _;generalize (c == Value.type "enumerate")=short;cases short
      all_goals
        wp_walk using zfv a1
        exact⟨_,rfl,h⟩
    · wp_walk using zfv a1
      exact⟨_,rfl,h⟩
theorem znd (a b c:Value):argsOk "object.__init__" ⟨[a,b],[("start",c)]⟩:=by
  unfold argsOk;rw[signature?_of (id:="object.__init__") (n:="__tini__".toList) (o:="tcejbo".toList) (by kernel_rfl) F.owner_object]
  kernel_rfl
theorem zpt {self a b:Value}{k:Str}:Meets (Builtin.«object.__init__» ⟨[self,a],[(k,b)]⟩) (fun _ R s=>s.TypeIs self "enumerate"/\R (.ok (.ret .none)) s):=by
  refine Meets.of_wp fun prog w A R s hs=>?_
  obtain⟨hT,hq⟩:=hs;have hl:typeLookup (.type "enumerate") "__init__" = pure (some (.builtin "object.__init__")):=F.called_enumerate.init.lookup;have hm:=F.called_enumerate.made;have hne:(some "enumerate.__new__" != some "object.__new__")=true:=by decide
  repeat (any_goals first | wp_step | assumption)
  exact⟨_,rfl,hq⟩
section
variable {prog:Program}{w:World}{A:Around}{E:Value->Shared->Prop}{s:Shared}
theorem zry {b:Bool}{l:Addr}{xs:Array Value}{n:Int}{t:Tok}{Q:Value->Shared->Prop}(hn:Builtin.SmallTypes.fitsIndex n=true) (q1:SSq b s.heap l xs)
    (h:∀g,IsEnum g (s.heap.objs.size+1) s.heap.objs.size n .none->SIt b g s.heap.objs.size l 0->(∀c o,s.heap.get? c=some o->g.get? c=some o)->Q (.ref (s.heap.objs.size+1)) { s with heap:=g }) :
    wpAny (model prog w) A (call (.type "enumerate") [.ref l] [("start",.int n t)]) Q E s:=by
  have ft:=F.called_enumerate;obtain⟨c,tl,hmro⟩:=ft.mro;have hmade:=ft.made;have hsub:=ft.sub;have hct:=zhg (.ref l) (.int n t);refine wpAny_call (codeAny_of_tree ?_);show wpAny (model prog w) _ (callAny (.type "enumerate") _) _ _ _;refine wpAny_pure ⟨Code.quiet_builtin _ (by decide +kernel),codeAny_builtin F.entry_type_call ?_⟩;rw[Around.under_plain (weight_type_call_type "enumerate" [.ref l] [("start",.int n t)]) (units_type_call_type "enumerate" [.ref l] [("start",.int n t)])];have h1:=ft.notType;have h2:=ft.canCreate
  repeat (any_goals first | wp_step | assumption)
  have sz:(s.heap.push (ze8 b l)).objs.size=s.heap.objs.size+1:=Heap.size_push ..;have en:IsEnum ((s.heap.push (ze8 b l)).push (znc s.heap.objs.size n)) (s.heap.objs.size+1) s.heap.objs.size n .none:=by
    have:=Heap.get?_push_size (s.heap.push (ze8 b l)) (o:=znc s.heap.objs.size n) rfl
    rwa [sz] at this
  have itg:((s.heap.push (ze8 b l)).push (znc s.heap.objs.size n)).get? s.heap.objs.size=some (ze8 b l):=Heap.get?_push_of_some _ (Heap.get?_push_size _ rfl);refine codeAny_mono (codeAny_call_builtin ft.plain F.entry_enumerate_new (wpAny_of_eq (zh1 _ _) (zps b l xs n t hn prog w A.in1
    (wants (fun obj s1=>obj = .ref (s.heap.objs.size+1)/\s1 = { s with heap:=(s.heap.push (ze8 b l)).push (znc s.heap.objs.size n) }) E) s ⟨q1,by rw[sz];exact⟨rfl,rfl⟩⟩))) fun r s1 hr=>?_
  cases r with
  | error e=>exact hr
  | ok fl=>
    cases fl with
    | ret obj=>
      obtain⟨rfl,rfl⟩:=hr;have hT:({ s with heap:=(s.heap.push (ze8 b l)).push (znc s.heap.objs.size n) }:Shared).TypeIs (.ref (s.heap.objs.size+1)) "enumerate":=⟨_,en,rfl⟩;have hli:=ft.init.lookup;have hbi:=ft.init.bind (.ref (s.heap.objs.size+1))
      repeat (any_goals first | wp_step | assumption)
      refine codeAny_mono (codeAny_call_builtin ft.init.plain F.entry_object_init (ft.init.check _ _ _ _ _ _ _ _ hT (znd _ _ _) (zpt prog w A.in1 (wants (fun r s2=>r = .none/\s2 = { s with heap:=(s.heap.push (ze8 b l)).push (znc s.heap.objs.size n) }) E) _ ⟨hT,rfl,rfl⟩))) fun r2 s2 hr2=>?_
      cases r2 with
      | error e=>exact hr2
      | ok fl2=>
        cases fl2 with
        | ret r=>
          obtain⟨rfl,rfl⟩:=hr2
          repeat (any_goals first | wp_step | assumption)
          refine h _ en ?_ fun c o e=>Heap.get?_push_of_some _ (Heap.get?_push_of_some _ e)
          cases b with
          | true=>exact⟨_,itg,rfl,rfl⟩
          | false=>exact⟨_,itg,rfl,rfl⟩
        | _=>exact hr2.elim
    | _=>exact hr.elim
end
def zyp (K:PySem.W.Frag) (n:Nat) (te:TE):TI:=fun σ H R=>te σ H fun x H1=>∃l xs,x = .ref l/\SqL K H1 l xs/\R (Ite K l n) H1
section
variable {X:Cx}
theorem zwr {elts:List Expr}{ct:Nat}{tpos:Pos}{e:Expr}{te:TE}{p pos kpos cpos:Pos}{j:Nat}(n:Nat) (hn:Builtin.SmallTypes.fitsIndex (n:Int)=true) (hg:Gl X "enumerate") (hm:X.mg "enumerate" = none) (he:PE X e te)
    (hs:starEach [e] X.env = [(false,eval e X.env)]:=by rfl) :
    PI X (.Tuple elts ct tpos) (.Call (.Name "enumerate" p) [e] [⟨some "start",.Constant (.int (n:Int)) j cpos,kpos⟩] pos) (zyp X.K n te):=by
  intro pins s σ H R I h;refine wpAny_Call_Name_kw (zi7 I hg hm boot_enumerate ?_);refine PySem.W.callWith_of (P:=fun _=>True) (first:=[]) (by rw[hs];rfl) (fun h _=>⟨.machine,.inr (.inl rfl),fun _ _ _ _ _ q=>wpAny_pure q⟩) (PyProof.Rows.evalArgs_kw2 rfl ?_ hs);refine thn (za he zi hs pos pins s σ H (fun vs H1=>match vs with | [x]=>∃l xs,x = .ref l/\SqL X.K H1 l xs/\R (Ite X.K l n) H1 | _=>False) I h) fun us s1 hq0=>?_
  obtain⟨vs,H1,I1,r,q⟩:=hq0
  match vs,q with
  | [x],q=>
    obtain⟨l,xs,rfl,hl,q⟩:=q;obtain⟨u,rfl,ru⟩:=zel r;cases ru;refine thn (zv2 (nm:=some "start") (kpos:=kpos) (zn (i:=(n:Int)) (j:=j) (pos:=cpos)) zx6 pos pins s1 σ H1 (fun zs H2=>zs = [.int (n:Int)]/\H2=H1) I1 ⟨rfl,rfl⟩) fun ws s2 ⟨zs,H2,I2,rz,q2⟩=>⟨trivial,?_⟩
    obtain⟨rfl,rfl⟩:=q2;obtain⟨v,rfl,t,rfl⟩:=zel rz;obtain⟨its,r',g1⟩:=I2.sq (b:=false) hl;refine zry hn g1 fun g en it kk=>wpAny_pyIter_enum en ?_
    have f:∀k,FpOk X pins H2 (s2.heap.objs.size+k):=fun k=>I2.fpOk (Nat.le_add_right _ _) (I2.hok.fresh (Nat.le_add_right _ _))
    refine⟨s2.heap.objs.size+1,[s2.heap.objs.size+1,s2.heap.objs.size],_,_,H2,rfl,I2.kept (t':=s2.toks) kk,zrw l _ _ n (Nat.succ_ne_self _),⟨⟨_,en⟩,it⟩,fun b hb=>?_,q⟩;simp only [List.mem_cons,List.not_mem_nil,or_false] at hb;rcases hb with rfl | rfl
    · exact f 1
    · exact f 0
end
open Sem (wp)
def RawD (h:Heap) (d:Addr) (es:Array DictEntry) (ep:Nat):Prop:=∃o,h.get? d=some o/\o.ExactDict/\o.data = .dict es ep
theorem RawD.at {h h':Heap}{d:Addr}{es:Array DictEntry}{ep:Nat}(q:RawD h d es ep) (k:∀o,h.get? d=some o->h'.get? d=some o):RawD h' d es ep:=let ⟨o,ho,r⟩:=q;⟨o,k o ho,r⟩
theorem RawD.typeIs {s:Shared}{d:Addr}{es:Array DictEntry}{ep:Nat}(q:RawD s.heap d es ep):s.TypeIs (.ref d) "dict":=let ⟨o,ho,c,_⟩:=q;⟨o,ho,c.1⟩
section
variable {prog:Program}{w:World}{A:Around}{E:Value->Shared->Prop}{s:Shared}
theorem zuf {d:Addr}{es:Array DictEntry}{ep:Nat}{Q:Value->Shared->Prop}(hd:(d == sysModules)=false) (hm:RawD s.heap d es ep)
    (hQ:Q (.ref s.heap.objs.size) { s with heap:=s.heap.push { cls:=.type "dict_keyiterator",data:=.fields #[.ref d,.int 0 0,.int es.size 0,.int ep 0] } }):wpAny (model prog w) A (pyIter (.ref d)) Q E s:=by
  obtain⟨o,ho,hc,hdat⟩:=id hm;have T:s.TypeIs (.ref d) "dict":=hm.typeIs;refine wpAny_pyIter_slot T F.slot_dict_iter (wpAny_call_entry F.slot_dict_iter T F.entry_dict_iter ?_ (F.args_dict_iter_1 _));unfold Builtin.«dict.__iter__»;refine wpAny_bind ?_;unfold Builtin.Dict.dictSlotNone;refine wpAny_bind (wpAny_notOrdered_dict T ?_);show wpAny (model prog w) _ (pure (Value.ref d)) _ _ s;refine wpAny_pure ?_;show wpAny (model prog w) _ (Builtin.Dict.showsAll d >>= _) _ _ s;unfold Builtin.Dict.showsAll;rw[if_neg (by rw[hd];exact Bool.false_ne_true)];refine wpAny_bind (wpAny_pure (wpAny_bind (wpAny_dictEntries ho hdat (wpAny_bind (wpAny_dictEpoch ho hdat ?_)))));exact wpAny_bind (wpAny_newObj_type (wpAny_pure ⟨_,rfl,"dict_keyiterator",_,⟨_,Heap.get?_push_size _ rfl,rfl⟩,F.slot_dict_keyiterator_next.lookup,hQ⟩))
theorem zug {it d:Addr}{i ep:Nat}{es:Array DictEntry}{e:DictEntry}{Q:Option Value->Shared->Prop}(hit:s.heap.IsKeyIter it d i es.size ep) (hm:RawD s.heap d es ep) (hx:es[i]? = some e)
    (hQ:∀h1,h1.IsKeyIter it d (i+1) es.size ep->Heap.SameBut it s.heap h1->Q (some e.key) { s with heap:=h1 }):wpAny (model prog w) A (pyNext (.ref it)) Q E s:=by
  obtain⟨o,ho,hc,hd⟩:=id hit;obtain⟨od,hod,hcd,hdd⟩:=id hm;obtain⟨hlt,he⟩:=Array.getElem?_eq_some_iff.mp hx;subst he;unfold pyNext;refine wpAny_bind (wpAny_attempt (wpAny_callSpecial?_slot (name:=Str.ofString "__next__") hit.typeIs F.slot_dict_keyiterator_next (wpAny_call_entry F.slot_dict_keyiterator_next hit.typeIs F.entry_dict_keyiterator_next ?_ (F.args_dict_keyiterator_next_1 _))));refine wpAny_bind (wpAny_pure (wpAny_bind (wpAny_bind ?_)));refine wpAny_bind (wpAny_typeNameOfWhole_keyiter hit.typeIs (wpAny_pure (wpAny_bind (wpAny_fieldsOf ho hd ?_))));have own:Builtin.Dict_items.ownsTuple "dict_keyiterator" = false:=by decide
  simp only [own,Bool.false_eq_true,if_false];show wpAny (model prog w) _ (if (Value.ref d == Value.none)=true then _ else _) _ _ s;rw[if_neg (show ¬((Value.ref d == Value.none)=true) from Bool.false_ne_true)];refine wpAny_bind (wpAny_pure (wpAny_bind (wpAny_dictEntries hod hdd ?_)));rw[if_neg (by simp)];refine wpAny_bind (wpAny_pure (wpAny_bind (wpAny_dictEpoch hod hdd ?_)));rw[if_neg (by simp)];refine wpAny_pure ?_;simp only [show ¬((i:Int)<0) from by omega,if_false,Int.toNat_natCast,Array.getElem?_eq_getElem hlt];refine wpAny_bind (wpAny_bind (wpAny_typeNameOfWhole_keyiter hit.typeIs (wpAny_pure (wpAny_bind (wpAny_isOneOf_keyiter hit.typeIs ?_)))));show wpAny (model prog w) _ (setField (.ref it) 1 (rawInt ((i:Int)+1)) >>= _) _ _ s;refine wpAny_bind (wpAny_setField ho hd (by simp) ?_);have nx:(s.heap.update it (Obj.mapFields (·.setIfInBounds 1 (rawInt ((i:Int)+1))))).IsKeyIter it d (i+1) es.size ep:=
    ⟨_,Heap.get?_update_self _ ho (Obj.isFreed_of_fields (Obj.data_mapFields hd _)),(Obj.cls_mapFields ..).trans hc,by rw[Obj.data_mapFields hd];simp[rawInt]⟩
  refine wpAny_bind (wpAny_holding (wpAny_bind (wpAny_isOneOf_keyiter (s:={ s with heap:=s.heap.update it (Obj.mapFields (·.setIfInBounds 1 (rawInt ((i:Int)+1)))) }) nx.typeIs ?_)));show wpAny (model prog w) _ (pure es[i].key) _ _ _;exact wpAny_pure (wpAny_pure ⟨_,rfl,wpAny_pure (hQ _ nx (Heap.SameBut.update ..))⟩)
theorem zws {it d:Addr}{i ep:Nat}{es:Array DictEntry}{Q:Option Value->Shared->Prop}(hh:A.handled=none) (hit:s.heap.IsKeyIter it d i es.size ep) (hm:RawD s.heap d es ep) (hx:es.size<=i)
    (hQ:∀h1,Heap.ExtBut it s.heap h1->Q none { s with heap:=h1 }):wpAny (model prog w) A (pyNext (.ref it)) Q E s:=by
  obtain⟨o,ho,hc,hd⟩:=id hit;obtain⟨od,hod,hcd,hdd⟩:=id hm;unfold pyNext;refine wpAny_bind (wpAny_attempt (wpAny_callSpecial?_slot (name:=Str.ofString "__next__") hit.typeIs F.slot_dict_keyiterator_next (wpAny_call_entry F.slot_dict_keyiterator_next hit.typeIs F.entry_dict_keyiterator_next ?_ (F.args_dict_keyiterator_next_1 _))));refine wpAny_bind (wpAny_pure (wpAny_bind (wpAny_bind ?_)));refine wpAny_bind (wpAny_typeNameOfWhole_keyiter hit.typeIs (wpAny_pure (wpAny_bind (wpAny_fieldsOf ho hd ?_))));have own:Builtin.Dict_items.ownsTuple "dict_keyiterator" = false:=by decide
  simp only [own,Bool.false_eq_true,if_false];show wpAny (model prog w) _ (if (Value.ref d == Value.none)=true then _ else _) _ _ s;rw[if_neg (show ¬((Value.ref d == Value.none)=true) from Bool.false_ne_true)];refine wpAny_bind (wpAny_pure (wpAny_bind (wpAny_dictEntries hod hdd ?_)));rw[if_neg (by simp)];refine wpAny_bind (wpAny_pure (wpAny_bind (wpAny_dictEpoch hod hdd ?_)));rw[if_neg (by simp)];refine wpAny_pure ?_;simp only [show ¬((i:Int)<0) from by omega,if_false,Int.toNat_natCast,Array.getElem?_eq_none hx];refine wpAny_bind (wpAny_bind (wpAny_typeNameOfWhole_keyiter hit.typeIs (wpAny_pure ?_)));show wpAny (model prog w) _ (setField (.ref it) 0 .none >>= _) _ _ s;refine wpAny_bind (wpAny_setField ho hd (by simp) ?_);show wpAny (model prog w) _ (newExc (.type "StopIteration") [] >>= _) _ _ _;refine wpAny_bind ?_;simp only [newExc,newTuple];refine wpAny_bind (wpAny_newObj_type (wpAny_bind (m:=firstArgMember _ _) (wpAny_of_eq (a:=Value.none) (by first | rfl | (simp only [firstArgMember];rfl)) (wpAny_newObj_type ?_ (by size_fits)))) (by size_fits));simp only [raiseNew];refine wpAny_bind (wpAny_handled ?_);rw[show A.in1.handled=none from hh];refine wpAny_bind (wpAny_pure (wpAny_throw ?_));exact wpAny_bind (wpAny_isInstance (T:="StopIteration") (b:=true) ⟨_,Heap.get?_push_size _ rfl,rfl⟩ isSubtype_stop (wpAny_pure (hQ _ (((Heap.SameBut.update ..).extBut.push _).push _))))
theorem zrz (hh:A.handled=none) (I d:Addr) (hne:d≠I) (es:Array DictEntry) (ep:Nat) :
    Walks prog w A I [I,d] [I] es.size (fun i v=>∃e,es[i]? = some e/\v=e.key) (fun i h=>h.IsKeyIter I d i es.size ep/\RawD h d es ep) where
  sub:=fun b hb=>by simp at hb;simp[hb]
  frame:=fun _ _ _ st hk=>⟨st.1.at fun o e=>hk I (by simp) o e,st.2.at fun o e=>hk d (by simp) o e⟩
  item:=fun i s Q E hi st hQ=>by
    have hx:es[i]? = some es[i]:=Array.getElem?_eq_getElem hi;exact zug st.1 st.2 hx fun h1 it' hs=>hQ _ h1 s.toks ⟨_,hx,rfl⟩ ⟨it',st.2.at fun o e=>(hs.2 d hne).trans e⟩ fun b o hb e=>(hs.2 b (fun h=>hb (by simp[h]))).trans e
  done:=fun s Q E st hQ=>zws hh st.1 st.2 (Nat.le_refl _) fun h1 he=>hQ h1 s.toks fun b o hb e=>he b o (fun h=>hb (by simp[h])) e
  self:=fun _ _ _ _ st hQ=>wpAny_pyIter_keyiter st.1 hQ
theorem zr0 {d:Addr}{Q:Bool->Shared->Prop}(T:s.TypeIs (.ref d) "dict") (hq:Q false s):wpAny (model prog w) A (Builtin.List.listLengthHint (.ref d)) Q E s:=by
  unfold Builtin.List.listLengthHint;refine wpAny_bind (wpAny_specialOf T F.slot_dict_len.lookup ?_);have e:splitId "dict.__len__" = some ("dict","__len__"):=by kernel_rfl
  simp only [e];have sub:isSubtype (.type "dict") (.type "dict")=pure true:=by rw[isSubtype_type];kernel_rfl
  exact wpAny_bind (wpAny_isInstance (T:="dict") (b:=true) T sub (wpAny_bind (wpAny_typeOf T (wpAny_pure hq))))
theorem zr1 {d:Addr}{Q:Bool->Shared->Prop}(T:s.TypeIs (.ref d) "dict_values") (hq:Q false s):wpAny (model prog w) A (Builtin.List.listLengthHint (.ref d)) Q E s:=by
  unfold Builtin.List.listLengthHint;refine wpAny_bind (wpAny_specialOf T F.slot_dict_values_len.lookup ?_);have e:splitId "dict_values.__len__" = some ("dict_values","__len__"):=by kernel_rfl
  simp only [e];have sub:isSubtype (.type "dict_values") (.type "dict_values")=pure true:=by rw[isSubtype_type];kernel_rfl
  exact wpAny_bind (wpAny_isInstance (T:="dict_values") (b:=true) T sub (wpAny_bind (wpAny_typeOf T (wpAny_pure hq))))
end
section
variable {prog:Program}{w:World}{A:Around}{s:Shared}{R:Result->Shared->Prop}{I:Addr}{fp wr:List Addr}{n:Nat}{P:Nat->Value->Prop}{St:Nat->Heap->Prop}
theorem zlo (W:Walks prog w A.in1 I fp wr n P St) (hn:n<=sizeLine) (S:Addr) (c:Nat) (hst:St 0 s.heap) (hS:S ∉ fp) (hl:s.heap.get? S=some { cls:=.type "list",data:=.seq #[] c })
    (hR:∀s1 acc c1,Moved (S::wr) (fun a b=>b=a) s s1->s1.heap.get? S=some { cls:=.type "list",dict:=none,data:=.seq acc c1,slots:=#[] }->ItemsOf P acc n->R (.ok (.ret .none)) s1) :
    wpAny (model prog w) A.in1 (rule "list.extend.makes-room" >>= fun _=>Builtin.List.listTouch (.ref S) >>= fun _=>again (.builtin "list.extend.loop" ⟨[.ref S,.ref I,.none],[]⟩))
      (fun fin s1=>match fin with | .done f=>R (.ok f) s1 | .again c1=>c1.quiet=true/\codeAny (model prog w) A c1 R s1) (fun e s1=>R (.error e) s1) s:=by
  refine wpAny_bind (wpAny_rule (wpAny_bind ?_));show wpAny (model prog w) A.in1 (updateSeq S (·.push .none) >>= fun _=>updateSeq S (·.pop)) _ _ _;refine wpAny_bind (wpAny_updateSeq hl rfl ?_);have l2:=Heap.get?_update_self (Obj.mapSeq (·.push Value.none)) hl rfl;refine wpAny_updateSeq (hz:=by seq_fits) l2 rfl ?_;have l3:=Heap.get?_update_self (Obj.mapSeq (·.pop)) l2 rfl;have oth:∀b o,b≠S->s.heap.get? b=some o->((s.heap.update S (Obj.mapSeq (·.push Value.none))).update S (Obj.mapSeq (·.pop))).get? b=some o:=fun b o hb e=>(Heap.get?_update_other _ _ (Ne.symm hb)).trans ((Heap.get?_update_other _ _ (Ne.symm hb)).trans e)
  refine wpAny_pure ⟨plainId_quiet F.plain_extend_loop _,codeAny_extend_loopS W.toS hn _ hS _ n 0 _ _ _ rfl (Nat.zero_le _) (W.toS.frame 0 s _ s.toks hst (Nat.le_refl _) fun b hb o e=>oth b o (fun h=>hS (h▸hb)) e) l3 (ItemsOf.nil P) fun s1 acc c1 hm h1 h2=>?_⟩;have m0:Moved (S::wr) (fun (a b:Array GenState)=>b=a) s { s with heap:=(s.heap.update S (Obj.mapSeq (·.push Value.none))).update S (Obj.mapSeq (·.pop)) }:=⟨fun b o hb e=>oth b o (fun h=>hb (by simp[h])) e,rfl,rfl,rfl,Nat.le_refl _⟩;exact hR s1 acc c1 (Moved.trans (fun _ _ _ h1 h2=>h2.trans h1) m0 hm) h1 h2
end
section
variable {prog:Program}{w:World}{A:Around}{s:Shared}{R:Result->Shared->Prop}
theorem zlp {S:Addr}{x:Value}(hl:s.heap.get? S=some { cls:=.type "list",data:=.seq #[] })
    (h:wpAny (model prog w) A.in1 (Builtin.List.listExtendWith (.ref S) x .none) (fun fin s1=>match fin with | .done f=>R (.ok f) s1 | .again c1=>c1.quiet=true/\codeAny (model prog w) A c1 R s1) (fun e s1=>R (.error e) s1)
      { s with heap:=s.heap.update S (Obj.mapSeq (fun _=>(#[]:Array Value))) }) :
    wpAny (model prog w) A.in1 (Builtin.«list.__init__» ⟨[.ref S,x],[]⟩) (fun fin s1=>match fin with | .done f=>R (.ok f) s1 | .again c1=>c1.quiet=true/\codeAny (model prog w) A c1 R s1) (fun e s1=>R (.error e) s1) s:=by
  show wpAny (model prog w) A.in1 (do let was ←Builtin.List.listItems (.ref S);Builtin.List.listUpdate (.ref S) (fun _=>#[]);letGo was.toList.reverse;Builtin.List.listExtendWith (.ref S) x .none) _ _ s;refine wpAny_bind ?_;unfold Builtin.List.listItems;refine wpAny_bind (wpAny_seqItems hl rfl (wpAny_pure ?_));show wpAny (model prog w) A.in1 (updateSeq S (fun _=>#[]) >>= fun _=>letGo (#[]:Array Value).toList.reverse >>= fun _=>Builtin.List.listExtendWith (.ref S) x .none) _ _ s;exact wpAny_bind (wpAny_updateSeq hl rfl (wpAny_bind (wpAny_letGo h)))
end
section
variable {prog:Program}{w:World}{A:Around}{E:Value->Shared->Prop}{s:Shared}
theorem zg2 {d:Addr}{es:Array DictEntry}{ep:Nat}{Q:Value->Shared->Prop}(hh:A.handled=none) (hd:(d == sysModules)=false) (hm:RawD s.heap d es ep) (hn:es.size<=sizeLine)
    (hQ:∀h1 acc c tk,(∀b o,s.heap.get? b=some o->h1.get? b=some o)->h1.get? s.heap.objs.size=some { cls:=.type "list",dict:=none,data:=.seq acc c,slots:=#[] }->ItemsOf (fun i v=>∃e,es[i]? = some e/\v=e.key) acc es.size->
      Q (.ref s.heap.objs.size) { s with heap:=h1,toks:=tk }):wpAny (model prog w) A (call (.type "list") [.ref d]) Q E s:=by
  have dl:d<s.heap.objs.size:=by obtain⟨o,ho,_⟩:=hm;exact Heap.lt_size ho
  refine callType_codes (Q₁:=fun obj s1=>obj = .ref s.heap.objs.size/\s1 = { s with heap:=s.heap.push { cls:=.type "list",data:=.seq #[] } }) F.called_list (F.typeCall_list_1 _) F.entry_list_init (code_list_new _ ⟨rfl,rfl⟩) fun obj s1 h1=>?_
  obtain⟨rfl,rfl⟩:=h1;have hS:(s.heap.push { cls:=.type "list",data:=.seq #[] }).get? s.heap.objs.size=some { cls:=.type "list",data:=.seq #[] }:=Heap.get?_push_size _ rfl;refine⟨⟨_,hS,rfl⟩,F.args_list_init_2 _ _,zlp hS ?_⟩;have l2:=Heap.get?_update_self (Obj.mapSeq (fun _=>(#[]:Array Value))) hS rfl;have old:∀b o,s.heap.get? b=some o->((s.heap.push { cls:=.type "list",data:=.seq #[] }).update s.heap.objs.size (Obj.mapSeq (fun _=>(#[]:Array Value)))).get? b=some o:=fun b o e=>
    (Heap.get?_update_other _ _ (fun z=>Nat.lt_irrefl _ (z▸Heap.lt_size e))).trans (Heap.get?_push_of_some _ e)
  have hm2:=hm.at (h':=(s.heap.push { cls:=.type "list",data:=.seq #[] }).update s.heap.objs.size (Obj.mapSeq (fun _=>(#[]:Array Value)))) fun o e=>old d o e
  have zu:((s.heap.push { cls:=.type "list",data:=.seq #[] }).update s.heap.objs.size (Obj.mapSeq (fun _=>(#[]:Array Value)))).objs.size=s.heap.objs.size+1:=by rw[Heap.size_update,Heap.size_push]
  generalize (s.heap.push { cls:=.type "list",data:=.seq #[] }).update s.heap.objs.size (Obj.mapSeq (fun _=>(#[]:Array Value)))=g at l2 old hm2 zu;have T:({ s with heap:=g }:Shared).TypeIs (.ref d) "dict":=hm2.typeIs;unfold Builtin.List.listExtendWith;refine wpAny_bind (wpAny_typeOf T ?_);have sr:Builtin.List.listSameRef (.ref s.heap.objs.size) (.ref d)=false:=by
    have:s.heap.objs.size≠d:=Ne.symm (Nat.ne_of_lt dl);simp[Builtin.List.listSameRef,this]
  have t1:(Value.type "dict" == Value.type "list")=false:=by decide
  have t2:(Value.type "dict" == Value.type "tuple")=false:=by decide
  simp only [sr,t1,t2,Bool.or_false,Bool.false_eq_true,if_false];refine wpAny_bind (zuf (s:={ s with heap:=g }) hd hm2 ?_);have hm3:=hm2.at (h':=g.push { cls:=.type "dict_keyiterator",data:=.fields #[.ref d,.int 0 0,.int es.size 0,.int ep 0] }) fun o e=>Heap.get?_push_of_some _ e
  refine wpAny_bind (wpAny_holding (zr0 (s:={ s with heap:=g.push { cls:=.type "dict_keyiterator",data:=.fields #[.ref d,.int 0 0,.int es.size 0,.int ep 0] } }) hm3.typeIs ?_));have dI:d≠g.objs.size:=by rw[zu];exact Nat.ne_of_lt (Nat.lt_succ_of_lt dl)
  have SI:s.heap.objs.size ∉ [g.objs.size,d]:=by
    rw[zu];intro z;simp only [List.mem_cons,List.not_mem_nil,or_false] at z;rcases z with z | z
    · exact absurd z (Nat.ne_of_lt (Nat.lt_succ_self _))
    · exact absurd z (Ne.symm (Nat.ne_of_lt dl))
  refine zlo (A:=A.in1) (s:={ s with heap:=g.push { cls:=.type "dict_keyiterator",data:=.fields #[.ref d,.int 0 0,.int es.size 0,.int ep 0] } }) (zrz (A:=A.in1.in1) hh g.objs.size d dI es ep) hn _ _ ⟨⟨_,Heap.get?_push_size _ rfl,rfl,rfl⟩,hm3⟩ SI (Heap.get?_push_of_some _ l2) fun s2 acc c hmv h2 h3=>?_
  obtain⟨hp,ge,dr,tk,os⟩:=s2;obtain⟨m1,m2,m3,m4,m5⟩:=hmv;obtain rfl:ge=s.gens:=m2;obtain rfl:dr=s.drawn:=m3;obtain rfl:os=s.os:=m4;refine⟨rfl,hQ hp acc c tk (fun b o e=>m1 b o ?_ (Heap.get?_push_of_some _ (old b o e))) h2 h3⟩;intro z;have bl:=Heap.lt_size e;simp only [List.mem_cons,List.not_mem_nil,or_false] at z;rcases z with z | z
  · exact absurd bl (by rw[z];exact Nat.lt_irrefl _)
  · have z:b=g.objs.size:=z;rw[z,zu] at bl;exact absurd bl (Nat.not_lt_of_le (Nat.le_succ _))
theorem zlq {κ:Type} [DecidableEq κ] {knd:KeyKind prog w κ}{d v:Addr}{kvs:List (κ×Value)}{Q:Value->Shared->Prop}(hh:A.handled=none) (hv:s.heap.IsValuesView v d) (hm:s.heap.DictOf knd d kvs) (hn:kvs.length<=sizeLine)
    (hQ:∀h1 acc c tk,(∀b o,s.heap.get? b=some o->h1.get? b=some o)->h1.get? s.heap.objs.size=some { cls:=.type "list",dict:=none,data:=.seq acc c,slots:=#[] }->ItemsOf (fun i v=>∃k,kvs[i]? = some (k,v)) acc kvs.length->
      Q (.ref s.heap.objs.size) { s with heap:=h1,toks:=tk }):wpAny (model prog w) A (call (.type "list") [.ref v]) Q E s:=by
  obtain⟨ep,hm⟩:=hm.dictAt;have dl:d<s.heap.objs.size:=hm.lt_size;have vl:v<s.heap.objs.size:=by obtain⟨o,ho,_⟩:=hv;exact Heap.lt_size ho
  refine callType_codes (Q₁:=fun obj s1=>obj = .ref s.heap.objs.size/\s1 = { s with heap:=s.heap.push { cls:=.type "list",data:=.seq #[] } }) F.called_list (F.typeCall_list_1 _) F.entry_list_init (code_list_new _ ⟨rfl,rfl⟩) fun obj s1 h1=>?_
  obtain⟨rfl,rfl⟩:=h1;have hS:(s.heap.push { cls:=.type "list",data:=.seq #[] }).get? s.heap.objs.size=some { cls:=.type "list",data:=.seq #[] }:=Heap.get?_push_size _ rfl;refine⟨⟨_,hS,rfl⟩,F.args_list_init_2 _ _,zlp hS ?_⟩;have l2:=Heap.get?_update_self (Obj.mapSeq (fun _=>(#[]:Array Value))) hS rfl;have old:∀b o,s.heap.get? b=some o->((s.heap.push { cls:=.type "list",data:=.seq #[] }).update s.heap.objs.size (Obj.mapSeq (fun _=>(#[]:Array Value)))).get? b=some o:=fun b o e=>
    (Heap.get?_update_other _ _ (fun z=>Nat.lt_irrefl _ (z▸Heap.lt_size e))).trans (Heap.get?_push_of_some _ e)
  have hm2:=hm.keep old;have hv2:((s.heap.push { cls:=.type "list",data:=.seq #[] }).update s.heap.objs.size (Obj.mapSeq (fun _=>(#[]:Array Value)))).IsValuesView v d:=let ⟨o,ho,r⟩:=hv;⟨o,old v o ho,r⟩
  have zu:((s.heap.push { cls:=.type "list",data:=.seq #[] }).update s.heap.objs.size (Obj.mapSeq (fun _=>(#[]:Array Value)))).objs.size=s.heap.objs.size+1:=by rw[Heap.size_update,Heap.size_push]
  generalize (s.heap.push { cls:=.type "list",data:=.seq #[] }).update s.heap.objs.size (Obj.mapSeq (fun _=>(#[]:Array Value)))=g at l2 old hm2 hv2 zu;have T:({ s with heap:=g }:Shared).TypeIs (.ref v) "dict_values":=hv2.typeIs;unfold Builtin.List.listExtendWith;refine wpAny_bind (wpAny_typeOf T ?_);have sr:Builtin.List.listSameRef (.ref s.heap.objs.size) (.ref v)=false:=by
    have:s.heap.objs.size≠v:=Ne.symm (Nat.ne_of_lt vl);simp[Builtin.List.listSameRef,this]
  have t1:(Value.type "dict_values" == Value.type "list")=false:=by decide
  have t2:(Value.type "dict_values" == Value.type "tuple")=false:=by decide
  simp only [sr,t1,t2,Bool.or_false,Bool.false_eq_true,if_false];refine wpAny_bind (wpAny_pyIter_values (s:={ s with heap:=g }) hv2 hm2 ?_);have hm3:=hm2.push { cls:=.type "dict_valueiterator",data:=.fields #[.ref d,.int 0 0,.int kvs.length 0,.int ep 0] };have hv3:(g.push { cls:=.type "dict_valueiterator",data:=.fields #[.ref d,.int 0 0,.int kvs.length 0,.int ep 0] }).IsValuesView v d:=let ⟨o,ho,r⟩:=hv2;⟨o,Heap.get?_push_of_some _ ho,r⟩
  refine wpAny_bind (wpAny_holding (zr1 (s:={ s with heap:=g.push { cls:=.type "dict_valueiterator",data:=.fields #[.ref d,.int 0 0,.int kvs.length 0,.int ep 0] } }) hv3.typeIs ?_));have dI:d≠g.objs.size:=by rw[zu];exact Nat.ne_of_lt (Nat.lt_succ_of_lt dl)
  have SI:s.heap.objs.size ∉ [g.objs.size,d]:=by
    rw[zu];intro z;simp only [List.mem_cons,List.not_mem_nil,or_false] at z;rcases z with z | z
    · exact absurd z (Nat.ne_of_lt (Nat.lt_succ_self _))
    · exact absurd z (Ne.symm (Nat.ne_of_lt dl))
  refine zlo (A:=A.in1) (s:={ s with heap:=g.push { cls:=.type "dict_valueiterator",data:=.fields #[.ref d,.int 0 0,.int kvs.length 0,.int ep 0] } }) (Walks.dictValues (A:=A.in1.in1) hh g.objs.size d dI kvs ep) hn _ _ ⟨⟨_,Heap.get?_push_size _ rfl,rfl,rfl⟩,hm3⟩ SI (Heap.get?_push_of_some _ l2) fun s2 acc c hmv h2 h3=>?_
  obtain⟨hp,ge,dr,tk,os⟩:=s2;obtain⟨m1,m2,m3,m4,m5⟩:=hmv;obtain rfl:ge=s.gens:=m2;obtain rfl:dr=s.drawn:=m3;obtain rfl:os=s.os:=m4;refine⟨rfl,hQ hp acc c tk (fun b o e=>m1 b o ?_ (Heap.get?_push_of_some _ (old b o e))) h2 h3⟩;intro z;have bl:=Heap.lt_size e;simp only [List.mem_cons,List.not_mem_nil,or_false] at z;rcases z with z | z
  · exact absurd bl (by rw[z];exact Nat.lt_irrefl _)
  · have z:b=g.objs.size:=z;rw[z,zu] at bl;exact absurd bl (Nat.not_lt_of_le (Nat.le_succ _))
end
theorem Vals.of_get:∀{xs:List V}{us:List Value},xs.length=us.length->(∀(i:Nat) x u,xs[i]? = some x->us[i]? = some u->RelV x u)->Vals xs us
  | [],[],_,_=>.nil
  | x::xs,u::us,hl,h=>.cons (h 0 x u rfl rfl) (Vals.of_get (by simpa using hl) fun i y v e1 e2=>h (i+1) y v (by simpa using e1) (by simpa using e2))
  | [],_::_,hl,_=>by simp at hl
  | _::_,[],hl,_=>by simp at hl
theorem zwt {k:Key}{v:Value}(h:zm5 k v=true):RelV (kV k) v:=by
  rcases za6 h with ⟨i,t,rfl,rfl⟩ | ⟨x,t,rfl,rfl⟩
  · exact⟨t,rfl⟩
  · exact⟨t,rfl⟩
theorem Paired.get' {α β:Type}{F:α->β->Prop}:∀{l₁:List α}{l₂:List β}{i:Nat}{a:α},Paired F l₁ l₂->l₁[i]? = some a->∃b,l₂[i]? = some b/\F a b
  | _,_,_,_,.nil,e=>by simp at e
  | _,_,0,_,.cons r _,e=>by simp at e;subst e;exact⟨_,rfl,r⟩
  | _,_,i+1,a,.cons _ t,e=>by
    obtain⟨u,h1,h2⟩:=Paired.get' (i:=i) (a:=a) t (by simpa using e);exact⟨u,by simpa using h1,h2⟩
section
variable {X:Cx}
theorem zki {pins:List (Addr×Obj)}{σ:St}{H:Hp}{s:Shared}{Q:VK}{ys:List V}{h1:Heap}{acc:Array Value}{c tk:Nat}(I:Inv X pins σ H s) (kp:∀b o,s.heap.get? b=some o->h1.get? b=some o)
    (e:h1.get? s.heap.objs.size=some { cls:=.type "list",dict:=none,data:=.seq acc c,slots:=#[] }) (r:Vals ys acc.toList) (hz:ys.length<=sizeLine) (q:∀l,H l=none->Q (.ref l) (upd H l (.lst ys))):EP X pins σ Q (.ref s.heap.objs.size) { s with heap:=h1,toks:=tk }:=
  ⟨.ref s.heap.objs.size,_,I.laid (t':=tk) (o:=.lst ys) kp (Nat.le_refl _) ⟨hz,acc.toList,c,r,by simpa using e⟩,rfl,q _ (I.hok.fresh (Nat.le_refl _))⟩
theorem zlr (hc:X.calm=true):zdw X (.type "list") (fun xs H Q=>∃p kvs,xs = [V.ref p]/\H p=some (.dK kvs)/\∀l,H l=none->Q (.ref l) (upd H l (.lst (kvs.map fun kv=>kV kv.1)))):=by
  intro pins s σ H xs us Q I r h;obtain⟨p,kvs,rfl,hp,q⟩:=h;obtain⟨u,rfl,ru⟩:=zel r;cases ru;obtain⟨z,hd,vs,rel,o,es,ep,e,ex,dt,kk,pr,nd⟩:=I.hok p _ hp;have l1:kvs.length=vs.length:=Paired.length rel;have l2:es.size=vs.length:=by rw[←pr.length];simp
  refine zg2 (I.ok.hd hc) hd ⟨o,e,ex,dt⟩ (by omega) fun h1 acc c tk kp el it=>zki I kp el (Vals.of_get ?_ fun i x v ex ev=>?_) (by rw[List.length_map];exact z) q
  · have:=it.1;simp only [List.length_map,Array.length_toList];omega
  · rw[List.getElem?_map] at ex;cases ek:kvs[i]? with
    | none=>rw[ek] at ex;cases ex
    | some kv=>
      rw[ek] at ex;cases ex;obtain⟨en,hen,rfl⟩:=it.2 i v (by simpa using ev);obtain⟨w',hw,rw'⟩:=Paired.get' rel ek;have:=(pr.get? (e:=en) (k:=w'.1) (v:=w'.2) (by simpa using hen) (by rw[hw])).1;have e1:kv.1=w'.1:=rw'.1;show RelV (kV kv.1) en.key;rw[e1];exact zwt this
abbrev zkj (H:Hp):List Addr->List (List Key×V)->Prop:=Paired fun a kv=>H a=some (.tup (kv.1.map kV))
theorem zjh {H:Hp}:∀{kvs:List (List Key×V)}{ys:List (List Key×Addr×Value)},Paired (fun (p:List Key×V) (q:List Key×Addr×Value)=>p.1=q.1/\H q.2.1=some (.tup (p.1.map kV))/\RelV p.2 q.2.2) kvs ys->zkj H (ys.map fun y=>y.2.1) kvs
  | _,_,.nil=>.nil
  | _,_,.cons r t=>.cons r.2.1 (zjh t)
theorem zls (hc:X.calm=true):zdw X (.type "list") (fun xs H Q=>∃p kvs,xs = [V.ref p]/\H p=some (.dT kvs)/\∀l as,zkj H as kvs->H l=none->Q (.ref l) (upd H l (.lst (as.map V.ref)))):=by
  intro pins s σ H xs us Q I r h;obtain⟨p,kvs,rfl,hp,q⟩:=h;obtain⟨u,rfl,ru⟩:=zel r;cases ru;obtain⟨z,hd,ys,rel,o,es,ep,e,ex,dt,he,nd⟩:=I.hok p _ hp;have l1:kvs.length=ys.length:=Paired.length rel;have l2:es.size=ys.length:=by
    have:=congrArg List.length he;simpa using this
  have kt:zkj H (ys.map fun y=>y.2.1) kvs:=zjh rel;refine zg2 (I.ok.hd hc) hd ⟨o,e,ex,dt⟩ (by omega) fun h1 acc c tk kp el it=>zki (ys:=(ys.map fun y=>y.2.1).map V.ref) I kp el (Vals.of_get ?_ fun i x v ex ev=>?_) (by simp only [List.length_map];omega) fun l hl=>q l _ kt hl
  · have:=it.1;simp only [List.length_map,Array.length_toList];omega
  · obtain⟨en,hen,rfl⟩:=it.2 i v (by simpa using ev);have hen:es.toList[i]? = some en:=by simpa using hen
    rw[he,List.getElem?_map] at hen;rw[List.map_map,List.getElem?_map] at ex;cases ek:ys[i]? with
    | none=>rw[ek] at ex;cases ex
    | some y=>
      rw[ek] at ex hen;cases ex;cases hen;exact rfl
def vwO (p d:Addr):HO:=.ext fun h=>h.IsValuesView p d
theorem zr2:MtR X "dict.values" (fun x xs H Q=>∃d kvs,x=V.ref d/\xs = []/\H d=some (.dK kvs)/\∀p,H p=none->Q (.ref p) (upd H p (vwO p d))):=by
  intro pins s σ H x xs v us Q I rx rs h;obtain⟨d,kvs,rfl,rfl,hd,q⟩:=h;cases rx;cases rs;obtain⟨z,hs,vs,rel,dd⟩:=I.hok d _ hd;refine call_meetsIn PySem.F.slot_dict_values dd.typeIs PySem.F.entry_dict_values (PySem.F.args_dict_values_1 _) (meets_dict_values (zbi X.prog X.w) d hs) ⟨⟨vs,dd⟩,?_⟩;refine⟨.ref s.heap.objs.size,_,I.laid (t':=s.toks) (a:=s.heap.objs.size) (o:=vwO s.heap.objs.size d) (fun b u e=>Heap.get?_push_of_some _ e) (Nat.le_refl _) ⟨⟨_,Heap.get?_push_size _ rfl,rfl,rfl⟩,⟨_,Heap.get?_push_size _ rfl⟩,fun h1 h2 ⟨o,ho,r⟩ k=>⟨o,k o ho,r⟩⟩,rfl,q _ (I.hok.fresh (Nat.le_refl _))⟩
theorem zlt (hc:X.calm=true):zdw X (.type "list") (fun xs H Q=>∃p d kvs,xs = [V.ref p]/\H p=some (vwO p d)/\H d=some (.dK kvs)/\∀l,H l=none->Q (.ref l) (upd H l (.lst (kvs.map (·.2))))):=by
  intro pins s σ H xs us Q I r h;obtain⟨p,d,kvs,rfl,hp,hd,q⟩:=h;obtain⟨u,rfl,ru⟩:=zel r;cases ru;obtain⟨z,hs,vs,rel,dd⟩:=I.hok d _ hd;obtain⟨hv,_,_⟩:=I.hok p _ hp;have l1:kvs.length=vs.length:=Paired.length rel;refine zlq (I.ok.hd hc) hv dd (by omega) fun h1 acc c tk kp el it=>zki I kp el (Vals.of_get ?_ fun i x v ex ev=>?_) (by rw[List.length_map];exact z) q
  · have:=it.1;simp only [List.length_map,Array.length_toList];omega
  · rw[List.getElem?_map] at ex;cases ek:kvs[i]? with
    | none=>rw[ek] at ex;cases ex
    | some kv=>
      rw[ek] at ex;cases ex;obtain⟨k,hk⟩:=it.2 i v (by simpa using ev);obtain⟨w',hw,rw'⟩:=Paired.get' rel ek;rw[hk] at hw;cases hw;exact rw'.2
end
def KTup (K:PySem.W.Frag) (ad:Addr) (ws:List V):Prop:=∃(o:Obj) (its:Array Value) (n:Nat),K.lookup ad=some o/\o.cls = .type "tuple"/\o.data = .seq its n/\its.size<=sizeLine/\Vals ws its.toList
theorem KTup.sq {K:PySem.W.Frag}{ad:Addr}{ws:List V}(h:KTup K ad ws) (H:Hp):SqT K H ad ws:=.inr h
inductive KEnts (w:World) (K:PySem.W.Frag):List DictEntry->List (Str×List V)->Prop where
  | nil:KEnts w K [] []
  | cons {k:Str}{t:Tok}{ad:Addr}{ws:List V}{es:List DictEntry}{l:List (Str×List V)}{od:Option Addr}{its:Array Value}{n:Nat}{sl:Array (Option Value)}(hl:K.lookup ad=some ⟨.type "tuple",od,.seq its n,sl⟩)
      (hz:its.size<=sizeLine) (hv:Vals ws its.toList) (r:KEnts w K es l):KEnts w K (⟨PyData.keyHash w.params k,.str k t,.ref ad⟩::es) ((k,ws)::l)
structure KDT (w:World) (K:PySem.W.Frag) (a:Addr) (l:List (Str×List V)):Prop where
  ob:∃es ep,K.lookup a=some { cls:=.type "dict",data:=.dict es ep }/\KEnts w K es.toList l
  nm:(a == sysModules)=false
  nd:(l.map (·.1)).Nodup
theorem KEnts.pairs {P:Program}{w:World}{K:PySem.W.Frag}:∀{es:List DictEntry}{l:List (Str×List V)},KEnts w K es l->∃vs:List (Key×Value),Pairs (zbi P w) es vs/\vs.map (·.1)=l.map (fun x=>(Sum.inr x.1:Key))/\
    (∀e∈es,∃k,(zbi P w).is k e.key=true/\e.hash=(zbi P w).hash k)/\∀x ws,(x,ws)∈l->∃ad,((Sum.inr x:Key),Value.ref ad)∈vs/\KTup K ad ws
  | _,_,.nil=>⟨[],.nil,rfl,(fun e h=>nomatch h),(fun x ws h=>nomatch h)⟩
  | _,_,.cons (k:=k) (t:=t) (ad:=ad) hl hz hv r=>by
    obtain⟨vs,p,e1,e2,e3⟩:=KEnts.pairs (P:=P) r;refine⟨((Sum.inr k:Key),Value.ref ad)::vs,.cons (ze6 P w k t) rfl p,by rw[List.map_cons,List.map_cons,e1],fun e h=>?_,fun x ws h=>?_⟩
    · rcases List.mem_cons.mp h with rfl | h
      · exact⟨Sum.inr k,ze6 P w k t,rfl⟩
      · exact e2 e h
    · rcases List.mem_cons.mp h with h | h
      · cases h;exact⟨ad,List.mem_cons_self ..,_,_,_,hl,rfl,rfl,hz,hv⟩
      · obtain⟨ad',h1,h2⟩:=e3 x ws h;exact⟨ad',List.mem_cons_of_mem _ h1,h2⟩
theorem zh2 {κ:Type} [DecidableEq κ]:∀{vs:List (κ×Value)}{k:κ}{v:Value},(vs.map (·.1)).Nodup->(k,v)∈vs->valueAt vs k=some v
  | (k',v')::vs,k,v,nd,h=>by
    unfold valueAt;rw[List.map_cons,List.nodup_cons] at nd;rcases List.mem_cons.mp h with h | h
    · cases h;simp
    · have ne:k'≠k:=fun e=>nd.1 (List.mem_map.mpr ⟨_,h,e.symm⟩)
      rw[List.find?_cons_of_neg (by simpa using ne)];exact zh2 nd.2 h
theorem zlu {κ:Type} [DecidableEq κ] {vs:List (κ×Value)}{k:κ}(h:k ∉ vs.map (·.1)):valueAt vs k=none:=by
  unfold valueAt;rw[Option.map_eq_none_iff,List.find?_eq_none];intro x hx e;exact h (List.mem_map.mpr ⟨x,hx,by simpa using e⟩)
section
variable {X:Cx}{pins:List (Addr×Obj)}{σ:St}{H:Hp}{s:Shared}
theorem KDT.at {a:Addr}{l:List (Str×List V)}(D:KDT X.w X.K a l) (I:Inv X pins σ H s):∃vs:List (Key×Value),s.heap.DictOf (zbi X.prog X.w) a vs/\vs.map (·.1)=l.map (fun x=>(Sum.inr x.1:Key))/\∀x ws,(x,ws)∈l->∃ad,valueAt vs (Sum.inr x)=some (.ref ad)/\KTup X.K ad ws:=by
  obtain⟨es,ep,hl,he⟩:=D.ob;obtain⟨vs,p,e1,e2,e3⟩:=he.pairs (P:=X.prog);have nd:(vs.map (·.1)).Nodup:=by
    rw[e1];have:=D.nd;unfold List.Nodup at this ⊢;rw[List.pairwise_map] at this ⊢;exact this.imp fun h z=>h (Sum.inr.inj z)
  refine⟨vs,⟨_,es,ep,I.kIn a _ hl,⟨rfl,rfl,rfl⟩,rfl,fun e h=>e2 e (by simpa using h),p,nd⟩,e1,fun x ws h=>?_⟩;obtain⟨ad,h1,h2⟩:=e3 x ws h;exact⟨ad,zh2 nd h1,h2⟩
end
def tKIn (l:List (Str×List V)) (neg:Bool) (ty:TE):TE:=fun σ H Q=>ty σ H fun y H1=>∃x,y = .str x/\Q (.bl (if neg then !decide (x∈l.map (·.1)) else decide (x∈l.map (·.1)))) H1
def zzr (K:PySem.W.Frag) (l:List (Str×List V)) (ty:TE):TE:=fun σ H Q=>ty σ H fun y H1=>∃x ws,y = .str x/\(x,ws)∈l/\∀ad,KTup K ad ws->Q (.ref ad) H1
section
variable {X:Cx}{a:Addr}{l:List (Str×List V)}{g:Str}{e:Expr}{ty:TE}{p pos:Pos}
theorem zne {vs:List (Key×Value)}(e1:vs.map (·.1)=l.map (fun x=>(Sum.inr x.1:Key))) (x:Str):(valueAt vs (Sum.inr x:Key)).isSome=decide (x∈l.map (·.1)):=by
  have m:(Sum.inr x:Key)∈vs.map (·.1)↔x∈l.map (·.1):=by
    rw[e1];constructor
    · intro h;obtain⟨y,hy,e⟩:=List.mem_map.mp h;exact List.mem_map.mpr ⟨y,hy,Sum.inr.inj e⟩
    · intro h;obtain⟨y,hy,e⟩:=List.mem_map.mp h;exact List.mem_map.mpr ⟨y,hy,congrArg Sum.inr e⟩
  by_cases h:x∈l.map (·.1)
  · rw[decide_eq_true h];obtain⟨y,hy,e⟩:=List.mem_map.mp (m.mpr h);unfold valueAt;rw[Option.isSome_map,List.find?_isSome];exact⟨y,hy,by simpa using e⟩
  · rw[decide_eq_false h,zlu (fun z=>h (m.mp z))];rfl
theorem zlv (D:KDT X.w X.K a l) (hg:Gl X g) (hm:X.mg g=some (.ref a)) (he:PE X e ty) (hdb:(g == ("__debug__" : Str))=false:=by decide):PC X .NotIn e (.Name g p) (tKIn l true ty):=by
  intro pins s σ H Q I h;refine thn (he pins s σ H _ I h) fun iv s1 hq0=>?_
  obtain⟨y,H1,I1,ry,q1⟩:=hq0;obtain⟨x,rfl,q⟩:=q1;obtain⟨vs,dd,e1,_⟩:=D.at I1;refine zdg I1 hg hm ?_ hdb;refine wpAny_notIn_of (zpp (k:=Sum.inr x) ry) D.nm dd.mapOf ?_;rw[zne e1];exact⟨.bl _,H1,I1.tok _,rfl,q⟩
theorem zr3 (D:KDT X.w X.K a l) (hg:Gl X g) (hm:X.mg g=some (.ref a)) (he:PE X e ty) (hs:NoSl e) (hdb:(g == ("__debug__" : Str))=false:=by decide):PE X (.Subscript (.Name g p) e pos) (zzr X.K l ty):=by
  intro pins s σ H Q I h;refine zwe PySem.F.slot_dict_getitem.lookup hs (zdg I hg hm ?_ hdb);refine thn (he pins s σ H _ I h) fun iv s1 hq0=>?_
  obtain⟨y,H1,I1,ry,q1⟩:=hq0;obtain⟨x,ws,rfl,hx,q⟩:=q1;obtain⟨vs,dd,e1,e2⟩:=D.at I1;obtain⟨ad,hv,kt⟩:=e2 x ws hx;exact⟨dd.typeIs,wpAny_getItem_of (zpp (k:=Sum.inr x) ry) dd.mapOf hv ⟨.ref ad,H1,I1.tok _,rfl,q ad kt⟩⟩
end
def DfM (K:PySem.W.Frag) (C:Addr) (qual m:Str) (st:Stmt) (ps:List Str):Prop:=
  ∃(f:Addr) (fd:FuncData),Fun K m qual st f fd/\Meth K C m f/\∀us:List Value,us.length=ps.length->bindArgs fd ⟨us,[]⟩=pure (ps.zip us)
theorem dfm_mk {K:PySem.W.Frag}{C:Addr}{qual m:Str}{st:Stmt}{ps:List Str}{f:Addr}{oc kV dc pm cd ct:Value}{od an:Option Addr}{sl:Array (Option Value)}
    (hb:∀(kV doc pm:Value) (an:Option Addr) (cdv ct:Value) (us:List Value),us.length=ps.length->bindArgs (PySem.W.fnOf m qual (ze7 st) (zh st) (zm st) .none kV doc pm an cdv ct) ⟨us,[]⟩=pure (ps.zip us))
    (a:PySem.W.findIn K (.ref C) m=some (some (.ref f))) (l:K.lookup f=some ⟨oc,od,.func (PySem.W.fnOf m qual (ze7 st) (zh st) (zm st) .none kV dc pm an cd ct),sl⟩) (c:PySem.W.codeIn K cd qual=true) (k:PySem.W.keepIn K (.ref f)=true)
    (i:PySem.W.isFn K (.ref f)=true):DfM K C qual m st ps:=⟨f,_,zvn l c k,⟨a,i,k⟩,fun us hl=>hb kV dc pm an cd ct us hl⟩
def HasM (P:Program) (w:World) (K:PySem.W.Frag) (mg:Str->Option Value) (base:Heap) (C:Addr) (m:Str) (ps:List Str) (k:Nat) (sp:Sp):Prop:=
  ∃(f:Addr) (fd:FuncData),Meth K C m f/\(∀us:List Value,us.length=ps.length->bindArgs fd ⟨us,[]⟩=pure (ps.zip us))/\FnOk P w K mg base CX0 k f fd ps sp
section
variable {P:Program}{w:World}{K:PySem.W.Frag}{mg:Str->Option Value}{base:Heap}
theorem DfM.has {C:Addr}{qual m:Str}{st:Stmt}{N ps:List Str}{k:Nat}{sp:Sp}(D:DfM K C qual m st ps) (S:FnScope N ps (zm st)) (len:∀vs H Q E,sp vs H Q E->vs.length=ps.length)
    (hbody:∀(f:Addr) (cdv:Value) (A:Around) (outer:List Env) (s:Shared) (H:Hp) (vs:List V) (Q:VK) (E:XK),Room k (A.deeper (envOfC qual (zm st) s.heap.objs.size f cdv))->sp vs H Q E->
      ∃t,PSs (cxOf CX0 P w K mg base N qual (zm st) f cdv A outer s H E).nox (zh st) t/\t { nx:=fun _ H'=>Q .non H',rt:=Q } (start N vs) H):HasM P w K mg base C m ps (k+1) sp:=by
  obtain⟨f,fd,F,a,b⟩:=D;obtain⟨oc,od,kV,doc,pm,an,cdv,ct,osl,e,lk,hcd⟩:=id F.ex;exact⟨f,fd,a,b,F.ok S len (hbody f)⟩
end
section
variable {X:Cx}{k:Nat}{ps:List Str}{sp:Sp}{C:Addr}{m x:Str}{p pos apos:Pos}{o e:Expr}{es:List Expr}{t:TA}{ta:TE}
theorem zg3 {pl:Sem Bool}(F:HasM X.prog X.w X.K X.mg X.base C m ps k sp) (c:Cls X.K C) (hr:Room k X.A) (he:PE X o ta) (ha:PA X (e::es) t)
    (hst:starEach (e::es) X.env=(false,eval e X.env)::starEach es X.env:=by rfl) (hpl:(backTo pos (starEach es X.env)).any (·.1)=false:=by rfl)
    (ht:eval (.Call (.Attribute o m apos) (e::es) [] pos) X.env=(do
      let ov ←eval o X.env
      standAt apos.atName
      let (f,first) ←holding [ov] (getMethod ov m pl)
      callWith pos f first (backTo pos (starEach (e::es) X.env)) (backToKw pos (keywordEach [] X.env))):=by rfl) :
    PE X (.Call (.Attribute o m apos) (e::es) [] pos) (zrd C m sp [] E0 ta t):=by
  obtain⟨f,fd,a,b,G⟩:=F;exact zrf he c a G hr (.all b) .nil zt7 ha hst hpl ht
theorem zr4 {pl:Sem Bool}(F:HasM X.prog X.w X.K X.mg X.base C m ps k sp) (c:Cls X.K C) (hr:Room k X.A) (he:PE X o ta)
    (ht:eval (.Call (.Attribute o m apos) [] [] pos) X.env=(do
      let ov ←eval o X.env
      standAt apos.atName
      let (f,first) ←holding [ov] (getMethod ov m pl)
      callWith pos f first (backTo pos (starEach [] X.env)) (backToKw pos (keywordEach [] X.env))):=by rfl) :
    PE X (.Call (.Attribute o m apos) [] [] pos) (zrd C m sp [] E0 ta tNil):=by
  obtain⟨f,fd,a,b,G⟩:=F;exact ztx he c a G hr (.all b) .nil zt7 ht
theorem zr5 (F:HasM X.prog X.w X.K X.mg X.base C "__init__" ps k sp) (hmk:PySem.W.makesIn X.K C=true) (hk:PySem.W.keepIn X.K (.ref C)=true) (hr:Room (k+1) X.A) (hg:Gl X x) (hm:X.mg x=some (.ref C)) (hdb:(x == ("__debug__" : Str))=false:=by decide) :
    PE X (.Call (.Name x p) [] [] pos) (zx5 C sp [] E0 tNil):=by
  obtain⟨f,fd,a,b,G⟩:=F;exact ztz ⟨hmk,a.at_,a.fn,hk⟩ G hr hg hm (.all b) .nil zt7 hdb
end
theorem zon {K:PySem.W.Frag}{b1 b2:Bool}{l1 l2:Addr}{xs ys:List V}{own:List Str}{ix:List Nat}{te:TE}{σ:St}{H1:Hp}{D:Addr}{Q:VK}(f:V->V->V) (hD:H1 D=none)
    (h1:∀H',Same H1 H'->SqV K b1 H' l1 xs) (h2:∀H',Same H1 H'->SqV K b2 H' l2 ys) (hl:xs.length=ys.length) (hz:xs.length<=sizeLine)
    (he:∀(i:Nat) x y,xs[i]? = some x->ys[i]? = some y->∀H' (Q':VK),Same H1 H'->(∀H'',Same H' H''->Q' (f x y) H'')->te (((st0 own ix σ).set 0 (some x)).set 1 (some y)) H' Q')
    (hQ:∀H',Same H1 H'->H' D=some (.lst (List.zipWith f xs ys))->Q (.ref D) H'):zkb own ix (Itz K b1 b2 l1 l2) (gTup K 2 (zq3 (za0 0) (zq3 (za0 1) gNil))) tYes te σ H1 D Q:=by
  refine⟨fun i m σ' zs H'=>m=xs.length-i/\i<=xs.length/\(∀z z',(σ'.set 0 z).set 1 z'=((st0 own ix σ).set 0 z).set 1 z')/\zs=List.zipWith f (xs.take i) (ys.take i)/\Same H1 H'/\H' D=some (.lst zs),
    ⟨xs.length,by simp,Nat.zero_le _,fun _ _=>rfl,by simp,Same.new hD,zc⟩,?_⟩
  rintro i m σ' zs H' ⟨rfl,hi,hσ,rfl,hs,hDy⟩;refine⟨hDy,?_⟩
  by_cases hlt:i<xs.length
  · have hlt2:i<ys.length:=by omega
    have ex:xs[i]? = some xs[i]:=List.getElem?_eq_getElem hlt;have ey:ys[i]? = some ys[i]:=List.getElem?_eq_getElem hlt2;refine .inr ⟨⟨xs,ys,xs[i],ys[i],h1 _ hs,h2 _ hs,ex,ey⟩,?_,fun v H2 y=>?_⟩
    · rw[List.length_zipWith,List.length_take,List.length_take];omega
    · obtain⟨T,x,y,hT,rfl,rfl,hxy⟩:=y;obtain⟨e1,e2⟩:=hxy xs ys (h1 _ hs) (h2 _ hs);have sT:=Same.new (o:=.tup [x,y]) hT;have sA:=hs.trans sT;refine⟨T,[x,y],rfl,SqT.of zc,rfl,x,_,rfl,y,_,rfl,rfl,?_⟩;unfold tYes;dsimp only;rw[if_pos rfl,hσ];refine he i x y e1 e2 _ _ sA fun H'' hs'=>⟨hs' D _ (sT D _ hDy),xs.length-(i+1),by omega,rfl,hlt,fun z z'=>?_,?_,(sA.trans hs').upd hD,zc⟩
      · have:∀(l:St) (a b c d:Option V),((((l.set 0 a).set 1 b).set 0 c).set 1 d)=(l.set 0 c).set 1 d:=fun l a b c d=>by
          cases l with
          | nil=>rfl
          | cons p l=>
            cases l with
            | nil=>rfl
            | cons q l=>rfl
        exact this ..
      · rw[List.take_add_one,List.take_add_one,e1,e2,List.zipWith_append (by simp;omega)];rfl
  · have e:i=xs.length:=by omega
    subst e;refine .inl ⟨⟨xs,ys,h1 _ hs,h2 _ hs,.inl (Nat.le_refl _)⟩,hQ _ hs ?_⟩;rw[List.take_length,hl,List.take_length] at hDy;exact hDy
theorem kdt_mk {K:PySem.W.Frag}{h:Heap}{mg:Str->Option Value}{w:World}(X:K.In h) (G:h.Ns mainGlobals mg) {x:Str}{a:Addr}{es:Array DictEntry}{ep:Nat}{l:List (Str×List V)}(e:PySem.W.nsIn K mainGlobals x=some (some (.ref a)))
    (lk:K.lookup a=some { cls:=.type "dict",data:=.dict es ep }) (ke:KEnts w K es.toList l) (nm:(a == sysModules)=false) (nd:(l.map (·.1)).Nodup):∃a,mg x=some (.ref a)/\KDT w K a l:=
  ⟨a,PySem.W.mg_of X G e,⟨es,ep,lk,ke⟩,nm,nd⟩
section
variable {X:Cx}(K:PySem.W.Frag) (h:X.K=K)
include h
theorem zoo {elts:List Expr}{ct:Nat}{tpos:Pos}{e:Expr}{te:TE}{p pos kpos cpos:Pos}{j:Nat}(n:Nat) (hn:Builtin.SmallTypes.fitsIndex (n:Int)=true) (hg:Gl X "enumerate") (hm:X.mg "enumerate" = none) (he:PE X e te)
    (hs:starEach [e] X.env = [(false,eval e X.env)]:=by rfl) :
    PI X (.Tuple elts ct tpos) (.Call (.Name "enumerate" p) [e] [⟨some "start",.Constant (.int (n:Int)) j cpos,kpos⟩] pos) (zyp K n te):=h▸zwr n hn hg hm he hs
theorem zr6 {elts:List Expr}{ct:Nat}{tpos:Pos}{e1 e2:Expr}{ta:TA}{p pos:Pos}(b1 b2:Bool) (hg:Gl X "zip") (hm:X.mg "zip" = none) (ha:PA X [e1,e2] ta) (hs:starEach [e1,e2] X.env = [(false,eval e1 X.env),(false,eval e2 X.env)]:=by rfl) (hs2:starEach [e2] X.env = [(false,eval e2 X.env)]:=by rfl) :
    PI X (.Tuple elts ct tpos) (.Call (.Name "zip" p) [e1,e2] [] pos) (iZip K b1 b2 ta):=h▸zyo b1 b2 hg hm ha hs hs2
end
theorem zop {K:PySem.W.Frag}{a:Addr}{n:Nat}{xs:List V}{g:TG}{tb:TS}{D:Ends}{σ:St}{H:Hp}(Pv:Nat->St->Hp->Prop) (h0:Pv 0 σ H) (hl:∀i σ H,i<=xs.length->Pv i σ H->SqL K H a xs)
    (hs:∀i x σ H T,xs[i]? = some x->Pv i σ H->H T=none->g (.ref T) σ (upd H T (.tup [.int ((n+i:Nat):Int),x])) fun σ2 H2=>tb { D with nx:=Pv (i+1),ct:=Pv (i+1),bk:=D.nx } σ2 H2) (hd:∀σ H,Pv xs.length σ H->D.nx σ H) :
    ∃W:Nat->Nat->St->Hp->Prop,(∃m,W 0 m σ H)/\∀i m σ H,W i m σ H->
      ((Ite K a n).stop i H/\D.nx σ H)\/((Ite K a n).go i H/\∃N:St->Hp->Prop,(∀σ' H',N σ' H'->∃m',m'<m/\W (i+1) m' σ' H')/\∀x H',(Ite K a n).yld i H x H'->g x σ H' fun σ2 H2=>tb { D with nx:=N,ct:=N,bk:=D.nx } σ2 H2):=by
  refine⟨fun i m σ H=>m=xs.length-i/\i<=xs.length/\Pv i σ H,⟨xs.length,by simp,Nat.zero_le _,h0⟩,?_⟩;rintro i m σ H ⟨rfl,hi,p⟩;have q:=hl i σ H hi p
  by_cases hlt:i<xs.length
  · refine .inr ⟨⟨xs,xs[i],q,by simp[hlt]⟩,Pv (i+1),fun σ' H' p'=>⟨xs.length-(i+1),by omega,rfl,hlt,p'⟩,fun x H' y=>?_⟩;obtain⟨T,z,hT,rfl,rfl,y⟩:=y;exact hs i z σ H T (y xs q) p hT
  · have e:i=xs.length:=by omega
    subst e;exact .inl ⟨⟨xs,q,Nat.le_refl _⟩,hd σ H p⟩
section
variable {X:Cx}
theorem zlw (c:Nat):∀(n:Nat) (a:Array Nat),List.foldl (fun x y=>x++y) a (List.replicate n #[c])=a++(List.replicate n c).toArray
  | 0,a=>by simp
  | n+1,a=>by
    rw[List.replicate_succ,List.foldl_cons,zlw c n,List.replicate_succ];apply Array.ext';simp
theorem zh3:OpR X (binaryOp .Mult) (fun x y H Q=>∃k:Int,x = .str (Str.ofString " ")/\y = .int k/\0<=k/\k<=1000/\Q (.str ⟨(List.replicate k.toNat 32).toArray⟩) H):=by
  intro pins s σ H x y v u Q I rx ry h;obtain⟨k,rfl,rfl,h0,h1,q⟩:=h;obtain⟨t,rfl⟩:=rx;obtain⟨t',rfl⟩:=ry;have e1:(Str.ofString " " : Str)=⟨#[32]⟩:=by decide +kernel
  have el:(Str.ofString " " : Str).length=1:=by decide +kernel
  have hs:(1000:Nat)<=sizeLine:=by decide
  refine PySem.P.mul_str ?_ (fun _ _=>?_) (fun _ _=>?_) ?_
  · rw[decide_eq_false (by omega),decide_eq_false (by omega)];rfl
  · rw[el];have:(1:Int)<=(2 ^ 63-1) / k\/k<1:=by
      by_cases c:k<1
      · exact .inr c
      · exact .inl (by rw[Int.le_ediv_iff_mul_le (by omega)];omega)
    omega
  · rw[el];exact decide_eq_false (by omega)
  · by_cases c0:k<1
    · rw[if_pos c0];have:k.toNat=0:=by omega
      rw[this] at q;exact⟨by decide,⟨.str Str.empty,H,I.tok _,⟨_,rfl⟩,q⟩⟩
    · rw[if_neg c0]
      by_cases c1:(k == 1||(Str.ofString " " : Str).length == 0)=true
      · rw[if_pos c1];have:k.toNat=1:=by
          rw[el] at c1;simp at c1;omega
        rw[this] at q;refine⟨.str (Str.ofString " "),H,I,⟨_,rfl⟩,?_⟩;rw[e1];exact q
      · rw[if_neg c1];have e2:(⟨List.foldl (fun x y=>x++y) #[] (List.replicate k.toNat (Str.ofString " " : Str).cps)⟩:Str)=⟨(List.replicate k.toNat 32).toArray⟩:=by
          rw[e1,zlw];simp
        rw[e2];refine⟨?_,⟨.str _,H,I.tok _,⟨_,rfl⟩,q⟩⟩;show (List.replicate k.toNat 32).toArray.size<=sizeLine;rw[List.size_toArray,List.length_replicate];omega
end
def zwu (n i:Nat) (p:Prop):Prop:=∃m',m'<n-i/\m'=n-(i+1)/\i+1<=n/\p
theorem zzs {n i:Nat}{p:Prop}(h:i<n) (q:p):zwu n i p:=⟨n-(i+1),by omega,rfl,h,q⟩
theorem zyq {α:Type}{xs:List α}{i:Nat}{x:α}(h:xs[i]? = some x):i<xs.length:=(List.getElem?_eq_some_iff.mp h).1
theorem zuh {J:It}{xs:List V}{P:Hp->Prop}{own:List Str}{ix:List Nat}{g:TG}{tc:TT}{te:TE}{σ:St}{H1:Hp}{D:Addr}{Q:VK}(F:Fix J xs P)
    (R:Nat->St->List V->Hp->Prop) (h0:R 0 (st0 own ix σ) [] (upd H1 D (.lst [])))
    (hP:∀i σ' ys H',R i σ' ys H'->P H'/\H' D=some (.lst ys)/\ys.length<=i) (hz:xs.length<=sizeLine)
    (hs:∀i x σ' ys H',xs[i]? = some x->R i σ' ys H'->g x σ' H' fun σ3 H3=>tc σ3 H3 fun b H4=>
      if b=true then te σ3 H4 fun y H5=>H5 D=some (.lst ys)/\zwu xs.length i (R (i+1) σ3 (ys++[y]) (upd H5 D (.lst (ys++[y])))) else H4 D=some (.lst ys)/\zwu xs.length i (R (i+1) σ3 ys H4))
    (hQ:∀σ' ys H',R xs.length σ' ys H'->Q (.ref D) H'):zkb own ix J g tc te σ H1 D Q:=by
  refine⟨fun i m σ' ys H'=>m=xs.length-i/\i<=xs.length/\R i σ' ys H',⟨xs.length,by simp,Nat.zero_le _,h0⟩,?_⟩;rintro i m σ' ys H' ⟨rfl,hi,r⟩;obtain⟨p1,p2,p3⟩:=hP i σ' ys H' r;refine⟨p2,?_⟩
  by_cases hlt:i<xs.length
  · refine .inr ⟨F.go i _ p1 hlt,by omega,fun x H2 y=>?_⟩;obtain⟨e,y'⟩:=F.yld i _ x H2 p1 y;subst e;exact hs i x σ' ys _ (y' hlt) r
  · have e:i=xs.length:=by omega
    subst e;exact .inl ⟨F.stop _ _ p1 (Nat.le_refl _),hQ σ' ys H' r⟩
end L2
namespace Dm
open PySem PySem.NumText
abbrev co (x:Str):List Nat:=x.cps.toList
theorem za8 (x:Str):(co x).length=x.length:=by simp[Str.length]
theorem ze0 {x y:Str}(h:co x=co y):x=y:=by
  cases x with
  | mk a=>cases y with
    | mk b=>
      have:a=b:=by
        have h:a.toList=b.toList:=h;exact Array.toList_inj.mp h
      rw[this]
theorem zyr (l:List Nat):co ⟨l.toArray⟩=l:=by simp[co]
theorem zwv (x:Str) (c:Nat):(0+1<=x.length&&Builtin.Str.subAt x ⟨#[c]⟩ 0)=decide ((co x).head? = some c):=by
  obtain⟨a⟩:=x;obtain⟨l⟩:=a;cases l with
  | nil=>simp[co,Str.length]
  | cons d r=>
    show (decide (0+1<=((d::r).toArray).size)&&(((d::r).toArray.extract 0 (0+1)) == #[c]))=decide ((d::r).head? = some c);have e1:decide (0+1<=((d::r).toArray).size)=true:=decide_eq_true (by simp);rw[e1,Bool.true_and];have e2:((d::r).toArray.extract 0 (0+1)) = #[d]:=by simp
    rw[e2]
    by_cases h:d=c
    · subst h;simp
    · have:¬(d::r).head? = some c:=by simp[h]
      rw[decide_eq_false this];simp[h]
theorem zgq (x:Str) (c:Nat):Txt.startswith x ⟨#[c]⟩=decide ((co x).head? = some c):=zwv x c
def sIx' (n d:Nat):Option Int->Nat
  | none=>d
  | some i=>if i<0 then (max (i+(n:Int)) 0).toNat else min i.toNat n
theorem zzt (l:List Nat) (i k:Nat):((List.range k).map fun m=>i+m).filterMap (fun j=>l[j]?)=(l.drop i).take k:=by
  induction k generalizing i with
  | zero=>simp
  | succ k ih=>
    rw[List.range_succ_eq_map,List.map_cons,List.map_map];have e:((List.range k).map ((fun m=>i+m) ∘ Nat.succ))=(List.range k).map fun m=>(i+1)+m:=by
      apply List.map_congr_left;intro a _;simp only [Function.comp,Nat.succ_eq_add_one];omega
    rw[e,List.filterMap_cons];simp only [Nat.add_zero];rw[ih (i+1)];cases h:l[i]? with
    | none=>
      have hl:l.length<=i:=List.getElem?_eq_none_iff.mp h;rw[List.drop_eq_nil_of_le hl,List.drop_eq_nil_of_le (by omega)];simp
    | some v=>
      obtain⟨hi,e⟩:=List.getElem?_eq_some_iff.mp h;rw[List.drop_eq_getElem_cons hi,List.take_succ_cons,e]
def zui (n:Nat) (d:Int):Option Int->Int
  | none=>d
  | some i=>max 0 (min (if i<0 then i+(n:Int) else i) n)
theorem zoq (n d:Nat) (hd:d<=n) (o:Option Int):zui n d o=((sIx' n d o:Nat):Int):=by
  cases o with
  | none=>rfl
  | some i=>simp only [sIx',zui];split<;>omega
theorem zww (n d:Nat) (hd:d<=n) (o:Option Int):sIx' n d o<=n:=by
  cases o with
  | none=>exact hd
  | some i=>simp only [sIx'];split<;>omega
theorem zji (lo hi:Option Int) (n:Nat):Builtin.Str.strSliceIndices lo hi 1 n=(List.range (sIx' n n hi-sIx' n 0 lo)).map fun m=>sIx' n 0 lo+m:=by
  have:Builtin.Str.strSliceIndices lo hi 1 n=sliceRange (zui n 0 lo) (zui n n hi) 1:=by
    cases lo<;>cases hi<;>rfl
  rw[this,show (0:Int)=((0:Nat):Int) from rfl,zoq n 0 (Nat.zero_le _),zoq n n (Nat.le_refl _)];unfold sliceRange;simp only [show (1:Int) > 0 by decide,if_true,Int.one_mul,Int.ediv_one];have ec:(if ((sIx' n 0 lo:Nat):Int)<((sIx' n n hi:Nat):Int) then ((sIx' n n hi:Nat):Int)-((sIx' n 0 lo:Nat):Int)+1-1 else 0).toNat=sIx' n n hi-sIx' n 0 lo:=by
    split<;>omega
  rw[ec];apply List.map_congr_left;intro a _;omega
theorem zor (x:Str) (lo hi:Option Int):co (Txt.slice x lo hi)=((co x).drop (sIx' x.length 0 lo)).take (sIx' x.length x.length hi-sIx' x.length 0 lo):=by
  have key:(Builtin.Str.strSliceIndices lo hi 1 x.length).filterMap (x.cps[·]?)=((co x).drop (sIx' x.length 0 lo)).take (sIx' x.length x.length hi-sIx' x.length 0 lo):=by
    rw[zji,←zzt (co x)]
    congr 1
    funext j;simp[co]
  unfold Txt.slice;split
  · rename_i h;have hl:(Builtin.Str.strSliceIndices lo hi 1 x.length).length=x.length:=by
      simpa using h
    rw[zji,List.length_map,List.length_range] at hl;have h1:=zww x.length x.length (Nat.le_refl _) hi;have h2:sIx' x.length 0 lo=0\/x.length=0:=by omega
    have h3:=za8 x;rcases h2 with h2 | h2
    · rw[hl,h2,List.drop_zero,List.take_of_length_le (by omega)]
    · have:co x = []:=List.length_eq_zero_iff.mp (by omega);rw[this];simp
  · rw[zyr];exact key
theorem znf (x:Str):co (Txt.slice x (some 1) none)=(co x).drop 1:=by
  rw[zor];have h:=za8 x;simp only [sIx'];rw[if_neg (by decide)];cases e:co x with
  | nil=>simp
  | cons c r=>
    rw[e,List.length_cons] at h;have e1:min (1:Int).toNat x.length=1:=by
      show min 1 x.length=1;omega
    rw[e1,List.take_of_length_le (by simp;omega)]
def NAMES:Str:="abcdefghijklmnopqrstuvwxyz0123456789-"
def FIGS:Str:="0123456789"
def zkk (l:List Nat) (sg:Str):Bool:=l.all fun c=>decide (c∈co sg)
def zap (x:Str):Bool:=decide (1<=x.length)&&decide (x.length<=12)&&zkk (co x) NAMES
def figs:List Nat->List Nat
  | []=>[]
  | c::r=>if c=45 then r else c::r
theorem zfw (r:List Nat):figs (45::r)=r:=by unfold figs;exact if_pos rfl
theorem zfx {c:Nat}(r:List Nat) (h:c≠45):figs (c::r)=c::r:=by unfold figs;exact if_neg h
def ZERO:Str:="0"
def zc6 (x:Str):Bool:=decide (1<=(figs (co x)).length)&&decide ((figs (co x)).length<=60)&&zkk (figs (co x)) FIGS && !(decide ((figs (co x)).head? = some 48) && !decide (x=ZERO))
def numI (x:Str):Int:=if (co x).head? = some 45 then 0-((digitsVal (figs (co x)):Nat):Int) else ((digitsVal (figs (co x)):Nat):Int)
theorem zos (c:Nat):c∈co FIGS↔48<=c/\c<=57:=by
  have e:co FIGS=List.range' 48 10:=by decide +kernel
  rw[e,List.mem_range'_1];exact⟨fun h=>⟨h.1,Nat.le_of_lt_succ h.2⟩,fun h=>⟨h.1,Nat.lt_succ_of_le h.2⟩⟩
theorem zlx {l:List Nat}(h:zkk l FIGS=true):AllDigits l:=fun c hc=>by
  have:=List.all_eq_true.mp h c hc;exact (zos c).mp (of_decide_eq_true this)
theorem ze1 {l:List Nat}(h:AllDigits l):zkk l FIGS=true:=List.all_eq_true.mpr fun c hc=>decide_eq_true ((zos c).mpr (h c hc))
theorem zuj {x:Str}(h:zc6 x=true):intText? x=some (numI x)/\x.length<=61:=by
  unfold zc6 at h;simp only [Bool.and_eq_true,decide_eq_true_eq] at h;obtain⟨⟨⟨h1,h2⟩,h3⟩,_⟩:=h;have hd:=zlx h3;have hl:=za8 x;unfold numI;cases e:co x with
  | nil=>rw[e] at h1;simp[figs] at h1
  | cons c r=>
    rw[e] at h1 h2 hd hl;rw[List.length_cons] at hl
    by_cases hc:c=45
    · subst hc;rw[zfw] at h1 h2 hd;rw[zfw,if_pos (by rfl),Int.zero_sub];exact⟨intText_neg e hd (by intro z;rw[z] at h1;simp at h1) (by omega),by omega⟩
    · rw[zfx r hc] at h1 h2 hd;rw[zfx r hc,if_neg (by simp[hc])];rw[List.length_cons] at h2;have hne:x.cps.toList≠[]:=by
        show co x≠[];rw[e];simp
      have hd':AllDigits x.cps.toList:=by
        show AllDigits (co x);rw[e];exact hd
      have q:=intText_digits hd' hne (by omega);have q':intText? x=some ((digitsVal (co x):Nat):Int):=q;rw[e] at q';exact⟨q',by omega⟩
def dg (m:Nat):List Nat:=(Nat.toDigits 10 m).map Char.toNat
theorem zh4 (t:String):co (Str.ofString t)=t.toList.map Char.toNat:=by rw[Str.ofString_eq_toList]
theorem zgr (m:Nat):co (Str.ofString (toString ((m:Nat):Int)))=dg m:=by
  rw[zh4];show (Nat.repr m).toList.map Char.toNat=_;rw[Nat.toList_repr];rfl
theorem zjj (m:Nat):co (Str.ofString (toString (Int.negSucc m)))=45::dg (m+1):=by
  rw[zh4];show ("-" ++ Nat.repr (m+1)).toList.map Char.toNat=_;rw[String.toList_append,List.map_append,Nat.toList_repr]
  try rfl
theorem zjk:∀d:Nat,d<10->(Nat.digitChar d).toNat=d+48:=by decide
theorem zwx {m:Nat}(h:m<10):dg m = [m+48]:=by
  unfold dg;rw[Nat.toDigits_of_lt_base h,List.map_cons,List.map_nil,zjk m h]
theorem zwy {m:Nat}(h:10<=m):dg m=dg (m / 10)++[m%10+48]:=by
  have hm:m%10<10:=Nat.mod_lt m (by decide);unfold dg;rw[Nat.toDigits_of_base_le (by decide) h,List.map_append,List.map_cons,List.map_nil,zjk _ hm]
theorem zvp (m:Nat):digitsVal (dg m)=m:=by
  induction m using Nat.strongRecOn with
  | _ m ih=>
    by_cases h:m<10
    · rw[zwx h];show 0 * 10+(m+48-48)=m;omega
    · rw[zwy (by omega)];have:=ih (m / 10) (by omega);unfold digitsVal at this ⊢;rw[List.foldl_append,this];show m / 10 * 10+(m%10+48-48)=m;omega
theorem zr7 (m:Nat):AllDigits (dg m):=by
  induction m using Nat.strongRecOn with
  | _ m ih=>
    by_cases h:m<10
    · rw[zwx h];intro c hc;rw[List.mem_singleton] at hc;omega
    · rw[zwy (by omega)];intro c hc;rcases List.mem_append.mp hc with hc | hc
      · exact ih (m / 10) (by omega) c hc
      · rw[List.mem_singleton] at hc;omega
theorem zr8 {m k:Nat}(hk:1<=k) (h:m<10 ^ k):(dg m).length<=k:=by
  unfold dg;rw[List.length_map];exact (Nat.length_toDigits_le_iff (by decide) hk).mpr h
theorem zr9 (m:Nat):1<=(dg m).length:=by
  unfold dg;rw[List.length_map];exact Nat.length_toDigits_pos
theorem zsa (m:Nat) (h:0<m):∃c r,dg m=c::r/\49<=c/\c<=57:=by
  induction m using Nat.strongRecOn with
  | _ m ih=>
    by_cases h1:m<10
    · exact⟨m+48,[],zwx h1,by omega,by omega⟩
    · obtain⟨c,r,e,h2,h3⟩:=ih (m / 10) (by omega) (by omega);exact⟨c,r++[m%10+48],by rw[zwy (by omega),e];rfl,h2,h3⟩
theorem zgs (n:Int) (h1:n.natAbs<10 ^ 60):zc6 (Str.ofString (toString n))=true/\numI (Str.ofString (toString n))=n/\(Str.ofString (toString n)).length<=61:=by
  have hl:=za8 (Str.ofString (toString n));unfold zc6 numI;cases n with
  | ofNat m=>
    have e:co (Str.ofString (toString (Int.ofNat m)))=dg m:=zgr m;have h1:m<10 ^ 60:=h1;have p:=zr8 (by decide) h1;have p1:=zr9 m;rw[e] at hl
    by_cases hm:m=0
    · subst hm;have z:Str.ofString (toString (Int.ofNat 0))=ZERO:=by decide +kernel
      rw[z];refine⟨by decide +kernel,by decide +kernel,by decide +kernel⟩
    · obtain⟨c,r,ed,h2,h3⟩:=zsa m (by omega);have hc:c≠45:=by omega
      have ef:figs (dg m)=dg m:=by rw[ed,zfx r hc]
      rw[e,ef];refine⟨?_,?_,by omega⟩
      · rw[decide_eq_true p1,decide_eq_true p,ze1 (zr7 m),ed];have:¬(c::r).head? = some 48:=by
          intro z;have:c=48:=Option.some.inj z;omega
        rw[decide_eq_false this];rfl
      · rw[zvp,if_neg]
        · rfl
        · rw[ed];intro z;have:c=45:=Option.some.inj z;omega
  | negSucc m=>
    have e:co (Str.ofString (toString (Int.negSucc m)))=45::dg (m+1):=zjj m;have h1:m+1<10 ^ 60:=h1;have p:=zr8 (by decide) h1;have p1:=zr9 (m+1);rw[e,List.length_cons] at hl;rw[e,zfw];obtain⟨c,r,ed,h2,h3⟩:=zsa (m+1) (by omega);refine⟨?_,?_,by omega⟩
    · rw[decide_eq_true p1,decide_eq_true p,ze1 (zr7 (m+1)),ed];have:¬(c::r).head? = some 48:=by
        intro z;have:c=48:=Option.some.inj z;omega
      rw[decide_eq_false this];rfl
    · rw[zvp,if_pos (by rfl)];omega
def zng (ns:List Int) (i:Int):Int:=ns.getD i.toNat 0
def pt (c k m:Int):Int:=(c%99991+17) * (48271+7919 * k)%65537 * (k+3)%8191%m
theorem ze9 (c k m:Int) (h:0<m):0<=pt c k m/\pt c k m<m:=⟨Int.emod_nonneg _ (by omega),Int.emod_lt_of_pos _ h⟩
def nmI (one at':Int) (k j:Nat):Int:=if (j:Int)=at' then pt one ((j:Int)+2) 37+k else pt one ((j:Int)+2) 37
def nmN (one at':Int) (k j:Nat):Nat:=(co NAMES).getD (nmI one at' k j%37).toNat 0
def nmC (one at':Int) (k size:Nat):List Nat:=(List.range size).map (nmN one at' k)
theorem zsb:(co NAMES).length=37:=by decide +kernel
theorem zuk:(co NAMES).Nodup:=by decide +kernel
theorem ix37 (z:Int):0<=z%37/\(z%37).toNat<(co NAMES).length:=by
  have h1:=Int.emod_nonneg z (show (37:Int)≠0 by decide);have h2:=Int.emod_lt_of_pos z (show (0:Int)<37 by decide);rw[zsb];omega
theorem zwz (one at':Int) (k j:Nat):nmN one at' k j∈co NAMES:=by
  unfold nmN;have h:=(ix37 (nmI one at' k j)).2;rw[List.getD_eq_getElem?_getD,List.getElem?_eq_getElem h];exact List.getElem_mem h
theorem zsc {i j:Nat}(hi:i<(co NAMES).length) (hj:j<(co NAMES).length) (h:(co NAMES).getD i 0=(co NAMES).getD j 0):i=j:=by
  rw[List.getD_eq_getElem?_getD,List.getD_eq_getElem?_getD,List.getElem?_eq_getElem hi,List.getElem?_eq_getElem hj] at h;have h:(co NAMES)[i]=(co NAMES)[j]:=h;exact (List.getElem_inj zuk).mp h
theorem zfa (one at':Int) (k size:Nat):(nmC one at' k size).length=size:=by unfold nmC;simp
theorem zsd {one at':Int}{k size j:Nat}(h:j<size):(nmC one at' k size)[j]? = some (nmN one at' k j):=by
  unfold nmC;rw[List.getElem?_map,List.getElem?_range h];rfl
theorem zw0 {one at':Int}{k k' size:Nat}(h0:0<=at') (h1:at'<size) (hk:k<9) (hk':k'<9) (h:nmC one at' k size=nmC one at' k' size):k=k':=by
  have hj:at'.toNat<size:=by omega
  have e1:=zsd (one:=one) (at':=at') (k:=k) hj;have e2:=zsd (one:=one) (at':=at') (k:=k') hj;rw[h,e2] at e1;have e:nmN one at' k' at'.toNat=nmN one at' k at'.toNat:=Option.some.inj e1;unfold nmN at e;have q:=zsc (ix37 _).2 (ix37 _).2 e;have a1:=(ix37 (nmI one at' k' at'.toNat)).1;have a2:=(ix37 (nmI one at' k at'.toNat)).1;have q2:nmI one at' k' at'.toNat%37=nmI one at' k at'.toNat%37:=by omega
  unfold nmI at q2;rw[if_pos (Int.toNat_of_nonneg h0),if_pos (Int.toNat_of_nonneg h0)] at q2;omega
def zam (l:List Nat):Str:=⟨l.toArray⟩
theorem zad (l:List Nat):co (zam l)=l:=zyr l
theorem zly {l m:List Nat}(h:zam l=zam m):l=m:=by
  have:=congrArg co h
  rwa [zad,zad] at this
theorem zot {x:Str}(h1:1<=(co x).length) (h2:(co x).length<=12) (h3:∀c∈co x,c∈co NAMES):zap x=true:=by
  rw[za8] at h1 h2;unfold zap;rw[decide_eq_true h1,decide_eq_true h2];show zkk (co x) NAMES=true;exact List.all_eq_true.mpr fun c hc=>decide_eq_true (h3 c hc)
theorem zse {one at':Int}{k size c:Nat}(h:c∈nmC one at' k size):c∈co NAMES:=by
  obtain⟨j,_,rfl⟩:=List.mem_map.mp h;exact zwz ..
def zou (one at':Int) (size:Nat):List Str:=(List.range 9).map fun k=>zam (nmC one at' k size)
def zlz (one at':Int) (size:Nat):List Str:=(List.range 9).map fun k=>zam ((nmC one at' 0 size).take (size-k))
theorem zd1 {f:Nat->Str}{n:Nat}(h:∀i j,i<n->j<n->f i=f j->i=j):((List.range n).map f).Nodup:=by
  unfold List.Nodup;rw[List.pairwise_map];refine List.Pairwise.imp_of_mem (R:=(·≠·)) (fun {a b} ha hb hab e=>?_) List.nodup_range;exact hab (h a b (List.mem_range.mp ha) (List.mem_range.mp hb) e)
theorem zsf {one at':Int}{size:Nat}(h0:0<=at') (h1:at'<size) (h2:1<=size) (h3:size<=12):(zou one at' size).Nodup/\(∀x∈zou one at' size,zap x=true)/\(zou one at' size).length=9:=by
  refine⟨zd1 fun i j hi hj e=>zw0 h0 h1 hi hj (zly e),fun x hx=>?_,by unfold zou;simp⟩;obtain⟨k,_,rfl⟩:=List.mem_map.mp hx;exact zot (by rw[zad,zfa];exact h2) (by rw[zad,zfa];exact h3) fun c hc=>by rw[zad] at hc;exact zse hc
theorem zsg {one at':Int}{size:Nat}(h2:9<=size) (h3:size<=12):(zlz one at' size).Nodup/\(∀x∈zlz one at' size,zap x=true)/\(zlz one at' size).length=9:=by
  refine⟨zd1 fun i j hi hj e=>?_,fun x hx=>?_,by unfold zlz;simp⟩
  · have e:=congrArg List.length (zly e);rw[List.length_take,List.length_take,zfa] at e;omega
  · obtain⟨k,hk,rfl⟩:=List.mem_map.mp hx;have hk:=List.mem_range.mp hk;refine zot ?_ ?_ fun c hc=>?_
    · rw[zad,List.length_take,zfa];omega
    · rw[zad,List.length_take,zfa];omega
    · rw[zad] at hc;exact zse (List.mem_of_mem_take hc)
theorem zys:(Str.ofString "" : Str)=zam []:=by decide +kernel
theorem zl0 (l m:List Nat):zam l++zam m=zam (l++m):=by
  apply ze0;show (l.toArray++m.toArray).toList=(l++m).toArray.toList;simp
theorem zb4 (l:List Nat):(zam l).length=l.length:=by show l.toArray.size=_;simp
theorem zpu (l:List Nat) (z:Int) (h0:0<=z) (h1:z<=l.length):Txt.slice (zam l) none (some z)=zam (l.take z.toNat):=by
  apply ze0;rw[zor,zad,zad,zb4];simp only [sIx'];rw[if_neg (by omega),List.drop_zero,Nat.sub_zero]
  congr 1
  omega
end Dm
namespace Dm
open PySem PySem.NumText L2
def zgt:List Str:=["over","cuts","fills","same"]
def zao (z:Int):Prop:=z.natAbs<10 ^ 60
inductive TieOk (us:List Str):List V->Prop where
  | plain {kd x y:Str}(hk:kd∈zgt) (hx:x∈us) (hy:y∈us):TieOk us [.str kd,.str x,.str y]
  | after {x y:Str}{n:Int}(hx:x∈us) (hy:y∈us) (h0:0<=n) (h1:zao n):TieOk us [.str "after",.str x,.str y,.int n]
inductive FindOk (us:List Str) (fs:List (List V)):List V->Prop where
  | mk {nm x:Str}{lo hi:Int}(hn:zap nm=true) (hx:x∈us) (hl:lo<=hi) (h1:zao lo) (h2:zao hi) (hf:∀f∈fs,f.head?≠some (.str nm)):FindOk us fs [.str nm,.str x,.int lo,.int hi]
inductive Told:List Str->List (List V)->List (List V)->List (List V)->Prop where
  | nil:Told [] [] [] []
  | unit {us:List Str}{ts fs rs:List (List V)}{x:Str}(t:Told us ts fs rs) (hn:zap x=true) (hx:x ∉ us):Told (us++[x]) ts fs (rs++[[.str "unit",.str x]])
  | tie {us:List Str}{ts fs rs:List (List V)}{ws:List V}(t:Told us ts fs rs) (h:TieOk us ws) (hn:ws ∉ ts):Told us (ts++[ws]) fs (rs++[ws])
  | find {us:List Str}{ts fs rs:List (List V)}{ws:List V}(t:Told us ts fs rs) (h:FindOk us fs ws):Told us ts (fs++[ws]) (rs++[.str "find" :: ws])
theorem TieOk.mono {us us':List Str}{ws:List V}(h:TieOk us ws) (s:∀x∈us,x∈us'):TieOk us' ws:=by
  cases h with
  | plain hk hx hy=>exact .plain hk (s _ hx) (s _ hy)
  | after hx hy h0 h1=>exact .after (s _ hx) (s _ hy) h0 h1
theorem zcb {x:Str}(h:zap x=true):x.length<=12:=by
  unfold zap at h;simp only [Bool.and_eq_true,decide_eq_true_eq] at h;exact h.1.2
theorem Told.names {us:List Str}{ts fs rs:List (List V)}(t:Told us ts fs rs):us.Nodup/\∀x∈us,zap x=true:=by
  induction t with
  | nil=>exact⟨List.nodup_nil,fun x h=>nomatch h⟩
  | unit t hn hx ih=>
    refine⟨List.nodup_append.mpr ⟨ih.1,by simp,fun a ha b hb=>?_⟩,fun x h=>?_⟩
    · rw[List.mem_singleton] at hb;subst hb;exact fun z=>hx (z▸ha)
    · rcases List.mem_append.mp h with h | h
      · exact ih.2 x h
      · rw[List.mem_singleton] at h;subst h;exact hn
  | tie t h hn ih=>exact ih
  | find t h ih=>exact ih
theorem Told.ties {us:List Str}{ts fs rs:List (List V)}(t:Told us ts fs rs):∀ws∈ts,TieOk us ws:=by
  induction t with
  | nil=>exact fun _ h=>nomatch h
  | unit t hn hx ih=>exact fun ws h=>(ih ws h).mono fun x hx=>List.mem_append_left _ hx
  | tie t h hn ih=>
    intro ws hw;rcases List.mem_append.mp hw with hw | hw
    · exact ih ws hw
    · rw[List.mem_singleton] at hw;subst hw;exact h
  | find t h ih=>exact ih
def FindWs (us:List Str) (ws:List V):Prop:=∃nm x lo hi,ws = [.str nm,.str x,.int lo,.int hi]/\zap nm=true/\x∈us/\lo<=hi/\zao lo/\zao hi
theorem Told.finds {us:List Str}{ts fs rs:List (List V)}(t:Told us ts fs rs):∀ws∈fs,FindWs us ws:=by
  induction t with
  | nil=>exact fun _ h=>nomatch h
  | unit t hn hx ih=>
    intro ws h;obtain⟨nm,x,lo,hi,e,a,b,c⟩:=ih ws h;exact⟨nm,x,lo,hi,e,a,List.mem_append_left _ b,c⟩
  | tie t h hn ih=>exact ih
  | find t h ih=>
    intro ws hw;rcases List.mem_append.mp hw with hw | hw
    · exact ih ws hw
    · rw[List.mem_singleton] at hw;subst hw;cases h with
      | mk hn hx hl h1 h2 hf=>exact⟨_,_,_,_,rfl,hn,hx,hl,h1,h2⟩
theorem zul:∀k∈zgt,k.length<=100:=by decide +kernel
theorem TieOk.words {us:List Str}{ws:List V}(h:TieOk us ws) (hu:∀x∈us,zap x=true):(∀v∈ws,Wd v)/\ws.length<=5/\∃x r,ws = .str x::r:=by
  have nm:∀x∈us,Wd (.str x):=fun x hx=>.inl ⟨x,rfl,Nat.le_trans (zcb (hu x hx)) (by decide)⟩
  cases h with
  | plain hk hx hy=>
    refine⟨fun v hv=>?_,by simp,_,_,rfl⟩;simp only [List.mem_cons,List.not_mem_nil,or_false] at hv;rcases hv with rfl | rfl | rfl
    · exact .inl ⟨_,rfl,zul _ hk⟩
    · exact nm _ hx
    · exact nm _ hy
  | after hx hy h0 h1=>
    refine⟨fun v hv=>?_,by simp,_,_,rfl⟩;simp only [List.mem_cons,List.not_mem_nil,or_false] at hv;rcases hv with rfl | rfl | rfl | rfl
    · exact .inl ⟨_,rfl,by decide +kernel⟩
    · exact nm _ hx
    · exact nm _ hy
    · exact .inr ⟨_,rfl,h1⟩
theorem FindWs.words {us:List Str}{ws:List V}(h:FindWs us ws) (hu:∀x∈us,zap x=true):(∀v∈ws,Wd v)/\ws.length=4:=by
  obtain⟨nm,x,lo,hi,rfl,hn,hx,hl,h1,h2⟩:=h;refine⟨fun v hv=>?_,rfl⟩;simp only [List.mem_cons,List.not_mem_nil,or_false] at hv;rcases hv with rfl | rfl | rfl | rfl
  · exact .inl ⟨_,rfl,Nat.le_trans (zcb hn) (by decide)⟩
  · exact .inl ⟨_,rfl,Nat.le_trans (zcb (hu x hx)) (by decide)⟩
  · exact .inr ⟨_,rfl,h1⟩
  · exact .inr ⟨_,rfl,h2⟩
abbrev Tups (H:Hp):List Addr->List (List V)->Prop:=Paired fun a ws=>H a=some (.tup ws)
theorem Tups.same {H H':Hp}(s:Same H H'):∀{as:List Addr}{wss:List (List V)},Tups H as wss->Tups H' as wss
  | _,_,.nil=>.nil
  | _,_,.cons h t=>.cons (s _ _ h) (Tups.same s t)
theorem Tups.get {H:Hp}:∀{as:List Addr}{wss:List (List V)}{a:Addr},Tups H as wss->a∈as->∃ws∈wss,H a=some (.tup ws)
  | _,_,_,.cons h t,ha=>by
    rcases List.mem_cons.mp ha with ha | ha
    · subst ha;exact⟨_,List.mem_cons_self ..,h⟩
    · obtain⟨ws,hw,e⟩:=Tups.get t ha;exact⟨ws,List.mem_cons_of_mem _ hw,e⟩
theorem Tups.snoc {H:Hp}{a:Addr}{ws:List V}{as:List Addr}{wss:List (List V)}(t:Tups H as wss) (h:H a=some (.tup ws)):Tups H (as++[a]) (wss++[ws]):=Paired.snoc t h
theorem Tups.stay {H H':Hp}(s:∀b xs,H b=some (.tup xs)->H' b=some (.tup xs)):∀{as:List Addr}{wss:List (List V)},Tups H as wss->Tups H' as wss
  | _,_,.nil=>.nil
  | _,_,.cons h t=>.cons (s _ _ h) (Tups.stay s t)
theorem zdi {H:Hp}{p:Addr}{xs ys:List V}(h:H p=some (.lst xs)):∀b zs,H b=some (.tup zs)->upd H p (.lst ys) b=some (.tup zs):=fun b zs e=>by
  rw[zv (zek e h (by intro z;cases z))];exact e
theorem zyt {x y:V}(hx:Wd x) (hy:Wd y):eqV x y=decide (x=y):=by
  rcases hx with ⟨a,rfl,_⟩ | ⟨a,rfl,_⟩<;>rcases hy with ⟨b,rfl,_⟩ | ⟨b,rfl,_⟩
  · show (a == b)=_
    by_cases h:a=b
    · subst h;simp
    · rw[decide_eq_false (fun z=>h (V.str.inj z))];exact beq_eq_false_iff_ne.mpr h
  · exact (decide_eq_false (fun z=>nomatch z)).symm
  · exact (decide_eq_false (fun z=>nomatch z)).symm
  · show (a == b)=_
    by_cases h:a=b
    · subst h;simp
    · rw[decide_eq_false (fun z=>h (V.int.inj z))];exact beq_eq_false_iff_ne.mpr h
theorem zvq {xs ys:List V}(hx:∀v∈xs,Wd v) (hy:∀v∈ys,Wd v):eqL xs ys=decide (xs=ys):=by
  by_cases h:xs=ys
  · subst h;rw[zfs fun x q=>(hx x q).flat,decide_eq_true rfl]
  · rw[decide_eq_false h];rw[←Bool.not_eq_true];intro q;unfold eqL at q;rw[Bool.and_eq_true] at q;obtain⟨q1,q2⟩:=q;have q2:xs.length=ys.length:=by simpa using q2
    apply h;apply List.ext_getElem q2;intro i h1 h2;have:=List.all_eq_true.mp q1 i (List.mem_range.mpr (by omega));rw[List.getElem?_eq_getElem h1,List.getElem?_eq_getElem h2] at this;have e:eqV xs[i] ys[i]=true:=this;rw[zyt (hx _ (List.getElem_mem h1)) (hy _ (List.getElem_mem h2))] at e;exact of_decide_eq_true e
theorem Tups.at {H:Hp}:∀{as:List Addr}{wss:List (List V)}{i:Nat}{a:Addr},Tups H as wss->as[i]? = some a->∃ws,wss[i]? = some ws/\H a=some (.tup ws)
  | _,_,_,_,.nil,e=>by simp at e
  | _,_,0,_,.cons h _,e=>by simp at e;subst e;exact⟨_,rfl,h⟩
  | _,_,i+1,_,.cons _ t,e=>by
    obtain⟨ws,q,r⟩:=Tups.at (i:=i) t (by simpa using e);exact⟨ws,by simpa using q,r⟩
theorem Tups.len {H:Hp}{as:List Addr}{wss:List (List V)}(t:Tups H as wss):as.length=wss.length:=Paired.length t
theorem Tups.any {H:Hp}{as:List Addr}{wss:List (List V)}{ws:List V}(t:Tups H as wss):∀(e:V->Bool),(∀a vs,vs∈wss->H a=some (.tup vs)->e (.ref a)=decide (vs=ws))->(as.map V.ref).any e=decide (ws∈wss):=by
  intro e he
  induction t with
  | nil=>simp
  | @cons a vs as wss h t ih=>
    rw[List.map_cons,List.any_cons,he a vs (List.mem_cons_self ..) h,ih fun b us q r=>he b us (List.mem_cons_of_mem _ q) r]
    by_cases q:vs=ws
    · subst q;simp
    · rw[decide_eq_false q,Bool.false_or];have:ws∈vs::wss↔ws∈wss:=by
        rw[List.mem_cons];constructor
        · rintro (z | z)
          · exact absurd z.symm q
          · exact z
        · exact .inr
      exact decide_eq_decide.mpr this.symm
def tupE (H:Hp) (ws:List V):V->Bool
  | .ref a=>match H a with
    | some (.tup vs)=>decide (vs=ws)
    | _=>false
  | _=>false
theorem zsh {H:Hp}{ws vs:List V}{a:Addr}(h:H a=some (.tup vs)):tupE H ws (.ref a)=decide (vs=ws):=by
  show (match H a with | some (.tup vs)=>decide (vs=ws) | _=>false)=_;rw[h]
theorem Tups.anyE {H:Hp}{as:List Addr}{wss:List (List V)}{ws:List V}(t:Tups H as wss):(as.map V.ref).any (tupE H ws)=decide (ws∈wss):=t.any _ fun _ _ _ h=>zsh h
theorem Tups.deq {K:PySem.W.Frag}{H:Hp}{n:Nat}{as:List Addr}{wss:List (List V)}{ws:List V}{p:Addr}(t:Tups H as wss) (hw:∀vs∈wss,∀v∈vs,Wd v) (hp:H p=some (.tup ws)) (hv:∀v∈ws,Wd v) :
    ∀z∈as.map V.ref,DEq K H (n+1) z (.ref p) (tupE H ws z):=by
  intro z hz;obtain⟨a,ha,rfl⟩:=List.mem_map.mp hz;obtain⟨vs,hvs,e⟩:=t.get ha;rw[zsh e,←zvq (hw vs hvs) hv];exact DEq.flatT (SqT.of e) (SqT.of hp) (fun x q=>(hw vs hvs x q).flat) fun x q=>(hv x q).flat
def jc (s:List Nat):List (List Nat)->List Nat
  | []=>[]
  | [x]=>x
  | x::y::r=>x++s++jc s (y::r)
theorem zsi (s y:List Nat):∀(x:List Nat) (r:List (List Nat)),jc s (x::r++[y])=jc s (x::r)++s++y
  | x,[]=>rfl
  | x,z::r=>by
    show x++s++jc s (z::r++[y])=(x++s++jc s (z::r))++s++y;rw[zsi s y z r];simp only [List.append_assoc]
theorem zjl (s:List Nat):∀l:List (List Nat),(jc s l).length<=(l.map List.length).sum+l.length * s.length
  | []=>Nat.zero_le _
  | [x]=>by simp[jc]
  | x::y::r=>by
    have:=zjl s (y::r);show (x++s++jc s (y::r)).length<=_;rw[List.length_append,List.length_append,List.map_cons,List.sum_cons,List.length_cons,Nat.succ_mul];omega
theorem zb5 (x y:Str):co (x++y)=co x++co y:=by
  show (x.cps++y.cps).toList=_;simp
theorem zhl (sep:Str):∀l:List Str,co (Txt.join sep l)=jc (co sep) (l.map co):=by
  have go:∀l:List Str,co (Str.join sep l)=jc (co sep) (l.map co):=by
    intro l
    induction l with
    | nil=>rfl
    | cons x r ih=>
      cases r with
      | nil=>rfl
      | cons y r=>
        show co (x++sep++Str.join sep (y::r))=co x++co sep++jc (co sep) ((y::r).map co);rw[zb5,zb5,ih]
  intro l;cases l with
  | nil=>rfl
  | cons x r=>
    show co (Builtin.Str.glued sep (x::r))=_;rw[StrLaws.glued_eq_join];exact go _
theorem zeh (sep:Str) (l:List Str):Txt.join sep l=zam (jc (co sep) (l.map co)):=ze0 (by rw[zhl,zad])
theorem zum:(Str.ofString " " : Str)=zam [32]:=by decide +kernel
theorem znh:(Str.ofString "\n" : Str)=zam [10]:=by decide +kernel
def zh5 (ws:List V):List Nat:=jc [32] (ws.map fun v=>co (zab v))
def zcr (ws:List V):Str:=zam (zh5 ws)
theorem zfy {v:V}(h:Wd v):(co (zab v)).length<=100:=by
  rw[za8];rcases h with ⟨x,rfl,hx⟩ | ⟨i,rfl,hi⟩
  · exact hx
  · exact Nat.le_trans (zgs i hi).2.2 (by decide)
theorem zh6 {l:List (List Nat)}{k:Nat}(h:∀x∈l,x.length<=k):(l.map List.length).sum<=l.length * k:=by
  induction l with
  | nil=>simp
  | cons x r ih=>
    rw[List.map_cons,List.sum_cons,List.length_cons,Nat.succ_mul];have:=h x (List.mem_cons_self ..);have:=ih fun y hy=>h y (List.mem_cons_of_mem _ hy)
    omega
theorem zh7 {ws:List V}(h:∀v∈ws,Wd v) (hl:ws.length<=6):(zh5 ws).length<=606:=by
  have h1:=zjl [32] (ws.map fun v=>co (zab v));have h2:=zh6 (l:=ws.map fun v=>co (zab v)) (k:=100) fun x hx=>by
    obtain⟨v,hv,rfl⟩:=List.mem_map.mp hx;exact zfy (h v hv)
  rw[List.length_map] at h1 h2;show (jc [32] _).length<=606;have : [32].length=1:=rfl;rw[this] at h1;omega
theorem zl1 (ws:List V):(zcr ws).length=(zh5 ws).length:=zb4 _
theorem zpv (ws:List V):Txt.join " " (ws.map zab)=zcr ws:=by
  show Txt.join (Str.ofString " ") _=_;rw[zeh,zum,zad,List.map_map];rfl
def zir (ls:List (List V)):Str:=zam (jc [10] (ls.map zh5))
theorem zpw (ls:List (List V)):Txt.join "\n" (ls.map zcr)=zir ls:=by
  show Txt.join (Str.ofString "\n") _=_;rw[zeh,znh,zad,List.map_map];unfold zir
  congr 2
def zay (lo hi:Int) (us:List Str) (ts fs:List (List V)):List (List V):=[.str "dig",.int lo,.int hi]::(us.map (fun x=>[V.str "unit",V.str x])++ts++fs.map (V.str "find" :: ·))
structure TellOk (lo hi:Int) (us:List Str) (ts fs:List (List V)):Prop where
  lo:zao lo
  hi:zao hi
  u:us.length<=100/\∀x∈us,x.length<=100
  t:ts.length<=100/\∀ws∈ts,(∀v∈ws,Wd v)/\ws.length<=5/\∃x r,ws = .str x::r
  f:fs.length<=100/\∀ws∈fs,(∀v∈ws,Wd v)/\ws.length=4
theorem zpx {ls:List (List V)}(h:∀ws∈ls,(∀v∈ws,Wd v)/\ws.length<=6) (hl:ls.length<=400):((ls.map zcr).map (·.length)).sum+(ls.map zcr).length * (Str.ofString "\n" : Str).length<=16777216:=by
  have e:(Str.ofString "\n" : Str).length=1:=by decide +kernel
  rw[e,List.length_map];have h2:=zh6 (l:=ls.map zh5) (k:=606) fun x hx=>by
    obtain⟨v,hv,rfl⟩:=List.mem_map.mp hx;exact zh7 (h v hv).1 (h v hv).2
  rw[List.length_map] at h2;have e2:(ls.map zcr).map (·.length)=(ls.map zh5).map List.length:=by
    rw[List.map_map,List.map_map];apply List.map_congr_left;intro x _;exact zl1 x
  rw[e2];omega
theorem zpy {ws:List V}(h:∀v∈ws,Wd v) (hl:ws.length<=6):((ws.map zab).map (·.length)).sum+(ws.map zab).length * (Str.ofString " " : Str).length<=16777216:=by
  have e:(Str.ofString " " : Str).length=1:=by decide +kernel
  rw[e,List.length_map];have h2:=zh6 (l:=ws.map fun v=>co (zab v)) (k:=100) fun x hx=>by
    obtain⟨v,hv,rfl⟩:=List.mem_map.mp hx;exact zfy (h v hv)
  rw[List.length_map] at h2;have e2:(ws.map zab).map (·.length)=(ws.map fun v=>co (zab v)).map List.length:=by
    rw[List.map_map,List.map_map];apply List.map_congr_left;intro x _;exact (za8 _).symm
  rw[e2];omega
theorem TellOk.rows {lo hi:Int}{us:List Str}{ts fs:List (List V)}(h:TellOk lo hi us ts fs):∀ws∈zay lo hi us ts fs,(∀v∈ws,Wd v)/\ws.length<=6:=by
  intro ws hw;unfold zay at hw;rcases List.mem_cons.mp hw with rfl | hw
  · refine⟨fun v hv=>?_,by simp⟩;simp only [List.mem_cons,List.not_mem_nil,or_false] at hv;rcases hv with rfl | rfl | rfl
    · exact .inl ⟨_,rfl,by decide +kernel⟩
    · exact .inr ⟨_,rfl,h.lo⟩
    · exact .inr ⟨_,rfl,h.hi⟩
  · rcases List.mem_append.mp hw with hw | hw
    · rcases List.mem_append.mp hw with hw | hw
      · obtain⟨x,hx,rfl⟩:=List.mem_map.mp hw;refine⟨fun v hv=>?_,by simp⟩;simp only [List.mem_cons,List.not_mem_nil,or_false] at hv;rcases hv with rfl | rfl
        · exact .inl ⟨_,rfl,by decide +kernel⟩
        · exact .inl ⟨_,rfl,h.u.2 x hx⟩
      · have:=h.t.2 ws hw;exact⟨this.1,by omega⟩
    · obtain⟨f,hf,rfl⟩:=List.mem_map.mp hw;have:=h.f.2 f hf;refine⟨fun v hv=>?_,by simp;omega⟩;rcases List.mem_cons.mp hv with rfl | hv
      · exact .inl ⟨_,rfl,by decide +kernel⟩
      · exact this.1 v hv
theorem TellOk.count {lo hi:Int}{us:List Str}{ts fs:List (List V)}(h:TellOk lo hi us ts fs):(zay lo hi us ts fs).length<=400:=by
  unfold zay;simp only [List.length_cons,List.length_append,List.length_map];have:=h.u.1;have:=h.t.1;have:=h.f.1;omega
theorem Told.lens {us:List Str}{ts fs rs:List (List V)}(t:Told us ts fs rs):rs.length=us.length+ts.length+fs.length:=by
  induction t with
  | nil=>rfl
  | unit t _ _ ih=>simp only [List.length_append,List.length_cons,List.length_nil];omega
  | tie t _ _ ih=>simp only [List.length_append,List.length_cons,List.length_nil];omega
  | find t _ ih=>simp only [List.length_append,List.length_cons,List.length_nil];omega
theorem Told.tellOk {us:List Str}{ts fs rs:List (List V)}{lo hi:Int}(t:Told us ts fs rs) (hl:rs.length<=63) (h1:zao lo) (h2:zao hi):TellOk lo hi us ts fs:=by
  have l:=t.lens;have n:=t.names;exact⟨h1,h2,⟨by omega,fun x hx=>Nat.le_trans (zcb (n.2 x hx)) (by decide)⟩,⟨by omega,fun ws hw=>(t.ties ws hw).words n.2⟩,⟨by omega,fun ws hw=>(t.finds ws hw).words n.2⟩⟩
def rowV (ws:List V):V:=.str (zcr ws)
def tupF (H:Hp) (g:List V->V):V->V
  | .ref a=>match H a with
    | some (.tup ws)=>g ws
    | _=>.non
  | _=>.non
theorem zni {H:Hp}{g:List V->V}{a:Addr}{ws:List V}(h:H a=some (.tup ws)):tupF H g (.ref a)=g ws:=by
  show (match H a with | some (.tup ws)=>g ws | _=>V.non)=_;rw[h]
theorem Tups.mapF {H:Hp}{g:List V->V}:∀{as:List Addr}{wss:List (List V)},Tups H as wss->(as.map V.ref).map (tupF H g)=wss.map g
  | _,_,.nil=>rfl
  | _,_,.cons h t=>by rw[List.map_cons,List.map_cons,List.map_cons,zni h,Tups.mapF t]
theorem zyu {lo hi:Int}(h1:zao lo) (h2:zao hi):∀v∈[V.str "dig",V.int lo,V.int hi],Wd v:=by
  intro v hv;simp only [List.mem_cons,List.not_mem_nil,or_false] at hv;rcases hv with rfl | rfl | rfl
  · exact .inl ⟨_,rfl,by decide +kernel⟩
  · exact .inr ⟨_,rfl,h1⟩
  · exact .inr ⟨_,rfl,h2⟩
theorem zsj (ns:List Int) (lo hi:Option Int):∃cs:List Int,cutV (ns.map V.int) lo hi=cs.map V.int/\cs.length<=ns.length:=by
  refine⟨(ns.drop (HT.sIx (ns.map V.int).length 0 lo)).take (HT.sIx (ns.map V.int).length (ns.map V.int).length hi-HT.sIx (ns.map V.int).length 0 lo),?_,?_⟩
  · unfold cutV;rw[List.map_take,List.map_drop]
  · rw[List.length_take,List.length_drop];omega
structure TellAt (K:PySem.W.Frag) (H:Hp) (pm pu pt pf:Addr) (lo hi:Int) (us:List Str) (ts fs:List (List V)) (at' af:List Addr):Prop where
  m:SqT K H pm [.int lo,.int hi]
  u:SqL K H pu (us.map V.str)
  t:SqL K H pt (at'.map V.ref)
  tt:Tups H at' ts
  f:SqL K H pf (af.map V.ref)
  ft:Tups H af fs
structure Tie where
  k:Str
  a:Str
  b:Str
  g:Option Int
def SAME:Str:="same"
def minS (x y:Str):Str:=if co y<co x then y else x
def jn (lab:Str->Str) (f s:Str):Str->Str:=fun x=>if lab x=f\/lab x=s then minS f s else lab x
def stp (lab:Str->Str) (t:Tie):Str->Str:=if t.k=SAME then jn lab (lab t.a) (lab t.b) else lab
def dN (us:List Str) (lab:Str->Str):List (Key×V):=us.map fun x=>(Sum.inr x,V.str (lab x))
def dV (ks:List Str) (f:Str->V):List (Key×V):=ks.map fun x=>(Sum.inr x,f x)
structure Fnd where
  n:Str
  u:Str
  lo:Int
  hi:Int
theorem zh8 {c:Nat}:∀{a b p q:List Nat},c ∉ a->c ∉ b->a++c::p=b++c::q->a=b/\p=q
  | [],[],_,_,_,_,e=>⟨rfl,by simpa using e⟩
  | [],y::b,_,_,_,hb,e=>by
    have e1:c=y:=(List.cons.inj e).1;exact absurd (by rw[e1];exact List.mem_cons_self ..) hb
  | x::a,[],_,_,ha,_,e=>by
    have e1:x=c:=(List.cons.inj e).1;exact absurd (by rw[←e1];exact List.mem_cons_self ..) ha
  | x::a,y::b,p,q,ha,hb,e=>by
    obtain⟨e1,e2⟩:=List.cons.inj e;obtain⟨r1,r2⟩:=zh8 (fun z=>ha (List.mem_cons_of_mem _ z)) (fun z=>hb (List.mem_cons_of_mem _ z)) e2;exact⟨by rw[e1,r1],r2⟩
theorem zvr {c:Nat}:∀{l m:List (List Nat)},l≠[]->m≠[]->(∀x∈l,c ∉ x)->(∀x∈m,c ∉ x)->jc [c] l=jc [c] m->l=m
  | [],_,h,_,_,_,_=>absurd rfl h
  | _,[],_,h,_,_,_=>absurd rfl h
  | [x],[y],_,_,_,_,e=>by rw[show x=y from e]
  | [x],y::z::m,_,_,hl,_,e=>by
    have e:x=y++[c]++jc [c] (z::m):=e;exact absurd (by rw[e];simp) (hl x (List.mem_cons_self ..))
  | x::w::l,[y],_,_,_,hm,e=>by
    have e:x++[c]++jc [c] (w::l)=y:=e;exact absurd (by rw[←e];simp) (hm y (List.mem_cons_self ..))
  | x::w::l,y::z::m,_,_,hl,hm,e=>by
    have e:x++[c]++jc [c] (w::l)=y++[c]++jc [c] (z::m):=e;rw[List.append_assoc,List.append_assoc] at e;obtain⟨e1,e2⟩:=zh8 (hl x (List.mem_cons_self ..)) (hm y (List.mem_cons_self ..)) e;rw[e1,zvr (List.cons_ne_nil _ _) (List.cons_ne_nil _ _) (fun u hu=>hl u (List.mem_cons_of_mem _ hu)) (fun u hu=>hm u (List.mem_cons_of_mem _ hu)) e2]
theorem zdj {c:Nat}{ls:List (List Nat)}(h0:ls≠[]) (hf:∀x∈ls,c ∉ x):Txt.split (zam (jc [c] ls)) ⟨#[c]⟩=ls.map zam:=by
  have j:=StrLaws.join_split (zam (jc [c] ls)) ⟨#[c]⟩;have f:=StrLaws.split_free (zam (jc [c] ls)) c;have p:=PyProof.Rows.split_pos (zam (jc [c] ls)) ⟨#[c]⟩;generalize Txt.split (zam (jc [c] ls)) ⟨#[c]⟩=ps at j f p;have hne:ps≠[]:=by
    rintro rfl;simp at p
  have e:jc [c] (ps.map co)=jc [c] ls:=by
    have:=congrArg co j;rw[zad] at this;rw[←this];cases ps with
    | nil=>exact absurd rfl hne
    | cons a r=>
      have:=zhl ⟨#[c]⟩ (a::r);rw[show Txt.join ⟨#[c]⟩ (a::r)=Str.join ⟨#[c]⟩ (a::r) from StrLaws.glued_eq_join _ _] at this;exact this.symm
  have e2:=zvr (by simpa using hne) h0 (fun x hx=>by
    obtain⟨q,hq,rfl⟩:=List.mem_map.mp hx;exact f q hq) hf e
  rw[←e2,List.map_map];refine (List.map_id' ps).symm.trans (List.map_congr_left fun x _=>?_);exact ze0 (by rw[Function.comp,zad])
theorem zl2:(Str.ofString " " : Str)=⟨#[32]⟩:=by decide +kernel
theorem zov:(Str.ofString "\n" : Str)=⟨#[10]⟩:=by decide +kernel
def wordsOf (x:Str):List Str:=(Txt.split x " ").filter fun y=>!decide (y = "")
def zbz:List Str->Bool
  | []=>true
  | y::_=>Txt.startswith y ";"
theorem zpz {ws:List V}(h0:ws≠[]) (hb:∀v∈ws,32 ∉ co (zab v)) (hn:∀v∈ws,co (zab v)≠[]):wordsOf (zcr ws)=ws.map zab:=by
  unfold wordsOf;have e:Txt.split (zcr ws) " " = ws.map zab:=by
    show Txt.split (zcr ws) (Str.ofString " ")=_;rw[zl2];unfold zcr zh5;rw[zdj (by simpa using h0) (fun x hx=>by
      obtain⟨v,hv,rfl⟩:=List.mem_map.mp hx;exact hb v hv),List.map_map]
    exact List.map_congr_left fun x _=>ze0 (by rw[Function.comp,zad])
  rw[e,List.filter_eq_self];intro y hy;obtain⟨v,hv,rfl⟩:=List.mem_map.mp hy;have:zab v≠(Str.ofString "" : Str):=fun z=>hn v hv (by rw[z];decide +kernel)
  simpa using this
theorem zp0 {ls:List (List V)}(h0:ls≠[]) (hf:∀ws∈ls,10 ∉ zh5 ws):Txt.split (zir ls) "\n" = ls.map zcr:=by
  show Txt.split (zir ls) (Str.ofString "\n")=_;rw[zov];unfold zir;rw[zdj (by simpa using h0) (fun x hx=>by
    obtain⟨v,hv,rfl⟩:=List.mem_map.mp hx;exact hf v hv),List.map_map]
  rfl
theorem znj:∀c∈co NAMES,c≠32/\c≠10/\c≠59:=by decide +kernel
theorem zbm {x:Str}(h:zap x=true):(∀c∈co x,c≠32/\c≠10/\c≠59)/\co x≠[]:=by
  unfold zap at h;simp only [Bool.and_eq_true,decide_eq_true_eq] at h;obtain⟨⟨h1,h2⟩,h3⟩:=h;refine⟨fun c hc=>znj c (of_decide_eq_true (List.all_eq_true.mp h3 c hc)),fun z=>?_⟩;rw[←za8,z] at h1;exact absurd h1 (by decide)
theorem zdb (n:Int):(∀c∈co (Str.ofString (toString n)),c≠32/\c≠10/\c≠59)/\co (Str.ofString (toString n))≠[]:=by
  have d:∀m:Nat,∀c∈dg m,c≠32/\c≠10/\c≠59:=fun m c hc=>by
    have:=zr7 m c hc;omega
  have e:∀m:Nat,dg m≠[]:=fun m z=>by
    have:=zr9 m;rw[z] at this;exact absurd this (by decide)
  cases n with
  | ofNat m=>
    have q:co (Str.ofString (toString (Int.ofNat m)))=dg m:=zgr m;rw[q];exact⟨d m,e m⟩
  | negSucc m=>
    have q:co (Str.ofString (toString (Int.negSucc m)))=45::dg (m+1):=zjj m;rw[q];refine⟨fun c hc=>?_,by simp⟩;rcases List.mem_cons.mp hc with rfl | hc
    · decide
    · exact d _ c hc
def zow:List Str:=["dig","unit","over","cuts","fills","after","same","find"]
theorem zl3:∀x∈zow,(∀c∈co x,c≠32/\c≠10/\c≠59)/\co x≠[]:=by decide +kernel
inductive RowOk:List V->Prop where
  | dig {lo hi:Int}(hl:lo<=hi) (h1:zao lo) (h2:zao hi):RowOk [.str "dig",.int lo,.int hi]
  | unit {x:Str}(hx:zap x=true):RowOk [.str "unit",.str x]
  | plain {kd x y:Str}(hk:kd∈zgt) (hx:zap x=true) (hy:zap y=true):RowOk [.str kd,.str x,.str y]
  | after {x y:Str}{n:Int}(hx:zap x=true) (hy:zap y=true) (h0:0<=n) (h1:zao n):RowOk [.str "after",.str x,.str y,.int n]
  | find {nm x:Str}{lo hi:Int}(hn:zap nm=true) (hx:zap x=true) (hl:lo<=hi) (h1:zao lo) (h2:zao hi):RowOk [.str "find",.str nm,.str x,.int lo,.int hi]
theorem zg4:∀k∈zgt,k∈zow:=by decide +kernel
theorem RowOk.signs {ws:List V}(h:RowOk ws):∀v∈ws,(∀c∈co (zab v),c≠32/\c≠10/\c≠59)/\co (zab v)≠[]:=by
  have F:∀x∈zow,(∀c∈co (zab (.str x)),c≠32/\c≠10/\c≠59)/\co (zab (.str x))≠[]:=zl3;cases h with
  | dig hl h1 h2=>
    intro v hv;simp only [List.mem_cons,List.not_mem_nil,or_false] at hv;rcases hv with rfl | rfl | rfl
    · exact F _ (by decide +kernel)
    · exact zdb _
    · exact zdb _
  | unit hx=>
    intro v hv;simp only [List.mem_cons,List.not_mem_nil,or_false] at hv;rcases hv with rfl | rfl
    · exact F _ (by decide +kernel)
    · exact zbm hx
  | plain hk hx hy=>
    intro v hv;simp only [List.mem_cons,List.not_mem_nil,or_false] at hv;rcases hv with rfl | rfl | rfl
    · exact F _ (zg4 _ hk)
    · exact zbm hx
    · exact zbm hy
  | after hx hy h0 h1=>
    intro v hv;simp only [List.mem_cons,List.not_mem_nil,or_false] at hv;rcases hv with rfl | rfl | rfl | rfl
    · exact F _ (by decide +kernel)
    · exact zbm hx
    · exact zbm hy
    · exact zdb _
  | find hn hx hl h1 h2=>
    intro v hv;simp only [List.mem_cons,List.not_mem_nil,or_false] at hv;rcases hv with rfl | rfl | rfl | rfl | rfl
    · exact F _ (by decide +kernel)
    · exact zbm hn
    · exact zbm hx
    · exact zdb _
    · exact zdb _
theorem RowOk.ne {ws:List V}(h:RowOk ws):ws≠[]:=by cases h<;>simp
theorem RowOk.words {ws:List V}(h:RowOk ws):wordsOf (zcr ws)=ws.map zab:=zpz h.ne (fun v hv z=>((h.signs v hv).1 32 z).1 rfl) fun v hv=>(h.signs v hv).2
theorem zsk {s:List Nat}{c:Nat}:∀{l:List (List Nat)},c∈jc s l->c∈s\/∃x∈l,c∈x
  | [],h=>absurd h (by simp[jc])
  | [x],h=>.inr ⟨x,List.mem_cons_self ..,h⟩
  | x::y::r,h=>by
    have h:c∈x++s++jc s (y::r):=h;rcases List.mem_append.mp h with h | h
    · rcases List.mem_append.mp h with h | h
      · exact .inr ⟨x,List.mem_cons_self ..,h⟩
      · exact .inl h
    · rcases zsk h with h | ⟨z,hz,h⟩
      · exact .inl h
      · exact .inr ⟨z,List.mem_cons_of_mem _ hz,h⟩
theorem RowOk.nofeed {ws:List V}(h:RowOk ws):10 ∉ zh5 ws:=fun z=>by
  rcases zsk z with z | ⟨x,hx,z⟩
  · exact absurd z (by decide)
  · obtain⟨v,hv,rfl⟩:=List.mem_map.mp hx;exact ((h.signs v hv).1 10 z).2.1 rfl
theorem znk {y:Str}:Txt.startswith y ";" = decide ((co y).head? = some 59):=by
  show Txt.startswith y (Str.ofString ";")=_;rw[show (Str.ofString ";" : Str)=⟨#[59]⟩ by decide +kernel];exact zgq y 59
theorem RowOk.notPassed {ws:List V}(h:RowOk ws):zbz (ws.map zab)=false:=by
  cases ws with
  | nil=>exact absurd rfl h.ne
  | cons v r=>
    show Txt.startswith (zab v) ";" = false;rw[znk];have s:=h.signs v (List.mem_cons_self ..);cases e:co (zab v) with
    | nil=>exact absurd e s.2
    | cons c l=>
      refine decide_eq_false fun z=>?_
      have z:c=59:=Option.some.inj z;exact (s.1 c (by rw[e];exact List.mem_cons_self ..)).2.2 z
structure RS where
  fr:Option (Int×Int)
  us:List Str
  ts:List (List V)
  fs:List (List V)
inductive StepOk:RS->List V->RS->Prop where
  | dig {us:List Str}{ts fs:List (List V)}{lo hi:Int}(hl:lo<=hi) (h1:zao lo) (h2:zao hi):StepOk ⟨none,us,ts,fs⟩ [.str "dig",.int lo,.int hi] ⟨some (lo,hi),us,ts,fs⟩
  | unit {f:Int×Int}{us:List Str}{ts fs:List (List V)}{x:Str}(hx:zap x=true) (hn:x ∉ us):StepOk ⟨some f,us,ts,fs⟩ [.str "unit",.str x] ⟨some f,us++[x],ts,fs⟩
  | tie {f:Int×Int}{us:List Str}{ts fs:List (List V)}{ws:List V}(ht:TieOk us ws) (hn:ws ∉ ts):StepOk ⟨some f,us,ts,fs⟩ ws ⟨some f,us,ts++[ws],fs⟩
  | find {f:Int×Int}{us:List Str}{ts fs:List (List V)}{ws:List V}(hf:FindOk us fs ws):StepOk ⟨some f,us,ts,fs⟩ (.str "find" :: ws) ⟨some f,us,ts,fs++[ws]⟩
theorem TieOk.row {us:List Str}{ws:List V}(h:TieOk us ws) (hu:∀x∈us,zap x=true):RowOk ws:=by
  cases h with
  | plain hk hx hy=>exact .plain hk (hu _ hx) (hu _ hy)
  | after hx hy h0 h1=>exact .after (hu _ hx) (hu _ hy) h0 h1
theorem StepOk.row {s s':RS}{ws:List V}(h:StepOk s ws s') (hu:∀x∈s.us,zap x=true):RowOk ws/\∀x∈s'.us,zap x=true:=by
  cases h with
  | dig hl h1 h2=>exact⟨.dig hl h1 h2,hu⟩
  | unit hx hn=>
    refine⟨.unit hx,fun y hy=>?_⟩;rcases List.mem_append.mp hy with hy | hy
    · exact hu y hy
    · rw[List.mem_singleton] at hy;subst hy;exact hx
  | tie ht hn=>exact⟨ht.row hu,hu⟩
  | find hf=>
    cases hf with
    | mk hn hx hl h1 h2 _=>exact⟨.find hn (hu _ hx) hl h1 h2,hu⟩
inductive Reads:RS->List Str->RS->Prop where
  | nil {s:RS}:Reads s [] s
  | skip {s s':RS}{l:Str}{ls:List Str}(h:zbz (wordsOf l)=true) (r:Reads s ls s'):Reads s (l::ls) s'
  | row {s s1 s':RS}{l:Str}{ls:List Str}{ws:List V}(h:wordsOf l=ws.map zab) (st:StepOk s ws s1) (r:Reads s1 ls s'):Reads s (l::ls) s'
theorem Reads.append {s s1 s2:RS}{ls ms:List Str}(h:Reads s ls s1) (h2:Reads s1 ms s2):Reads s (ls++ms) s2:=by
  induction h with
  | nil=>exact h2
  | skip h _ ih=>exact .skip h (ih h2)
  | row h st _ ih=>exact .row h st (ih h2)
theorem zl4 {α:Type}(xs:List α) (u v:α):atI (xs++[u,v]) (-2)=some u:=by
  have hl:(xs++[u,v]).length=xs.length+2:=by simp
  have e:ixN (xs++[u,v]).length (-2)=some xs.length:=by
    unfold ixN;rw[hl,if_neg (by decide),if_pos (by omega)]
    congr 1
    omega
  unfold atI;rw[e];simp
theorem zl5 {α:Type}(xs:List α) (u v:α):atI (xs++[u,v]) (-1)=some v:=by
  have:=zt1 (xs++[u]) v
  rwa [List.append_assoc] at this
def valF:V->V->V
  | .str kd,.str y=>if kd=(Str.ofString "name" : Str) then .str y else .int (numI y)
  | _,_=>.non
theorem zb1 (x:Str) (ks:List Str):inV (.str x) (ks.map V.str)=decide (x∈ks):=by
  unfold inV
  induction ks with
  | nil=>rfl
  | cons k r ih=>
    rw[List.map_cons,List.any_cons,ih];show ((k == x)||decide (x∈r))=_
    by_cases h:k=x
    · subst h;simp
    · rw[beq_eq_false_iff_ne.mpr h,Bool.false_or];exact decide_eq_decide.mpr ⟨fun z=>List.mem_cons_of_mem _ z,fun z=>(List.mem_cons.mp z).resolve_left fun e=>h e.symm⟩
def kW:V->Key
  | .str x=>.inr x
  | .int i=>.inl i
  | _=>.inl 0
theorem zzu {v:V}(h:Wd v):kV (kW v)=v:=by
  rcases h with ⟨x,rfl,_⟩ | ⟨i,rfl,_⟩<;>rfl
theorem zl6 {ws:List V}(h:∀v∈ws,Wd v):(ws.map kW).map kV=ws:=by
  rw[List.map_map];refine (List.map_congr_left fun v hv=>?_).trans (List.map_id' ws);exact zzu (h v hv)
theorem zyv {ws vs:List V}(h1:∀v∈ws,Wd v) (h2:∀v∈vs,Wd v) (e:ws.map kW=vs.map kW):ws=vs:=by
  rw[←zl6 h1,←zl6 h2,e]
theorem zb0 {κ:Type} [DecidableEq κ] {kvs:List (κ×V)}{k:κ}(h:k ∉ kvs.map (·.1)):valV kvs k=none:=by
  unfold valV;rw[Option.map_eq_none_iff,List.find?_eq_none];intro x hx e;exact h (List.mem_map.mpr ⟨x,hx,by simpa using e⟩)
theorem zei {κ:Type} [DecidableEq κ] {kvs:List (κ×V)}{k:κ}(h:k∈kvs.map (·.1)):(valV kvs k).isSome=true:=by
  rw[←zhi,List.any_eq_true];obtain⟨x,hx,e⟩:=List.mem_map.mp h;exact⟨x,hx,decide_eq_true e⟩
theorem n_fu:¬(("frame" : Str) = "units"):=by decide +kernel
theorem n_ft:¬(("frame" : Str) = "ties"):=by decide +kernel
theorem n_fi:¬(("frame" : Str) = "finds"):=by decide +kernel
theorem n_ut:¬(("units" : Str) = "ties"):=by decide +kernel
theorem n_ui:¬(("units" : Str) = "finds"):=by decide +kernel
theorem n_ti:¬(("ties" : Str) = "finds"):=by decide +kernel
def rfl4 (fv:V) (du dt df:Addr):List (Str×V):=[("frame",fv),("units",.ref du),("ties",.ref dt),("finds",.ref df)]
theorem zsl (fv:V) (du dt df:Addr):putF "finds" (.ref df) (putF "ties" (.ref dt) (putF "units" (.ref du) (putF "frame" fv [])))=rfl4 fv du dt df:=by
  show putF "finds" (.ref df) (putF "ties" (.ref dt) (if ("frame" : Str) = "units" then _ else _))=_;rw[if_neg n_fu];show putF "finds" (.ref df) (if ("frame" : Str) = "ties" then _ else (("frame" : Str),fv)::(if ("units" : Str) = "ties" then _ else _))=_;rw[if_neg n_ft,if_neg n_ut];show (if ("frame" : Str) = "finds" then _ else (("frame" : Str),fv)::(if ("units" : Str) = "finds" then _ else (("units" : Str),V.ref du)::(if ("ties" : Str) = "finds" then _ else _)))=_;rw[if_neg n_fi,if_neg n_ui,if_neg n_ti];rfl
theorem zp6 (fv fv':V) (du dt df:Addr):putF "frame" fv' (rfl4 fv du dt df)=rfl4 fv' du dt df:=by
  show (if ("frame" : Str) = "frame" then _ else _)=_;rw[if_pos rfl];rfl
theorem zun {k x:Str}{v:V}{r:List (Str×V)}(h:k=x):List.lookup k ((x,v)::r)=some v:=by subst h;simp
theorem zis {k x:Str}{v:V}{r:List (Str×V)}(h:¬k=x):List.lookup k ((x,v)::r)=List.lookup k r:=by
  rw[List.lookup_cons,beq_eq_false_iff_ne.mpr h]
theorem zox (fv:V) (du dt df:Addr):(rfl4 fv du dt df).lookup ("frame" : Str)=some fv:=zun rfl
theorem zjm (fv:V) (du dt df:Addr):(rfl4 fv du dt df).lookup ("units" : Str)=some (.ref du):=by
  unfold rfl4;rw[zis (fun z=>n_fu z.symm),zun rfl]
theorem zoy (fv:V) (du dt df:Addr):(rfl4 fv du dt df).lookup ("ties" : Str)=some (.ref dt):=by
  unfold rfl4;rw[zis (fun z=>n_ft z.symm),zis (fun z=>n_ut z.symm),zun rfl]
theorem zoz (fv:V) (du dt df:Addr):(rfl4 fv du dt df).lookup ("finds" : Str)=some (.ref df):=by
  unfold rfl4;rw[zis (fun z=>n_fi z.symm),zis (fun z=>n_ui z.symm),zis (fun z=>n_ti z.symm),zun rfl]
theorem zbj (fv:V) (du dt df:Addr) {m:Str}(h:m ∉ (["frame","units","ties","finds"]:List Str)):(rfl4 fv du dt df).lookup m=none:=by
  simp only [List.mem_cons,List.not_mem_nil,or_false,not_or] at h;unfold rfl4;rw[zis h.1,zis h.2.1,zis h.2.2.1,zis h.2.2.2];rfl
def dU (us:List Str):List (Key×V):=us.map fun x=>(Sum.inr x,V.bl true)
def dTi (ts:List (List V)):List (List Key×V):=ts.map fun ws=>(ws.map kW,V.bl true)
def zzv:List V->Key
  | v::_=>kW v
  | []=>.inl 0
def dF (fs:List (List V)) (af:List Addr):List (Key×V):=(fs.map zzv).zip (af.map V.ref)
def frV (H:Hp):Option (Int×Int)->V->Prop
  | none,v=>v = .non
  | some (lo,hi),v=>∃p,v = .ref p/\H p=some (.tup [.int lo,.int hi])
structure ReadAt (C:Addr) (H:Hp) (r du dt df:Addr) (s:RS):Prop where
  ob:∃dx fv,H r=some (.ins C dx (rfl4 fv du dt df))/\frV H s.fr fv
  u:H du=some (.dK (dU s.us))
  t:H dt=some (.dT (dTi s.ts))
  f:∃af,Tups H af s.fs/\H df=some (.dK (dF s.fs af))
  nu:du≠df
  names:∀x∈s.us,zap x=true
  ties:∀ws∈s.ts,∀v∈ws,Wd v
def Keep4 (H H':Hp) (r du dt df:Addr):Prop:=∀b o,H b=some o->b≠r->b≠du->b≠dt->b≠df->H' b=some o
theorem Keep4.trans {H H1 H2:Hp}{r du dt df:Addr}(a:Keep4 H H1 r du dt df) (b:Keep4 H1 H2 r du dt df):Keep4 H H2 r du dt df:=fun c o h h1 h2 h3 h4=>b c o (a c o h h1 h2 h3 h4) h1 h2 h3 h4
theorem Same.keep4 {H H':Hp}{r du dt df:Addr}(s:Same H H'):Keep4 H H' r du dt df:=fun b o h _ _ _ _=>s b o h
theorem Keep4.same {H0 H H':Hp}{r du dt df:Addr}(s:Same H0 H) (k:Keep4 H H' r du dt df) (h1:H0 r=none) (h2:H0 du=none) (h3:H0 dt=none) (h4:H0 df=none):Same H0 H':=fun b o e=>
  k b o (s b o e) (zr e h1) (zr e h2) (zr e h3) (zr e h4)
theorem ReadAt.same {C:Addr}{H H':Hp}{r du dt df:Addr}{s:RS}(R:ReadAt C H r du dt df s) (e:Same H H'):ReadAt C H' r du dt df s:=by
  obtain⟨dx,fv,h,hv⟩:=R.ob;obtain⟨af,ht,hf⟩:=R.f;refine⟨⟨dx,fv,e _ _ h,?_⟩,e _ _ R.u,e _ _ R.t,⟨af,ht.same e,e _ _ hf⟩,R.nu,R.names,R.ties⟩;cases q:s.fr with
  | none=>rw[q] at hv;exact hv
  | some f=>
    rw[q] at hv;obtain⟨p,e1,e2⟩:=hv;exact⟨p,e1,e _ _ e2⟩
theorem frV.stay {H H':Hp}{o:Option (Int×Int)}{v:V}(h:frV H o v) (st:∀b xs,H b=some (.tup xs)->H' b=some (.tup xs)):frV H' o v:=by
  cases o with
  | none=>exact h
  | some f=>
    obtain⟨p,e1,e2⟩:=h;exact⟨p,e1,st _ _ e2⟩
theorem dU_mem {us:List Str}{x:Str}:(Sum.inr x:Key)∈(dU us).map (·.1)↔x∈us:=by
  unfold dU;rw[List.map_map];constructor
  · intro h;obtain⟨y,hy,e⟩:=List.mem_map.mp h;cases e;exact hy
  · intro h;exact List.mem_map.mpr ⟨x,h,rfl⟩
theorem zw1 {us:List Str}{x:Str}(h:x ∉ us):putK (dU us) (Sum.inr x:Key) (.bl true)=dU (us++[x]):=by
  rw[zj9 _ (zb0 fun z=>h (dU_mem.mp z))];unfold dU;rw[List.map_append];rfl
theorem zkl {ts:List (List V)}{ws:List V}(h1:∀vs∈ts,∀v∈vs,Wd v) (h2:∀v∈ws,Wd v):ws.map kW∈(dTi ts).map (·.1)↔ws∈ts:=by
  unfold dTi;rw[List.map_map];constructor
  · intro h;obtain⟨y,hy,e⟩:=List.mem_map.mp h;rw[←zyv (h1 y hy) h2 e];exact hy
  · intro h;exact List.mem_map.mpr ⟨ws,h,rfl⟩
theorem zuo {ts:List (List V)}{ws:List V}(h1:∀vs∈ts,∀v∈vs,Wd v) (h2:∀v∈ws,Wd v) (h:ws ∉ ts):putK (dTi ts) (ws.map kW) (.bl true)=dTi (ts++[ws]):=by
  rw[zj9 _ (zb0 fun z=>h ((zkl h1 h2).mp z))];unfold dTi;rw[List.map_append];rfl
theorem zsm {fs:List (List V)}{af:List Addr}{ws:List V}{p:Addr}{nm:Str}(hl:af.length=fs.length) (hn:∀f∈fs,f.head?≠some (.str nm)) (hw:∃r,ws = .str nm::r) (hfs:∀f∈fs,∃x r,f=V.str x::r) :
    valV (dF fs af) (Sum.inr nm:Key)=none/\putK (dF fs af) (Sum.inr nm:Key) (.ref p)=dF (fs++[ws]) (af++[p]):=by
  have e:valV (dF fs af) (Sum.inr nm:Key)=none:=zb0 fun z=>by
    unfold dF at z;rw[List.map_fst_zip (by simp;omega)] at z;obtain⟨f,hf,ef⟩:=List.mem_map.mp z;obtain⟨x,r,rfl⟩:=hfs f hf;have ef:(Sum.inr x:Key)=Sum.inr nm:=ef;cases ef;exact hn _ hf rfl
  refine⟨e,?_⟩;rw[zj9 _ e];obtain⟨r,rfl⟩:=hw;unfold dF;rw[List.map_append,List.map_append,List.zip_append (by simp;omega)];rfl
end Dm
namespace L2
open PySem PySem.Spec PyProof.Rows
structure UnderV (bm:List Value):Prop where
  v:bm.contains (.type "ValueError")=true
  b:bm.contains (.type "BaseException")=true
  a:bm.contains (.type "AttributeError")=false
  n:bm.contains (.type "NameError")=false
def XObj (h:Heap) (C:Addr) (bm:List Value):Prop:=∃nm q N bs hdct sn sub ab col dd k0 k1 k2 k3 k5,h.get? C=some (excClassObj nm q C N bs bm hdct sn sub ab col dd k0 k1 k2 k3 k5 "ValueError.__new__")
theorem zh9 {C:Addr}{bm:List Value}{T:String}{b:Bool}(h:bm.contains (.type T)=b):(Value.ref C::bm).contains (.type T)=b:=by
  rw[List.contains_cons,h];rfl
section
variable {prog:Program}{w:World}{A:Around}{h:Heap}{g:Array GenState}{d:Drawn}{t:Nat}{os:OsState}{C:Addr}{bm:List Value}
theorem zw2 {R:Result->Shared->Prop}(U:UnderV bm) (x:XObj h C bm) {us:List Value}(hz:us.length<=sizeLine)
    (k:R (.ok (.ret (.ref (h.objs.size+1)))) { heap:=(h.push { cls:=.type "tuple",data:=.seq us.toArray }).push { cls:=.ref C,data:=.fields #[.ref h.objs.size,.none,.none,.none,.bool false,.none] },gens:=g,drawn:=d,toks:=t,os:=os }) :
    codeAny (model prog w) A (.builtin "ValueError.__new__" ⟨.ref C::us,[]⟩) R { heap:=h,gens:=g,drawn:=d,toks:=t,os:=os }:=by
  obtain⟨a1,a2,a3,a4,a5,a6,a7,a8,a9,b1,b2,b3,b4,b5,b6,e⟩:=x;have F:=PySem.F.excBase_ValueError;have f1:=F.ends;have c1:=zh9 (C:=C) U.v;have c2:=zh9 (C:=C) U.a;have c3:=zh9 (C:=C) U.n;refine codeAny_builtinAt F.entry ?_;unfold Builtin.«BaseException.__new__»;refine PySem.wpAt_bind (show PySem.wpAt (model prog w) _ _ (stack >>= _) _ _ _ from PySem.wpAt_bind (PySem.wpAt_stack fun p below=>PySem.wpAt_of_wpAny ?_))
  wp_walk
  refine PySem.wpAt_of_wpAny ?_;rw[F.owner]
  repeat (first
    | with_reducible refine wpAny_madeHere_exc F.canon e ?_
    | with_reducible refine wpAny_loadPart_at e ?_
    | (with_reducible refine wpAny_isSubtype_exc e ?_
       first | rw[c1] | rw[c2] | rw[c3])
    | wp_step)
  show R _ _;rw[Heap.size_push];exact k
theorem zsn {M:Model}{E:Value->Shared->Prop}(U:UnderV bm) (x:XObj h C bm) {us:List Value}{Q:Unit->Shared->Prop}(k:Q () { heap:=h,gens:=g,drawn:=d,toks:=t,os:=os }) :
    wpAny M A (checkBuiltinCall "ValueError.__new__" ⟨.ref C::us,[]⟩) Q E { heap:=h,gens:=g,drawn:=d,toks:=t,os:=os }:=by
  obtain⟨a1,a2,a3,a4,a5,a6,a7,a8,a9,b1,b2,b3,b4,b5,b6,e⟩:=x;exact wpAny_check_new_subU PySem.F.excBase_ValueError U.v .base e k
theorem zso {E:Value->Shared->Prop}{vI:Value}{us:List Value}{Q:Fin->Shared->Prop}(U:UnderV bm) (x:XObj h C bm) (hz:us.length<=sizeLine)
    (lk:PySem.W.Looks (model prog w) h (typeLookup (.ref C) "__init__") (some (vI))) (bd:∀self,PySem.W.Looks (model prog w) h (bindSpecial (vI) self) (vI,[self]))
    (k:∀h' e,h.objs.size<=e->Heap.MadeExcOf h h' e (.ref C) us->wpAny (model prog w) A (call (vI) (.ref e::us)) (fun r s'=>r = .none/\Q (.done (.ret (.ref e))) s') E { heap:=h',gens:=g,drawn:=d,toks:=t,os:=os }) :
    wpAny (model prog w) A (Builtin.«type.__call__» ⟨.ref C::us,[]⟩) Q E { heap:=h,gens:=g,drawn:=d,toks:=t,os:=os }:=by
  have x':=x;obtain⟨a1,a2,a3,a4,a5,a6,a7,a8,a9,b1,b2,b3,b4,b5,b6,e⟩:=x';have F:=PySem.F.excBase_ValueError
  repeat (first | with_reducible refine wpAny_loadPart_at e ?_ | with_reducible refine wpAny_madeBy_exc e ?_ | wp_step)
  refine codeAny_call_builtin_code (Code.quiet_builtin _ F.quiet) (zsn U x ?_);refine zw2 U x hz ?_;show wpAny (model prog w) _ _ _ _ _;have kp:∀b o,h.get? b=some o->((h.push { cls:=.type "tuple",data:=.seq us.toArray }).push { cls:=.ref C,data:=.fields #[.ref h.objs.size,.none,.none,.none,.bool false,.none] }).get? b=some o:=
    fun b o q=>Heap.get?_push_of_some _ (Heap.get?_push_of_some _ q)
  have hget:((h.push { cls:=.type "tuple",data:=.seq us.toArray }).push { cls:=.ref C,data:=.fields #[.ref h.objs.size,.none,.none,.none,.bool false,.none] }).get? (h.objs.size+1) =
      some { cls:=.ref C,data:=.fields #[.ref h.objs.size,.none,.none,.none,.bool false,.none] }:=by heap_get
  have ht:((h.push { cls:=.type "tuple",data:=.seq us.toArray }).push { cls:=.ref C,data:=.fields #[.ref h.objs.size,.none,.none,.none,.bool false,.none] }).get? h.objs.size =
      some { cls:=.type "tuple",data:=.seq us.toArray }:=Heap.get?_push_of_some _ (Heap.get?_push_at rfl rfl)
  have made:Heap.MadeExcOf h ((h.push { cls:=.type "tuple",data:=.seq us.toArray }).push { cls:=.ref C,data:=.fields #[.ref h.objs.size,.none,.none,.none,.bool false,.none] }) (h.objs.size+1) (.ref C) us:=
    ⟨kp,Heap.get?_none_of_le (Nat.le_succ _),h.objs.size,hget,Heap.get?_none_of_le (Nat.le_refl _),ht⟩
  have go:=k _ _ (Nat.le_succ _) made;have e1:=kp _ _ e;have lk1:=lk.keeps kp;have bd1:=fun self=>(bd self).keeps kp
  generalize (h.push { cls:=.type "tuple",data:=.seq us.toArray }).push { cls:=.ref C,data:=.fields #[.ref h.objs.size,.none,.none,.none,.bool false,.none] } = h1 at hget go e1 lk1 bd1;have cC:(Value.ref C::bm).contains (.ref C)=true:=by simp
  unfold isInstance
  repeat (first | with_reducible refine wpAny_loadPart_at hget ?_ | (with_reducible refine wpAny_isSubtype_exc e1 ?_;rw[cC]) | wp_step)
  show wpAny (model prog w) _ (typeLookup (.ref C) _) _ _ _;refine lk1.at (wpAny_holding (wpAny_bind ((bd1 _).at ?_)));refine wpAny_bind (wpAny_mono go (fun r s' hr=>?_) fun _ _ z=>z);obtain⟨rfl,q⟩:=hr
  wp_walk
  exact q
theorem zup {E:Value->Shared->Prop}{vI:Value}{us:List Value}{Q:Value->Shared->Prop}(U:UnderV bm) (x:XObj h C bm) (hz:us.length<=sizeLine)
    (lk:PySem.W.Looks (model prog w) h (typeLookup (.ref C) "__init__") (some (vI))) (bd:∀self,PySem.W.Looks (model prog w) h (bindSpecial (vI) self) (vI,[self]))
    (k:∀h' e,h.objs.size<=e->Heap.MadeExcOf h h' e (.ref C) us->wpAny (model prog w) (A.under (.builtin "type.__call__" ⟨.ref C::us,[]⟩)) (call (vI) (.ref e::us)) (fun r s'=>r = .none/\Q (.ref e) s') E { heap:=h',gens:=g,drawn:=d,toks:=t,os:=os }) :
    wpAny (model prog w) A (call (.ref C) us) Q E { heap:=h,gens:=g,drawn:=d,toks:=t,os:=os }:=by
  have x':=x;obtain⟨a1,a2,a3,a4,a5,a6,a7,a8,a9,b1,b2,b3,b4,b5,b6,e⟩:=x';have f1:=tc_lookup;have f2:=tc_bind (.ref C);have hT:({ heap:=h,gens:=g,drawn:=d,toks:=t,os:=os }:Shared).TypeIs (.ref C) "type":=⟨_,e,rfl⟩;refine wpAny_call (codeAny_of_tree (show wpAny (model prog w) _ (callAny (.ref C) _) _ _ _ from ?_))
  repeat (any_goals (first | assumption | with_reducible refine wpAny_loadPart_at e ?_ | wp_step))
  refine⟨rfl,codeAny_call_builtin_at (Code.quiet_builtin _ (by decide +kernel)) entry_typeCall (wpAny_check_type_call_sub e (zso U x hz lk bd fun h' e' hs hm=>?_))⟩;exact k h' e' hs hm
end
section
variable {prog:Program}{w:World}{A:Around}{E:Value->Shared->Prop}{s:Shared}{env:Env}{bm:List Value}
theorem zp7 {y:Sem Value}{Q:Flow->Shared->Prop}(U:UnderV bm) (hh:A.handled=none)
    (k:wpAny (model prog w) A y (fun v s1=>∃e C oe vs,v = .ref e/\XObj s1.heap C bm/\s1.heap.get? e=some oe/\oe.cls = .ref C/\oe.data = .fields vs/\vs[1]? = some .none/\E (.ref e) s1) E s) :
    wpAny (model prog w) A (raiseStmt env (some y) none) Q E s:=by
  unfold raiseStmt;refine wpAny_bind (wpAny_mono k (fun v s1 k1=>?_) fun _ _ z=>z);obtain⟨e,C,oe,vs,rfl,⟨a1,a2,a3,a4,a5,a6,a7,a8,a9,b1,b2,b3,b4,b5,b6,o⟩,he,hc,hd,h1,hE⟩:=k1;have cB:=zh9 (C:=C) U.b;obtain⟨hp,g,d,tk,os⟩:=s1
  repeat (first
    | (with_reducible refine wpAny_loadPart_at he ?_;rw[hc])
    | with_reducible refine wpAny_loadPart_at o ?_
    | (with_reducible refine wpAny_isSubtype_exc o ?_;rw[cB])
    | wp_step)
  rw[hd];refine wpAny_pure ?_;rw[h1];refine wpAny_pure ?_;rw[if_neg (by decide)];exact wpAny_pure (wpAny_raiseNew_none hh hE)
theorem zp8 {x:Str}{C:Addr}{vI:Value}{np cpos pos:Pos}{a:PySem.Expr}{as:List PySem.Expr}{Q:Flow->Shared->Prop}(U:UnderV bm) (hh:A.handled=none)
    (hst:starEach (a::as) env=(false,eval a env)::starEach as env) (hpl:(backTo cpos (starEach as env)).any (·.1)=false)
    (k:wpAny (model prog w) A (eval (.Name x np) env) (fun f s1=>f = .ref C/\wpAny (model prog w) A (spliced (backTo cpos (starEach (a::as) env)))
      (fun us s2=>us.length<=sizeLine/\XObj s2.heap C bm/\PySem.W.Looks (model prog w) s2.heap (typeLookup (.ref C) "__init__") (some (vI))/\(∀self,PySem.W.Looks (model prog w) s2.heap (bindSpecial (vI) self) (vI,[self]))/\
        ∀h' e,s2.heap.objs.size<=e->Heap.MadeExcOf s2.heap h' e (.ref C) us->wpAny (model prog w) (A.under (.builtin "type.__call__" ⟨.ref C::us,[]⟩)) (call (vI) (.ref e::us))
          (fun r s3=>r = .none/\∃oe vs,XObj s3.heap C bm/\s3.heap.get? e=some oe/\oe.cls = .ref C/\oe.data = .fields vs/\vs[1]? = some .none/\E (.ref e) s3) E { s2 with heap:=h' }) E s1) E s) :
    wpAny (model prog w) A (exec (.Raise (some (.Call (.Name x np) (a::as) [] cpos)) none pos) env) Q E s:=by
  rw[arm_exec_Raise];simp only [evalOpt,Option.map];refine wpAny_bind (wpAny_standAt (zp7 U hh (wpAny_bind (wpAny_mono (wpAny_Call_ofName (wpAny_mono k (fun f s1 k1=>?_) fun _ _ z=>z)) (fun v s3 k3=>wpAny_bind (wpAny_standAt (wpAny_pure k3))) fun _ _ z=>z))));obtain⟨rfl,k1⟩:=k1;unfold callWith;have any:(backTo cpos (starEach (a::as) env)).any (·.1)=false:=by
    rw[hst];show (false||(backTo cpos (starEach as env)).any (·.1))=false;rw[hpl];rfl
  rw[hst] at k1 ⊢;refine wpAny_bind (wpAny_holding (Calls.evalArgs_plain (wpAny_mono k1 (fun us s2 k2=>wpAny_bind (wpAny_standAt ?_)) fun _ _ z=>z)));obtain⟨hz,xo,lk,bd,go⟩:=k2;obtain⟨hp,g,d,tk,os⟩:=s2;rw[hst] at any;simp only [any];have xo':=xo;obtain⟨a1,a2,a3,a4,a5,a6,a7,a8,a9,b1,b2,b3,b4,b5,b6,o⟩:=xo';refine wpAny_bind (wpAny_keeperOf_exc o ?_);refine wpAny_bind (zup U xo hz lk bd fun h' e hs hm=>wpAny_mono (go h' e hs hm) (fun r s3 q=>?_) fun _ _ z=>z);obtain⟨r0,oe,vs,q⟩:=q;exact⟨r0,wpAny_bind (wpAny_holding (wpAny_point (wpAny_pure ⟨e,C,oe,vs,rfl,q⟩)))⟩
end
theorem zgu {o:Obj}{vs:Array Value}(h:o.data = .fields vs) (f:Array Value->Array Value):Obj.mapFields f o = { o with data:=.fields (f vs) }:=by
  obtain⟨c,d,dt,sl⟩:=o;cases h;rfl
structure Gone (fs:List Addr) (e T:Addr) (xs:List Addr) (oe:Obj) (vs:Array Value) (h h':Heap):Prop where
  keep:∀b o,b≠e->b ∉ fs->b ∉ xs->h.get? b=some o->h'.get? b=some o
  slot:∀b o,b∈fs->h.get? b=some o->∃sl,h'.get? b=some { o with slots:=sl }
  new:h.get? T=none
  exc:h'.get? e=some { oe with data:=.fields (vs.setIfInBounds 1 (.ref T)) }
  ent:∃oT ts,h'.get? T=some oT/\oT.data = .fields ts/\ts[3]? = some .none
section
variable {M:Model}{A:Around}{E:Value->Shared->Prop}{s:Shared}
theorem zia {base:Heap}{env:Env}{outer:List Env}{L e:Addr}{oe:Obj}{vs:Array Value}{head:Value}{nx:Bool}{Q:Unit->Shared->Prop}
    (hfr:A.frames=some (env::outer)) (hl:s.heap.FunFrames base (env::outer)) (hf:env.frame=some L) (he:s.heap.get? e=some oe) (hd:oe.data = .fields vs) (hz:1<vs.size)
    (k:∀h',Gone (frs (env::outer)) e s.heap.objs.size [] oe vs s.heap h'->Q () { s with heap:=h' }) :
    wpAny M A (do let a ←frameOf env;let pl ←entryPlaceOf L nx;let b ←EntryCells.newEntry head a .none (rawInt L) .none pl;setField (.ref e) 1 b) (fun _ s'=>wpAny M A (setFlight (.ref e) none) Q E s') E s:=by
  have nf:∀b∈frs (env::outer),∃o,s.heap.get? b=some o/\∀us,o.data≠.fields us:=fun b hb=>(hl.mem hb).2
  have ne:e ∉ frs (env::outer):=fun hm=>by
    obtain⟨o,ho,hn⟩:=nf e hm;rw[he] at ho;cases ho;exact hn vs hd
  refine wpAny_bind (wpAny_frameOf_fun hfr hl hf fun h1 s1=>?_);obtain⟨z1,k1,u1⟩:=s1;refine wpAny_bind (wpAny_entryPlaceOf fun pl hpl=>?_);unfold EntryCells.newEntry newFields;refine wpAny_bind (wpAny_newObj_type ?_ (hpl.sizeOk5 _ _ _ _ _));have e1:h1.get? e=some oe:=(k1 e ne).trans he;generalize hN:({ cls:=.type "traceback",dict:=none,data:=.fields ([head,.ref L,.none,rawInt L,.none]++(if pl.isEmpty then List.replicate 6 Value.none else pl)).toArray }:Obj)=N;have dN:N.data = .fields ([head,.ref L,.none,rawInt L,.none]++(if pl.isEmpty then List.replicate 6 Value.none else pl)).toArray:=by rw[←hN]
  generalize hts:([head,.ref L,.none,rawInt L,.none]++(if pl.isEmpty then List.replicate 6 Value.none else pl)).toArray=ts at dN;have zt:3<ts.size:=by rw[←hts];simp
  have fN:N.isFreed=false:=Obj.isFreed_of_fields dN;have e2:=Heap.get?_push_of_some (h:=h1) N e1;refine wpAny_setField e2 hd hz ?_;have Te:h1.objs.size≠e:=Nat.ne_of_gt (Heap.lt_size e1);have e3:=Heap.get?_update_self (Obj.mapFields (·.setIfInBounds 1 (Value.ref h1.objs.size))) e2 (Obj.isFreed_of_fields (Obj.data_mapFields hd _));rw[zgu hd] at e3;have t3:=(Heap.get?_update_other (h1.push N) (Obj.mapFields (·.setIfInBounds 1 (Value.ref h1.objs.size))) (Ne.symm Te)).trans (Heap.get?_push_size h1 fN);unfold setFlight;refine wpAny_bind (wpAny_field e3 rfl (x:=.ref h1.objs.size) (by simp[hz]) ?_);rw[if_pos (show (Value.ref h1.objs.size != Value.none)=true from by simp)];refine wpAny_setField t3 dN zt (k _ ?_);have t4:=Heap.get?_update_self (Obj.mapFields (·.setIfInBounds 3 ((none:Option Addr).elim Value.none fun f=>rawInt f))) t3 (Obj.isFreed_of_fields (Obj.data_mapFields dN _));have oth:∀b o,b≠e->h1.get? b=some o->(((h1.push N).update e (Obj.mapFields (·.setIfInBounds 1 (Value.ref h1.objs.size)))).update h1.objs.size (Obj.mapFields (·.setIfInBounds 3 ((none:Option Addr).elim Value.none fun f=>rawInt f)))).get? b=some o:=fun b o hb q=>by
    rw[Heap.get?_update_other _ _ (Nat.ne_of_gt (Heap.lt_size q)),Heap.get?_update_other _ _ (Ne.symm hb)];exact Heap.get?_push_of_some _ q
  refine⟨fun b o hb hn _ q=>oth b o hb ((k1 b hn).trans q),fun b o hb q=>?_,Heap.get?_none_of_le (Nat.le_refl _),?_,?_⟩
  · obtain⟨sl,q1⟩:=u1 b o q;exact⟨sl,oth b _ (fun z=>ne (z▸hb)) q1⟩
  · rw[Heap.get?_update_other _ _ Te,e3,z1]
  · rw[←z1];exact⟨_,_,t4,Obj.data_mapFields dN _,by simp[zt]⟩
theorem znl {base:Heap}{env:Env}{outer:List Env}{L e:Addr}{oe:Obj}{vs:Array Value}{Q:Unit->Shared->Prop}
    (hfr:A.frames=some (env::outer)) (hl:s.heap.FunFrames base (env::outer)) (hf:env.frame=some L) (he:s.heap.get? e=some oe) (hd:oe.data = .fields vs) (h1:vs[1]? = some .none)
    (k:∀h',Gone (frs (env::outer)) e s.heap.objs.size [] oe vs s.heap h'->Q () { s with heap:=h' }):wpAny M A (leaving env (.ref e)) Q E s:=by
  unfold leaving noteFrame;simp only [hf];refine wpAny_bind (wpAny_bind (wpAny_field he hd h1 ?_));rw[if_neg (by decide)];exact zia hfr hl hf he hd (Array.getElem?_eq_some_iff.mp h1).1 k
theorem zp9 {base:Heap}{env:Env}{outer:List Env}{L e T:Addr}{oe oT:Obj}{vs ts:Array Value}{Q:Unit->Shared->Prop}
    (hfr:A.frames=some (env::outer)) (hl:s.heap.FunFrames base (env::outer)) (hf:env.frame=some L) (he:s.heap.get? e=some oe) (hd:oe.data = .fields vs) (h1:vs[1]? = some (.ref T))
    (hT:s.heap.get? T=some oT) (dT:oT.data = .fields ts) (h3:ts[3]? = some .none) (ne:T≠e)
    (k:∀h',Gone (frs (env::outer)) e s.heap.objs.size [T] oe vs s.heap h'->Q () { s with heap:=h' }):wpAny M A (leaving env (.ref e)) Q E s:=by
  unfold leaving noteFrame;simp only [hf];refine wpAny_bind (wpAny_bind (wpAny_field he hd h1 ?_));rw[if_pos (show (Value.ref T != Value.none)=true from by simp)];refine wpAny_bind (wpAny_field hT dT h3 ?_);rw[if_neg (show ¬((Value.none == rawInt L)=true) from by simp[rawInt])];have z3:=(Array.getElem?_eq_some_iff.mp h3).1;refine wpAny_bind (wpAny_setField hT dT z3 ?_);have oth:∀b,b≠T->(s.heap.update T (Obj.mapFields (·.setIfInBounds 3 Value.none))).get? b=s.heap.get? b:=fun b hb=>Heap.get?_update_other _ _ (Ne.symm hb)
  have self:=Heap.get?_update_self (Obj.mapFields (·.setIfInBounds 3 Value.none)) hT (Obj.isFreed_of_fields (Obj.data_mapFields dT _));have nf:T ∉ frs (env::outer):=fun hm=>by
    obtain⟨_,o,ho,hn⟩:=hl.mem hm;rw[hT] at ho;cases ho;exact hn ts dT
  have sz:(s.heap.update T (Obj.mapFields (·.setIfInBounds 3 Value.none))).objs.size=s.heap.objs.size:=Heap.size_after_update ..;refine zia (s:={ s with heap:=s.heap.update T (Obj.mapFields (·.setIfInBounds 3 Value.none)) }) hfr (hl.of_keeps fun b o hb hn=>⟨o,(oth b fun z=>?_).trans hb,rfl⟩) hf ((oth e ne.symm).trans he) hd (Array.getElem?_eq_some_iff.mp h1).1 fun h' G=>?_
  · subst z;rw[hT] at hb;cases hb;exact hn ts dT
  · have e1:(s.heap.update T (Obj.mapFields (·.setIfInBounds 3 Value.none))).objs.size=s.heap.objs.size:=sz;have G:=G;dsimp only at G;rw[e1] at G;refine k h' ⟨fun b o hb hn hx q=>G.keep b o hb hn (by simp) ((oth b fun z=>hx (by simp[z])).trans q),fun b o hb q=>G.slot b o hb ((oth b fun z=>nf (z▸hb)).trans q),Heap.get?_none_of_le (Nat.le_refl _),G.exc,G.ent⟩
end
def Fly (H:Hp) (h0 h:Heap) (e:Addr) (cls:Value) (dc:Option Addr):Prop:=
  ∃(oe:Obj) (vs:Array Value) (T:Addr) (oT:Obj) (ts:Array Value),h.get? e=some oe/\oe.cls=cls/\oe.dict=dc/\oe.data = .fields vs/\vs[1]? = some (.ref T)/\T≠e/\h.get? T=some oT/\oT.data = .fields ts/\ts[3]? = some .none/\
    H e=none/\H T=none/\h0.objs.size<=e/\h0.objs.size<=T
def zzw (H:Hp) (h0 h:Heap) (e:Addr) (cls:Value) (dc:Option Addr):Prop:=
  ∃(oe:Obj) (vs:Array Value),h.get? e=some oe/\oe.cls=cls/\oe.dict=dc/\oe.data = .fields vs/\vs[1]? = some .none/\H e=none/\h0.objs.size<=e
def CX1 (P:Program) (w:World):CXT:=fun outer H s E u s'=>∃(e:Addr) (cls:Value) (dc:Option Addr) (H':Hp),u = .ref e/\s'.os=s.os/\AllBare s'.gens/\Un (frs outer) [] H H' s.heap s'.heap/\HOk P w H' s'.heap/\
  Fly H' s.heap s'.heap e cls dc/\E cls dc H'
def XeIs (X:Cx) (E:XK):Prop:=X.xe=(fun u s'=>wpAny (model X.prog X.w) X.A (leaving X.env u) (fun _ s''=>CX1 X.prog X.w X.outer X.H₀ X.s₀ E u s'') (fun u' s''=>CX1 X.prog X.w X.outer X.H₀ X.s₀ E u' s'') s')/\
  X.stack=X.env::X.outer/\X.env.frame=some X.env.locals/\X.ex = []
theorem xeIs_of {P:Program}{w:World}{K:PySem.W.Frag}{mg:Str->Option Value}{base:Heap}{N:List Str}{qual:Str}{scope:Scope}{f:Addr}{cd:Value}{A:Around}{outer:List Env}{s:Shared}{H:Hp}{E:XK} :
    XeIs (cxOf (CX1 P w) P w K mg base N qual scope f cd A outer s H E) E:=⟨rfl,rfl,rfl,rfl⟩
section
variable {X:Cx}{pins:List (Addr×Obj)}{σ:St}{H:Hp}{s:Shared}{E:XK}{e:Addr}{cls:Value}{dc:Option Addr}
theorem zkm {h':Heap}{T:Addr}{xs:List Addr}{oe:Obj}{vs:Array Value}(I:Inv X pins σ H s) (x:XeIs X E) (G:Gone (frs (X.env::X.outer)) e T xs oe vs s.heap h') (hc:oe.cls=cls) (hdc:oe.dict=dc) (hz:1<vs.size)
    (He:H e=none) (nz:X.s₀.heap.objs.size<=e) (hxz:∀b∈xs,H b=none/\X.s₀.heap.objs.size<=b) (hTe:T≠e) (hsz:s.heap.objs.size<=T) (hE:E cls dc H) :
    CX1 X.prog X.w X.outer X.H₀ X.s₀ E (.ref e) { s with heap:=h' }:=by
  obtain⟨x1,x2,x3,x4⟩:=x;have ne:X.s₀.heap.get? e=none:=Heap.get?_none_of_le nz;have hx:∀b∈xs,H b=none/\X.s₀.heap.get? b=none:=fun b hb=>⟨(hxz b hb).1,Heap.get?_none_of_le (hxz b hb).2⟩
  have nL:∀b o,X.s₀.heap.get? b=some o->b≠X.env.locals:=fun b o q z=>absurd (Heap.lt_size q) (Nat.not_lt.mpr (z▸I.ok.above))
  have fr:∀b,b∈frs (X.env::X.outer)->b=X.env.locals\/b∈frs X.outer:=fun b hb=>by
    unfold frs at hb;rw[List.filterMap_cons,x3] at hb;exact List.mem_cons.mp hb
  have fr2:∀b,b∈frs X.outer->b∈frs (X.env::X.outer):=fun b hb=>by
    unfold frs;rw[List.filterMap_cons,x3];exact List.mem_cons_of_mem _ hb
  have notx:∀b o,X.s₀.heap.get? b=some o->b≠e/\b ∉ xs:=fun b o q=>⟨fun z=>(by rw[z,ne] at q;cases q),fun z=>(by rw[(hx b z).2] at q;cases q)⟩
  have HT:H T=none:=I.hok.fresh hsz;have sf:∀b∈frs (X.env::X.outer),H b=none:=by
    have:=I.stkFree;rw[x2] at this;exact this
  refine⟨e,cls,dc,H,rfl,I.os,I.bare,?_,?_,?_,hE⟩
  · refine⟨fun b o q n nf _=>?_,fun b o q n nf _=>?_,fun b o q n _=>I.base.free b o q n (by rw[x4];simp),fun b o q _=>?_,I.base.tups,I.base.frzs,I.base.tbls⟩
    · exact G.keep b o (notx b o q).1 (fun z=>(fr b z).elim (nL b o q) nf) (notx b o q).2 (I.base.keep b o q n nf (by rw[x4];simp))
    · obtain⟨sl,z⟩:=I.base.slot b o q n nf (by rw[x4];simp);obtain⟨sl',z'⟩:=G.slot b _ (fr2 b nf) z;exact⟨sl',z'⟩
    · obtain⟨o',z⟩:=I.base.there b o q (by rw[x4];simp)
      by_cases hb:b∈frs (X.env::X.outer)
      · obtain⟨sl,z'⟩:=G.slot b _ hb z;exact⟨_,z'⟩
      · exact⟨_,G.keep b _ (notx b o q).1 hb (notx b o q).2 z⟩
  · intro a o q;refine (I.hok a o q).stay (fun b u hb z=>?_) (fun _ z=>z) fun _ _ z=>z
    have Hb:H b≠none:=by
      rcases hb with z | z
      · rw[z,q];simp
      · rw[z];simp
    exact G.keep b u (fun z=>Hb (z▸He)) (fun z=>Hb (sf b z)) (fun z=>Hb (hx b z).1) z
  · obtain⟨oT,ts,t1,t2,t3⟩:=G.ent;refine⟨_,_,T,oT,ts,G.exc,hc,hdc,rfl,by simp[hz],hTe,t1,t2,t3,He,HT,nz,Nat.le_trans I.sz hsz⟩
theorem zuq (I:Inv X pins σ H s) (x:XeIs X E) (r:zzw H X.s₀.heap s.heap e cls dc) (hE:E cls dc H):X.xe (.ref e) s:=by
  obtain⟨oe,vs,he,hc,hdc,hd,h1,He,ne⟩:=r;have x':=x;obtain⟨x1,x2,x3,x4⟩:=x';rw[x1];have fr:=I.ok.frames;have st:=I.stack;rw[x2] at fr st;exact znl fr st x3 he hd h1 fun h' G=>zkm I x G hc hdc (Array.getElem?_eq_some_iff.mp h1).1 He ne (fun b hb=>absurd hb (by simp)) (Nat.ne_of_gt (Heap.lt_size he)) (Nat.le_refl _) hE
theorem zyw (I:Inv X pins σ H s) (x:XeIs X E) (r:Fly H X.s₀.heap s.heap e cls dc) (hE:E cls dc H):X.xe (.ref e) s:=by
  obtain⟨oe,vs,T,oT,ts,he,hc,hdc,hd,h1,hTe,hT,dT,h3,He,HT,ne,nT⟩:=r;have x':=x;obtain⟨x1,x2,x3,x4⟩:=x';rw[x1];have fr:=I.ok.frames;have st:=I.stack;rw[x2] at fr st;refine zp9 fr st x3 he hd h1 hT dT h3 hTe fun h' G=>zkm I x G hc hdc (Array.getElem?_eq_some_iff.mp h1).1 He ne (fun b hb=>?_) (Nat.ne_of_gt (Heap.lt_size he)) (Nat.le_refl _) hE
  rw[List.mem_singleton] at hb;subst hb;exact⟨HT,nT⟩
theorem zyx (x:XeIs X E):zda (CX1 X.prog X.w) X E:=by
  intro pins σ H s u s' I h;obtain⟨e,cls,dc,H',rfl,os,bare,un,hok,fl,hE⟩:=h;have I':=I.call' os un hok bare (ch:=[]) (fun b z=>absurd z (by simp));obtain⟨oe,vs,T,oT,ts,he,hc,hdc,hd,h1,hTe,hT,dT,h3,He,HT,ne,nT⟩:=fl;exact zyw I' x ⟨oe,vs,T,oT,ts,he,hc,hdc,hd,h1,hTe,hT,dT,h3,He,HT,Nat.le_trans I.sz ne,Nat.le_trans I.sz nT⟩ hE
theorem XeIs.own (x:XeIs X E):PassesOwn (model X.prog X.w) X.A X.env X.xe:=by
  rw[x.1];exact PassesOwn.leaving
end
def HasX (P:Program) (w:World) (K:PySem.W.Frag) (mg:Str->Option Value) (base:Heap) (x:Str) (ps:List Str) (k:Nat) (sp:Sp):Prop:=
  ∃(f:Addr) (fd:FuncData),mg x=some (.ref f)/\PySem.W.keepIn K (.ref f)=true/\(∃oc od osl,K.lookup f=some ⟨oc,od,.func fd,osl⟩)/\(∀us:List Value,us.length=ps.length->bindArgs fd ⟨us,[]⟩=pure (ps.zip us))/\FnOk P w K mg base (CX1 P w) k f fd ps sp
def zl7 (P:Program) (w:World) (K:PySem.W.Frag) (mg:Str->Option Value) (base:Heap) (C:Addr) (m:Str) (ps:List Str) (k:Nat) (sp:Sp):Prop:=
  ∃(f:Addr) (fd:FuncData),Meth K C m f/\(∀us:List Value,us.length=ps.length->bindArgs fd ⟨us,[]⟩=pure (ps.zip us))/\FnOk P w K mg base (CX1 P w) k f fd ps sp
section
variable {P:Program}{w:World}{K:PySem.W.Frag}{mg:Str->Option Value}{base:Heap}
theorem Df.hasX {x:Str}{st:Stmt}{N ps:List Str}{k:Nat}{sp:Sp}(D:Df K mg x st ps) (S:FnScope N ps (zm st)) (len:∀vs H Q E,sp vs H Q E->vs.length=ps.length)
    (body:∀(f:Addr) (cdv:Value) (A:Around) (outer:List Env) (s:Shared) (H:Hp) (vs:List V) (Q:VK) (E:XK),Room k (A.deeper (envOfC x (zm st) s.heap.objs.size f cdv))->sp vs H Q E->
      ∃t,PSs (cxOf (CX1 P w) P w K mg base N x (zm st) f cdv A outer s H E) (zh st) t/\t { nx:=fun _ H'=>Q .non H',rt:=Q } (start N vs) H):HasX P w K mg base x ps (k+1) sp:=by
  obtain⟨f,fd,F,a,b⟩:=D;obtain⟨oc,od,kV,doc,pm,an,cdv,ct,osl,e,lk,hcd⟩:=id F.ex;subst e;exact⟨f,_,a,F.kp,⟨oc,od,osl,lk⟩,b,zv3 lk hcd S len (body f cdv)⟩
end
section
variable {X:Cx}{k:Nat}{ps:List Str}{sp:Sp}{E:XK}{C:Addr}{m x:Str}{p pos apos:Pos}{o e:Expr}{es:List Expr}{t:TA}{ta:TE}
theorem zvs (F:HasX X.prog X.w X.K X.mg X.base x ps k sp) (xe:XeIs X E) (hr:Room k X.A) (hg:Gl X x) (ha:PA X (e::es) t) (hdb:(x == ("__debug__" : Str))=false:=by decide)
    (he:starEach (e::es) X.env=(false,eval e X.env)::starEach es X.env:=by rfl) (hpl:(backTo pos (starEach es X.env)).any (·.1)=false:=by rfl):PE X (.Call (.Name x p) (e::es) [] pos) (ztw sp [] E t):=by
  obtain⟨f,fd,a,kp,_,b,G⟩:=F;exact zm8 G hr hg a kp (.all b) .nil (zyx xe) ha hdb he hpl
theorem zd2 {pl:Sem Bool}(F:zl7 X.prog X.w X.K X.mg X.base C m ps k sp) (xe:XeIs X E) (c:Cls X.K C) (hr:Room k X.A) (he:PE X o ta) (ha:PA X (e::es) t)
    (hst:starEach (e::es) X.env=(false,eval e X.env)::starEach es X.env:=by rfl) (hpl:(backTo pos (starEach es X.env)).any (·.1)=false:=by rfl)
    (ht:eval (.Call (.Attribute o m apos) (e::es) [] pos) X.env=(do
      let ov ←eval o X.env
      standAt apos.atName
      let (f,first) ←holding [ov] (getMethod ov m pl)
      callWith pos f first (backTo pos (starEach (e::es) X.env)) (backToKw pos (keywordEach [] X.env))):=by rfl) :
    PE X (.Call (.Attribute o m apos) (e::es) [] pos) (zrd C m sp [] E ta t):=by
  obtain⟨f,fd,a,b,G⟩:=F;exact zrf he c a G hr (.all b) .nil (zyx xe) ha hst hpl ht
end
section
variable {prog:Program}{w:World}{A:Around}{E:Value->Shared->Prop}{h:Heap}{g:Array GenState}{d:Drawn}{t:Nat}{os:OsState}{C:Addr}{bm:List Value}
theorem zqa {M:Model}{Q:Unit->Shared->Prop}{e:Addr}{oe:Obj}{us:List Value}(U:UnderV bm) (x:XObj h C bm) (he:h.get? e=some oe) (hc:oe.cls = .ref C) (k:Q () { heap:=h,gens:=g,drawn:=d,toks:=t,os:=os }) :
    wpAny M A (checkBuiltinCall "ValueError.__init__" ⟨.ref e::us,[]⟩) Q E { heap:=h,gens:=g,drawn:=d,toks:=t,os:=os }:=by
  obtain⟨a1,a2,a3,a4,a5,a6,a7,a8,a9,b1,b2,b3,b4,b5,b6,o⟩:=x;have F:=PySem.F.excBase_ValueError;have c1:=zh9 (C:=C) U.v;have hs:=F.noStar;simp only [checkBuiltinCall,F.initKind,F.initSplit,F.initRow]
  repeat (first
    | (with_reducible refine wpAny_loadPart_at he ?_;rw[hc])
    | with_reducible refine wpAny_loadPart_at o ?_
    | (with_reducible refine wpAny_isSubtype_exc o ?_;rw[c1])
    | wp_step)
  refine wpAny_onRaise ?_;have st:∀(a b:String) (n:Nat),Bind.check ⟨.positional,"*","ValueError",.self,[⟨"args",.varPos,false⟩]⟩ a b n (List.map (fun x=>x.fst) ({ pos:=Value.ref e::us }:Args).kw)=pure ():=fun a b n=>check_star_args _ _ _ _ _ _
  rw[st];exact wpAny_pure k
theorem zzx {Q:Value->Shared->Prop}{e t0:Addr}{oe:Obj}{vs:Array Value}{us:List Value}(U:UnderV bm) (x:XObj h C bm) (hz:us.length<=sizeLine) (he:h.get? e=some oe) (hc:oe.cls = .ref C) (hd:oe.data = .fields vs) (h0:vs[0]? = some (.ref t0))
    (k:∀h',(∀b o,b≠e->h.get? b=some o->h'.get? b=some o)->h'.get? e=some { oe with data:=.fields (vs.setIfInBounds 0 (.ref h.objs.size)) }->Q .none { heap:=h',gens:=g,drawn:=d,toks:=t,os:=os }) :
    wpAny (model prog w) A (call (.builtin "ValueError.__init__") (.ref e::us)) Q E { heap:=h,gens:=g,drawn:=d,toks:=t,os:=os }:=by
  have F:=PySem.F.excBase_ValueError;refine wpAny_call (codeAny_call_builtin F.init.plain F.initEntry (zqa U x he hc ?_));unfold Builtin.«BaseException.__init__»
  wp_walk
  rw[hd];refine wpAny_pure ?_;rw[h0];refine wpAny_pure (wpAny_bind ?_);have he2:=Heap.get?_push_of_some (h:=h) { cls:=.type "tuple",data:=.seq us.toArray } he;have z0:=(Array.getElem?_eq_some_iff.mp h0).1;refine wpAny_setField he2 hd z0 ?_;have e3:=Heap.get?_update_self (Obj.mapFields (·.setIfInBounds 0 (Value.ref h.objs.size))) he2 (Obj.isFreed_of_fields (Obj.data_mapFields hd _));rw[zgu hd] at e3;have go:=k _ (fun b o hb q=>(Heap.get?_update_other _ _ (Ne.symm hb)).trans (Heap.get?_push_of_some _ q)) e3
  wp_walk
  exact go
end
def zit:List Value->Bool
  | [.type a,.type b,.type c,.type d]=>a == "ValueError" && (b == "Exception" && (c == "BaseException" && d == "object"))
  | .ref _::r=>zit r
  | _=>false
theorem zib:∀{l:List Value},zit l=true->l = [.type "ValueError",.type "Exception",.type "BaseException",.type "object"]\/∃c r,l = .ref c::r/\zit r=true
  | [.type a,.type b,.type c,.type d],e=>by
    simp only [zit,Bool.and_eq_true,beq_iff_eq] at e;obtain⟨rfl,rfl,rfl,rfl⟩:=e;exact .inl rfl
  | .ref c::r,e=>.inr ⟨c,r,rfl,by unfold zit at e;exact e⟩
theorem zo0 (self:Value):∀{l:List Value},zit l=true->refuseLoop self "__setattr__" l=pure ()
  | [],e=>by cases e
  | v::r,e=>by
    rcases zib e with h | ⟨c,r',h,e'⟩
    · rw[h];exact PySem.F.store_ValueError.passes self
    · cases h;rw[refuseLoop_ref];exact zo0 self e'
theorem zl8:∀{l:List Value},zit l=true->l.contains (.type "object")=true
  | [],e=>by cases e
  | v::r,e=>by
    rcases zib e with h | ⟨c,r',h,e'⟩
    · rw[h];decide +kernel
    · cases h;rw[List.contains_cons,zl8 e',Bool.or_true]
def znm (K:PySem.W.Frag) (C:Addr):Bool:=(PySem.W.clsIn K C).any fun cd=>zit cd.mro
structure XCls (K:PySem.W.Frag) (C:Addr):Prop where
  hd:PySem.W.hasDictIn K C=true
  po:znm K C=true
  sa:PySem.W.findIn K (.ref C) "__setattr__" = some (some (.builtin "object.__setattr__"))
section
variable {prog:Program}{w:World}{A:Around}{E:Value->Shared->Prop}{R:Result->Shared->Prop}{s:Shared}{K:PySem.W.Frag}{x C:Addr}{name:Str}{v:Value}
theorem zsp {ox:Obj}{od:Option Obj}{tk:Tok}{r:Option Value}(X:K.In s.heap) (I:PySem.W.InstAt s.heap x ox C od) (hp:(PySem.W.clsIn K C).any (fun cd=>zit cd.mro)=true) (ht:PySem.W.takerIn K C name=some r)
    (h:∀b,wpAny (model prog w) A.in1 (match r with | some a=>Builtin.ObjectAttr.setByDescriptor a (.ref x) v | none=>Builtin.ObjectAttr.storeInOwnDict (.ref x) (.ref C) (.str name tk) name v b)
      (fun fin s'=>match fin with | .done f=>R (.ok f) s' | .again c'=>c'.quiet=true/\codeAny (model prog w) A c' R s') (fun e s'=>R (.error e) s') s) :
    codeAny (model prog w) A (.call (.builtin "object.__setattr__") ⟨[.ref x,.str name tk,v],[]⟩) R s:=by
  have SF:=PySem.F.store_object;obtain⟨cd,hc,ho⟩:=PySem.W.any_some hp;have ne:cd.mro.isEmpty=false:=by cases q:cd.mro with | nil=>rw[q] at ho;cases ho | cons _ _=>rfl
  have sub:PySem.W.Looks (model prog w) s.heap (isInstance (.ref x) (.type "object")) true:=I.type.andThen (PySem.W.looks_mroIn X (by unfold PySem.W.mroIn;rw[hc,Option.bind_some,if_neg (by rw[ne];decide),zl8 ho]));refine codeAny_call_builtin SF.slot.plain SF.entry (@PySem.W.check_slot (model prog w) _ _ s "object.__setattr__" "object" "__setattr__" (.ref x) [.str name tk,v] [] _ SF.kind SF.split sub (SF.args (.ref x) (.str name tk) v) ?_);obtain⟨attr,ha,hr⟩:=Option.bind_eq_some_iff.mp ht;have hm:PySem.W.Looks (model prog w) s.heap (mroOf (.ref C)) cd.mro:=(PySem.W.looks_clsIn X hc).andThen .now;have L3:PySem.W.Looks (model prog w) s.heap (Builtin.ObjectAttr.storeTaker? attr) r:=by
    cases attr with
    | none=>cases hr;exact .now
    | some a=>
      obtain⟨b,hb,rfl⟩:=Option.map_eq_some_iff.mp hr;refine (PySem.W.looks_takesIn X hb).andThen ?_;cases b<;>exact .now
  rw[PySem.W.osa_eq,refuse_eq];refine wpAny_bind (wpAny_bind (I.type.here (wpAny_bind (hm.here ?_))));rw[zo0 _ ho];refine wpAny_pure (wpAny_bind (I.type.here (wpAny_bind ((PySem.W.looks_findIn X ha).here (wpAny_bind (L3.here ?_))))));exact h _
theorem xset {oe:Obj}{vs:Array Value}{Q:Unit->Shared->Prop}(X:K.In s.heap) (he:s.heap.get? x=some oe) (hcl:oe.cls = .ref C) (hdn:oe.dict=none) (hdt:oe.data = .fields vs) (c:XCls K C) (ht:PySem.W.takerIn K C name=some none)
    (h:∀h' tk,(∀b o,b≠x->s.heap.get? b=some o->h'.get? b=some o)->h'.get? x=some { oe with dict:=some s.heap.objs.size }->h'.Ns1 s.heap.objs.size (fun y=>if y=name then some v else none)->Q () { s with heap:=h',toks:=tk }) :
    wpAny (model prog w) A (setAttr (.ref x) name v) Q E s:=by
  have J:PySem.W.InstAt s.heap x oe C none:=⟨he,hcl,by unfold PySem.W.notCls;rw[hdt],by rw[hdn];trivial⟩;refine PySem.W.set_plain X J c.sa (zsp (s:={ s with toks:=s.toks+1 }) (r:=none) X J c.po ht fun b=>?_);obtain⟨cd,hc,hd'⟩:=PySem.W.any_some c.hd;obtain⟨oc,od,odt,osl⟩:=oe;dsimp only at hcl hdn hdt;subst hcl hdn hdt;refine wpAny_bind (wpAny_pure (wpAny_bind (wpAny_bind (wpAny_loadPart he (wpAny_bind (PySem.W.Looks.here (s:={ s with toks:=s.toks+1 }) (PySem.W.looks_clsIn X hc) ?_))))));rw[hd'];have hx₁:(s.heap.push { cls:=.type "dict",data:=.dict #[] }).get? x=some { cls:=Value.ref C,data:=Data.fields vs,slots:=osl }:=Heap.get?_push_of_some _ he;have hxs:x≠s.heap.objs.size:=Nat.ne_of_lt (Heap.lt_size he);rw[if_neg (by decide)];show wpAny (model prog w) _ (if (!true || !typeHasDict (Value.ref C))=true then pure none else _) _ _ _;rw[if_neg (by simp[typeHasDict])];refine wpAny_bind (wpAny_alloc' ?_);refine wpAny_bind (wpAny_update' hx₁ ?_);refine wpAny_pure ?_;have hgd:((s.heap.push { cls:=.type "dict",data:=.dict #[] }).update x fun o=>{ cls:=o.cls,dict:=some s.heap.objs.size,data:=o.data,slots:=o.slots }).get? s.heap.objs.size
      = some { cls:=.type "dict",data:=.dict #[] }:=
    (Heap.get?_update_ne _ _ _ _ hxs.symm).trans (Heap.get?_push_at rfl rfl)
  have hnd:((s.heap.push { cls:=.type "dict",data:=.dict #[] }).update x fun o=>{ cls:=o.cls,dict:=some s.heap.objs.size,data:=o.data,slots:=o.slots }).Ns s.heap.objs.size (fun _=>none):=
    ⟨_,#[],_,hgd,rfl,fun e he=>absurd he (by simp),fun _=>rfl⟩
  show wpAny _ _ (Builtin.ObjectAttr.storeInDict s.heap.objs.size (.str name s.toks) name v) _ _ _;unfold Builtin.ObjectAttr.storeInDict Builtin.ObjectAttr.newKeyGuard;refine wpAny_bind (wpAny_pure (wpAny_bind (wpAny_nsSet1 (Heap.Ns1.of_empty hnd) fun h' hn' hs=>?_)));obtain⟨oD,esD,epD,hoD,hdD,hcD⟩:=hn'.count (Within.cons name v Within.nil);refine wpAny_bind (wpAny_lookBehind hoD (by rw[hdD];exact pastItsLine_dict (Nat.le_trans hcD (by rw[List.length_cons,List.length_nil,sizeLine_eq];omega))) ?_);refine wpAny_pure (h h' _ (fun b o hb q=>?_) ?_ hn')
  · exact (hs.2 b (Nat.ne_of_lt (Heap.lt_size q))).trans ((Heap.get?_update_ne _ _ _ _ hb).trans (Heap.get?_push_of_some _ q))
  · exact (hs.2 x hxs).trans (Heap.get?_update_self _ hx₁ rfl)
end
def excO (e C:Addr) (dc:Option Addr):HO:=.ext fun h=>∃oe vs t0,h.get? e=some oe/\oe.cls = .ref C/\oe.dict=dc/\oe.data = .fields vs/\vs[0]? = some (.ref t0)/\vs[1]? = some .none
section
variable {X:Cx}{pins:List (Addr×Obj)}{σ:St}{H:Hp}{s:Shared}{a C:Addr}{dc:Option Addr}{f:Str}{A:Around}{E:Value->Shared->Prop}
theorem zsq {P:Program}{w:World}{h:Heap}{oe:Obj}{vs:Array Value}{t0:Addr}(h1:h.get? a=some oe) (h2:oe.cls = .ref C) (h3:oe.dict=dc) (h4:oe.data = .fields vs) (h5:vs[0]? = some (.ref t0)) (h6:vs[1]? = some .none):ObjOk P w H h a (excO a C dc):=
  ⟨⟨oe,vs,t0,h1,h2,h3,h4,h5,h6⟩,⟨oe,h1⟩,fun g1 g2 ⟨oe',vs',t0',q1,q2⟩ k=>⟨oe',vs',t0',k _ q1,q2⟩⟩
theorem znn {y:V}{u:Value}{Q:Unit->Shared->Prop}(I:Inv X pins σ H s) (e:H a=some (excO a C none)) (c:XCls X.K C) (n:NoAttr X.K C f) (ry:RelV y u)
    (h:∀d s',H d=none->Inv X pins σ (upd (upd H d (.xd [(f,y)])) a (excO a C (some d))) s'->Q () s'):wpAny (model X.prog X.w) A (setAttr (.ref a) f u) Q E s:=by
  obtain⟨⟨oe,vs,t0,h1,h2,h3,h4,h5,h6⟩,_,_⟩:=(show ObjOk X.prog X.w H s.heap a (excO a C none) from I.hok a _ e);refine xset I.kIn h1 h2 h3 h4 c n.taker fun h' tk k hx hns=>?_
  have hd:=I.hok.fresh (Nat.le_refl s.heap.objs.size);have hne:s.heap.objs.size≠a:=Nat.ne_of_gt (Heap.lt_size h1);have fr:oe.isFreed=false:=Obj.isFreed_of_fields h4;have u1:(h'.update a fun _=>oe).get? a=some oe:=Heap.get?_update_self _ hx fr;have u2:∀b,b≠a->(h'.update a fun _=>oe).get? b=h'.get? b:=fun b hb=>Heap.get?_update_other _ _ (Ne.symm hb)
  have I1:=I.laid (a:=s.heap.objs.size) (o:=.xd [(f,y)]) (h':=h'.update a fun _=>oe) (t':=tk) (fun b o q=>by
    by_cases hb:b=a
    · subst hb;rw[h1] at q;cases q;exact u1
    · rw[u2 b hb];exact k b o hb q) (Nat.le_refl _) ⟨_,hns.at fun o q=>by rw[u2 _ hne];exact q,fun g=>by
        by_cases hg:g=f
        · rw[if_pos hg];subst hg;rw[List.lookup_cons,beq_self_eq_true];exact ry
        · rw[if_neg hg,List.lookup_cons,beq_eq_false_iff_ne.mpr hg];exact True.intro⟩
  have I2:=I1.write (x:=a) (e:=a) (o:=excO a C (some s.heap.objs.size)) (h':=h') (t':=tk) (by rw[zv hne.symm,e];exact True.intro) (.inl rfl) (fun b o hb q=>by rw[u2 b hb] at q;exact q) ⟨_,hx⟩ (zsq hx h2 rfl h4 h5 h6);exact h _ _ hd I2
end
structure XBase (K:PySem.W.Frag) (D:Addr):Prop where
  rd:PySem.W.readsIn K D (.type "type")=true
  ga:PySem.W.specialIn K (.ref D) "__getattribute__" = some (some (.builtin "type.__getattribute__"))
  fc:PySem.W.findCls K (.ref D) (.type "type") "__init__" = some (.val (.builtin "ValueError.__init__"))
def XObjK (K:PySem.W.Frag) (C:Addr) (bm:List Value):Prop:=∃nm q N bs hdct sn sub ab col dd k0 k1 k2 k3 k5,K.lookup C=some (excClassObj nm q C N bs bm hdct sn sub ab col dd k0 k1 k2 k3 k5 "ValueError.__new__")
theorem XObjK.in {K:PySem.W.Frag}{C:Addr}{bm:List Value}{h:Heap}(x:XObjK K C bm) (X:K.In h):XObj h C bm:=by
  obtain⟨a1,a2,a3,a4,a5,a6,a7,a8,a9,b1,b2,b3,b4,b5,b6,e⟩:=x;exact⟨a1,a2,a3,a4,a5,a6,a7,a8,a9,b1,b2,b3,b4,b5,b6,X _ _ e⟩
def zyy (K:PySem.W.Frag) (t:TA):TE:=fun σ H Q=>t σ H fun xs H1=>∃a C dc bm rest,xs = .ref a::rest/\H1 a=some (excO a C dc)/\XObjK K C bm/\UnderV bm/\rest.length<=sizeLine/\Q .non H1
def zzy (K:PySem.W.Frag) (ta tv:TE) (f:Str):TS:=fun D σ H=>tv σ H fun y H1=>ta σ H1 fun x H2=>∃a C,x = .ref a/\H2 a=some (excO a C none)/\XCls K C/\NoAttr K C f/\
  ∀d,H2 d=none->D.nx σ (upd (upd H2 d (.xd [(f,y)])) a (excO a C (some d)))
theorem zyz {H:Hp}{a:Addr}{o:HO}(h:H a=some o):upd H a o=H:=by
  funext b;unfold upd
  by_cases e:b=a
  · rw[if_pos e,e,h]
  · rw[if_neg e]
section
variable {X:Cx}{o e value:Expr}{es:List Expr}{x f:Str}{p pos pos' apos:Pos}{ta tv:TE}{t:TA}{D:Addr}
theorem zw3 (ha:PE X o ta) (hv:PE X value tv) (hs:swapsWith value (some (.Attribute o f pos')) pos.line X.env=pure false):PS X (.Assign [.Attribute o f pos'] value pos) (zzy X.K ta tv f):=by
  intro pins s σ H D I h;refine plainObj_wpAny_Assign_Attribute (thn (hv pins s σ H _ I h) fun u s1 ⟨y,H1,I1,ry,q⟩=>thn (ha pins s1 σ H1 _ I1 q) fun ov s2 hq0=>?_) hs;obtain⟨x,H2,I2,rx,a,C,ex,ea,c,n,q2⟩:=hq0;subst ex;obtain rfl:ov=Value.ref a:=rx;exact znn I2 ea c n ry fun d s3 hd I3=>⟨σ,_,I3,q2 d hd⟩
theorem zur {pins:List (Addr×Obj)}{s:Shared}{σ:St}{H:Hp}{a C:Addr}{dc:Option Addr}{bm:List Value}{us:List Value}{Q:VK}(I:Inv X pins σ H s) (e:H a=some (excO a C dc)) (xo:XObjK X.K C bm) (U:UnderV bm) (hz:us.length<=sizeLine) (q:Q .non H) :
    wpAny (model X.prog X.w) X.A (call (.builtin "ValueError.__init__") (.ref a::us)) (EP X pins σ Q) X.xe s:=by
  obtain⟨⟨oe,vs,t0,h1,h2,h3,h4,h5,h6⟩,_,_⟩:=(show ObjOk X.prog X.w H s.heap a (excO a C dc) from I.hok a _ e);obtain⟨hp,g,d,tk,os⟩:=s;refine zzx U (xo.in I.kIn) hz h1 h2 h4 h5 fun h' k hx=>?_
  have z0:=(Array.getElem?_eq_some_iff.mp h5).1;have I2:=I.write (x:=a) (e:=a) (o:=excO a C dc) (h':=h') (t':=tk) (by rw[e];exact True.intro) (.inl rfl) (fun b o hb z=>k b o hb z) ⟨_,hx⟩ (zsq (t0:=hp.objs.size) hx h2 h3 rfl (by simp[z0]) (by rw[Array.getElem?_setIfInBounds_ne (by decide)];exact h6));rw[zyz e] at I2;exact⟨.non,H,I2,rfl,q⟩
theorem zus {pl:Sem Bool}(hg:Gl X x) (hm:X.mg x=some (.ref D)) (b:XBase X.K D) (ha:PA X (e::es) t) (hdb:(x == ("__debug__" : Str))=false:=by decide)
    (hst:starEach (e::es) X.env=(false,eval e X.env)::starEach es X.env:=by rfl) (hpl:(backTo pos (starEach es X.env)).any (·.1)=false:=by rfl)
    (ht:eval (.Call (.Attribute (.Name x p) "__init__" apos) (e::es) [] pos) X.env=(do
      let ov ←eval (.Name x p) X.env
      standAt apos.atName
      let (f,first) ←holding [ov] (getMethod ov "__init__" pl)
      callWith pos f first (backTo pos (starEach (e::es) X.env)) (backToKw pos (keywordEach [] X.env))):=by rfl) :
    PE X (.Call (.Attribute (.Name x p) "__init__" apos) (e::es) [] pos) (zyy X.K t):=by
  intro pins s σ H Q I h;refine PySem.W.methodCall_KW (pl:=pl) (zdg I hg hm ?_ hdb) ht;refine PySem.W.method_cls I.kIn b.ga (PySem.W.cls_value I.kIn b.rd b.fc (by decide +kernel) ?_);have hA:=ha pos pins _ σ H _ (I.tok (s.toks+1)) h;rw[hst] at hA ⊢;refine Calls.callWith_builtin (by show (false||(backTo pos (starEach es X.env)).any (·.1))=false;rw[hpl]<;>rfl) (Calls.evalArgs_plain ?_);refine thn hA fun us s2 hq0=>?_
  obtain⟨vs,H2,I2,r2,a,C,dc,bm,rest,ev,ea,xo,U,hz,q⟩:=hq0;subst ev;cases r2 with
  | cons r1 r2=>
    cases r1;exact zur I2 ea xo U (by rw[←r2.length];exact hz) q
end
def del (H:Hp) (e:Addr):Hp:=fun b=>if b=e then none else H b
theorem zkn {H:Hp}{e:Addr}:del H e e=none:=by unfold del;rw[if_pos rfl]
theorem zic {H:Hp}{e b:Addr}(h:b≠e):del H e b=H b:=by unfold del;rw[if_neg h]
structure XMk (K:PySem.W.Frag) (C f:Addr) (bm:List Value):Prop where
  obj:XObjK K C bm
  un:UnderV bm
  init:PySem.W.findIn K (.ref C) "__init__" = some (some (.ref f))
  fn:PySem.W.isFn K (.ref f)=true
section
variable {X:Cx}{pins:List (Addr×Obj)}{σ:St}{H:Hp}{s:Shared}
theorem Inv.drop {e:Addr}{φ:Heap->Prop}(I:Inv X pins σ H s) (he:H e=some (.ext φ)):Inv X pins σ (del H e) s:=by
  refine I.un (h':=s.heap) (t':=s.toks) ⟨fun _ _ q _ _ _=>q,fun b o q _ _ _=>⟨o.slots,q⟩,fun b o _ n _=>?_,fun b o q _=>⟨o,q⟩,fun b xs q=>?_,fun b o u q=>?_,fun b ps q=>⟨#[],?_⟩⟩ fun a o q=>?_
  · by_cases z:b=e
    · rw[z];exact zkn
    · rw[zic z];exact n
  · rw[zic (fun z=>by rw[z,he] at q;cases q)];exact q
  · rw[zic (fun z=>by rw[z,he] at q;cases q)];exact q
  · rw[zic (fun z=>by rw[z,he] at q;cases q),Array.append_empty];exact q
  · have na:a≠e:=fun z=>by rw[z,zkn] at q;cases q
    rw[zic na] at q;refine (I.hok a o q).stay (fun _ _ _ z=>z) (fun b z=>?_) fun b xs z=>?_
    · rw[zic (fun w=>by rw[w,he] at z;cases z)];exact z
    · rw[zic (fun w=>by rw[w,he] at z;cases z)];exact z
end
def zvt (C:Addr) (sp:Sp) (dvs:List V) (E E1:XK) (t:TA):TS:=fun _ σ H=>t σ H fun vs H1=>∀e,H1 e=none->sp (.ref e::(vs++dvs)) (upd H1 e (excO e C none)) (fun v H2=>v = .non/\∃dc,H2 e=some (excO e C dc)/\E (.ref C) dc (del H2 e)) E1
section
variable {X:Cx}{CX:CXT}{k:Nat}{f C:Addr}{fd:FuncData}{ps:List Str}{sp:Sp}{dvs:List V}{ds:List Value}{E E1:XK}{x:Str}{p pos cpos:Pos}{e:Expr}{es:List Expr}{t:TA}{bm:List Value}
theorem zut (M:XMk X.K C f bm) (F:FnOk X.prog X.w X.K X.mg X.base CX k f fd ps sp) (hr:Room (k+1) X.A) (xe:XeIs X E) (hx:zda CX X E1) (hg:Gl X x) (hm:X.mg x=some (.ref C)) (hb:Binds X.K fd ps ds) (hd:Vals dvs ds) (hps:ps.length<=1000) (ha:PA X (e::es) t)
    (hdb:(x == ("__debug__" : Str))=false:=by decide) (he:starEach (e::es) X.env=(false,eval e X.env)::starEach es X.env:=by rfl) (hpl:(backTo cpos (starEach es X.env)).any (·.1)=false:=by rfl) :
    PS X (.Raise (some (.Call (.Name x p) (e::es) [] cpos)) none pos) (zvt C sp dvs E E1 t):=by
  intro pins s σ H D I h;refine zp8 (vI:=.ref f) M.un hr.hd he hpl (zdg I hg hm ⟨rfl,thn (ha cpos pins s σ H _ I h) fun us s2 hq0=>?_⟩ hdb);obtain⟨vs,H1,I1,r,q⟩:=hq0;have fr:∀a,s2.heap.objs.size<=a->H1 a=none:=fun a h=>I1.hok.fresh h
  have q0:=q _ (fr _ (Nat.le_refl _));have l0:=F.len _ _ _ _ q0;rw[List.length_cons,List.length_append] at l0;have rl:=r.length;refine⟨by rw[sizeLine_eq];omega,M.obj.in I1.kIn,PySem.W.looks_findIn I1.kIn M.init,fun self=>PySem.W.bind_fn I1.kIn self (beq_iff_eq.mp M.fn),fun h' ex hs hmd=>?_⟩;have hq:=q ex (fr ex hs);obtain⟨t0,h1,_,_⟩:=hmd.there;have I2:=I1.laid (a:=ex) (o:=excO ex C none) (h':=h') (t':=s2.toks) hmd.keeps hs (zsq h1 rfl rfl rfl rfl rfl);have r2:Vals (V.ref ex::(vs++dvs)) (Value.ref ex::(us++ds)):=.cons rfl (r.append hd);have hl:(Value.ref ex::us++ds).length=ps.length:=by
    have e:=r2.length;rw[F.len _ _ _ _ hq] at e;exact e.symm
  refine wpAny_call (codeAny_mono (F.run _ X.stack _ _ ⟨Value.ref ex::us,[]⟩ (Value.ref ex::(us++ds)) _ _ E1 (hr.make C us []) (I2.env0.make C us []) (hb _ (Value.ref ex::us) I2.kIn hl) r2 hq) fun r s' hq'=>?_);cases r with
  | error e=>exact hx pins σ _ _ e s' I2 hq'
  | ok fl=>
    cases fl with
    | ret u=>
      obtain⟨v,H',I3,rv,ev,dc,he',hE⟩:=I2.after hq';subst ev;obtain⟨⟨oe,ws,t1,g1,g2,g3,g4,g5,g6⟩,_,_⟩:=(show ObjOk X.prog X.w H' s'.heap ex (excO ex C dc) from I3.hok ex _ he');have I4:=I3.drop he';exact⟨rv,oe,ws,M.obj.in I3.kIn,g1,g2,g4,g6,zuq I4 xe ⟨oe,ws,g1,g2,g3,g4,g6,zkn,Nat.le_trans I1.sz hs⟩ hE⟩
    | next=>exact False.elim hq'
    | brk=>exact False.elim hq'
    | cont=>exact False.elim hq'
end
section
variable {M:Model}{A:Around}{E:Value->Shared->Prop}{s:Shared}
theorem zsr {base:Heap}{env:Env}{outer:List Env}{L e T:Addr}{oe oT:Obj}{vs ts:Array Value}{Q:Unit->Shared->Prop}
    (hfr:A.frames=some (env::outer)) (hl:s.heap.FunFrames base (env::outer)) (hf:env.frame=some L) (he:s.heap.get? e=some oe) (hd:oe.data = .fields vs) (h1:vs[1]? = some (.ref T))
    (hT:s.heap.get? T=some oT) (dT:oT.data = .fields ts) (h3:ts[3]? = some .none) (ne:T≠e)
    (k:∀h',Gone (frs (env::outer)) e s.heap.objs.size [T] oe vs s.heap h'->Q () { s with heap:=h' }) :
    wpAny M A (noteFrame (.ref e) env) (fun _ s'=>wpAny M A (setFlight (.ref e) none) Q E s') E s:=by
  unfold noteFrame;simp only [hf];refine wpAny_bind (wpAny_field he hd h1 ?_);rw[if_pos (show (Value.ref T != Value.none)=true from by simp)];refine wpAny_bind (wpAny_field hT dT h3 ?_);rw[if_neg (show ¬((Value.none == rawInt L)=true) from by simp[rawInt])];have z3:=(Array.getElem?_eq_some_iff.mp h3).1;refine wpAny_bind (wpAny_setField hT dT z3 ?_);have oth:∀b,b≠T->(s.heap.update T (Obj.mapFields (·.setIfInBounds 3 Value.none))).get? b=s.heap.get? b:=fun b hb=>Heap.get?_update_other _ _ (Ne.symm hb)
  have self:=Heap.get?_update_self (Obj.mapFields (·.setIfInBounds 3 Value.none)) hT (Obj.isFreed_of_fields (Obj.data_mapFields dT _));have nf:T ∉ frs (env::outer):=fun hm=>by
    obtain⟨_,o,ho,hn⟩:=hl.mem hm;rw[hT] at ho;cases ho;exact hn ts dT
  have sz:(s.heap.update T (Obj.mapFields (·.setIfInBounds 3 Value.none))).objs.size=s.heap.objs.size:=Heap.size_after_update ..;refine zia (s:={ s with heap:=s.heap.update T (Obj.mapFields (·.setIfInBounds 3 Value.none)) }) hfr (hl.of_keeps fun b o hb hn=>⟨o,(oth b fun z=>?_).trans hb,rfl⟩) hf ((oth e ne.symm).trans he) hd (Array.getElem?_eq_some_iff.mp h1).1 fun h' G=>?_
  · subst z;rw[hT] at hb;cases hb;exact hn ts dT
  · have e1:(s.heap.update T (Obj.mapFields (·.setIfInBounds 3 Value.none))).objs.size=s.heap.objs.size:=sz;have G:=G;dsimp only at G;rw[e1] at G;refine k h' ⟨fun b o hb hn hx q=>G.keep b o hb hn (by simp) ((oth b fun z=>hx (by simp[z])).trans q),fun b o hb q=>G.slot b o hb ((oth b fun z=>nf (z▸hb)).trans q),Heap.get?_none_of_le (Nat.le_refl _),G.exc,G.ent⟩
end
def Met (X:Cx) (pins:List (Addr×Obj)) (H:Hp) (h:Heap) (e:Addr) (cls:Value) (dc:Option Addr):Prop:=
  ∃(oe:Obj) (vs:Array Value) (T:Addr) (oT:Obj) (ts:Array Value),h.get? e=some oe/\oe.cls=cls/\oe.dict=dc/\oe.data = .fields vs/\vs[1]? = some (.ref T)/\T≠e/\h.get? T=some oT/\oT.data = .fields ts/\ts[3]? = some .none/\FpOk X pins H e/\FpOk X pins H T
section
variable {X:Cx}{pins:List (Addr×Obj)}{σ:St}{H:Hp}{s:Shared}{E:XK}
theorem zw4 {Q:Unit->Shared->Prop}{E':Value->Shared->Prop}{u:Value}{s':Shared}(I:Inv X pins σ H s) (x2:X.stack=X.env::X.outer) (x3:X.env.frame=some X.env.locals) (h:CX1 X.prog X.w X.stack H s E u s')
    (k:∀e cls dc H' h',u = .ref e->Inv X pins σ H' { s' with heap:=h' }->Met X pins H' h' e cls dc->E cls dc H'->Q () { s' with heap:=h' }) :
    wpAny (model X.prog X.w) X.A (noteFrame u X.env) (fun _ s1=>wpAny (model X.prog X.w) X.A (setFlight u none) Q E' s1) E' s':=by
  obtain⟨e,cls,dc,H',rfl,os,bare,un,hok,fl,hE⟩:=h;have I':=I.call' os un hok bare (ch:=[]) (fun b z=>absurd z (by simp));obtain⟨oe,vs,T,oT,ts,he,hc,hdc,hd,h1,hTe,hT,dT,h3,He,HT,ne,nT⟩:=fl;have fr:=I'.ok.frames;have st:=I'.stack;rw[x2] at fr st;refine zsr fr st x3 he hd h1 hT dT h3 hTe fun h' G=>?_
  have F1:FpOk X pins H' e:=I.fpOk ne He;have F2:FpOk X pins H' T:=I.fpOk nT HT;have sf:∀b∈frs (X.env::X.outer),H' b=none:=by
    have:=I'.stkFree;rw[x2] at this;exact this
  have U:Un (frs X.stack) [e,T] H' H' s'.heap h':=by
    rw[x2];refine⟨fun b o q n nf nx=>G.keep b o (fun z=>nx (by simp[z])) nf (fun z=>nx (by rw[List.mem_singleton.mp z];simp)) q,fun b o q n hb nx=>G.slot b o hb q,fun b o q n _=>n,fun b o q nx=>?_,fun _ _ z=>z,fun _ _ _ z=>z,fun _ ps z=>⟨#[],by rw[Array.append_empty];exact z⟩⟩
    by_cases hb:b∈frs (X.env::X.outer)
    · obtain⟨sl,z⟩:=G.slot b o hb q;exact⟨_,z⟩
    · exact⟨o,G.keep b o (fun z=>nx (by simp[z])) hb (fun z=>nx (by rw[List.mem_singleton.mp z];simp)) q⟩
  have hok':HOk X.prog X.w H' h':=fun a o q=>by
    refine (hok a o q).stay (fun b u hb z=>?_) (fun _ z=>z) fun _ _ z=>z
    have Hb:H' b≠none:=by
      rcases hb with z | z
      · rw[z,q];simp
      · rw[z];simp
    exact G.keep b u (fun z=>Hb (z▸He)) (fun z=>Hb (sf b z)) (fun z=>Hb (by rw[List.mem_singleton.mp z];exact HT)) z
  have I2:Inv X pins σ H' { s' with heap:=h' }:=I'.call' (s':={ s' with heap:=h' }) (ch:=[e,T]) rfl U hok' I'.bare fun b hb=>by
    have F:FpOk X pins H' b:=by
      rcases List.mem_cons.mp hb with z | z
      · rw[z];exact F1
      · rw[List.mem_singleton.mp z];exact F2
    exact⟨F.2.2.2.1,F.2.1,F.2.2.2.2.1,F.2.2.2.2.2⟩
  obtain⟨oT',ts',t1,t2,t3⟩:=G.ent;have hTn:s'.heap.objs.size≠e:=Nat.ne_of_gt (Heap.lt_size he);exact k e cls dc H' h' rfl I2 ⟨_,_,s'.heap.objs.size,oT',ts',G.exc,hc,hdc,rfl,by simp[(Array.getElem?_eq_some_iff.mp h1).1],hTn,t1,t2,t3,F1,I'.fpOk (Nat.le_refl _) (hok.fresh (Nat.le_refl _))⟩ hE
end
structure XCatch (K:PySem.W.Frag) (D:Addr):Prop where
  nt:PySem.W.instIn K (.ref D) (.type "tuple")=some false
  ty:PySem.W.isClsIn K D=true
  ex:PySem.W.mroIn K D (.type "BaseException")=some true
section
variable {M:Model}{A:Around}{E:Value->Shared->Prop}{s:Shared}{K:PySem.W.Frag}{e C D:Addr}{oe:Obj}{b:Bool}
theorem zuu {Q:Bool->Shared->Prop}(X:K.In s.heap) (he:s.heap.get? e=some oe) (hc:oe.cls = .ref C) (cd:XCatch K D) (hs:PySem.W.mroIn K C (.ref D)=some b) (h:Q b s):wpAny M A (excMatches (.ref e) (.ref D)) Q E s:=by
  have L1:=PySem.W.looks_instIn (M:=M) X cd.nt;have L3:=PySem.W.looks_mroIn (M:=M) X cd.ex;have L4:=PySem.W.looks_mroIn (M:=M) X hs;have L5:PySem.W.Looks M s.heap (typeOf (.ref e)) (.ref C):=hc▸(PySem.W.Looks.ld he).andThen .now;unfold excMatches;refine wpAny_bind (L1.here ?_);dsimp only;rw[if_neg (by decide)];refine wpAny_bind (wpAny_pure ?_);simp only [List.forIn_cons,List.forIn_nil];have L6:PySem.W.Looks M s.heap (isExcClass (.ref D)) true:=by
    unfold isExcClass;refine PySem.W.Looks.andThen (a:=true) ?_ ?_
    · obtain⟨c,hc⟩:=Option.isSome_iff_exists.mp cd.ty;unfold PySem.W.clsIn at hc;split at hc
      · rename_i hk;exact (PySem.W.Looks.ld (part:=_) (X _ _ hk)).andThen .now
      · cases hc
    · exact L3
  refine wpAny_bind (wpAny_bind (wpAny_bind (L6.here ?_)));rw[if_neg (by decide)];refine wpAny_pure (wpAny_pure (wpAny_bind (L5.here (wpAny_bind (wpAny_bind (wpAny_bind (L4.here ?_)))))));cases b with
  | true=>rw[if_pos rfl];exact wpAny_pure (wpAny_pure (wpAny_pure h))
  | false=>rw[if_neg (by decide)];exact wpAny_pure (wpAny_pure (wpAny_pure h))
end
section
variable {X:Cx}{pins:List (Addr×Obj)}{σ:St}{H:Hp}{s:Shared}
theorem Inv.track {a:Addr}{o:HO}(I:Inv X pins σ H s) (f:FpOk X pins H a) (xe:X.ex = []) (ok:ObjOk X.prog X.w (upd H a o) s.heap a o):Inv X pins σ (upd H a o) s:=by
  obtain⟨f1,f2,f3,f4,f5,f6⟩:=f;have f4:X.s₀.heap.objs.size<=a:=f4.resolve_left (by rw[xe];simp);refine⟨I.ok,I.os,I.bare,⟨I.base.keep,I.base.slot,fun b ob q n hx=>?_,I.base.there,fun b xs q=>?_,fun b ob u q=>?_,fun b ps q=>?_⟩,I.loc,I.cell,?_,fun x c z=>?_,fun p hp=>?_,fun b ob q=>?_,I.len⟩
  · rw[zv (fun z=>absurd (Heap.lt_size q) (Nat.not_lt.mpr (by rw[z];exact f4)))];exact I.base.free b ob q n hx
  · have:=I.base.tups b xs q;rw[zv (fun z=>by rw[z,f1] at this;cases this)];exact this
  · have:=I.base.frzs b ob u q;rw[zv (fun z=>by rw[z,f1] at this;cases this)];exact this
  · obtain⟨m,this⟩:=I.base.tbls b ps q;refine⟨m,?_⟩;rw[zv (fun z=>by rw[z,f1] at this;cases this)];exact this
  · rw[zv f2.symm];exact I.free
  · rw[zv (f5 x c z)];exact I.freeC x c z
  · obtain⟨q1,q2,q3,q4,q5⟩:=I.pin p hp;exact⟨q1,by rw[zv (f6 p hp)];exact q2,q3,q4,q5⟩
  · by_cases z:b=a
    · subst z;rw[zc] at q;cases q;exact ok
    · rw[zv z] at q;refine (I.hok b ob q).stay (fun _ _ _ z=>z) (fun c w=>?_) fun c xs w=>?_
      · rw[zv (fun z=>by rw[z,f1] at w;cases w)];exact w
      · rw[zv (fun z=>by rw[z,f1] at w;cases w)];exact w
theorem zko {M:Model}{A:Around}{E:Value->Shared->Prop}{i:Nat}{n:Str}{pos:Pos}{Q:Unit->Shared->Prop}(I:Inv X pins σ H s) (hN:X.N.Nodup) (hi:X.N[i]? = some n) (hl:X.env.scope.names.lookup n=some .local)
    (h:∀s',Inv X pins (σ.set i none) H s'->Q () s'):wpAny M A (do bindName X.env n .none;unbindBehindTheSuite X.env n pos) Q E s:=by
  have hcls:(X.env.scope.kind == .class||(X.env.scope.kind == .module&&X.env.locals != X.env.globals))=false:=by rw[I.ok.kind];rfl
  refine wpAny_bind (wpAny_bindName (zdf I hN hi (.inl hl) (v:=.non) rfl (fun s1 I1=>?_) (.inr hl)));unfold unbindBehindTheSuite;refine wpAny_onRaise ?_;unfold unbindName;refine wpAny_bind (wpAny_point (wpAny_bind ?_));unfold deleteName;obtain⟨m,hn,hl'⟩:=id I1.loc;have hlk:X.env.kindOf n=some .local:=hl;simp only [hlk,hcls];rw[if_neg (by decide)];have iσ:i<(σ.set i (some V.non)).length:=by rw[I1.len];exact (List.getElem?_eq_some_iff.mp hi).1
  obtain⟨u,ru,lu⟩:=hl' i n .non hi (by rw[List.getElem?_set_self (by simpa using iσ)]) (.inl hl);have mn:(m n).isSome=true:=by
    rcases lu with ⟨_,z⟩ | ⟨z,_⟩
    · rw[z];rfl
    · rw[hlk] at z;rcases z with z | z<;>cases z
  refine wpAny_bind (wpAny_nsDel_keeps hn fun h2 v hn2 hs2=>?_);rw[mn];simp only [if_true,Bool.not_true,Bool.false_eq_true,if_false];refine wpAny_pure (wpAny_point (h _ ?_));have cne:=I1.cne;obtain⟨oL,_,_,hoL,_⟩:=id hn;refine⟨I1.ok,I1.os,I1.bare,⟨fun b o e n hb hx=>?_,fun b o e n hb hx=>?_,I1.base.free,fun b o e hx=>?_,I1.base.tups,I1.base.frzs,I1.base.tbls⟩,⟨_,hn2,fun j y v' e1 e2 e3=>?_⟩,fun y c e=>?_,I1.free,I1.freeC,fun p hp=>?_,fun b ob e=>?_,by simpa using I.len⟩
  · exact (hs2.2 b (Nat.ne_of_lt (Nat.lt_of_lt_of_le (Heap.lt_size e) I1.ok.above))).trans (I1.base.keep b o e n hb hx)
  · obtain⟨sl,e1⟩:=I1.base.slot b o e n hb hx;exact⟨sl,(hs2.2 b (Nat.ne_of_lt (Nat.lt_of_lt_of_le (Heap.lt_size e) I1.ok.above))).trans e1⟩
  · obtain⟨o',e1⟩:=I1.base.there b o e hx;exact⟨o',(hs2.2 b (Nat.ne_of_lt (Nat.lt_of_lt_of_le (Heap.lt_size e) I1.ok.above))).trans e1⟩
  · have hj:j≠i:=fun z=>by
      subst z;rw[List.getElem?_set_self (by simpa using iσ)] at e2;cases e2
    rw[List.getElem?_set_ne (Ne.symm hj)] at e2;obtain⟨u',r',q⟩:=hl' j y v' e1 (by rw[List.getElem?_set_ne (Ne.symm hj)];exact e2) e3;refine⟨u',r',?_⟩;rcases q with ⟨k,z⟩ | ⟨k,c,z1,z2⟩
    · refine .inl ⟨k,?_⟩;have:y≠n:=fun z=>hj (zj0 hN e1 (z▸hi))
      simp[this,z]
    · exact .inr ⟨k,c,z1,z2.sameBut hs2 (cne y c z1)⟩
  · obtain⟨w',z⟩:=I1.cell y c e;exact⟨w',z.sameBut hs2 (cne y c e)⟩
  · obtain⟨e,n,ne,nf,d⟩:=I1.pin p hp;exact⟨(hs2.2 p.1 ne).trans e,n,ne,nf,d⟩
  · refine (I1.hok b ob e).stay (fun c w' hc q=>(hs2.2 c ?_).trans q) (fun _ q=>q) fun _ _ q=>q
    rintro rfl;rcases hc with rfl | hc
    · rw[I1.free] at e;cases e
    · rw[I1.free] at hc;cases hc
end
def Cx.inTry (X:Cx) (pn:List (Addr×Obj)) (xe:Value->Shared->Prop):Cx:={ X with pn:=pn,xe:=xe }
def Cx.inSuite (X:Cx) (v:Value) (xe:Value->Shared->Prop):Cx:={ X with A:=X.A.mark (some v),calm:=false,xe:=xe }
structure XFn (X:Cx):Prop where
  st:X.stack=X.env::X.outer
  fr:X.env.frame=some X.env.locals
  ex:X.ex = []
def zy0 (X:Cx) (Es:St->XK):Prop:=∀(pins:List (Addr×Obj)) (σ:St) (H:Hp) (s:Shared) (u:Value) (s':Shared),Inv X pins σ H s->CX1 X.prog X.w X.stack H s (Es σ) u s'->X.xe u s'
def excH (e C:Addr) (dc:Option Addr):HO:=.ext fun h=>∃oe vs,h.get? e=some oe/\oe.cls = .ref C/\oe.dict=dc/\oe.data = .fields vs
abbrev TH:=Ends->St->Addr->Option Addr->Hp->Prop
def PH (X:Cx) (hs:List ExceptHandler) (th:TH):Prop:=
  ∀(pins:List (Addr×Obj)) (s:Shared) (σ:St) (H:Hp) (D:Ends) (e C:Addr) (dc:Option Addr),Inv X pins σ H s->Met X pins H s.heap e (.ref C) dc->th D σ C dc H->wpAny (model X.prog X.w) X.A (handleBy (.ref e) X.env hs) (SP X pins D) X.xe s
def zzz:TH:=fun _ _ _ _ _=>False
def zy1 (i:Nat) (D:Ends):Ends:={ nx:=fun σ H=>D.nx (σ.set i none) H,rt:=D.rt,bk:=fun σ H=>D.bk (σ.set i none) H,ct:=fun σ H=>D.ct (σ.set i none) H }
def thAs (K:PySem.W.Frag) (i:Nat) (Dc:Addr) (ts:TS) (thr:TH):TH:=fun D σ C dc H=>∃b,PySem.W.mroIn K C (.ref Dc)=some b/\
  if b=true then ∀e,H e=none->ts (zy1 i D) (σ.set i (some (.ref e))) (upd H e (excH e C dc)) else thr D σ C dc H
def sTry (tb:(St->XK)->TS) (th:TH):TS:=fun D σ H=>tb (fun σ' cls dc H'=>∃C,cls = .ref C/\th D σ' C dc H') D σ H
def zy2 (sp:Sp) (dvs:List V) (Es:St->XK) (t:TA):TE:=fun σ H Q=>t σ H fun vs H1=>sp (vs++dvs) H1 Q (Es σ)
section
variable {X:Cx}{pins:List (Addr×Obj)}{σ:St}{H:Hp}{s:Shared}
theorem zl9 {v:Value}{xe:Value->Shared->Prop}(I:Inv X pins σ H s):Inv (X.inSuite v xe) pins σ H s:=
  ⟨⟨I.ok.mod,I.ok.kind,I.ok.glob,I.ok.blt,I.ok.above,I.ok.inj,I.ok.has,I.ok.cab,(fun z=>absurd z Bool.false_ne_true),I.ok.frames,I.ok.stk,I.ok.exf,I.ok.bs,I.ok.bsz,I.ok.noex,I.ok.exfs,I.ok.funs,I.ok.frf⟩,
    I.os,I.bare,I.base,I.loc,I.cell,I.free,I.freeC,I.pin,I.hok,I.len⟩
theorem zdk {v:Value}{xe:Value->Shared->Prop}(ok:X.Ok) (I:Inv (X.inSuite v xe) pins σ H s):Inv X pins σ H s:=⟨ok,I.os,I.bare,I.base,I.loc,I.cell,I.free,I.freeC,I.pin,I.hok,I.len⟩
theorem zw5 {xe:Value->Shared->Prop}(I:Inv X pins σ H s):Inv (X.inTry (X.pn++pins) xe) [] σ H s:=
  ⟨⟨I.ok.mod,I.ok.kind,I.ok.glob,I.ok.blt,I.ok.above,I.ok.inj,I.ok.has,I.ok.cab,I.ok.hd,I.ok.frames,I.ok.stk,I.ok.exf,I.ok.bs,I.ok.bsz,I.ok.noex,I.ok.exfs,I.ok.funs,I.ok.frf⟩,
    I.os,I.bare,I.base,I.loc,I.cell,I.free,I.freeC,fun p hp=>I.pin p ((List.mem_append.mp hp).elim id fun z=>absurd z (by simp)),I.hok,I.len⟩
theorem zd3 {pins':List (Addr×Obj)}{xe:Value->Shared->Prop}(ok:X.Ok) (I:Inv (X.inTry (X.pn++pins) xe) pins' σ H s):Inv X pins σ H s:=
  ⟨ok,I.os,I.bare,I.base,I.loc,I.cell,I.free,I.freeC,fun p hp=>I.pin p (List.mem_append_left _ hp),I.hok,I.len⟩
end
section
variable {X:Cx}{CX:CXT}{k i:Nat}{f Dc:Addr}{ps:List Str}{sp:Sp}{x n:Str}{p pos hpos:Pos}{e:Expr}{es:List Expr}{t:TA}{Es:St->XK}{b₀:Stmt}{suite body:List Stmt}{h₀:ExceptHandler}{rest hs:List ExceptHandler}{ts:TS}{thr th:TH}{tb:(St->XK)->TS}
theorem zy3 (F:HasX X.prog X.w X.K X.mg X.base x ps k sp) (xe:zy0 X Es) (hr:Room k X.A) (hg:Gl X x) (ha:PA X (e::es) t) (hdb:(x == ("__debug__" : Str))=false:=by decide)
    (he:starEach (e::es) X.env=(false,eval e X.env)::starEach es X.env:=by rfl) (hpl:(backTo pos (starEach es X.env)).any (·.1)=false:=by rfl):PE X (.Call (.Name x p) (e::es) [] pos) (zy2 sp [] Es t):=by
  obtain⟨f,fd,a,kp,_,b,G⟩:=F;intro pins s σ H Q I h;refine wpAny_Call_Name_kw (zdg I hg a ?_ hdb);refine PySem.W.callWith_K (h₀:=X.base) I.ok.mod.kin kp (thn (ha pos pins s σ H _ I h) fun us s1 ⟨vs,H1,I1,r,q⟩=>⟨I1.kIn,?_⟩) he hpl;have r2:Vals (vs++[]) (us++[]):=r.append .nil;have hl:(us++[]).length=ps.length:=by rw[←r2.length];exact G.len _ _ _ _ q
  refine wpAny_call (codeAny_mono (G.run X.A X.stack s1 H1 ⟨us,[]⟩ (us++[]) (vs++[]) Q (Es σ) hr I1.env0 ((Binds.all b) s1 us I1.kIn hl) r2 q) fun r s' hq=>?_);cases r with
  | error e=>exact xe pins σ H1 s1 e s' I1 hq
  | ok fl=>
    cases fl with
    | ret u=>exact I1.after hq
    | next=>exact False.elim hq
    | brk=>exact False.elim hq
    | cont=>exact False.elim hq
theorem zy4 (x:XFn X) (hb:∀pn xe (Es:St->XK),zy0 (X.inTry pn xe) Es->PSs (X.inTry pn xe) body (tb Es)) (hh:PH X (h₀::hs) th):PS X (.Try body (h₀::hs) [] [] pos) (sTry tb th):=by
  intro pins s σ H D I h;refine wpAny_Try_except ?_;refine wpAny_mono (hb (X.pn++pins) (fun e s₁=>wpAny (model X.prog X.w) X.A (noteFrame e X.env) (fun _ s₂=>wpAny (model X.prog X.w) X.A (setFlight e none) (fun _ s₃=>wpAny (model X.prog X.w) X.A (handleBy e X.env (h₀::hs)) (SP X pins D) X.xe s₃) X.xe s₂) X.xe s₁)
    (fun σ' cls dc H'=>∃C,cls = .ref C/\th D σ' C dc H') (fun pins' σ' H' s' u s'' I' hcx=>?_) [] s σ H D (zw5 I) h) (fun fl s1 q=>?_) fun _ _ z=>z
  · refine zw4 (zd3 I.ok I') x.st x.fr hcx fun e cls dc H2 h' hu I2 met hE=>?_
    subst hu;obtain⟨C,rfl,hth⟩:=hE;exact hh pins _ σ' H2 D e C dc I2 met hth
  · cases fl with
    | next=>
      obtain⟨σ',H',J,q⟩:=q;exact wpAny_execs_nil ⟨σ',H',zd3 I.ok J,q⟩
    | brk=>
      obtain⟨σ',H',J,q⟩:=q;exact⟨σ',H',zd3 I.ok J,q⟩
    | cont=>
      obtain⟨σ',H',J,q⟩:=q;exact⟨σ',H',zd3 I.ok J,q⟩
    | ret u=>
      obtain⟨v,σ',H',J,r,q⟩:=q;exact⟨v,σ',H',zd3 I.ok J,r,q⟩
theorem zy5:PH X [] zzz:=fun _ _ _ _ _ _ _ _ _ _ h=>h.elim
theorem zno (xf:XFn X) (hg:Gl X x) (hm:X.mg x=some (.ref Dc)) (cd:XCatch X.K Dc) (hN:X.N.Nodup) (hi:X.N[i]? = some n) (hl:X.env.scope.names.lookup n=some .local)
    (hsu:∀v xe,PSs (X.inSuite v xe) (b₀::suite) ts) (hr:PH X rest thr) (hdb:(x == ("__debug__" : Str))=false:=by decide) :
    PH X (.ExceptHandler (some (.Name x p)) (some n) (b₀::suite) hpos::rest) (thAs X.K i Dc ts thr):=by
  intro pins s σ H D e C dc I met h;obtain⟨oe,vs,T,oT,tvs,he,hc,hdc,hd,h1,hTe,hT,dT,h3,F1,F2⟩:=met;obtain⟨b,hb,h⟩:=h;refine wpAny_handleBy_cons (codeAny_handlers_test (zdg (X:=X.inSuite (.ref e) X.xe) (zl9 I) hg hm ?_ hdb)) (by intro q;cases q);refine zuu (K:=X.K) I.kIn he hc cd hb ?_;cases b with
  | false=>
    rw[if_neg (by decide)] at h;exact hr pins s σ H D e C dc I ⟨oe,vs,T,oT,tvs,he,hc,hdc,hd,h1,hTe,hT,dT,h3,F1,F2⟩ h
  | true=>
    rw[if_pos rfl] at h;refine codeAny_handlers_suite_as ?_;refine wpAny_setFlight_none he hd h1 hT dT (Array.getElem?_eq_some_iff.mp h3).1 ?_;have oth:∀b,b≠T->(s.heap.update T (Obj.mapFields (·.setIfInBounds 3 .none))).get? b=s.heap.get? b:=fun b hb=>Heap.get?_update_other _ _ (Ne.symm hb)
    have I1:Inv X pins σ H { s with heap:=s.heap.update T (Obj.mapFields (·.setIfInBounds 3 .none)) }:=I.turnedL (t':=s.toks) (ch:=[T]) (fun b o hb q=>by rw[oth b (fun z=>hb (by simp[z]))];exact q) fun b hb=>by rw[List.mem_singleton.mp hb];exact F2
    have he1:=(oth e hTe.symm).trans he;have I2:=I1.track (a:=e) (o:=excH e C dc) F1 xf.ex ⟨⟨oe,vs,he1,hc,hdc,hd⟩,⟨oe,he1⟩,fun g1 g2 ⟨oe',vs',q1,q2⟩ kk=>⟨oe',vs',kk _ q1,q2⟩⟩;refine zdf I2 hN hi (.inl hl) (v:=.ref e) rfl (fun s2 I3=>?_) (.inr hl);refine thn (hsu (.ref e) _ pins s2 _ _ (zy1 i D) (zl9 I3) (h e F1.1)) fun fl s3 q=>?_
    cases fl with
    | next=>
      obtain⟨σ',H',J,q⟩:=q;exact zko (zdk I.ok J) hN hi hl fun s5 J5=>⟨_,H',J5,q⟩
    | brk=>
      obtain⟨σ',H',J,q⟩:=q;exact zko (zdk I.ok J) hN hi hl fun s5 J5=>⟨_,H',J5,q⟩
    | cont=>
      obtain⟨σ',H',J,q⟩:=q;exact zko (zdk I.ok J) hN hi hl fun s5 J5=>⟨_,H',J5,q⟩
    | ret u=>
      obtain⟨v,σ',H',J,r,q⟩:=q;exact zko (zdk I.ok J) hN hi hl fun s5 J5=>⟨v,_,H',J5,r,q⟩
end
end L2
namespace L2
def XOk (K:PySem.W.Frag) (C:PySem.Addr):Prop:=∃bm,XObjK K C bm/\UnderV bm
end L2
namespace L2
open PySem
def zo1 (K:PySem.W.Frag) (C:Addr):Bool:=match K.lookup C with
  | some ⟨.type t,_,.cls cd,sl⟩=>t == "type" && ((match cd.mro with | .ref c::bm=>c == C&&(bm.contains (.type "ValueError")&&(bm.contains (.type "BaseException")&&(!bm.contains (.type "AttributeError") && !bm.contains (.type "NameError")))) | _=>false)&&(!cd.hasDel &&
      (match sl.toList with | [_,_,_,_,some (.builtin i),_]=>i == "ValueError.__new__" | _=>false)))
  | _=>false
theorem zy6 {K:PySem.W.Frag}{C:Addr}(h:zo1 K C=true):XOk K C:=by
  unfold zo1 at h;split at h
  · rename_i t dd cd sl hk;rw[Bool.and_eq_true,Bool.and_eq_true,Bool.and_eq_true] at h;obtain⟨h1,h2,h3,h4⟩:=h;split at h2
    · rename_i c bm hm;split at h4
      · rename_i k0 k1 k2 k3 i k5 hs;simp only [Bool.and_eq_true,beq_iff_eq,Bool.not_eq_true'] at h1 h2 h3 h4;obtain⟨rfl,a1,a2,a3,a4⟩:=h2;subst h1 h4;refine⟨bm,⟨cd.name,cd.qualname,cd.ns,cd.bases,cd.hasDict,cd.slotNames,cd.subclasses,cd.abstract,cd.collection,dd,k0,k1,k2,k3,k5,?_⟩,⟨a1,a2,a3,a4⟩⟩;rw[hk];obtain⟨x1,x2,x3,x4,x5,x6,x7,x8,x9,y1,y2⟩:=cd;dsimp only at hm h3;subst hm h3;obtain⟨l⟩:=sl;dsimp only at hs;subst hs;rfl
      · cases h4
    · cases h2
  · cases h
end L2
namespace L2
open PySem PySem.Spec PyProof.Rows
structure XGet (K:PySem.W.Frag) (C:Addr):Prop where
  ga:PySem.W.findIn K (.ref C) "__getattribute__" = some (some (.builtin "BaseException.__getattribute__"))
  gn:PySem.W.findIn K (.ref C) "__getattr__" = some none
  bx:PySem.W.mroIn K C (.type "BaseException")=some true
  hd:PySem.W.hasDictIn K C=true
section
variable {prog:Program}{w:World}{A:Around}{E:Value->Shared->Prop}{s:Shared}{K:PySem.W.Frag}{x C:Addr}{ox:Obj}{od:Option Obj}{name:Str}{v:Value}{expr:Bool}{Q:Value->Shared->Prop}
theorem zss {Qf:Prop}(X:K.In s.heap) (I:PySem.W.InstAt s.heap x ox C od) (g:XGet K C)
    (h:wpAny (model prog w) A.in1 (Builtin.«object.__getattribute__» ⟨[.ref x,.str name s.toks],[]⟩)
      (fun fin s'=>match fin with | .done (.ret v)=>wpAny (model prog w) A (handedOut v) Q E s' | _=>False) (fun _ _=>False) { s with toks:=s.toks+1 }) :
    wpAny (model prog w) A (getAttr (.ref x) name expr) Q E s:=by
  have FB:=PySem.F.attrBase_ValueError;refine wpAny_bind (wpAny_mkText (wpAny_holding (wpAny_bind (I.type _ _ _ _ (fun _ _ e=>e) (wpAny_bind (PySem.W.looks_findIn X g.ga _ _ _ _ (fun _ _ e=>e) ?_))))));dsimp only;rw[show (onTheHeap (Value.ref C)&&Value.builtin "BaseException.__getattribute__" == Value.builtin "object.__getattribute__")=false from by rw[show (Value.builtin "BaseException.__getattribute__" == Value.builtin "object.__getattribute__")=false from by decide +kernel,Bool.and_false],if_neg (by decide)];refine wpAny_bind (PySem.W.looks_hook (mc:=.ref C) X (r:=none) (by rw[if_pos (show onTheHeap (Value.ref C)=true from rfl)];exact g.gn) _ _ _ _ (fun _ _ e=>e) (wpAny_bind (wpAny_attempt (wpAny_holding ?_))));unfold callGetattribute;rw[show (expr&&onTheHeap (Value.builtin "BaseException.__getattribute__"))=false from by cases expr<;>rfl,if_neg (by decide)];unfold boundAndCalled;rw[FB.ga.bind];refine wpAny_bind (wpAny_pure ?_);show wpAny _ _ (call (.builtin "BaseException.__getattribute__") [.ref x,.str name s.toks]) _ _ _;refine wpAny_call ?_;refine codeAny_call_builtin FB.ga.plain PySem.F.entry_bexc_ga ?_;refine @PySem.W.check_slot (model prog w) _ _ { s with toks:=s.toks+1 } "BaseException.__getattribute__" "BaseException" "__getattribute__" (.ref x) [.str name s.toks] [] _ (by decide +kernel) (by decide +kernel) (I.type.andThen (PySem.W.looks_mroIn X g.bx)) (PySem.F.args_bexc_ga (.ref x) (.str name s.toks)) ?_;refine wpAny_mono h (fun fin s' z=>?_) fun _ _ z=>z.elim
  rcases fin with (_ | _ | _ | _) | _<;>first | exact z | exact z.elim
theorem zqb (X:K.In s.heap) (I:PySem.W.InstAt s.heap x ox C od) (g:XGet K C)
    (hf:PySem.W.findObj K C od name=some (.value v)) (hh:PySem.W.handedIn v=true) (h:Q v { s with toks:=s.toks+1 }):wpAny (model prog w) A (getAttr (.ref x) name expr) Q E s:=by
  refine zss (Qf:=True) X I g ?_;obtain⟨hh',g,d,t,os⟩:=s;have L0:=I.type (M:=model prog w);have L1:=PySem.W.looks_find (M:=model prog w) X I hf;unfold Builtin.«object.__getattribute__»;refine wpAny_bind (wpAny_pure (wpAny_bind (wpAny_pure (wpAny_bind (L0.at (wpAny_bind (L1.at ?_)))))));refine wpAny_pure ?_;show wpAny _ _ (handedOut v) _ _ _;rw[PySem.W.handedOut_of hh];exact wpAny_pure h
end
def zy7 (K:PySem.W.Frag) (ta:TE) (f:Str):TE:=fun σ H Q=>ta σ H fun x H1=>∃a C d fs v,x = .ref a/\H1 a=some (excH a C (some d))/\H1 d=some (.xd fs)/\XGet K C/\NoAttr K C f/\fs.lookup f=some v/\Q v H1
section
variable {X:Cx}{pins:List (Addr×Obj)}{σ:St}{H:Hp}{s:Shared}{a C d:Addr}{fs:List (Str×V)}{f:Str}{v:V}{A:Around}{E:Value->Shared->Prop}
theorem znp {b:Bool}{Q:Value->Shared->Prop}(I:Inv X pins σ H s) (e:H a=some (excH a C (some d))) (ed:H d=some (.xd fs)) (c:XGet X.K C) (n:NoAttr X.K C f) (l:fs.lookup f=some v)
    (h:∀u s',Inv X pins σ H s'->RelV v u->Q u s'):wpAny (model X.prog X.w) A (getAttr (.ref a) f b) Q E s:=by
  obtain⟨⟨oe,vs,h1,h2,h3,h4⟩,_,_⟩:=(show ObjOk X.prog X.w H s.heap a (excH a C (some d)) from I.hok a _ e);obtain⟨mA,ns,r⟩:=(show ObjOk X.prog X.w H s.heap d (.xd fs) from I.hok d _ ed);obtain⟨u,hu,ru⟩:=RelO.some_of (v:=v) (o:=mA f) (by rw[←l];exact r f);obtain⟨od,ho,hl⟩:=zk7 ns;have J:PySem.W.InstAt s.heap a oe C (some od):=⟨h1,h2,by unfold PySem.W.notCls;rw[h4],by rw[h3];exact ho⟩;exact zqb I.kIn J c (PySem.W.findObj_own c.hd n rfl (by rw[hl,hu])) (zk8 ru) (h u _ (I.tok _) ru)
end
section
variable {X:Cx}{e:Expr}{f:Str}{pos:Pos}{ta:TE}
theorem zw6 (he:PE X e ta) (hb:attributeBase e f X.env (eval e X.env)=eval e X.env):PE X (.Attribute e f pos) (zy7 X.K ta f):=by
  intro pins s σ H Q I h;refine zrb hb (thn (he pins s σ H _ I h) fun u s1 hq0=>?_);obtain⟨x,H1,I1,rx,a,C,d,fs,v,ex,ea,ed,c,n,l,q⟩:=hq0;subst ex;obtain rfl:u=Value.ref a:=rx;exact znp I1 ea ed c n l fun u' s2 I2 ru=>⟨v,H1,I2,ru,q⟩
end
end L2
namespace L2
open PySem
def xchk (C:Addr) (o:Obj):Bool:=(match o with
  | ⟨.type t,_,.cls cd,sl⟩=>t == "type" && ((match cd.mro with | .ref c::bm=>c == C&&(bm.contains (.type "ValueError")&&(bm.contains (.type "BaseException")&&(!bm.contains (.type "AttributeError") && !bm.contains (.type "NameError")))) | _=>false)&&(!cd.hasDel &&
      (match sl.toList with | [_,_,_,_,some (.builtin i),_]=>i == "ValueError.__new__" | _=>false)))
  | _=>false)&&(match o.data with | .cls cd=>zit cd.mro | _=>false)
theorem zst {K:PySem.W.Frag}{C:Addr}{c0:Value}{dd:Option Addr}{cd:ClassData}{sl:Array (Option Value)}(l:K.lookup C=some ⟨c0,dd,.cls cd,sl⟩) (h:xchk C ⟨c0,dd,.cls cd,sl⟩=true):zo1 K C=true/\znm K C=true:=by
  unfold xchk at h;rw[Bool.and_eq_true] at h;refine⟨?_,?_⟩
  · unfold zo1;rw[l];cases c0<;>first | exact h.1 | (have:=h.1;cases this)
  · unfold znm PySem.W.clsIn;rw[l];exact h.2
theorem xcls_of {K:PySem.W.Frag}{C:Addr}{c0:Value}{dd:Option Addr}{cd:ClassData}{sl:Array (Option Value)}(l:K.lookup C=some ⟨c0,dd,.cls cd,sl⟩) (h:xchk C ⟨c0,dd,.cls cd,sl⟩=true) (h1:PySem.W.hasDictIn K C=true)
    (h2:PySem.W.findIn K (.ref C) "__setattr__" = some (some (.builtin "object.__setattr__"))):XCls K C:=⟨h1,(zst l h).2,h2⟩
theorem xok_at {K:PySem.W.Frag}{C:Addr}{c0:Value}{dd:Option Addr}{cd:ClassData}{sl:Array (Option Value)}(l:K.lookup C=some ⟨c0,dd,.cls cd,sl⟩) (h:xchk C ⟨c0,dd,.cls cd,sl⟩=true):XOk K C:=zy6 (zst l h).1
end L2
namespace L2
open PySem PySem.Spec PyProof.Rows
section
variable {X:Cx}{k:Nat}{C:Addr}{ps:List Str}{sp:Sp}{E:XK}{x:Str}{p pos cpos:Pos}{e:Expr}{es:List Expr}{t:TA}
theorem zbc (M:HasM X.prog X.w X.K X.mg X.base C "__init__" ps k sp) (xo:XOk X.K C) (hr:Room (k+1) X.A) (xe:XeIs X E) (hg:Gl X x) (hm:X.mg x=some (.ref C)) (hps:ps.length<=1000) (ha:PA X (e::es) t)
    (hdb:(x == ("__debug__" : Str))=false:=by decide) (he:starEach (e::es) X.env=(false,eval e X.env)::starEach es X.env:=by rfl) (hpl:(backTo cpos (starEach es X.env)).any (·.1)=false:=by rfl) :
    PS X (.Raise (some (.Call (.Name x p) (e::es) [] cpos)) none pos) (zvt C sp [] E (fun _ _ _=>False) t):=by
  obtain⟨f,fd,m,b,F⟩:=M;obtain⟨bm,xo,U⟩:=xo;exact zut ⟨xo,U,m.at_,m.fn⟩ F hr xe (fun _ _ _ _ _ _ _ z=>z.elim) hg hm (.all b) .nil hps ha hdb he hpl
end
theorem zdl {X:Cx}{e:Expr}{f:Str}{pos:Pos}{ta:TE}(K:PySem.W.Frag) (h:X.K=K) (he:PE X e ta) (hb:attributeBase e f X.env (eval e X.env)=eval e X.env):PE X (.Attribute e f pos) (zy7 K ta f):=h▸zw6 he hb
end L2
namespace HT
open PySem PySem.Spec PyProof.Rows PySem.Calls
section
variable {prog:Program}{w:World}{A:Around}{E:Value->Shared->Prop}{s:Shared}
theorem getItem_tuple_all {t sl:Addr}{items:Array Value}{vl vu:Value}{lo hi:Option Int}{Q:Value->Shared->Prop}(ht:IsTup s.heap t items) (hs:s.heap.IsSliceOf sl vl vu .none) (pl:IsPart vl lo) (pu:IsPart vu hi)
    (hw:sIx items.size 0 lo=0/\sIx items.size items.size hi=items.size) (h:Q (.ref t) s):wpAny (model prog w) A (getItem (.ref t) (.ref sl)) Q E s:=by
  obtain⟨os,hos,hcs,hds⟩:=id hs;have hTs:s.TypeIs (.ref sl) "slice":=⟨os,hos,hcs⟩;unfold getItem
  try with_reducible refine wpAny_holding ?_
  first | refine wpAny_bind (wpAny_pure ?_) | skip
  refine wpAny_bind (wpAny_sequenceKey ht.typeIs (by decide) ?_);refine wpAny_bind (wpAny_callSpecial?_slot (name:=Str.ofString "__getitem__") ht.typeIs PyProof.Rows.slot_tuple_getitem
    (wpAny_call_entry PyProof.Rows.slot_tuple_getitem ht.typeIs entry_tuple_getitem ?_ (args_tuple_getitem _ _)))
  show wpAny _ _ (Builtin.Tuple.tupleItemsOf (.ref t) >>= _) _ _ s;refine wpAny_bind (tupleItemsOf_ ht ?_);refine wpAny_bind (wpAny_typeOf hTs ?_);rw[if_pos (by decide)];refine wpAny_bind (zdt hs pl pu ?_);have hyes:(((sIx items.size 0 lo:Nat):Int) == 0&&(1:Int) == 1&&(sIx items.size items.size hi-sIx items.size 0 lo) == items.size)=true:=by
    rw[hw.1,hw.2];simp
  show wpAny _ _ (if (((sIx items.size 0 lo:Nat):Int) == 0&&(1:Int) == 1&&(sIx items.size items.size hi-sIx items.size 0 lo) == items.size)=true then _ else _) _ _ s;rw[if_pos hyes];refine wpAny_bind (m:=Builtin.Tuple.tupleIsExact (.ref t)) (wpAny_bind (wpAny_typeOf ht.typeIs (wpAny_pure ?_)));rw[if_pos (by decide)];refine wpAny_bind (wpAny_rule ?_)
  first
    | exact wpAny_pure ⟨_,rfl,wpAny_pure h⟩
    | exact wpAny_bind (wpAny_pure (wpAny_pure ⟨_,rfl,wpAny_pure h⟩))
end
end HT
namespace L2
open PySem PySem.Spec PyProof.Rows
section
variable {X:Cx}
def rSlW (K:PySem.W.Frag):V->Option Int->Option Int->Hp->VK->Prop:=fun x lo hi H Q=>∃a xs,x = .ref a/\SqT K H a xs/\
  ((HT.sIx xs.length 0 lo=0/\HT.sIx xs.length xs.length hi=xs.length)->Q (.ref a) H)/\
  (¬(HT.sIx xs.length 0 lo=0/\HT.sIx xs.length xs.length hi=xs.length)->∀p,H p=none->Q (.ref p) (upd H p (.tup (cutV xs lo hi))))
theorem zsu {K:PySem.W.Frag}(hK:X.K=K):SlR X (rSlW K):=by
  subst hK;intro pins s σ H x v vl vu lo hi sl Q I rx hs pl pu h;obtain⟨a,xs,rfl,hx,q1,q2⟩:=h
  by_cases hw:HT.sIx xs.length 0 lo=0/\HT.sIx xs.length xs.length hi=xs.length
  · cases rx;obtain⟨its,r,ht,hz⟩:=I.tuple hx;have hlen:its.toArray.size=xs.length:=by rw[List.size_toArray];exact r.length.symm
    refine⟨"tuple",_,PyProof.Rows.slot_tuple_getitem.lookup,ht.typeIs,?_⟩;exact HT.getItem_tuple_all ht hs pl pu (by rw[hlen];exact hw) ⟨.ref a,H,I,rfl,q1 hw⟩
  · exact zvj pins s σ H _ v vl vu lo hi sl Q I rx hs pl pu ⟨a,xs,rfl,hx,hw,q2 hw⟩
end
def dd (val:Nat->Str):Nat->List Str
  | 0=>[]
  | i+1=>if val i∈dd val i then dd val i else dd val i++[val i]
section
variable {prog:Program}{w:World}{A:Around}{R:Result->Shared->Prop}
end
end L2
namespace L2
open PySem PySem.W PyProof.Rows
end L2
namespace L2
open PySem PySem.Spec PyProof.Rows
open Sem (wp)
namespace Rv
end Rv
section
variable {X:Cx}
theorem zc7 (K:PySem.W.Frag) (hK:X.K=K):OpR X (binaryOp .Add) (fun x y H Q=>∃l b xs zs,x = .ref l/\y = .ref b/\SqL K H l xs/\SqL K H b zs/\xs.length+zs.length<=sizeLine/\∀p,H p=none->Q (.ref p) (upd H p (.lst (xs++zs)))):=by
  subst hK;intro pins s σ H x y v u Q I rx ry h;obtain⟨l,b,xs,zs,rfl,rfl,hH,hB,hz,q⟩:=h;cases rx;cases ry;obtain⟨its,r,hl,z⟩:=I.list hH;obtain⟨its2,r2,hl2,z2⟩:=I.list hB;have e1:=r.length;have e2:=r2.length;obtain⟨⟨cls,dd,data,sl⟩,ho,hc,n,hd⟩:=hl.isList;obtain⟨⟨cls2,dd2,data2,sl2⟩,ho2,hc2,n2,hd2⟩:=hl2.isList;simp only at hc hd hc2 hd2;subst hc hd hc2 hd2;have e:its.toArray++its2.toArray=(its++its2).toArray:=by simp
  refine concat_meets ⟨_,ho,rfl⟩ ⟨_,ho2,rfl⟩ noFill_list_add seq_list_add PySem.F.slot_list_add PySem.F.entry_list_add (PySem.F.args_list_add_2 _ _) (list_addW l b its.toArray its2.toArray n n2 dd dd2 sl sl2 (by rw[List.size_toArray,List.size_toArray];omega)) ⟨ho,ho2,?_⟩;rw[e];exact⟨.ref _,_,I.lnew (t':=s.toks) (r.append r2) (by rw[List.length_append];omega),rfl,q _ I.fresh⟩
end
section
variable {P:Program}{w:World}{K:PySem.W.Frag}{mg:Str->Option Value}{base:Heap}
theorem Has.x {x:Str}{ps:List Str}{k:Nat}{sp:Sp}(F:Has P w K mg base x ps k sp):HasX P w K mg base x ps k sp:=by
  obtain⟨f,fd,a,kp,lk,b,F⟩:=F;refine⟨f,fd,a,kp,lk,b,F.len,fun A outer s H args us vs Q E hr he hb hv hs=>?_⟩;refine codeAny_mono (F.run A outer s H args us vs Q E hr he hb hv hs) fun r s' hq=>?_
  cases r with
  | ok fl=>
    cases fl with
    | ret u=>exact hq
    | next=>exact False.elim hq
    | brk=>exact False.elim hq
    | cont=>exact False.elim hq
  | error e=>exact False.elim hq
theorem HasX.or {x:Str}{ps:List Str}{k:Nat}{sp1 sp2:Sp}(F:HasX P w K mg base x ps k sp1) (G:HasX P w K mg base x ps k sp2):HasX P w K mg base x ps k (fun vs H Q E=>sp1 vs H Q E\/sp2 vs H Q E):=by
  obtain⟨f,fd,a,kp,⟨oc,od,osl,lk⟩,b,F⟩:=F;obtain⟨f',fd',a',kp',⟨oc',od',osl',lk'⟩,b',G⟩:=G;have e:f=f':=Value.ref.inj (Option.some.inj (a.symm.trans a'));subst e;have e2:=Option.some.inj (lk.symm.trans lk');injection e2 with _ _ h _
  injection h with h
  subst h;refine⟨f,fd,a,kp,⟨oc,od,osl,lk⟩,b,fun vs H Q E h=>h.elim (F.len vs H Q E) (G.len vs H Q E),fun A outer s H args us vs Q E hr he hb hv hs=>?_⟩;rcases hs with hs | hs
  · exact F.run A outer s H args us vs Q E hr he hb hv hs
  · exact G.run A outer s H args us vs Q E hr he hb hv hs
end
section
variable {X:Cx}{tg:Expr}
abbrev TJ:=Str->St->Hp->VK->Prop
def PJ (X:Cx) (ms:List (Sem Value)) (t:TJ):Prop:=
  ∀(pins:List (Addr×Obj)) (s:Shared) (σ:St) (H:Hp) (out:Str) (Q:VK),Inv X pins σ H s->t out σ H Q->wpAny (model X.prog X.w) X.A (joinParts out ms) (EP X pins σ Q) X.xe s
def jNil:TJ:=fun out _ H Q=>out.length<=sizeLine/\Q (.str out) H
theorem zy8:PJ X [] jNil:=fun _ _ _ H _ _ I h=>joinParts_nil ⟨.str _,H,I.tok _,⟨_,rfl⟩,h.2⟩ h.1
def jTxt (te:TE) (tj:TJ):TJ:=fun out σ H Q=>te σ H fun x H1=>∃y,x = .str y/\(out++y).length<=sizeLine/\tj (out++y) σ H1 Q
theorem zy9 {e:Expr}{te:TE}{tj:TJ}{ms:List (Sem Value)}(he:PE X e te) (hj:PJ X ms tj):PJ X (eval e X.env::ms) (jTxt te tj):=by
  intro pins s σ H out Q I h;refine joinParts_cons (thn (he pins s σ H _ I h) fun v s1 hq0=>?_);obtain⟨x,H1,I1,r1,q1⟩:=hq0;obtain⟨y,rfl,hl,q⟩:=q1;obtain⟨t,rfl⟩:=r1;exact⟨hl,hj pins s1 σ H1 _ Q I1 q⟩
def jFld (te:TE) (tj:TJ):TJ:=fun out σ H Q=>te σ H fun x H1=>∃y,(x = .str y\/∃i:Int,x = .int i/\i.natAbs.log2<1920/\y=toString i)/\y.length<=sizeLine/\(out++y).length<=sizeLine/\tj (out++y) σ H1 Q
theorem zza {e:Expr}{pos:Pos}{te:TE}{tj:TJ}{ms:List (Sem Value)}(he:PE X e te) (hj:PJ X ms tj):PJ X (eval (.FormattedValue e (-1) none pos) X.env::ms) (jFld te tj):=by
  intro pins s σ H out Q I h;refine joinParts_cons (FormattedValue_plain (thn (he pins s σ H _ I h) fun v s1 hq0=>?_));obtain⟨x,H1,I1,r1,q1⟩:=hq0;obtain⟨y,hx,hy,hl,q⟩:=q1;rcases hx with rfl | ⟨i,rfl,hi,rfl⟩
  · obtain⟨t,rfl⟩:=r1;exact PyProof.Rows.formatField_str (fun t' tk=>⟨hl,hj pins _ σ H1 _ Q (I1.tok _) q⟩) hy
  · obtain⟨t,rfl⟩:=r1;exact PyProof.Rows.formatField_int_small hi ⟨hl,hj pins _ σ H1 _ Q (I1.tok _) q⟩
theorem zsv {e1 e2:Expr}{es:List Expr}{pos:Pos}{tj:TJ}(h:PJ X (eval e1 X.env::eval e2 X.env::evalEach es X.env) tj):PE X (.JoinedStr (e1::e2::es) pos) (tj Str.empty):=
  fun pins s σ H Q I q=>JoinedStr_many (h pins s σ H _ Q I q)
end
end L2
namespace PySem
open Sem (wp)
end PySem
namespace L2
open PySem PySem.Spec PyProof.Rows
end L2
namespace Dm
open PySem PySem.NumText L2
structure SD where
  us:List Str
  ts:List Tie
  fs:List Fnd
abbrev Ln:=Str->List (Str×Addr)
end Dm
namespace L2
open PySem PySem.Spec PyProof.Rows
end L2
namespace Dm
open PySem PySem.NumText L2
end Dm
namespace L2
open PySem
end L2
namespace L2
open PySem PySem.Spec PyProof.Rows
section
variable {P:Program}{w:World}{K:PySem.W.Frag}{mg:Str->Option Value}{base:Heap}
def HasML (P:Program) (w:World) (K:PySem.W.Frag) (mg:Str->Option Value) (base:Heap) (CX:CXT) (C:Addr) (m:Str) (ps:List Str) (k:Nat) (sp:Sp):Prop:=
  ∃(f:Addr) (fd:FuncData),Meth K C m f/\(∃oc od osl,K.lookup f=some ⟨oc,od,.func fd,osl⟩)/\(∀us:List Value,us.length=ps.length->bindArgs fd ⟨us,[]⟩=pure (ps.zip us))/\FnOk P w K mg base CX k f fd ps sp
theorem DfM.hasL {CX:CXT}{C:Addr}{qual m:Str}{st:Stmt}{N ps:List Str}{k:Nat}{sp:Sp}(D:DfM K C qual m st ps) (S:FnScope N ps (zm st)) (len:∀vs H Q E,sp vs H Q E->vs.length=ps.length)
    (body:∀(f:Addr) (cdv:Value) (A:Around) (outer:List Env) (s:Shared) (H:Hp) (vs:List V) (Q:VK) (E:XK),Room k (A.deeper (envOfC qual (zm st) s.heap.objs.size f cdv))->sp vs H Q E->
      ∃t,PSs (cxOf CX P w K mg base N qual (zm st) f cdv A outer s H E) (zh st) t/\t { nx:=fun _ H'=>Q .non H',rt:=Q } (start N vs) H):HasML P w K mg base CX C m ps (k+1) sp:=by
  obtain⟨f,fd,F,a,b⟩:=D;obtain⟨oc,od,kV,doc,pm,an,cdv,ct,osl,e,lk,hcd⟩:=id F.ex;subst e;exact⟨f,_,a,⟨oc,od,osl,lk⟩,b,zv3 lk hcd S len (body f cdv)⟩
theorem DfM.hasL0 {C:Addr}{qual m:Str}{st:Stmt}{N ps:List Str}{k:Nat}{sp:Sp}(D:DfM K C qual m st ps) (S:FnScope N ps (zm st)) (len:∀vs H Q E,sp vs H Q E->vs.length=ps.length)
    (hbody:∀(f:Addr) (cdv:Value) (A:Around) (outer:List Env) (s:Shared) (H:Hp) (vs:List V) (Q:VK) (E:XK),Room k (A.deeper (envOfC qual (zm st) s.heap.objs.size f cdv))->sp vs H Q E->
      ∃t,PSs (cxOf CX0 P w K mg base N qual (zm st) f cdv A outer s H E).nox (zh st) t/\t { nx:=fun _ H'=>Q .non H',rt:=Q } (start N vs) H):HasML P w K mg base CX0 C m ps (k+1) sp:=by
  obtain⟨f,fd,F,a,b⟩:=D;obtain⟨oc,od,kV,doc,pm,an,cdv,ct,osl,e,lk,hcd⟩:=id F.ex;exact⟨f,fd,a,⟨oc,od,osl,e▸lk⟩,b,F.ok S len (hbody f)⟩
theorem HasML.m {C:Addr}{m:Str}{ps:List Str}{k:Nat}{sp:Sp}(F:HasML P w K mg base CX0 C m ps k sp):HasM P w K mg base C m ps k sp:=by
  obtain⟨f,fd,a,_,b,F⟩:=F;exact⟨f,fd,a,b,F⟩
theorem HasML.mx {C:Addr}{m:Str}{ps:List Str}{k:Nat}{sp:Sp}(F:HasML P w K mg base (CX1 P w) C m ps k sp):zl7 P w K mg base C m ps k sp:=by
  obtain⟨f,fd,a,_,b,F⟩:=F;exact⟨f,fd,a,b,F⟩
theorem HasML.x {C:Addr}{m:Str}{ps:List Str}{k:Nat}{sp:Sp}(F:HasML P w K mg base CX0 C m ps k sp):HasML P w K mg base (CX1 P w) C m ps k sp:=by
  obtain⟨f,fd,a,lk,b,F⟩:=F;refine⟨f,fd,a,lk,b,F.len,fun A outer s H args us vs Q E hr he hb hv hs=>?_⟩;refine codeAny_mono (F.run A outer s H args us vs Q E hr he hb hv hs) fun r s' hq=>?_
  cases r with
  | ok fl=>
    cases fl with
    | ret u=>exact hq
    | next=>exact False.elim hq
    | brk=>exact False.elim hq
    | cont=>exact False.elim hq
  | error e=>exact False.elim hq
theorem HasML.or {CX:CXT}{C:Addr}{m:Str}{ps:List Str}{k:Nat}{sp1 sp2:Sp}(F:HasML P w K mg base CX C m ps k sp1) (G:HasML P w K mg base CX C m ps k sp2):HasML P w K mg base CX C m ps k (fun vs H Q E=>sp1 vs H Q E\/sp2 vs H Q E):=by
  obtain⟨f,fd,a,⟨oc,od,osl,lk⟩,b,F⟩:=F;obtain⟨f',fd',a',⟨oc',od',osl',lk'⟩,b',G⟩:=G;have e:f=f':=Value.ref.inj (Option.some.inj (Option.some.inj (a.at_.symm.trans a'.at_)));subst e;have e2:=Option.some.inj (lk.symm.trans lk');injection e2 with _ _ h _
  injection h with h
  subst h;refine⟨f,fd,a,⟨oc,od,osl,lk⟩,b,fun vs H Q E h=>h.elim (F.len vs H Q E) (G.len vs H Q E),fun A outer s H args us vs Q E hr he hb hv hs=>?_⟩;rcases hs with hs | hs
  · exact F.run A outer s H args us vs Q E hr he hb hv hs
  · exact G.run A outer s H args us vs Q E hr he hb hv hs
end
section
open SeqAt
end
end L2
namespace Dm
open PySem PySem.NumText L2
theorem Told.tiesNd {us:List Str}{ts fs rs:List (List V)}(t:Told us ts fs rs):ts.Nodup:=by
  induction t with
  | nil=>exact List.nodup_nil
  | unit t _ _ ih=>exact ih
  | tie t h hn ih=>
    refine List.nodup_append.mpr ⟨ih,by simp,fun a ha b hb=>?_⟩;rw[List.mem_singleton] at hb;subst hb;exact fun z=>hn (z▸ha)
  | find t _ ih=>exact ih
inductive FChain (us:List Str):List (List V)->Prop where
  | nil:FChain us []
  | snoc {fs:List (List V)}{ws:List V}(c:FChain us fs) (h:FindOk us fs ws):FChain us (fs++[ws])
theorem FindOk.mono {us us':List Str}{fs:List (List V)}{ws:List V}(h:FindOk us fs ws) (s:∀x∈us,x∈us'):FindOk us' fs ws:=by
  cases h with
  | mk hn hx hl h1 h2 hf=>exact .mk hn (s _ hx) hl h1 h2 hf
theorem FChain.mono {us us':List Str}{fs:List (List V)}(h:FChain us fs) (s:∀x∈us,x∈us'):FChain us' fs:=by
  induction h with
  | nil=>exact .nil
  | snoc c h ih=>exact .snoc ih (h.mono s)
theorem Told.chain {us:List Str}{ts fs rs:List (List V)}(t:Told us ts fs rs):FChain us fs:=by
  induction t with
  | nil=>exact .nil
  | unit t _ _ ih=>exact ih.mono fun x hx=>List.mem_append_left _ hx
  | tie t _ _ ih=>exact ih
  | find t h ih=>exact .snoc ih h
theorem zid {f:Int×Int}:∀{us pre:List Str},(pre++us).Nodup->(∀x∈us,zap x=true)->Reads ⟨some f,pre,[],[]⟩ ((us.map fun x=>[V.str "unit",V.str x]).map zcr) ⟨some f,pre++us,[],[]⟩
  | [],pre,_,_=>by rw[List.append_nil];exact .nil
  | x::us,pre,nd,hn=>by
    have hx:=hn x (List.mem_cons_self ..);have e:pre++x::us=(pre++[x])++us:=by simp
    have nx:x ∉ pre:=fun z=>by
      have:=(List.nodup_append.mp nd).2.2 x z x (List.mem_cons_self ..);exact this rfl
    rw[e] at nd ⊢;exact .row (RowOk.unit hx).words (.unit hx nx) (zid nd fun y hy=>hn y (List.mem_cons_of_mem _ hy))
theorem zjn {f:Int×Int}{us:List Str}(hu:∀x∈us,zap x=true):∀{ts pre:List (List V)},(pre++ts).Nodup->(∀ws∈ts,TieOk us ws)->Reads ⟨some f,us,pre,[]⟩ (ts.map zcr) ⟨some f,us,pre++ts,[]⟩
  | [],pre,_,_=>by rw[List.append_nil];exact .nil
  | x::ts,pre,nd,hn=>by
    have hx:=hn x (List.mem_cons_self ..);have e:pre++x::ts=(pre++[x])++ts:=by simp
    have nx:x ∉ pre:=fun z=>by
      have:=(List.nodup_append.mp nd).2.2 x z x (List.mem_cons_self ..);exact this rfl
    rw[e] at nd ⊢;exact .row (hx.row hu).words (.tie hx nx) (zjn hu nd fun y hy=>hn y (List.mem_cons_of_mem _ hy))
theorem znq {f:Int×Int}{us:List Str}{ts:List (List V)}(hu:∀x∈us,zap x=true) {fs:List (List V)}(c:FChain us fs):Reads ⟨some f,us,ts,[]⟩ ((fs.map (V.str "find" :: ·)).map zcr) ⟨some f,us,ts,fs⟩:=by
  induction c with
  | nil=>exact .nil
  | snoc c h ih=>
    rw[List.map_append,List.map_append];have r:RowOk _:=(StepOk.find (f:=f) (ts:=ts) h).row hu |>.1
    exact ih.append (.row r.words (.find h) .nil)
theorem Told.grouped {us:List Str}{ts fs rs:List (List V)}{lo hi:Int}(t:Told us ts fs rs) (hl:lo<=hi) (h1:zao lo) (h2:zao hi):Reads ⟨none,[],[],[]⟩ ((zay lo hi us ts fs).map zcr) ⟨some (lo,hi),us,ts,fs⟩:=by
  unfold zay;rw[List.map_cons];refine .row (RowOk.dig hl h1 h2).words (.dig hl h1 h2) ?_;rw[List.map_append,List.map_append];have n:=t.names;refine ((zid (pre:=[]) (by simpa using n.1) n.2).append (zjn n.2 (pre:=[]) (by simpa using t.tiesNd) t.ties)).append (znq n.2 t.chain)
theorem Told.rowsOk {us:List Str}{ts fs rs:List (List V)}{lo hi:Int}(t:Told us ts fs rs) (hl:lo<=hi) (h1:zao lo) (h2:zao hi):∀ws∈zay lo hi us ts fs,RowOk ws:=by
  intro ws hw;have n:=t.names;unfold zay at hw;rcases List.mem_cons.mp hw with rfl | hw
  · exact .dig hl h1 h2
  · rcases List.mem_append.mp hw with hw | hw
    · rcases List.mem_append.mp hw with hw | hw
      · obtain⟨x,hx,rfl⟩:=List.mem_map.mp hw;exact .unit (n.2 x hx)
      · exact (t.ties ws hw).row n.2
    · obtain⟨f,hf,rfl⟩:=List.mem_map.mp hw;obtain⟨nm,x,lo',hi',rfl,a,b,c,d,e⟩:=t.finds f hf;exact .find a (n.2 x b) c d e
theorem zsw {us:List Str}{ts fs:List (List V)}{lo hi:Int}(ok:TellOk lo hi us ts fs) (hr:∀ws∈zay lo hi us ts fs,RowOk ws) :
    Txt.split (zir (zay lo hi us ts fs)) "\n" = (zay lo hi us ts fs).map zcr/\(zir (zay lo hi us ts fs)).length<=1000000:=by
  refine⟨zp0 (by unfold zay;simp) fun ws hw=>(hr ws hw).nofeed,?_⟩;unfold zir;rw[zb4];have h1:=zjl [10] ((zay lo hi us ts fs).map zh5);have h2:=zh6 (l:=(zay lo hi us ts fs).map zh5) (k:=606) fun x hx=>by
    obtain⟨v,hv,rfl⟩:=List.mem_map.mp hx;exact zh7 (ok.rows v hv).1 (ok.rows v hv).2
  rw[List.length_map] at h1 h2;have h3:=ok.count;have : [10].length=1:=rfl;rw[this] at h1;omega
structure Gaps (ps:List (List Nat)) (x:Str) (us:List Str):Prop where
  ne:ps≠[]
  fr:∀p∈ps,32 ∉ p
  co:co x=jc [32] ps
  ws:ps.filter (fun p=>!decide (p = []))=us.map Dm.co
theorem zzb {x:Str}:co x = []↔x = "":=by
  constructor
  · intro h;exact ze0 (by rw[h];decide +kernel)
  · rintro rfl;decide +kernel
theorem zg5:∀ps:List (List Nat),(ps.map zam).filter (fun y:Str=>!decide (y = ""))=(ps.filter fun p=>!decide (p = [])).map zam
  | []=>rfl
  | p::ps=>by
    have e:decide (zam p = "")=decide (p = []):=by
      apply decide_eq_decide.mpr;rw[←zzb,zad]
    rw[List.map_cons,List.filter_cons,List.filter_cons,e,zg5 ps];split
    · rw[List.map_cons]
    · rfl
theorem zkp (x:Str):zam (co x)=x:=ze0 (by rw[zad])
theorem Gaps.words {ps:List (List Nat)}{x:Str}{us:List Str}(g:Gaps ps x us):wordsOf x=us:=by
  unfold wordsOf;have e:Txt.split x " " = ps.map zam:=by
    have:=zdj g.ne g.fr;rw[←g.co,zkp,←zl2] at this;exact this
  rw[e,zg5,g.ws,List.map_map];refine (List.map_congr_left fun y _=>?_).trans (List.map_id us);exact zkp y
theorem zsx {ps:List (List Nat)}(h:ps≠[]) (p:List Nat):jc [32] (ps++[p])=jc [32] ps++[32]++p:=by
  cases ps with
  | nil=>exact absurd rfl h
  | cons a r=>exact zsi _ _ _ _
theorem zw7 (ps:List (List Nat)) (p:List Nat):jc [32] (ps++[p])=jc [32] (ps++[[]])++p:=by
  cases ps with
  | nil=>rfl
  | cons a r=>rw[zsx (by simp),zsx (by simp),List.append_nil]
theorem gaps_nil:Gaps [[]] (zam []) []:=⟨by simp,by simp,by rw[zad];rfl,rfl⟩
theorem Gaps.blank {ps:List (List Nat)}{x:Str}{us:List Str}(g:Gaps ps x us):Gaps (ps++[[]]) (x++zam [32]) us:=by
  refine⟨by simp,fun p hp=>?_,?_,?_⟩
  · rcases List.mem_append.mp hp with h | h
    · exact g.fr p h
    · rw[List.mem_singleton] at h;subst h;simp
  · rw[zb5,zad,g.co,zsx g.ne,List.append_nil]
  · rw[List.filter_append,g.ws];simp
theorem zw8 (x:Str) (a b:List Nat):x++zam (a++b)=x++zam a++zam b:=ze0 (by rw[zb5,zb5,zb5,zad,zad,zad,List.append_assoc])
theorem zuv (x:Str):x++zam []=x:=ze0 (by rw[zb5,zad,List.append_nil])
theorem Gaps.blanks {ps:List (List Nat)}{x:Str}{us:List Str}(g:Gaps ps x us):∀n:Nat,Gaps (ps++List.replicate n []) (x++zam (List.replicate n 32)) us
  | 0=>by
    rw[List.replicate_zero,List.replicate_zero,List.append_nil,zuv];exact g
  | n+1=>by
    rw[List.replicate_succ',List.replicate_succ',←List.append_assoc,zw8];exact (Gaps.blanks g n).blank
theorem Gaps.word {ps:List (List Nat)}{x y:Str}{us:List Str}(g:Gaps (ps++[[]]) x us) (hb:32 ∉ Dm.co y) (hn:Dm.co y≠[]):Gaps (ps++[Dm.co y]) (x++y) (us++[y]):=by
  refine⟨by simp,fun p hp=>?_,?_,?_⟩
  · rcases List.mem_append.mp hp with h | h
    · exact g.fr p (List.mem_append_left _ h)
    · rw[List.mem_singleton] at h;subst h;exact hb
  · rw[zb5,g.co,←zw7]
  · have:=g.ws;rw[List.filter_append] at this ⊢;have e:List.filter (fun p=>!decide (p = [])) [([]:List Nat)] = []:=rfl;rw[e,List.append_nil] at this;rw[this,List.map_append]
    congr 1
    rw[List.filter_cons,decide_eq_false hn];rfl
theorem zw9 (x y:Str):(x++y).length=x.length+y.length:=by rw[←za8,zb5,List.length_append,za8,za8]
theorem zgv (n:Nat):(zam (List.replicate n 32)).length=n:=by rw[zb4,List.length_replicate]
structure PassLn (y:Str):Prop where
  pass:zbz (wordsOf y)=true
  feed:10 ∉ co y
  len:y.length<=900
instance (y:Str):Decidable (PassLn y):=decidable_of_iff (zbz (wordsOf y)=true/\10 ∉ co y/\y.length<=900) ⟨fun h=>⟨h.1,h.2.1,h.2.2⟩,fun h=>⟨h.pass,h.feed,h.len⟩⟩
theorem zqc {ls:List Str}(h0:ls≠[]) (hf:∀l∈ls,10 ∉ co l):Txt.split (Txt.join "\n" ls) "\n" = ls:=by
  have:=zdj (c:=10) (ls:=ls.map co) (by simpa using h0) (fun x hx=>by
    obtain⟨v,hv,rfl⟩:=List.mem_map.mp hx;exact hf v hv)
  rw[←zov,List.map_map] at this;have e:Txt.join "\n" ls=zam (jc [10] (ls.map co)):=by
    show Txt.join (Str.ofString "\n") ls=_;rw[zeh,znh,zad]
  rw[e];exact this.trans ((List.map_congr_left fun v _=>zkp _).trans (List.map_id ls))
theorem zsy {ls:List Str}(hl:ls.length<=400) (h:∀l∈ls,l.length<=900):(Txt.join "\n" ls).length<=1000000/\(ls.map (·.length)).sum+ls.length * (Str.ofString "\n" : Str).length<=16777216:=by
  have e:Txt.join "\n" ls=zam (jc [10] (ls.map co)):=by
    show Txt.join (Str.ofString "\n") ls=_;rw[zeh,znh,zad]
  have h1:=zjl [10] (ls.map co);have h2:=zh6 (l:=ls.map co) (k:=900) fun x hx=>by
    obtain⟨v,hv,rfl⟩:=List.mem_map.mp hx;rw[za8];exact h v hv
  have h3:(ls.map co).map List.length=ls.map (·.length):=by
    rw[List.map_map];exact List.map_congr_left fun v _=>za8 v
  have e1:(Str.ofString "\n" : Str).length=1:=by decide +kernel
  rw[h3] at h1 h2;rw[List.length_map] at h1 h2;have : [10].length=1:=rfl;rw[this] at h1;rw[e,zb4,e1];omega
def zzc (v:V):Prop:=32 ∉ co (zab v)/\10 ∉ co (zab v)/\Wd v
theorem zqd {x:Str}(h:zap x=true):zzc (.str x):=⟨fun z=>((zbm h).1 32 z).1 rfl,fun z=>((zbm h).1 10 z).2.1 rfl,.inl ⟨x,rfl,by
  unfold zap at h;simp only [Bool.and_eq_true,decide_eq_true_eq] at h;omega⟩⟩
theorem RowOk.wd {ws:List V}(h:RowOk ws):∀v∈ws,Wd v:=by
  have F:∀x∈zow,x.length<=100:=by decide +kernel
  have nm:∀{x:Str},zap x=true->Wd (.str x):=fun h=>(zqd h).2.2
  cases h with
  | dig hl h1 h2=>
    intro v hv;simp only [List.mem_cons,List.not_mem_nil,or_false] at hv;rcases hv with rfl | rfl | rfl
    · exact .inl ⟨_,rfl,by decide +kernel⟩
    · exact .inr ⟨_,rfl,h1⟩
    · exact .inr ⟨_,rfl,h2⟩
  | unit hx=>
    intro v hv;simp only [List.mem_cons,List.not_mem_nil,or_false] at hv;rcases hv with rfl | rfl
    · exact .inl ⟨_,rfl,by decide +kernel⟩
    · exact nm hx
  | plain hk hx hy=>
    intro v hv;simp only [List.mem_cons,List.not_mem_nil,or_false] at hv;rcases hv with rfl | rfl | rfl
    · exact .inl ⟨_,rfl,F _ (zg4 _ hk)⟩
    · exact nm hx
    · exact nm hy
  | after hx hy h0 h1=>
    intro v hv;simp only [List.mem_cons,List.not_mem_nil,or_false] at hv;rcases hv with rfl | rfl | rfl | rfl
    · exact .inl ⟨_,rfl,by decide +kernel⟩
    · exact nm hx
    · exact nm hy
    · exact .inr ⟨_,rfl,h1⟩
  | find hn hx hl h1 h2=>
    intro v hv;simp only [List.mem_cons,List.not_mem_nil,or_false] at hv;rcases hv with rfl | rfl | rfl | rfl | rfl
    · exact .inl ⟨_,rfl,by decide +kernel⟩
    · exact nm hn
    · exact nm hx
    · exact .inr ⟨_,rfl,h1⟩
    · exact .inr ⟨_,rfl,h2⟩
inductive Wrg where
  | row | name | number | span | twice | unit
def cw6 (a b c d e f:Addr):Wrg->Addr
  | .row=>a
  | .name=>b
  | .number=>c
  | .span=>d
  | .twice=>e
  | .unit=>f
inductive BadV:Str->Str->Wrg->Prop where
  | name {x:Str}(h:zap x=false):BadV "name" x .name
  | year {x:Str}(h:zc6 x=false):BadV "year" x .number
  | gap {x:Str}(h:zc6 x=false):BadV "gap" x .number
  | neg {x:Str}(h:zc6 x=true) (n:numI x<0):BadV "gap" x .number
inductive BadT:RS->List V->Wrg->Prop where
  | unit {s:RS}{x:Str}(hx:x∈s.us):BadT s [.str "unit",.str x] .twice
  | find {s:RS}{nm x:Str}{lo hi:Int}(h:∃f∈s.fs,f.head? = some (.str nm)):BadT s [.str "find",.str nm,.str x,.int lo,.int hi] .twice
  | findU {s:RS}{nm x:Str}{lo hi:Int}(hn:zap nm=true) (h:∀f∈s.fs,f.head?≠some (.str nm)) (hx:x ∉ s.us):BadT s [.str "find",.str nm,.str x,.int lo,.int hi] .unit
  | tie {s:RS}{ws:List V}{kd x y:Str}{r:List V}(e:ws = .str kd :: .str x :: .str y::r) (hk:kd ∉ ([Str.ofString "dig",Str.ofString "unit",Str.ofString "find"]:List Str)) (h:ws∈s.ts):BadT s ws .twice
  | tieU {s:RS}{ws:List V}{kd x y:Str}{r:List V}(e:ws = .str kd :: .str x :: .str y::r) (hk:kd ∉ ([Str.ofString "dig",Str.ofString "unit",Str.ofString "find"]:List Str)) (h:ws ∉ s.ts) (hu:x ∉ s.us\/y ∉ s.us):BadT s ws .unit
def Pln (x:Str):Prop:=32 ∉ co x/\10 ∉ co x/\co x≠[]/\x.length<=100
instance (x:Str):Decidable (Pln x):=by unfold Pln;infer_instance
theorem zma {g:Nat}:∀(r us:List Str) (x:Str),(∀u∈r,32 ∉ co u/\co u≠[])->(∃ps,Gaps ps x us)->∃ps,Gaps ps (r.foldl (fun a u=>a++zam (List.replicate (g+1) 32)++u) x) (us++r)
  | [],us,x,_,h=>by rw[List.append_nil];exact h
  | u::r,us,x,hr,⟨ps,G⟩=>by
    have h1:=hr u (List.mem_cons_self ..);have G1:=G.blanks (g+1);rw[List.replicate_succ' (n:=g) (a:=([]:List Nat)),←List.append_assoc] at G1;have:=zma (g:=g) r (us++[u]) _ (fun v hv=>hr v (List.mem_cons_of_mem _ hv)) ⟨_,G1.word h1.1 h1.2⟩;rw[List.append_assoc] at this;exact this
theorem zo2 (s:List Nat):∀(x:List Nat) (r:List (List Nat)),jc s (x::r)=x++(r.map (s ++ ·)).flatten
  | x,[]=>by simp[jc]
  | x,y::r=>by
    show x++s++jc s (y::r)=_;rw[zo2 s y r];simp
theorem zo3 {g:Nat}:∀(r:List Str) (x:Str),co (r.foldl (fun a u=>a++zam (List.replicate g 32)++u) x)=co x++((r.map co).map (List.replicate g 32 ++ ·)).flatten
  | [],x=>by simp
  | u::r,x=>by
    rw[List.foldl_cons,zo3 r,zb5,zb5,zad];simp
def znr (n g m:Nat) (us:List Str):Str:=zam (List.replicate n 32)++Txt.join (zam (List.replicate g 32)) us++zam (List.replicate m 32)
theorem zuw {n g m:Nat}{us:List Str}(ne:us≠[]) (hu:∀u∈us,Pln u) (hl:us.length<=7) (hn:n<=1) (hg:1<=g/\g<=2) (hm:m<=1):wordsOf (znr n g m us)=us/\10 ∉ co (znr n g m us)/\(znr n g m us).length<=900:=by
  have cc:co (znr n g m us)=List.replicate n 32++jc (List.replicate g 32) (us.map co)++List.replicate m 32:=by
    unfold znr;rw[zb5,zb5,zad,zad,zhl,zad]
  refine⟨?_,?_,?_⟩
  · cases us with
    | nil=>exact absurd rfl ne
    | cons u r=>
      obtain⟨g',rfl⟩:∃g',g=g'+1:=⟨g-1,by omega⟩;have G:=gaps_nil.blanks n;have hu0:=hu u (List.mem_cons_self ..);obtain⟨ps,G⟩:∃ps,Gaps (ps++[[]]) (zam []++zam (List.replicate n 32)) []:=by
        cases n with
        | zero=>exact⟨[],G⟩
        | succ n=>
          rw[List.replicate_succ' (n:=n) (a:=([]:List Nat)),←List.append_assoc] at G;exact⟨_,G⟩
      obtain⟨ps',G'⟩:=zma (g:=g') r _ _ (fun v hv=>⟨(hu v (List.mem_cons_of_mem _ hv)).1,(hu v (List.mem_cons_of_mem _ hv)).2.2.1⟩) ⟨_,G.word hu0.1 hu0.2.2.1⟩;have e:znr n (g'+1) m (u::r)=r.foldl (fun a u=>a++zam (List.replicate (g'+1) 32)++u) (zam []++zam (List.replicate n 32)++u)++zam (List.replicate m 32):=ze0 (by
        rw[cc,zb5,zo3,zb5,zb5,zad,zad,zad,List.map_cons,zo2];simp)
      rw[e];exact (G'.blanks m).words
  · rw[cc];intro z;rcases List.mem_append.mp z with z | z
    · rcases List.mem_append.mp z with z | z
      · exact absurd (List.eq_of_mem_replicate z) (by decide)
      · rcases zsk z with z | ⟨x,hx,z⟩
        · exact absurd (List.eq_of_mem_replicate z) (by decide)
        · obtain⟨v,hv,rfl⟩:=List.mem_map.mp hx;exact (hu v hv).2.1 z
    · exact absurd (List.eq_of_mem_replicate z) (by decide)
  · rw[←za8,cc,List.length_append,List.length_append,List.length_replicate,List.length_replicate];have h1:=zjl (List.replicate g 32) (us.map co);have h2:=zh6 (l:=us.map co) (k:=100) fun x hx=>by
      obtain⟨v,hv,rfl⟩:=List.mem_map.mp hx;rw[za8];exact (hu v hv).2.2.2
    rw[List.length_map,List.length_replicate] at h1;rw[List.length_map] at h2;have h3:us.length * 100<=7 * 100:=Nat.mul_le_mul_right _ hl;have h4:us.length * g<=7 * 2:=Nat.mul_le_mul hl hg.2;omega
structure J3 (H:Hp) (pu pt pf:Addr) (us:List Str) (ts fs:List (List V)) (at' af:List Addr):Prop where
  u:H pu=some (.lst (us.map V.str))
  t:H pt=some (.lst (at'.map V.ref))
  tt:Tups H at' ts
  f:H pf=some (.lst (af.map V.ref))
  ft:Tups H af fs
section
variable {H H':Hp}{pu pt pf p:Addr}{us:List Str}{ts fs:List (List V)}{at' af:List Addr}{ws:List V}
theorem J3.same (t:J3 H pu pt pf us ts fs at' af) (s:Same H H'):J3 H' pu pt pf us ts fs at' af:=⟨s _ _ t.u,s _ _ t.t,t.tt.same s,s _ _ t.f,t.ft.same s⟩
theorem J3.addU (t:J3 H pu pt pf us ts fs at' af) (h1:pt≠pu) (h2:pf≠pu) (x:Str):J3 (upd H pu (.lst (us.map V.str++[.str x]))) pu pt pf (us++[x]) ts fs at' af:=by
  have st:=zdi (ys:=us.map V.str++[.str x]) t.u;exact⟨by rw[zc,List.map_append];rfl,by rw[zv h1];exact t.t,t.tt.stay st,by rw[zv h2];exact t.f,t.ft.stay st⟩
theorem J3.addT (t:J3 H pu pt pf us ts fs at' af) (h1:pu≠pt) (h2:pf≠pt) (hp:H p=some (.tup ws)):J3 (upd H pt (.lst (at'.map V.ref++[.ref p]))) pu pt pf us (ts++[ws]) fs (at'++[p]) af:=by
  have st:=zdi (ys:=at'.map V.ref++[.ref p]) t.t;exact⟨by rw[zv h1];exact t.u,by rw[zc,List.map_append];rfl,(t.tt.stay st).snoc (st _ _ hp),by rw[zv h2];exact t.f,t.ft.stay st⟩
theorem J3.addF (t:J3 H pu pt pf us ts fs at' af) (h1:pu≠pf) (h2:pt≠pf) (hp:H p=some (.tup ws)):J3 (upd H pf (.lst (af.map V.ref++[.ref p]))) pu pt pf us ts (fs++[ws]) at' (af++[p]):=by
  have st:=zdi (ys:=af.map V.ref++[.ref p]) t.f;exact⟨by rw[zv h1];exact t.u,by rw[zv h2];exact t.t,t.tt.stay st,by rw[zc,List.map_append];rfl,(t.ft.stay st).snoc (st _ _ hp)⟩
def ziu (H H':Hp) (pu pt pf:Addr):Prop:=∀b o,H b=some o->b≠pu->b≠pt->b≠pf->H' b=some o
end
inductive Drw:List V->Prop where
  | unit {x:Str}(hx:zap x=true):Drw [.str "unit",.str x]
  | find {nm x:Str}{lo hi:Int}(hn:zap nm=true) (hx:zap x=true) (hl:lo<=hi) (h1:zao lo) (h2:zao hi) (h3:zao (hi-1)):Drw [.str "find",.str nm,.str x,.int lo,.int hi]
  | plain {kd x y:Str}(hk:kd∈zgt) (hx:zap x=true) (hy:zap y=true):Drw [.str kd,.str x,.str y]
  | after {x y:Str}{n:Int}(hx:zap x=true) (hy:zap y=true) (h0:0<=n) (h1:zao n):Drw [.str "after",.str x,.str y,.int n]
theorem Drw.row {ws:List V}(h:Drw ws):RowOk ws:=by
  cases h with
  | unit hx=>exact .unit hx
  | find hn hx hl h1 h2 h3=>exact .find hn hx hl h1 h2
  | plain hk hx hy=>exact .plain hk hx hy
  | after hx hy h0 h1=>exact .after hx hy h0 h1
theorem Drw.plain_words {ws:List V}(h:Drw ws) (hw:∀v∈ws,Wd v):∀u∈ws.map zab,Pln u:=fun u hu=>by
  obtain⟨v,hv,rfl⟩:=List.mem_map.mp hu;have s:=h.row.signs v hv;have:=zfy (hw v hv);rw[za8] at this;exact⟨fun z=>(s.1 32 z).1 rfl,fun z=>(s.1 10 z).2.1 rfl,s.2,this⟩
end Dm
namespace L2
open PySem PySem.Spec PyProof.Rows
structure Noted (fs:List Addr) (e T:Addr) (xs:List Addr) (oe:Obj) (vs:Array Value) (v:Value) (h h':Heap):Prop where
  keep:∀b o,b≠e->b ∉ fs->b ∉ xs->h.get? b=some o->h'.get? b=some o
  slot:∀b o,b∈fs->h.get? b=some o->∃sl,h'.get? b=some { o with slots:=sl }
  sz:h.objs.size<=T
  exc:h'.get? e=some { oe with data:=.fields (vs.setIfInBounds 1 (.ref T)) }
  ent:∃oT ts,h'.get? T=some oT/\oT.data = .fields ts/\ts[3]? = some v
section
variable {fs xs:List Addr}{e T C:Addr}{oe:Obj}{vs:Array Value}{v u:Value}{h h1 h2:Heap}
theorem Noted.put (N:Noted fs e T xs oe vs v h h1) (he:h.get? e=some oe) (u:Value):Noted fs e T xs oe vs u h (h1.update T (Obj.mapFields (·.setIfInBounds 3 u))):=by
  obtain⟨oT,ts,g1,g2,g3⟩:=N.ent;have oth:∀b,b≠T->(h1.update T (Obj.mapFields (·.setIfInBounds 3 u))).get? b=h1.get? b:=fun b hb=>Heap.get?_update_other _ _ (Ne.symm hb)
  have old:∀b o,h.get? b=some o->b≠T:=fun b o q z=>absurd (Heap.lt_size q) (Nat.not_lt.mpr (z▸N.sz))
  have z3:=(Array.getElem?_eq_some_iff.mp g3).1;refine⟨fun b o hb hf hx q=>(oth b (old b o q)).trans (N.keep b o hb hf hx q),fun b o hb q=>?_,N.sz,(oth e (old e _ he)).trans N.exc,_,_,Heap.get?_update_self _ g1 (Obj.isFreed_of_fields (Obj.data_mapFields g2 _)),Obj.data_mapFields g2 _,by simp[z3]⟩;obtain⟨sl,q1⟩:=N.slot b o hb q;exact⟨sl,(oth b (old b o q)).trans q1⟩
theorem Noted.but (N:Noted fs e T xs oe vs v h h1) (nC:C≠e) (nT:C≠T) (nf:C ∉ fs) (hs:Heap.SameBut C h1 h2):Noted fs e T (C::xs) oe vs v h h2:=by
  obtain⟨oT,ts,g1,g2,g3⟩:=N.ent;refine⟨fun b o hb hf hx q=>(hs.2 b fun z=>hx (by simp[z])).trans (N.keep b o hb hf (fun z=>hx (List.mem_cons_of_mem _ z)) q),fun b o hb q=>?_,N.sz,(hs.2 e (Ne.symm nC)).trans N.exc,oT,ts,(hs.2 T (Ne.symm nT)).trans g1,g2,g3⟩;obtain⟨sl,q1⟩:=N.slot b o hb q;exact⟨sl,(hs.2 b fun z=>nf (z▸hb)).trans q1⟩
theorem Noted.gone (N:Noted fs e T xs oe vs .none h h1):Gone fs e T xs oe vs h h1:=⟨N.keep,N.slot,Heap.get?_none_of_le N.sz,N.exc,N.ent⟩
theorem Noted.next {T':Addr}(N:Noted fs e T xs oe vs v h h1) (N':Noted fs e T' [T] { oe with data:=.fields (vs.setIfInBounds 1 (.ref T)) } (vs.setIfInBounds 1 (.ref T)) u h1 h2):Noted fs e T' (T::xs) oe vs u h h2:=by
  obtain⟨oT,ts,g1,_,_⟩:=N.ent;have lt:=Heap.lt_size g1;refine⟨fun b o hb hf hx q=>N'.keep b o hb hf (fun z=>hx (by simp[List.mem_singleton.mp z])) (N.keep b o hb hf (fun z=>hx (List.mem_cons_of_mem _ z)) q),fun b o hb q=>?_,Nat.le_trans N.sz (Nat.le_trans (Nat.le_of_lt lt) N'.sz),?_,N'.ent⟩
  · obtain⟨sl,q1⟩:=N.slot b o hb q;obtain⟨sl',q2⟩:=N'.slot b _ hb q1;exact⟨sl',q2⟩
  · have:=N'.exc;rw[Array.setIfInBounds_setIfInBounds] at this;exact this
end
theorem zns {h h' base:Heap}:∀{l:List Env},(∀b∈frs l,∀o,h.get? b=some o->∃sl,h'.get? b=some { o with slots:=sl })->h.FunFrames base l->h'.FunFrames base l
  | [],_,_=>trivial
  | env::rest,k,⟨hk,⟨L,o,hf,hn,ho,hd⟩,hr⟩=>by
    have hm:∀b,b=L\/b∈frs rest->b∈frs (env::rest):=fun b hb=>by
      unfold frs;rw[List.filterMap_cons,hf];exact List.mem_cons.mpr hb
    obtain⟨sl,q⟩:=k L (hm _ (.inl rfl)) o ho;exact⟨hk,⟨L,_,hf,hn,q,hd⟩,zns (fun b hb=>k b (hm _ (.inr hb))) hr⟩
theorem zqe {e:Value}{a b:Env}(h:a.frame=b.frame):noteFrame e a=noteFrame e b:=by
  unfold noteFrame PySem.frameOf;rw[h]
section
variable {M:Model}{A:Around}{E:Value->Shared->Prop}{s:Shared}
theorem zqf {base:Heap}{env:Env}{outer:List Env}{L e:Addr}{oe:Obj}{vs:Array Value}{head:Value}{nx:Bool}{Q:Unit->Shared->Prop}
    (hfr:A.frames=some (env::outer)) (hl:s.heap.FunFrames base (env::outer)) (hf:env.frame=some L) (he:s.heap.get? e=some oe) (hd:oe.data = .fields vs) (hz:1<vs.size)
    (k:∀h',Noted (frs (env::outer)) e s.heap.objs.size [] oe vs (rawInt L) s.heap h'->Q () { s with heap:=h' }) :
    wpAny M A (do let a ←frameOf env;let pl ←entryPlaceOf L nx;let b ←EntryCells.newEntry head a .none (rawInt L) .none pl;setField (.ref e) 1 b) Q E s:=by
  have nf:∀b∈frs (env::outer),∃o,s.heap.get? b=some o/\∀us,o.data≠.fields us:=fun b hb=>(hl.mem hb).2
  have ne:e ∉ frs (env::outer):=fun hm=>by
    obtain⟨o,ho,hn⟩:=nf e hm;rw[he] at ho;cases ho;exact hn vs hd
  refine wpAny_bind (wpAny_frameOf_fun hfr hl hf fun h1 s1=>?_);obtain⟨z1,k1,u1⟩:=s1;refine wpAny_bind (wpAny_entryPlaceOf fun pl hpl=>?_);unfold EntryCells.newEntry newFields;refine wpAny_bind (wpAny_newObj_type ?_ (hpl.sizeOk5 _ _ _ _ _));have e1:h1.get? e=some oe:=(k1 e ne).trans he;generalize hN:({ cls:=.type "traceback",dict:=none,data:=.fields ([head,.ref L,.none,rawInt L,.none]++(if pl.isEmpty then List.replicate 6 Value.none else pl)).toArray }:Obj)=N;have dN:N.data = .fields ([head,.ref L,.none,rawInt L,.none]++(if pl.isEmpty then List.replicate 6 Value.none else pl)).toArray:=by rw[←hN]
  generalize hts:([head,.ref L,.none,rawInt L,.none]++(if pl.isEmpty then List.replicate 6 Value.none else pl)).toArray=ts at dN;have zt:ts[3]? = some (rawInt L):=by rw[←hts];simp
  have fN:N.isFreed=false:=Obj.isFreed_of_fields dN;have e2:=Heap.get?_push_of_some (h:=h1) N e1;refine wpAny_setField e2 hd hz (k _ ?_);have Te:h1.objs.size≠e:=Nat.ne_of_gt (Heap.lt_size e1);have e3:=Heap.get?_update_self (Obj.mapFields (·.setIfInBounds 1 (Value.ref h1.objs.size))) e2 (Obj.isFreed_of_fields (Obj.data_mapFields hd _));rw[zgu hd] at e3;have t3:=(Heap.get?_update_other (h1.push N) (Obj.mapFields (·.setIfInBounds 1 (Value.ref h1.objs.size))) (Ne.symm Te)).trans (Heap.get?_push_size h1 fN);have oth:∀b o,b≠e->h1.get? b=some o->((h1.push N).update e (Obj.mapFields (·.setIfInBounds 1 (Value.ref h1.objs.size)))).get? b=some o:=fun b o hb q=>by
    rw[Heap.get?_update_other _ _ (Ne.symm hb)];exact Heap.get?_push_of_some _ q
  refine⟨fun b o hb hn _ q=>oth b o hb ((k1 b hn).trans q),fun b o hb q=>?_,Nat.le_refl _,?_,?_⟩
  · obtain⟨sl,q1⟩:=u1 b o q;exact⟨sl,oth b _ (fun z=>ne (z▸hb)) q1⟩
  · rw[←z1];exact e3
  · rw[←z1];exact⟨_,_,t3,dN,zt⟩
theorem zmb {base:Heap}{env:Env}{outer:List Env}{L e T:Addr}{oe oT:Obj}{vs ts:Array Value}{v0:Value}{Q:Unit->Shared->Prop}
    (hfr:A.frames=some (env::outer)) (hl:s.heap.FunFrames base (env::outer)) (hf:env.frame=some L) (he:s.heap.get? e=some oe) (hd:oe.data = .fields vs) (h1:vs[1]? = some (.ref T))
    (hT:s.heap.get? T=some oT) (dT:oT.data = .fields ts) (h3:ts[3]? = some v0) (hv:(v0 == rawInt L)=false) (ne:T≠e)
    (k:∀h',Noted (frs (env::outer)) e s.heap.objs.size [T] oe vs (rawInt L) s.heap h'->Q () { s with heap:=h' }):wpAny M A (noteFrame (.ref e) env) Q E s:=by
  unfold noteFrame;simp only [hf];refine wpAny_bind (wpAny_field he hd h1 ?_);rw[if_pos (show (Value.ref T != Value.none)=true from by simp)];refine wpAny_bind (wpAny_field hT dT h3 ?_);rw[if_neg (show ¬((v0 == rawInt L)=true) from by rw[hv];exact Bool.false_ne_true)];have z3:=(Array.getElem?_eq_some_iff.mp h3).1;refine wpAny_bind (wpAny_setField hT dT z3 ?_);have oth:∀b,b≠T->(s.heap.update T (Obj.mapFields (·.setIfInBounds 3 Value.none))).get? b=s.heap.get? b:=fun b hb=>Heap.get?_update_other _ _ (Ne.symm hb)
  have nf:T ∉ frs (env::outer):=fun hm=>by
    obtain⟨_,o,ho,hn⟩:=hl.mem hm;rw[hT] at ho;cases ho;exact hn ts dT
  have sz:(s.heap.update T (Obj.mapFields (·.setIfInBounds 3 Value.none))).objs.size=s.heap.objs.size:=Heap.size_after_update ..;refine zqf (s:={ s with heap:=s.heap.update T (Obj.mapFields (·.setIfInBounds 3 Value.none)) }) hfr (zns (fun b hb o q=>⟨o.slots,(oth b fun z=>nf (z▸hb)).trans q⟩) hl) hf ((oth e ne.symm).trans he) hd (Array.getElem?_eq_some_iff.mp h1).1 fun h' G=>?_
  have G:=G;dsimp only at G;rw[sz] at G;exact k h' ⟨fun b o hb hn hx q=>G.keep b o hb hn (by simp) ((oth b fun z=>hx (by simp[z])).trans q),fun b o hb q=>G.slot b o hb ((oth b fun z=>nf (z▸hb)).trans q),Nat.le_refl _,G.exc,G.ent⟩
end
section
variable {X:Cx}{pins:List (Addr×Obj)}{σ:St}{H:Hp}{s:Shared}{E:XK}{e C:Addr}{cls:Value}{dc:Option Addr}
theorem zxa {m:Str->Option Value}(I:Inv X pins σ H s) (x:XeIs X E) (hC:FpOk X pins H C) (hn:s.heap.Ns C m) (r:Fly H X.s₀.heap s.heap e cls dc) (hE:E cls dc H) {cenv:Env}(hf:cenv.frame=X.env.frame)
    {use:Option (Value->Sem Unit)}{Q:Value->Shared->Prop}{acc:Value} :
    notedBy (model X.prog X.w) X.A cenv (fun u s'=>compPost (model X.prog X.w) X.A X.xe use Q acc C (.error u) s') (.ref e) s:=by
  obtain⟨oe,vs,T,oT,ts,he,hc,hdc,hd,h1,hTe,hT,dT,h3,He,HT,ne,nT⟩:=r;have x':=x;obtain⟨x1,x2,x3,x4⟩:=x';have fr:=I.ok.frames;have st:=I.stack;rw[x2] at fr st;obtain⟨f0,f1,f2,f3,f4,f5⟩:=hC;have hz:=(Array.getElem?_eq_some_iff.mp h1).1;have cf:C ∉ frs (X.env::X.outer):=fun hb=>by
    unfold frs at hb;rw[List.filterMap_cons,x3] at hb;exact (List.mem_cons.mp hb).elim f1 f2
  obtain⟨oC,es,ep,hoC,dC,rC⟩:=hn;have nCe:C≠e:=fun z=>by
    rw[z,he] at hoC;cases hoC;rw[hd] at dC;cases dC
  have nCT:C≠T:=fun z=>by
    rw[z,hT] at hoC;cases hoC;rw[dT] at dC;cases dC
  have sC:X.s₀.heap.objs.size<=C:=f3.elim (fun z=>by rw[x4] at z;cases z) id;show wpAny _ X.A (noteFrame (.ref e) cenv) _ _ s;rw[zqe hf];refine zmb fr st x3 he hd h1 hT dT h3 (by simp[rawInt]) hTe fun hA N=>?_
  have goal:∃m,hA.Ns C m/\∀h',Heap.SameBut C hA h'->∀cenv':Env,cenv'.locals=C->wpAny (model X.prog X.w) X.A (PySem.passOn "comprehension.variables-let-go" (.ref e) cenv':Sem Value) (fun _ _=>False) X.xe { s with heap:=h' }:=by
    refine⟨m,⟨oC,es,ep,N.keep C oC nCe cf (fun z=>nCT (List.mem_singleton.mp z)) hoC,dC,rC⟩,fun h2 hs cenv' _=>?_⟩;have nC2:C≠s.heap.objs.size:=Nat.ne_of_lt (Heap.lt_size hoC);have N2:=N.but nCe nC2 cf hs;have T2e:s.heap.objs.size≠e:=Nat.ne_of_gt (Heap.lt_size he);have hx:∀b∈[C,T],H b=none/\X.s₀.heap.objs.size<=b:=fun b hb=>by
      rcases List.mem_cons.mp hb with rfl | hb
      · exact⟨f0,sC⟩
      · rw[List.mem_singleton.mp hb];exact⟨HT,nT⟩
    have i1:(vs.setIfInBounds 1 (.ref s.heap.objs.size))[1]? = some (Value.ref s.heap.objs.size):=by simp[hz]
    obtain⟨oT2,ts2,g1,g2,g3⟩:=N2.ent;have z3:=(Array.getElem?_eq_some_iff.mp g3).1;have step:wpAny (model X.prog X.w) X.A (do setFlight (.ref e) cenv'.frame;throw (.ref e):Sem Value) (fun _ _=>False) X.xe { s with heap:=h2 }:=by
      unfold setFlight;refine wpAny_bind (wpAny_bind (wpAny_field N2.exc rfl i1 ?_));rw[if_pos (show (Value.ref s.heap.objs.size != Value.none)=true from by simp)];refine wpAny_setField g1 g2 z3 (wpAny_throw ?_);have N3:=N2.put he (cenv'.frame.elim .none fun f=>rawInt f);generalize h2.update s.heap.objs.size (Obj.mapFields (·.setIfInBounds 3 (cenv'.frame.elim .none fun f=>rawInt f)))=hB at N3;generalize (cenv'.frame.elim Value.none fun f=>rawInt f)=v' at N3;obtain⟨oT3,ts3,k1,k2,k3⟩:=N3.ent;rw[x1]
      by_cases hv:(v' == rawInt X.env.locals)=true
      · have ev:v'=rawInt X.env.locals:=by simpa using hv
        unfold leaving;refine wpAny_bind (wpAny_noteFrame_inFlight x3 N3.exc rfl i1 k1 k2 (ev▸k3) ?_);unfold setFlight;refine wpAny_bind (wpAny_field N3.exc rfl i1 ?_);rw[if_pos (show (Value.ref s.heap.objs.size != Value.none)=true from by simp)];refine wpAny_setField k1 k2 (Array.getElem?_eq_some_iff.mp k3).1 ?_;exact zkm (s:=s) I x (N3.put he .none).gone hc hdc hz He ne hx T2e (Nat.le_refl _) hE
      · have ev:(v' == rawInt X.env.locals)=false:=by simpa using hv
        unfold leaving;refine wpAny_bind (zmb (s:={ s with heap:=hB }) fr (zns (fun b hb o q=>N3.slot b o hb q) st) x3 N3.exc rfl i1 k1 k2 k3 ev T2e fun hD ND=>?_);have NE:=N3.next ND;have T3e:hB.objs.size≠e:=Nat.ne_of_gt (Heap.lt_size N3.exc);obtain⟨oT4,ts4,l1,l2,l3⟩:=NE.ent;unfold setFlight;refine wpAny_bind (wpAny_field NE.exc rfl (x:=.ref hB.objs.size) (by simp[hz]) ?_);rw[if_pos (show (Value.ref hB.objs.size != Value.none)=true from by simp)];refine wpAny_setField l1 l2 (Array.getElem?_eq_some_iff.mp l3).1 ?_;refine zkm (s:=s) I x (NE.put he .none).gone hc hdc hz He ne (fun b hb=>?_) T3e NE.sz hE;rcases List.mem_cons.mp hb with rfl | hb
        · exact⟨I.hok.fresh (Nat.le_refl _),I.sz⟩
        · exact hx b hb
    unfold PySem.passOn;refine wpAny_bind (wpAny_field N2.exc rfl i1 ?_);rw[if_neg (show ¬((Value.ref s.heap.objs.size == Value.none)=true) from by simp)]
    first
      | exact wpAny_bind (wpAny_pure step)
      | exact step
  cases use<;>exact goal
end
theorem Fly.le {H:Hp}{h0 h1 h:Heap}{e:Addr}{cls:Value}{dc:Option Addr}(f:Fly H h1 h e cls dc) (z:h0.objs.size<=h1.objs.size):Fly H h0 h e cls dc:=by
  obtain⟨oe,vs,T,oT,ts,he,hc,hdc,hd,h1,hTe,hT,dT,h3,He,HT,ne,nT⟩:=f;exact⟨oe,vs,T,oT,ts,he,hc,hdc,hd,h1,hTe,hT,dT,h3,He,HT,Nat.le_trans z ne,Nat.le_trans z nT⟩
theorem Inv.bared {X:Cx}{pins:List (Addr×Obj)}{σ:St}{H:Hp}{s:Shared}(I:Inv X pins σ H s):Inv X [] σ H s:=
  ⟨I.ok,I.os,I.bare,I.base,I.loc,I.cell,I.free,I.freeC,fun p hp=>I.pin p (List.mem_append_left _ (by simpa using hp)),I.hok,I.len⟩
section
variable {X:Cx}{k:Nat}{ps:List Str}{sp:Sp}{E:XK}{x:Str}{p pos:Pos}{e:Expr}{es:List Expr}{t:TA}
theorem zzd (F:HasX X.prog X.w X.K X.mg X.base x ps k sp) (xe:zda (CX1 X.prog X.w) X E) (hr:Room k X.A) (hg:Gl X x) (ha:PA X (e::es) t) (hdb:(x == ("__debug__" : Str))=false:=by decide)
    (he:starEach (e::es) X.env=(false,eval e X.env)::starEach es X.env:=by rfl) (hpl:(backTo pos (starEach es X.env)).any (·.1)=false:=by rfl):PE X (.Call (.Name x p) (e::es) [] pos) (ztw sp [] E t):=by
  obtain⟨f,fd,a,kp,_,b,G⟩:=F;exact zm8 G hr hg a kp (.all b) .nil xe ha hdb he hpl
end
def XIn (X Y:Cx) (E:XK):Value->Shared->Prop:=fun u s'=>∃(e:Addr) (cls:Value) (dc:Option Addr) (σ':St) (H':Hp) (p':List (Addr×Obj)),u = .ref e/\Inv Y p' σ' H' s'/\Fly H' X.s₀.heap s'.heap e cls dc/\E cls dc H'
section
variable {X:Cx}{tg iter elt:Expr}{ifs:List Expr}{scope:Scope}{pos:Pos}{own cap:List Str}{ix:List Nat}{wi:TI}{g:TG}{tc:TT}{te:TE}{E:XK}
theorem zsz {pins:List (Addr×Obj)}{σ:St}{s:Shared}{E':Value->Shared->Prop}{RR:Value->Addr->Result->Shared->Prop}{Q:VK}
    (hc:X.calm=true) (S:CompScope scope X.env.scope cap) (hix:ix.map (fun i=>X.N[i]?)=cap.map some)
    (hg:∀C s H ex,PG (cxC X (own++cap) scope C s H ex) tg g) (ht:∀C s H ex,PIf (cxC X (own++cap) scope C s H ex) ifs tc)
    (he:∀C s H ex xe,zda (CX1 X.prog X.w) ((cxC X (own++cap) scope C s H ex).wish xe) E->PE ((cxC X (own++cap) scope C s H ex).wish xe) elt te)
    {itv:Value}(h:PIE X pins σ tg (fun J H1=>∀D,H1 D=none->zkb own ix J g tc te σ H1 D Q) itv s)
    (hR:∀(D C:Addr) (s':Shared) (H':Hp) (m:Str->Option Value),s'.heap.Ns C m->FpOk X pins H' C->(∀h',Heap.SameBut C s'.heap h'->Inv X pins σ H' { s' with heap:=h' })->Q (.ref D) H'->RR (.ref D) C (.ok .next) s')
    (hX:∀(D C:Addr) (s':Shared) (H':Hp) (m:Str->Option Value) (e:Addr) (cls:Value) (dc:Option Addr) (cenv:Env),cenv.frame=X.env.frame->s'.heap.Ns C m->FpOk X pins H' C->Inv X pins σ H' s'->Fly H' X.s₀.heap s'.heap e cls dc->E cls dc H'->
      notedBy (model X.prog X.w) X.A cenv (fun u s''=>RR (.ref D) C (.error u) s'') (.ref e) s') :
    wpAny (model X.prog X.w) X.A (newList []) (fun acc s₃=>wpAny (model X.prog X.w) X.A (newFunctionEnv scope X.env.globals (zco X.env.cells scope.names []) [] X.env.qual none .none (some X.env)) (fun cenv s₄=>
      codeAny (model X.prog X.w) X.A (.compStart (.ListComp elt [⟨tg,iter,ifs,0⟩] scope pos) 0 itv acc { cenv with scope:=relabel scope X.env }) (RR acc cenv.locals) s₄) E' s₃) E' s:=by
  obtain⟨it,fp,tn,J,H2,rfl,I2,T,st2,f2,q2⟩:=h;refine wpAny_newObj_type (wpAny_newFunctionEnv S.nocell (by intro y hy;simp at hy) (fun h₁ hns₁ hsb₁=>?_) S.kind);dsimp only at hns₁ hsb₁ ⊢;have hD:H2 s.heap.objs.size=none:=I2.hok.fresh (Nat.le_refl _);obtain⟨W,⟨m0,w0⟩,turn⟩:=q2 s.heap.objs.size hD;have I3:Inv X pins σ (upd H2 s.heap.objs.size (.lst [])) { s with heap:=s.heap.push { cls:=.type "list",data:=.seq ([]:List Value).toArray } }:=I2.lnew (t':=s.toks) (its:=[]) .nil (Nat.zero_le _);have ltD:∀b∈fp,b<s.heap.objs.size:=fun b hb=>by
    obtain⟨o,e,_⟩:=T.obj 0 _ st2 b hb;exact Heap.lt_size e
  have f3:∀b∈fp,FpOk X pins (upd H2 s.heap.objs.size (.lst [])) b:=fun b hb=>⟨by rw[zv (Nat.ne_of_lt (ltD b hb))];exact (f2 b hb).1,(f2 b hb).2⟩
  generalize hH:s.heap.push { cls:=.type "list",data:=.seq ([]:List Value).toArray } = H3 at I3 hns₁ hsb₁ ⊢;have sz:H3.objs.size=s.heap.objs.size+1:=by rw[←hH,Heap.size_push]
  have up:∀b o,H3.get? b=some o->h₁.get? b=some o:=fun b o e=>hsb₁.extBut b o (Nat.ne_of_lt (Heap.lt_size e)) (Heap.get?_push_of_some _ e)
  have old:∀b o,s.heap.get? b=some o->h₁.get? b=some o:=fun b o e=>up b o (by rw[←hH];exact Heap.get?_push_of_some _ e)
  have lt3:∀b∈fp,b<({ s with heap:=H3 }:Shared).heap.objs.size:=fun b hb=>by show b<H3.objs.size;rw[sz];exact Nat.lt_succ_of_lt (ltD b hb)
  have st4:tn 0 h₁:=T.keep _ _ _ st2 fun b _ o e=>old b o e
  have stat:∀{H':Hp},(∀b∈fp,H' b=none)->∀b∈fp,FpOk (cxC X (own++cap) scope H3.objs.size { s with heap:=H3 } (upd H2 s.heap.objs.size (.lst [])) fp) [] H' b:=fun hn b hb=>
    ⟨hn b hb,Nat.ne_of_lt (lt3 b hb),fun z=>(List.mem_cons.mp (I3.stkSub b z)).elim (f2 b hb).2.1 (f2 b hb).2.2.1,.inl hb,fun x c e=>(f2 b hb).2.2.2.2.1 x c (zee _ _ _ (fun y d h=>by cases h) _ _ e),fun p hp=>absurd (show p∈([]:List (Addr×Obj)) from hp) (by simp)⟩
  have pas:zda (CX1 X.prog X.w) ((cxC X (own++cap) scope H3.objs.size { s with heap:=H3 } (upd H2 s.heap.objs.size (.lst [])) fp).wish (XIn X (cxC X (own++cap) scope H3.objs.size { s with heap:=H3 } (upd H2 s.heap.objs.size (.lst [])) fp) E)) E:=fun p' σ' H' s5 u s' I h=>by
    obtain⟨e,cls,dc,H'',rfl,os,bare,un,hok,fl,hE⟩:=h;have I':=I.call' os un hok bare (ch:=[]) (fun b z=>absurd z (by simp));exact⟨e,cls,dc,σ',H'',p',rfl,I'.unwish,fl.le (Nat.le_trans I3.sz I.sz),hE⟩
  have loop:∀s₄:Shared,s₄ = { s with heap:=h₁,toks:=s.toks+([]:List (Str×Value)).length }->
      codeAny (model X.prog X.w) X.A (.compLoop (.ListComp elt [⟨tg,iter,ifs,0⟩] scope pos) 0 (.ref it) (.ref s.heap.objs.size) (compEnvC scope (zco X.env.cells scope.names []) H3.objs.size X.env))
        (RR (.ref s.heap.objs.size) H3.objs.size) s₄:=by
    rintro s₄ rfl;have I4:=zoi (own:=own) (fp:=fp) (tk:=s.toks+([]:List (Str×Value)).length) I3 S hix f3 lt3 hns₁ up;refine zcc (fun n s'=>∃i σ' ys H',Inv (cxC X (own++cap) scope H3.objs.size { s with heap:=H3 } (upd H2 s.heap.objs.size (.lst [])) fp) [] σ' H' s'/\tn i s'.heap/\(∀b∈fp,H' b=none)/\W i n σ' ys H') ?_ m0
      ⟨0,_,[],_,I4,st4,fun b hb=>(f3 b hb).1,w0⟩
    rintro n s5 ⟨i,σ5,ys,H5,I5,st5,fr5,w5⟩;obtain⟨hD5,turn5⟩:=turn i n σ5 ys H5 w5;rcases turn5 with ⟨stop,q⟩ | ⟨go,hz,step⟩
    · refine thn (T.done (cxC X (own++cap) scope H3.objs.size { s with heap:=H3 } (upd H2 s.heap.objs.size (.lst [])) fp) rfl rfl rfl hc i [] s5 σ5 H5 _ I5 (stat fr5) st5 stop) fun r s6 hq0=>?_
      obtain⟨hr,I6⟩:=hq0;subst hr;obtain⟨m6,hn6,_⟩:=I6.loc;exact hR _ _ s6 H5 m6 hn6 (I3.fpOk (Nat.le_refl _) I6.free) (fun h' hs=>zka I3 f3 I6 hs) q
    · refine thn (T.item (cxC X (own++cap) scope H3.objs.size { s with heap:=H3 } (upd H2 s.heap.objs.size (.lst [])) fp) rfl rfl rfl hc i [] s5 σ5 H5 _ I5 (stat fr5) st5 go) fun r s6 hq0=>?_
      obtain⟨u,hr,h6⟩:=hq0;subst hr;refine thn h6 fun _ s7 hq0=>?_
      obtain⟨x,H7,I7,r7,y7,st7,fr7⟩:=hq0;have I7':=I7.pinned (stat fr7) (T.obj _ _ st7);refine wpAny_mono (hg _ _ _ _ _ s7 σ5 H7 x u _ I7' r7 (step x H7 y7)) (fun _ s8 hq0=>?_) fun _ _ z=>False.elim z
      obtain⟨σ8,H8,I8,q8⟩:=hq0;refine wpAny_mono (ht _ _ _ _ _ s8 σ8 H8 _ I8 q8) (fun ok s9 hq0=>?_) fun _ _ z=>False.elim z
      obtain⟨H9,I9,q9⟩:=hq0;have again:∀{s':Shared}{σ':St}{H':Hp}{ys':List V}{m':Nat},Inv (cxC X (own++cap) scope H3.objs.size { s with heap:=H3 } (upd H2 s.heap.objs.size (.lst [])) fp) ([]++zja fp s7.heap) σ' H' s'->m'<n->W (i+1) m' σ' ys' H'->
          ∃m,m<n/\∃i σ' ys H',Inv (cxC X (own++cap) scope H3.objs.size { s with heap:=H3 } (upd H2 s.heap.objs.size (.lst [])) fp) [] σ' H' s'/\tn i s'.heap/\(∀b∈fp,H' b=none)/\W i m σ' ys H':=fun {s' σ' H' ys' m'} I' hm w'=>by
        refine⟨m',hm,i+1,σ',ys',H',I'.unpinned,T.keep _ _ _ st7 fun b hb o e=>(I'.pin (b,o) (List.mem_append_right _ (List.mem_append_right _ (zcl hb e)))).1,fun b hb=>?_,w'⟩;obtain⟨o,e,d⟩:=T.obj _ _ st7 b hb;exact (I'.pin (b,o) (List.mem_append_right _ (List.mem_append_right _ (zcl hb e)))).2.1
      cases ok with
      | false=>
        rw[if_neg Bool.false_ne_true] at q9 ⊢;obtain⟨_,m',hm,w'⟩:=q9;exact again I9 hm w'
      | true=>
        rw[if_pos rfl] at q9 ⊢;refine wpAny_mono (he _ _ _ _ _ pas _ s9 σ8 H9 _ (I9.wish _) q9) (fun v s10 ⟨y,H10,I10,r10,hD10,m',hm,w'⟩=>?_) (fun u s10 z=>?_)
        · refine wpAny_mono (zb2 (X:=cxC X (own++cap) scope H3.objs.size { s with heap:=H3 } (upd H2 s.heap.objs.size (.lst [])) fp) _ s10 σ8 H10 (.ref s.heap.objs.size) [y] (.ref s.heap.objs.size) [v] (fun _ H'=>H'=upd H10 s.heap.objs.size (.lst (ys++[y]))) I10.unwish rfl (.cons r10 .nil) ⟨_,ys,y,rfl,rfl,hD10,hz,rfl⟩)
            (fun _ s11 ⟨_,H11,I11,_,e11⟩=>?_) fun _ _ z=>False.elim z
          subst e11;exact again I11 hm w'
        · obtain⟨e,cls,dc,σ',H',p',rfl,I',fl,hE⟩:=z;obtain⟨m',hn',_⟩:=I'.loc;exact hX _ _ s10 H' m' e cls dc _ rfl hn' (I3.fpOk (Nat.le_refl _) I'.free) (zka I3 f3 I'.bared (Heap.SameBut.refl ..)) fl hE
  exact codeAny_compStart_list (loop _ rfl) (T.self _ 0 _ _ _ st4 (loop _ rfl))
theorem zux {osc:Scope}{i:Nat}{y:Str}{py spos:Pos}(x:XeIs X E) (hc:X.calm=true) (hN:X.N.Nodup) (hi':X.N[i]? = some y) (hy:X.env.scope.names.lookup y=some .local)
    (hsw:swapsWith (.ListComp elt [⟨tg,iter,ifs,0⟩] scope pos) (some (.Name y py)) spos.line X.env=pure true) (S':CompScope scope osc cap) (hix:ix.map (fun i=>X.N[i]?)=cap.map some) (hi:PI X tg iter wi)
    (hg:∀C s H ex,PG (cxC X (own++cap) scope C s H ex) tg g) (ht:∀C s H ex,PIf (cxC X (own++cap) scope C s H ex) ifs tc)
    (he:∀C s H ex xe,zda (CX1 X.prog X.w) ((cxC X (own++cap) scope C s H ex).wish xe) E->PE ((cxC X (own++cap) scope C s H ex).wish xe) elt te)
    (hs:∀x,foldedSetIterable iter X.env x=pure x:=by intro _;rfl) (ho:X.env.scope=osc:=by rfl):PS X (.Assign [.Name y py] (.ListComp elt [⟨tg,iter,ifs,0⟩] scope pos) spos) (tAsg (zwi own ix wi g tc te) (za0 i)):=by
  have S:CompScope scope X.env.scope cap:=ho▸S';intro pins s σ H D I h;rw[exec_Assign_Name_used _ _ _ _ hsw];refine wpAny_bind (wpAny_standAt (wpAny_bind ?_));show wpAny _ X.A (do let _ ←comprehension (.ListComp elt [⟨tg,iter,ifs,0⟩] scope pos) scope X.env _ (newList []) false (eval iter X.env) (some (assign (.Name y py) X.env))) _ _ s;refine wpAny_bind (wpAny_mono (wpAny_comprehension_free (use:=some (assign (.Name y py) X.env)) (Q:=fun _ s'=>SP X pins D .next s') rfl hs (zgo I S) S.kind S.loc
    (thn (hi pins s σ H _ I h) fun xv s₁ h₁=>thn h₁ fun itv s₂ h₂=>?_)) (fun _ s' hq=>wpAny_pure (wpAny_pure hq)) fun _ _ e=>e)
  refine zsz (RR:=fun acc C=>compPost (model X.prog X.w) X.A X.xe (some (assign (.Name y py) X.env)) (fun _ s'=>SP X pins D .next s') acc C) hc S hix hg ht he h₂ (fun D' C s' H' m hn hF hI q=>?_)
    (fun D' C s' H' m e cls dc cenv hf hn hF hI fl hE=>zxa hI x hF hn fl hE hf)
  show wpAny _ X.A (assign (.Name y py) X.env (.ref D')) _ _ _;have I':Inv X pins σ H' s':=hI s'.heap (Heap.SameBut.refl ..);refine wpAny_assign_Name (zhn I' hN hi' (.inl hy) (v:=.ref D') rfl (fun s'' I'' hq0=>?_) (.inr hy));obtain⟨a,hs'',ha⟩:=hq0;obtain⟨f0,f1,f2,f3,f4,f5⟩:=hF;have hCa:C≠a:=by
    rcases ha with ha | ha
    · rw[ha];exact f1
    · exact fun z=>f4 _ _ ha z.symm
  exact⟨m,hn.sameBut hs'' hCa,fun h' hs'=>⟨_,H',I''.turned (t':=s''.toks) (fun b o hb e=>(hs'.2 b hb).trans e) f0 f1 f3 f4 f5,q⟩⟩
end
theorem zmc {K:PySem.W.Frag}{b1 b2:Bool}{l1 l2:Addr}{xs ys:List V}{own:List Str}{ix:List Nat}{te:TE}{σ:St}{H1:Hp}{D:Addr}{Q:VK}(hD:H1 D=none)
    (h1:∀H',Same H1 H'->SqV K b1 H' l1 xs) (h2:∀H',Same H1 H'->SqV K b2 H' l2 ys) (hl:xs.length=ys.length) (hz:xs.length<=sizeLine) (j:Nat) (hj:j<xs.length)
    (he:∀(i:Nat) x y,i<j->xs[i]? = some x->ys[i]? = some y->∀H' (Q':VK),Same H1 H'->(∀v H'',Same H' H''->Q' v H'')->te (((st0 own ix σ).set 0 (some x)).set 1 (some y)) H' Q')
    (hb:∀x y,xs[j]? = some x->ys[j]? = some y->∀H' (Q':VK),Same H1 H'->te (((st0 own ix σ).set 0 (some x)).set 1 (some y)) H' Q'):zkb own ix (Itz K b1 b2 l1 l2) (gTup K 2 (zq3 (za0 0) (zq3 (za0 1) gNil))) tYes te σ H1 D Q:=by
  refine⟨fun i m σ' zs H'=>m=xs.length-i/\i<=j/\(∀z z',(σ'.set 0 z).set 1 z'=((st0 own ix σ).set 0 z).set 1 z')/\zs.length=i/\Same H1 H'/\H' D=some (.lst zs),
    ⟨xs.length,by simp,Nat.zero_le _,fun _ _=>rfl,rfl,Same.new hD,zc⟩,?_⟩
  rintro i m σ' zs H' ⟨rfl,hi,hσ,hzl,hs,hDy⟩;have hlt:i<xs.length:=by omega
  have hlt2:i<ys.length:=by omega
  have ex:xs[i]? = some xs[i]:=List.getElem?_eq_getElem hlt;have ey:ys[i]? = some ys[i]:=List.getElem?_eq_getElem hlt2;refine⟨hDy,.inr ⟨⟨xs,ys,xs[i],ys[i],h1 _ hs,h2 _ hs,ex,ey⟩,by omega,fun v H2 y=>?_⟩⟩;obtain⟨T,x,y,hT,rfl,rfl,hxy⟩:=y;obtain⟨e1,e2⟩:=hxy xs ys (h1 _ hs) (h2 _ hs);have sT:=Same.new (o:=.tup [x,y]) hT;have sA:=hs.trans sT;refine⟨T,[x,y],rfl,SqT.of zc,rfl,x,_,rfl,y,_,rfl,rfl,?_⟩;unfold tYes;dsimp only;rw[if_pos rfl,hσ]
  by_cases c:i=j
  · subst c;exact hb x y e1 e2 _ _ sA
  · refine he i x y (by omega) e1 e2 _ _ sA fun v H'' hs'=>⟨hs' D _ (sT D _ hDy),xs.length-(i+1),by omega,rfl,by omega,fun z z'=>?_,by rw[List.length_append,hzl];rfl,(sA.trans hs').upd hD,zc⟩
    have:∀(l:St) (a b c d:Option V),((((l.set 0 a).set 1 b).set 0 c).set 1 d)=(l.set 0 c).set 1 d:=fun l a b c d=>by
      cases l with
      | nil=>rfl
      | cons p l=>
        cases l with
        | nil=>rfl
        | cons q l=>rfl
    exact this ..
end L2
namespace L2
open PySem PySem.Spec PyProof.Rows Builtin
end L2
namespace L2
open PySem PySem.Spec PyProof.Rows
section
variable {X:Cx}{pos:Pos}
def zz0 (i j k:Nat) (ta:TA):TS:=fun D σ H=>ta σ H fun vs H1=>∃v w z,vs = [v,w,z]/\D.nx (((σ.set i (some v)).set j (some w)).set k (some z)) H1
theorem zxb {i j k:Nat}{x y z:Str}{a b c:Expr}{ta:TA}{px py pz pt:Pos} {kt k2 pt2}(hc:X.calm=true) (hN:X.N.Nodup) (hi:X.N[i]? = some x) (hj:X.N[j]? = some y) (hk:X.N[k]? = some z) (hij:i≠j) (hik:i≠k) (hjk:j≠k)
    (hx:X.env.scope.names.lookup x=some .local) (hy:X.env.scope.names.lookup y=some .local) (hz:X.env.scope.names.lookup z=some .local) (ha:PA X [a,b,c] ta)
    (hw:swappedStores [.Tuple [.Name x px,.Name y py,.Name z pz] kt pt] (.Tuple [a,b,c] k2 pt2) X.env=pure (some [x,y,z]))
    (hs:swapsWithSole [.Tuple [.Name x px,.Name y py,.Name z pz] kt pt] (.Tuple [a,b,c] k2 pt2) pos.line X.env=pure false:=by rfl) :
    PS X (.Assign [.Tuple [.Name x px,.Name y py,.Name z pz] kt pt] (.Tuple [a,b,c] k2 pt2) pos) (zz0 i j k ta):=by
  intro pins s σ H D I h;rw[exec_Assign_arm];refine wpAny_bind (wpAny_standAt ?_);rw[hs];refine wpAny_bind (wpAny_pure ?_);rw[if_neg (by decide)];refine wpAny_bind (Tuple_ (thn (ha _ pins s σ H _ I h) fun us s1 hq0=>?_));obtain⟨vs,H1,I1,r1,q1⟩:=hq0;obtain⟨v,w,t,e1,q1⟩:=q1;subst e1;obtain⟨u1,u2,u3,rfl,rv,rw',rt⟩:∃u1 u2 u3,us = [u1,u2,u3]/\RelV v u1/\RelV w u2/\RelV t u3:=by
    cases r1 with
    | cons p q=>
      cases q with
      | cons p' q'=>
        cases q' with
        | cons p'' q''=>
          cases q'';exact⟨_,_,_,rfl,p,p',p''⟩
  refine wpAny_newObj_type ?_ (by show 3<=sizeLine;decide);have I2:Inv X pins σ H1 { s1 with heap:=s1.heap.push { cls:=.type "tuple",data:=.seq [u1,u2,u3].toArray } }:=I1.kept (t':=s1.toks) fun b o e=>Heap.get?_push_of_some _ e
  rw[hw];refine wpAny_bind (wpAny_pure ?_);show wpAny (model X.prog X.w) X.A (do rule "assign.swapped-stores";let items ←unpackItems (.ref s1.heap.objs.size) 3 none;assignInOrder [fun v=>bindName X.env z v,fun v=>bindName X.env y v,fun v=>bindName X.env x v] items.reverse;pure Flow.next) _ _ _;refine wpAny_bind (wpAny_rule (wpAny_bind (unpackItems_tuple (items:=#[u1,u2,u3]) (I.ok.hd hc) (IsTup.new s1.heap _) fun h' hx'=>?_)));have I3:=I2.kept (h':=h') (t':=s1.toks) fun b o e=>hx' b o (Nat.ne_of_lt (Heap.lt_size e)) e
  show wpAny _ _ (assignInOrder [fun v=>bindName X.env z v,fun v=>bindName X.env y v,fun v=>bindName X.env x v] [u3,u2,u1] >>= fun _=>pure Flow.next) _ _ _;refine wpAny_bind (assignInOrder_cons (wpAny_bindName (zdf I3 hN hk (.inl hz) rt (fun s2 I4=>?_) (.inr hz))));refine assignInOrder_cons (wpAny_bindName (zdf I4 hN hj (.inl hy) rw' (fun s3 I5=>?_) (.inr hy)));refine assignInOrder_cons (wpAny_bindName (zdf I5 hN hi (.inl hx) rv (fun s4 I6=>assignInOrder_nil (wpAny_pure ?_)) (.inr hx)));rw[List.set_comm _ _ hjk.symm,List.set_comm _ _ hik.symm,List.set_comm _ _ hij.symm] at I6;exact⟨_,H1,I6,q1⟩
end
end L2
namespace LK07
open PySem L2 Dm PySem.NumText
def top (i:Nat):Stmt:=PySem.Challenge.pw_digmatrix_k07_whole_any_lines.main.body.getD i (.Pass ⟨0,0,0,0⟩)
def l_FORMS:List (Str×List V):=[("dig",[V.str "year",V.str "year"]),("unit",[V.str "name"]),("over",[V.str "name",V.str "name"]),("cuts",[V.str "name",V.str "name"]),("fills",[V.str "name",V.str "name"]),("after",[V.str "name",V.str "name",V.str "gap"]),("same",[V.str "name",V.str "name"]),("find",[V.str "name",V.str "name",V.str "year",V.str "year"])]
structure Tx (K:PySem.W.Frag) (mg:Str->Option Value) (w:World) (C_Reading:Addr) (zq:Addr) (zk:Addr) (zo:Addr) (ze:Addr) (zb:Addr) (zf:Addr) (zd:Addr) (zg:Addr):Prop where
  zjr:mg "Reading" = some (.ref C_Reading)
  zx:Cls K C_Reading
  zjs:PySem.W.makesIn K C_Reading=true
  zjt:PySem.W.keepIn K (.ref C_Reading)=true
  za4:NoAttr K C_Reading "frame"
  zav:NoAttr K C_Reading "units"
  zbk:NoAttr K C_Reading "ties"
  zbe:NoAttr K C_Reading "finds"
  zgb:DfM K C_Reading "Reading.__init__" "__init__" (zax (top 27) 0) ["self"]
  zcj:DfM K C_Reading "Reading.take_words" "take_words" (zax (top 27) 1) ["self","words","row"]
  zck:DfM K C_Reading "Reading.take_entry" "take_entry" (zax (top 27) 2) ["self","entry","row"]
  zcu:DfM K C_Reading "Reading.take_unit" "take_unit" (zax (top 27) 3) ["self","name","row"]
  zc3:DfM K C_Reading "Reading.take_tie" "take_tie" (zax (top 27) 4) ["self","tie","row"]
  zcv:DfM K C_Reading "Reading.take_find" "take_find" (zax (top 27) 5) ["self","find","row"]
  zcw:DfM K C_Reading "Reading.need_unit" "need_unit" (zax (top 27) 6) ["self","name","row"]
  zgx:DfM K C_Reading "Reading.telling" "telling" (zax (top 27) 7) ["self"]
  zn4:mg "DigError" = some (.ref zq)
  zn5:XBase K zq
  zmt:mg "TextError" = some (.ref zk)
  zmu:XCatch K zk
  zdd:mg "BadRow" = some (.ref zo)
  ztf:XCatch K zo
  ztg:XCls K zo
  zde:XOk K zo
  zth:XGet K zo
  zgy:DfM K zo "TextError.__init__" "__init__" (zax (top 2) 0) ["self","row"]
  zgc:NoAttr K zo "row"
  zju:mg "BadName" = some (.ref ze)
  zqp:XCatch K ze
  zqq:XCls K ze
  zjv:XOk K ze
  zqr:XGet K ze
  zgd:DfM K ze "TextError.__init__" "__init__" (zax (top 2) 0) ["self","row"]
  ze2:NoAttr K ze "row"
  zhb:mg "BadNumber" = some (.ref zb)
  zmv:XCatch K zb
  zmw:XCls K zb
  zhc:XOk K zb
  zmx:XGet K zb
  zeu:DfM K zb "TextError.__init__" "__init__" (zax (top 2) 0) ["self","row"]
  zdv:NoAttr K zb "row"
  zjw:mg "BadSpan" = some (.ref zf)
  zqs:XCatch K zf
  zqt:XCls K zf
  zjx:XOk K zf
  zqu:XGet K zf
  zge:DfM K zf "TextError.__init__" "__init__" (zax (top 2) 0) ["self","row"]
  ze3:NoAttr K zf "row"
  zdo:mg "BadTwice" = some (.ref zd)
  zn6:XCatch K zd
  zn7:XCls K zd
  zdp:XOk K zd
  zn8:XGet K zd
  zfg:DfM K zd "TextError.__init__" "__init__" (zax (top 2) 0) ["self","row"]
  zd9:NoAttr K zd "row"
  zjy:mg "BadUnit" = some (.ref zg)
  zqv:XCatch K zg
  zqw:XCls K zg
  zjz:XOk K zg
  zqx:XGet K zg
  zgf:DfM K zg "TextError.__init__" "__init__" (zax (top 2) 0) ["self","row"]
  ze4:NoAttr K zg "row"
  zgz:PySem.W.mroIn K zo (.ref zo)=some true
  zgg:PySem.W.mroIn K zf (.ref zo)=some false
  zfh:PySem.W.mroIn K zf (.ref ze)=some false
  zea:PySem.W.mroIn K zf (.ref zb)=some false
  zfi:PySem.W.mroIn K zf (.ref zf)=some true
  zev:PySem.W.mroIn K zb (.ref zo)=some false
  zeb:PySem.W.mroIn K zb (.ref ze)=some false
  zdq:PySem.W.mroIn K zb (.ref zb)=some true
  zgh:PySem.W.mroIn K ze (.ref zo)=some false
  zfj:PySem.W.mroIn K ze (.ref ze)=some true
  zfk:PySem.W.mroIn K zd (.ref zo)=some false
  zew:PySem.W.mroIn K zd (.ref ze)=some false
  zdx:PySem.W.mroIn K zd (.ref zb)=some false
  zex:PySem.W.mroIn K zd (.ref zf)=some false
  zec:PySem.W.mroIn K zd (.ref zd)=some true
  zgi:PySem.W.mroIn K zg (.ref zo)=some false
  zfl:PySem.W.mroIn K zg (.ref ze)=some false
  zed:PySem.W.mroIn K zg (.ref zb)=some false
  zfm:PySem.W.mroIn K zg (.ref zf)=some false
  zey:PySem.W.mroIn K zg (.ref zd)=some false
  zfn:PySem.W.mroIn K zg (.ref zg)=some true
  zti:Df K mg "is_name" (top 14) ["text"]
  zk1:Df K mg "read_number" (top 15) ["text"]
  zmy:Df K mg "is_made_of" (top 16) ["text","signs"]
  zmz:Df K mg "show_words" (top 19) ["words"]
  zqy:Df K mg "show_tie" (top 20) ["tie"]
  zi1:Df K mg "show_telling" (top 21) ["telling"]
  zk2:Df K mg "split_words" (top 22) ["line"]
  zhh:Df K mg "is_passed_over" (top 23) ["words"]
  zhd:Df K mg "read_entry" (top 24) ["words","row"]
  ziq:Df K mg "read_form" (top 25) ["form","words","row"]
  zhe:Df K mg "read_value" (top 26) ["kind","word","row"]
  ze5:Df K mg "read_telling" (top 28) ["text"]
  zi2:Df K mg "_law_cell_at" (top 30) ["_law_script","_law_k"]
  zn9:Df K mg "_law_part" (top 31) ["_law_cell","_law_k","_law_many"]
  zm0:Df K mg "_law_names" (top 32) ["_law_one","_law_other","_law_many"]
  zoa:Df K mg "_law_year" (top 33) ["_law_cell","_law_k"]
  zm1:Df K mg "_law_drawn" (top 34) ["_law_names_here","_law_marks","_law_cell"]
  zi3:Df K mg "_law_spoiled" (top 35) ["_law_parts","_law_cell"]
  zk3:Df K mg "_law_judged" (top 36) ["_law_parts","_law_units","_law_ties","_law_finds"]
  zob:Df K mg "_law_line" (top 37) ["_law_parts","_law_cell"]
  zm2:Df K mg "_law_lines" (top 38) ["_law_names_here","_law_marks","_law_cells","_law_spoils","_law_units","_law_ties","_law_finds"]
  zi4:Df K mg "_law_refusal" (top 39) ["_law_text"]
  zm3:Df K mg "_law_holds" (top 40) ["_law_telling"]
  zz6:Df K mg "law" (top 41) ["_law_script"]
  ztj:∃u,mg "FIGURES" = some u/\RelV (.str "0123456789") u
  zm4:∃u,mg "NAME_SIGNS" = some u/\RelV (.str "abcdefghijklmnopqrstuvwxyz0123456789-") u
  zi5:∃u,mg "LONGEST_NAME" = some u/\RelV (.int 12) u
  zi6:∃u,mg "MOST_FIGURES" = some u/\RelV (.int 60) u
  ztk:∃a,mg "FORMS" = some (.ref a)/\KDT w K a l_FORMS
  int:mg "int" = none
  all:mg "all" = none
  enumerate:mg "enumerate" = none
  range:mg "range" = none
  tuple:mg "tuple" = none
  len:mg "len" = none
  isinstance:mg "isinstance" = none
  str:mg "str" = none
  sorted:mg "sorted" = none
  zip:mg "zip" = none
  list:mg "list" = none
theorem Tx.ex {K:PySem.W.Frag}{mg:Str->Option Value}{w:World}{C_Reading:Addr}{zq:Addr}{zk:Addr}{zo:Addr}{ze:Addr}{zb:Addr}{zf:Addr}{zd:Addr}{zg:Addr}(T:Tx K mg w C_Reading zq zk zo ze zb zf zd zg):∃C_Reading,∃zq,∃zk,∃zo,∃ze,∃zb,∃zf,∃zd,∃zg,Tx K mg w C_Reading zq zk zo ze zb zf zd zg:=⟨_,_,_,_,_,_,_,_,_,T⟩
theorem zqg:FnScope ["text"] ["text"] (zm (top 14)):=⟨rfl,rfl,rfl,by decide +kernel,rfl,by decide +kernel,by decide +kernel⟩
theorem sc_read_number:FnScope ["text","figures"] ["text"] (zm (top 15)):=⟨rfl,rfl,rfl,by decide +kernel,rfl,by decide +kernel,by decide +kernel⟩
theorem zkq:FnScope ["text","signs"] ["text","signs"] (zm (top 16)):=⟨rfl,rfl,rfl,by decide +kernel,rfl,by decide +kernel,by decide +kernel⟩
theorem zkr:FnScope ["words"] ["words"] (zm (top 19)):=⟨rfl,rfl,rfl,by decide +kernel,rfl,by decide +kernel,by decide +kernel⟩
theorem znt:FnScope ["tie"] ["tie"] (zm (top 20)):=⟨rfl,rfl,rfl,by decide +kernel,rfl,by decide +kernel,by decide +kernel⟩
theorem sc_show_telling:FnScope ["telling","lines"] ["telling"] (zm (top 21)):=⟨rfl,rfl,rfl,by decide +kernel,rfl,by decide +kernel,by decide +kernel⟩
theorem ziv:FnScope ["line"] ["line"] (zm (top 22)):=⟨rfl,rfl,rfl,by decide +kernel,rfl,by decide +kernel,by decide +kernel⟩
theorem zgw:FnScope ["words"] ["words"] (zm (top 23)):=⟨rfl,rfl,rfl,by decide +kernel,rfl,by decide +kernel,by decide +kernel⟩
theorem zfz:FnScope ["words","row"] ["words","row"] (zm (top 24)):=⟨rfl,rfl,rfl,by decide +kernel,rfl,by decide +kernel,by decide +kernel⟩
theorem sc_read_form:FnScope ["form","words","row","values"] ["form","words","row"] (zm (top 25)):=⟨rfl,rfl,rfl,by decide +kernel,rfl,by decide +kernel,by decide +kernel⟩
theorem sc_read_value:FnScope ["kind","word","row","number"] ["kind","word","row"] (zm (top 26)):=⟨rfl,rfl,rfl,by decide +kernel,rfl,by decide +kernel,by decide +kernel⟩
theorem sc_read_telling:FnScope ["text","reading","row","line","words"] ["text"] (zm (top 28)):=⟨rfl,rfl,rfl,by decide +kernel,rfl,by decide +kernel,by decide +kernel⟩
theorem zie:FnScope ["_law_script","_law_k"] ["_law_script","_law_k"] (zm (top 30)):=⟨rfl,rfl,rfl,by decide +kernel,rfl,by decide +kernel,by decide +kernel⟩
theorem zmd:FnScope ["_law_cell","_law_k","_law_many"] ["_law_cell","_law_k","_law_many"] (zm (top 31)):=⟨rfl,rfl,rfl,by decide +kernel,rfl,by decide +kernel,by decide +kernel⟩
theorem sc__law_names:FnScope ["_law_one","_law_other","_law_many","_law_signs","_law_size","_law_at","_law_names_here","_law_k","_law_name","_law_j","_law_number"] ["_law_one","_law_other","_law_many"] (zm (top 32)):=⟨rfl,rfl,rfl,by decide +kernel,rfl,by decide +kernel,by decide +kernel⟩
theorem sc__law_year:FnScope ["_law_cell","_law_k","_law_some"] ["_law_cell","_law_k"] (zm (top 33)):=⟨rfl,rfl,rfl,by decide +kernel,rfl,by decide +kernel,by decide +kernel⟩
theorem sc__law_drawn:FnScope ["_law_names_here","_law_marks","_law_cell","_law_one","_law_other","_law_way","_law_years","_law_kind"] ["_law_names_here","_law_marks","_law_cell"] (zm (top 34)):=⟨rfl,rfl,rfl,by decide +kernel,rfl,by decide +kernel,by decide +kernel⟩
theorem sc__law_spoiled:FnScope ["_law_parts","_law_cell","_law_way"] ["_law_parts","_law_cell"] (zm (top 35)):=⟨rfl,rfl,rfl,by decide +kernel,rfl,by decide +kernel,by decide +kernel⟩
theorem sc__law_judged:FnScope ["_law_parts","_law_units","_law_ties","_law_finds","_law_kind"] ["_law_parts","_law_units","_law_ties","_law_finds"] (zm (top 36)):=⟨rfl,rfl,rfl,by decide +kernel,rfl,by decide +kernel,by decide +kernel⟩
theorem sc__law_line:FnScope ["_law_parts","_law_cell","_law_gap"] ["_law_parts","_law_cell"] (zm (top 37)):=⟨rfl,rfl,rfl,by decide +kernel,rfl,by decide +kernel,by decide +kernel⟩
theorem sc__law_lines:FnScope ["_law_names_here","_law_marks","_law_cells","_law_spoils","_law_units","_law_ties","_law_finds","_law_lines_here","_law_cell","_law_parts","_law_way"] ["_law_names_here","_law_marks","_law_cells","_law_spoils","_law_units","_law_ties","_law_finds"] (zm (top 38)):=⟨rfl,rfl,rfl,by decide +kernel,rfl,by decide +kernel,by decide +kernel⟩
theorem sc__law_refusal:FnScope ["_law_text","_law_told","e"] ["_law_text"] (zm (top 39)):=⟨rfl,rfl,rfl,by decide +kernel,rfl,by decide +kernel,by decide +kernel⟩
theorem sc__law_holds:FnScope ["_law_telling","_law_units","_law_ties","_law_finds","_law_k"] ["_law_telling"] (zm (top 40)):=⟨rfl,rfl,rfl,by decide +kernel,rfl,by decide +kernel,by decide +kernel⟩
theorem sc_law:FnScope ["_law_script","_law_names_here","_law_marks","_law_frame","_law_units","_law_ties","_law_finds","_law_lines_here","_law_end","_law_text","_law_telling"] ["_law_script"] (zm (top 41)):=⟨rfl,rfl,rfl,by decide +kernel,rfl,by decide +kernel,by decide +kernel⟩
theorem zd4:FnScope ["self","row"] ["self","row"] (zm (zax (top 2) 0)):=⟨rfl,rfl,rfl,by decide +kernel,rfl,by decide +kernel,by decide +kernel⟩
theorem zfb:FnScope ["self"] ["self"] (zm (zax (top 27) 0)):=⟨rfl,rfl,rfl,by decide +kernel,rfl,by decide +kernel,by decide +kernel⟩
theorem zb6:FnScope ["self","words","row"] ["self","words","row"] (zm (zax (top 27) 1)):=⟨rfl,rfl,rfl,by decide +kernel,rfl,by decide +kernel,by decide +kernel⟩
theorem zb7:FnScope ["self","entry","row"] ["self","entry","row"] (zm (zax (top 27) 2)):=⟨rfl,rfl,rfl,by decide +kernel,rfl,by decide +kernel,by decide +kernel⟩
theorem zcd:FnScope ["self","name","row"] ["self","name","row"] (zm (zax (top 27) 3)):=⟨rfl,rfl,rfl,by decide +kernel,rfl,by decide +kernel,by decide +kernel⟩
theorem zcs:FnScope ["self","tie","row"] ["self","tie","row"] (zm (zax (top 27) 4)):=⟨rfl,rfl,rfl,by decide +kernel,rfl,by decide +kernel,by decide +kernel⟩
theorem zce:FnScope ["self","find","row"] ["self","find","row"] (zm (zax (top 27) 5)):=⟨rfl,rfl,rfl,by decide +kernel,rfl,by decide +kernel,by decide +kernel⟩
theorem zcf:FnScope ["self","name","row"] ["self","name","row"] (zm (zax (top 27) 6)):=⟨rfl,rfl,rfl,by decide +kernel,rfl,by decide +kernel,by decide +kernel⟩
theorem zf0:FnScope ["self"] ["self"] (zm (zax (top 27) 7)):=⟨rfl,rfl,rfl,by decide +kernel,rfl,by decide +kernel,by decide +kernel⟩
section
variable {P:Program}{w:World}{K:PySem.W.Frag}{mg:Str->Option Value}{base:Heap}{C_Reading:Addr}{zq:Addr}{zk:Addr}{zo:Addr}{ze:Addr}{zb:Addr}{zf:Addr}{zd:Addr}{zg:Addr}
local macro_rules | `(tactic| walk_at "rd")=>`(tactic| repeat (first | refine⟨_,rfl,?_⟩ | refine⟨_,_,rfl,rfl,?_⟩ | refine⟨_,_,_,rfl,?_⟩))
local macro_rules | `(tactic| walk_at "rd")=>`(tactic| repeat (first | refine⟨_,rfl,?_⟩ | refine⟨_,_,rfl,rfl,?_⟩ | refine⟨_,_,_,rfl,?_⟩))
def zxc:Sp:=fun vs H Q _=>∃(a:Addr) (ns:List Int) (i:Int),vs = [.ref a,.int i]/\SqL K H a (ns.map V.int)/\0<=i/\Q (.int (zng ns i)) H
theorem zaz (T:Tx K mg w C_Reading zq zk zo ze zb zf zd zg):Has P w K mg base "_law_cell_at" ["_law_script","_law_k"] 1 (zxc (K:=K)):=by
  refine T.zi2.has zie (fun vs H Q E h=>?_) (fun f cdv A outer s H vs Q E hr h=>?_)
  · obtain⟨a,ns,i,rfl,_⟩:=h;rfl
  · obtain⟨a,ns,i,rfl,ha,h0,k⟩:=h;refine⟨_,(zj (zal (zy zq9 (pv 1) (za5 (zau K rfl) (by rfl) T.len boot_len (za (pv 0) zi)) (zaf _)) (zp (zac (zae (zaa K rfl) (pv 0) (pv 1) (fun _ _=>rfl)))) zz)
      (zp (zac zn))),?_⟩
    refine⟨_,rfl,_,rfl,a,_,rfl,.inl ha,_,_,rfl,rfl,_,rfl,?_⟩;refine ite2 (fun c=>?_) (fun c=>?_)
    · have c:=of_decide_eq_true c;rw[List.length_map] at c;have hi:i.toNat<ns.length:=by omega
      refine⟨_,rfl,_,rfl,a,_,i,.int (zng ns i),rfl,rfl,ha,?_,k⟩;have e:zng ns i=ns[i.toNat]:=by unfold zng;rw[List.getD_eq_getElem?_getD,List.getElem?_eq_getElem hi];rfl
      have:=zan (xs:=ns.map V.int) (j:=i.toNat) (v:=.int (zng ns i)) (by rw[e];simp[hi]);rw[Int.toNat_of_nonneg h0] at this;exact this
    · have c:¬i<((ns.map V.int).length:Int):=fun z=>c (decide_eq_true z)
      rw[List.length_map] at c;have e:zng ns i=0:=by unfold zng;rw[List.getD_eq_getElem?_getD,List.getElem?_eq_none (by omega)];rfl
      rw[e] at k;exact k
def zxd:Sp:=fun vs H Q _=>∃c k m:Int,vs = [.int c,.int k,.int m]/\0<m/\Q (.int (pt c k m)) H
theorem zak (T:Tx K mg w C_Reading zq zk zo ze zb zf zd zg):Has P w K mg base "_law_part" ["_law_cell","_law_k","_law_many"] 1 zxd:=by
  refine T.zn9.has zmd (fun vs H Q E h=>?_) (fun f cdv A outer s H vs Q E hr h=>?_)
  · obtain⟨c,i,m,rfl,_⟩:=h;rfl
  · obtain⟨c,i,m,rfl,hm,k⟩:=h;refine⟨_,(zp (zac (zai zbu (zai zbu (zai zjb (zai zbu (zai zjb (zai zdz (zai zbu (pv 0) zn) zn) (zai zdz zn (zai zjb zn (pv 1)))) zn) (zai zdz (pv 1) zn)) zn) (pv 2)))),?_⟩;have b1:=Int.emod_nonneg c (show (99991:Int)≠0 by decide);have b2:=Int.emod_lt_of_pos c (show (0:Int)<99991 by decide);have b3:=Int.emod_nonneg ((c%99991+17) * (48271+7919 * i)) (show (65537:Int)≠0 by decide);have b4:=Int.emod_lt_of_pos ((c%99991+17) * (48271+7919 * i)) (show (0:Int)<65537 by decide)
    walk_at "rd"
    refine⟨(by decide:(0:Int)<99991),?_⟩
    walk_at "rd"
    refine⟨.inl ⟨by decide,by decide⟩,?_⟩
    walk_at "rd"
    refine⟨.inl ⟨by omega,by omega⟩,?_⟩
    walk_at "rd"
    refine⟨(by decide:(0:Int)<65537),?_⟩
    walk_at "rd"
    refine⟨.inl ⟨by omega,by omega⟩,?_⟩
    walk_at "rd"
    refine⟨(by decide:(0:Int)<8191),?_⟩
    walk_at "rd"
    exact⟨hm,k⟩
theorem at37 (z:Int) (one at':Int) (k j:Nat) (h:z=nmI one at' k j):atI NAMES.cps.toList (z%37)=some (nmN one at' k j):=by
  obtain⟨h0,h1⟩:=ix37 z;subst h;have:=zan (xs:=co NAMES) (j:=(nmI one at' k j%37).toNat) (v:=nmN one at' k j) (by unfold nmN;rw[List.getD_eq_getElem?_getD,List.getElem?_eq_getElem h1];rfl);rw[Int.toNat_of_nonneg h0] at this;exact this
def cutF (l:List Nat) (size:Int):V->V
  | .int z=>.str (Txt.slice (zam l) none (some (size-z)))
  | _=>.non
def zuy:Sp:=fun vs H Q _=>∃one other:Int,vs = [.int one,.int other,.int 9]/\∀(p:Addr) (xs:List Str) (H':Hp),xs.length=9->xs.Nodup->(∀x∈xs,zap x=true)->H p=none->H' p=some (.lst (xs.map V.str))->Same H H'->Q (.ref p) H'
set_option maxHeartbeats 4000000 in
theorem zg6 (T:Tx K mg w C_Reading zq zk zo ze zb zf zd zg):Has P w K mg base "_law_names" ["_law_one","_law_other","_law_many"] 2 zuy:=by
  refine T.zm0.has sc__law_names (fun vs H Q E h=>?_) (fun f cdv A outer s H vs Q E hr h=>?_)
  · obtain⟨one,other,rfl,_⟩:=h;rfl
  · obtain⟨one,other,rfl,k⟩:=h;refine⟨_,(zj (zah (i:=3) sc__law_names.nd rfl (Or.inl rfl) zw)
      (zj (zah (i:=4) sc__law_names.nd rfl (Or.inr rfl) (zai zdz zn (zar (zak T) (hr.mono (by decide)) (by rfl) (za (pv 0) (za zn (za zn zi))))))
      (zj (zah (i:=5) sc__law_names.nd rfl (Or.inl rfl) (zar (zak T) (hr.mono (by decide)) (by rfl) (za (pv 1) (za zn (za (pv 4) zi)))))
      (zj (zah (i:=6) sc__law_names.nd rfl (Or.inr rfl) (za2 zi))
      (zj (zg0 PassesOwn.never rfl (zc9 (by rfl) T.range (za (pv 2) zi)) (zas (i:=7) sc__law_names.nd rfl (Or.inl rfl)) (zj (zah (i:=8) sc__law_names.nd rfl (Or.inl rfl) zw)
        (zj (zg0 PassesOwn.never rfl (zc9 (by rfl) T.range (za (pv 4) zi)) (zas (i:=9) sc__law_names.nd rfl (Or.inl rfl)) (zj (zah (i:=10) sc__law_names.nd rfl (Or.inl rfl) (zar (zak T) (hr.mono (by decide)) (by rfl) (za (pv 0) (za (zai zdz (pv 9) zn) (za zn zi)))))
          (zj (zal (zy zbv (pv 9) (pv 5) (zaf _)) (zp (zah (i:=10) sc__law_names.nd rfl (Or.inl rfl) (zai zdz (pv 10) (pv 7)))) zz)
          (zp (zah (i:=8) sc__law_names.nd rfl (Or.inl rfl) (zai zgl (pv 8) (zae zyb (pv 3) (zai zbu (pv 10) zn) (fun _ _=>rfl))))))))
        (zp (zat (zbw K rfl PySem.F.plainAttrs_list PySem.F.slot_list_append PySem.F.type_list_append zb2 (pv 6) (za (pv 8) zi)))))))
      (zj (zal (PW.pt (zds (zy zzm (pv 4) (pv 2) (zaf _)) (zca (zy zbv (zai zbu (pv 1) zn) zn (zaf _))))) (zp (zac (zc5 (own:=["_law_k"]) (cap:=["_law_names_here","_law_size"]) (ix:=[6,4]) (osc:=zm (top 32)) rfl ⟨rfl,by decide +kernel,by decide +kernel,by decide +kernel,by decide +kernel⟩ rfl (zc9 (by rfl) T.range (za (pv 2) zi)) (fun _ _ _ _=>zas (i:=0) (show List.Nodup (["_law_k","_law_names_here","_law_size"]:List Str) by decide +kernel) rfl (Or.inl rfl)) (fun _ _ _ _=>zcp) (fun _ _ _ _=>(zaq zvo (zae (zaa K rfl) (pv 1) zn (fun _ _=>rfl)) za3 (zaw (zai zk5 (pv 2) (pv 0)))))))) zz)
      (zp (zac (pv 6))))))))),?_⟩
    walk_at "rd"
    refine⟨by decide,?_⟩
    walk_at "rd"
    obtain⟨s1,s2⟩:=ze9 one 0 12 (by decide);have hs:∃size:Nat,1+pt one 0 12=(size:Int)/\1<=size/\size<=12:=⟨(1+pt one 0 12).toNat,by omega,by omega,by omega⟩;obtain⟨size,es,z1,z2⟩:=hs;rw[es];refine⟨by omega,?_⟩;obtain⟨a1,a2⟩:=ze9 other 1 (size:Int) (by omega);generalize pt other 1 (size:Int)=at' at a1 a2;refine⟨by decide,fun p hp=>?_⟩;refine⟨_,rfl,9,rfl,by decide,by decide,zdy (lo:=0) (n:=9) (fun i σ H'=>∃v7 v8 v9 v10,σ = [some (.int one),some (.int other),some (.int 9),some (.str NAMES),some (.int size),some (.int at'),some (.ref p),v7,v8,v9,v10]/\Same H H'/\
      H' p=some (.lst (((List.range i).map fun k=>zam (nmC one at' k size)).map V.str))) ⟨none,none,none,none,(by rw[←es];rfl),Same.new hp,zc⟩ ?_ ?_⟩
    · rintro i σ H1 hi ⟨v7,v8,v9,v10,rfl,q1,q2⟩;simp only [Int.zero_add];refine⟨_,rfl,(size:Int),rfl,by omega,by omega,zdy (lo:=0) (n:=size) (fun j σ H2=>∃v9 v10,σ = [some (.int one),some (.int other),some (.int 9),some (.str NAMES),some (.int size),some (.int at'),some (.ref p),some (.int i),some (.str (zam ((List.range j).map (nmN one at' i)))),v9,v10]/\H2=H1)
        ⟨v9,v10,by rw[zys];rfl,rfl⟩ ?_ ?_⟩
      · rintro j σ H2 hj ⟨v9,v10,rfl,rfl⟩;simp only [Int.zero_add]
        walk_at "rd"
        refine⟨by decide,?_⟩;refine⟨_,rfl,_,rfl,rfl,_,rfl,?_⟩;refine ite2 (fun c=>?_) (fun c=>?_)
        all_goals
          walk_at "rd"
          refine⟨(by decide:(0:Int)<37),NAMES,_,nmN one at' i j,rfl,rfl,by decide,?_,?_⟩
        · refine at37 _ one at' i j ?_;have c:=of_decide_eq_true c;have c:(j:Int)=at':=V.int.inj c;unfold nmI;rw[if_pos c]
        · refine⟨_,_,rfl,rfl,?_,some (.int j),some (.int (pt one ((j:Int)+2) 37+i)),?_,rfl⟩
          · rw[zb4,List.length_map,List.length_range];exact Nat.le_trans (show j+1<=100 by omega) (by decide)
          · rw[show (⟨#[nmN one at' i j]⟩:Str)=zam [nmN one at' i j] from rfl,zl0,List.range_succ,List.map_append];rfl
        · refine at37 _ one at' i j ?_;have c:¬(j:Int)=at':=fun z=>c (decide_eq_true (congrArg V.int z))
          unfold nmI;rw[if_neg c]
        · refine⟨_,_,rfl,rfl,?_,some (.int j),some (.int (pt one ((j:Int)+2) 37)),?_,rfl⟩
          · rw[zb4,List.length_map,List.length_range];exact Nat.le_trans (show j+1<=100 by omega) (by decide)
          · rw[show (⟨#[nmN one at' i j]⟩:Str)=zam [nmN one at' i j] from rfl,zl0,List.range_succ,List.map_append];rfl
      · rintro σ H2 ⟨v9,v10,rfl,rfl⟩;refine⟨_,rfl,.inl ⟨rfl,_,SqL.of q2⟩,_,rfl,p,_,_,rfl,rfl,q2,?_,?_⟩
        · rw[List.length_map,List.length_map,List.length_range];exact zb3 (by omega)
        · refine⟨_,_,_,_,rfl,q1.upd hp,?_⟩;rw[zc,List.range_succ,List.map_append,List.map_append];rfl
    · rintro σ H1 ⟨v7,v8,v9,v10,rfl,q1,q2⟩;obtain⟨n1,n2,n3⟩:=zsf (one:=one) a1 a2 z1 z2;have fin:Q (.ref p) H1:=k p _ H1 n3 n1 n2 hp q2 q1;refine⟨_,rfl,_,rfl,_,_,rfl,rfl,_,rfl,?_⟩;refine ite2 (fun c=>?_) (fun c=>?_)
      · have c:=of_decide_eq_true c
        walk_at "rd"
        refine⟨(by decide:(0:Int)<2),?_⟩;refine⟨rfl,_,rfl,?_⟩;refine ite2 (fun c2=>?_) (fun c2=>?_)
        · obtain⟨m1,m2,m3⟩:=zsg (one:=one) (at':=at') (size:=size) (by omega) z2;refine⟨_,rfl,9,rfl,by decide,by decide,fun D hD=>?_⟩;have npD:p≠D:=zr q2 hD;refine zd0 (zwl (lo:=0) (n:=9)) (fun _=>true) (cutF (nmC one at' 0 size) size) (fun _=>trivial) (by decide) (fun v hv ys Q' q=>q) (fun v hv _ ys Q' q=>?_) ?_
          · obtain⟨z,hz,rfl⟩:=List.mem_map.mp hv;refine⟨_,rfl,p,_,0,.str (zam (nmC one at' 0 size)),rfl,rfl,SqL.of (by rw[zv npD];exact q2),rfl,?_⟩;refine⟨_,rfl,_,rfl,_,_,rfl,rfl,_,rfl,_,rfl,?_,q⟩;rw[zb4,zfa];exact Nat.le_trans z2 (by decide)
          · refine k D _ _ m3 m1 m2 (q1.free hD) ?_ (q1.trans (Same.new hD));rw[zc]
            congr 2
            unfold zlz;rw[List.filter_eq_self.mpr (fun _ _=>rfl),List.map_map,List.map_map];apply List.map_congr_left;intro i hi;have hi:=List.mem_range.mp hi;show V.str (Txt.slice (zam (nmC one at' 0 size)) none (some ((size:Int)-(0+(i:Int)))))=V.str (zam ((nmC one at' 0 size).take (size-i)));rw[zpu _ _ (by omega) (by rw[zfa];omega)]
            congr 3
            omega
        · exact⟨_,rfl,fin⟩
      · exact iteF ⟨_,rfl,fin⟩
theorem zqh {l:List Nat}{f:Nat->Bool}:(l.map f).all id=l.all f:=by rw[List.all_map];rfl
def inF (sg:Str):V->V
  | .str z=>.bl (!(Builtin.Str.occurrences sg z 0 sg.length 1).isEmpty)
  | _=>.non
theorem zz1 (l:List V):l.filter (fun _=>true)=l:=List.filter_eq_self.mpr fun _ _=>rfl
theorem zuz (x sg:Str):(((co x).map L2.sg).filter fun _=>true).map (inF sg)=((co x).map fun c=>decide (c∈co sg)).map V.bl:=by
  rw[zz1,List.map_map,List.map_map];apply List.map_congr_left;intro c _;show V.bl (!(Builtin.Str.occurrences sg ⟨#[c]⟩ 0 sg.length 1).isEmpty)=V.bl (decide (c∈sg.cps.toList));rw[StrLaws.found_one]
def zxe:Sp:=fun vs H Q _=>∃x sg,vs = [.str x,.str sg]/\x.length<=1000/\∀H',Same H H'->Q (.bl (zkk (co x) sg)) H'
theorem zg7 (T:Tx K mg w C_Reading zq zk zo ze zb zf zd zg):Has P w K mg base "is_made_of" ["text","signs"] 1 zxe:=by
  refine T.zmy.has zkq (fun vs H Q E h=>?_) (fun f cdv A outer s H vs Q E hr h=>?_)
  · obtain⟨x,sg,rfl,_⟩:=h;rfl
  · obtain⟨x,sg,rfl,hl,k⟩:=h;refine⟨_,(zp (zac (za5 (zpq K rfl rfl) (by rfl) T.all PyProof.Rows.boot_all (za (zc5 (own:=["sign"]) (cap:=["signs"]) (ix:=[1]) (osc:=zm (top 16)) rfl ⟨rfl,by decide +kernel,by decide +kernel,by decide +kernel,by decide +kernel⟩ rfl (zyi (pv 0)) (fun _ _ _ _=>zas (i:=0) (show List.Nodup (["sign","signs"]:List Str) by decide +kernel) rfl (Or.inl rfl)) (fun _ _ _ _=>zcp) (fun _ _ _ _=>(zgk zra (pv 0) (pv 1) (by with_unfolding_all rfl)))) zi)))),?_⟩;refine⟨_,rfl,x,rfl,fun D hD=>?_⟩;refine zd0 (zwm (x:=x)) (fun _=>true) (inF sg) (fun _=>trivial) (by rw[List.length_map,za8];exact zaj hl) (fun v hv ys Q' q=>q) (fun v hv _ ys Q' q=>?_) ?_
    · obtain⟨c,_,rfl⟩:=List.mem_map.mp hv;exact⟨_,rfl,_,rfl,_,_,rfl,rfl,q⟩
    · refine⟨D,(co x).map fun c=>decide (c∈co sg),rfl,.inl (.inl ?_),?_⟩
      · rw[zc,zuz]
      · rw[zqh];exact k _ (Same.new hD)
def zxf:Sp:=fun vs H Q _=>∃x,vs = [.str x]/\x.length<=1000/\∀H',Same H H'->Q (.bl (zap x)) H'
theorem zme (T:Tx K mg w C_Reading zq zk zo ze zb zf zd zg):Has P w K mg base "is_name" ["text"] 2 zxf:=by
  refine T.zti.has zqg (fun vs H Q E h=>?_) (fun f cdv A outer s H vs Q E hr h=>?_)
  · obtain⟨x,rfl,_⟩:=h;rfl
  · obtain⟨x,rfl,hl,k⟩:=h;obtain⟨u_NAME_SIGNS,h_NAME_SIGNS,r_NAME_SIGNS⟩:=T.zm4;obtain⟨u_LONGEST_NAME,h_LONGEST_NAME,r_LONGEST_NAME⟩:=T.zi5;refine⟨_,(zp (zac (zxy (zts ztq ztq zn (za5 zg1 (by rfl) T.len boot_len (za (pv 0) zi)) (zj1 (v:=.int 12) (by rfl) h_LONGEST_NAME r_LONGEST_NAME)) (zvf (zar (zg7 T) (hr.mono (by decide)) (by rfl) (za (pv 0) (za (zj1 (v:=.str "abcdefghijklmnopqrstuvwxyz0123456789-") (by rfl) h_NAME_SIGNS r_NAME_SIGNS) zi))))))),?_⟩;refine⟨_,rfl,x,rfl,zaj hl,_,_,rfl,rfl,_,rfl,?_⟩
    by_cases c1:1<=x.length
    · rw[decide_eq_true (show (1:Int)<=(x.length:Int) by omega)];refine iteT ⟨_,_,rfl,rfl,_,rfl,?_⟩
      by_cases c2:x.length<=12
      · rw[decide_eq_true (show (x.length:Int)<=12 by omega)];refine iteT ⟨_,rfl,x,NAMES,rfl,hl,fun H' s'=>?_⟩;have:=k H' s';unfold zap at this;rw[decide_eq_true c1,decide_eq_true c2] at this;exact this
      · rw[decide_eq_false (show ¬(x.length:Int)<=12 by omega)];refine iteF ?_;have:=k H (Same.refl H);unfold zap at this;rw[decide_eq_false c2,Bool.and_false,Bool.false_and] at this;exact this
    · rw[decide_eq_false (show ¬(1:Int)<=(x.length:Int) by omega)];refine iteF ⟨_,rfl,iteF ?_⟩;have:=k H (Same.refl H);unfold zap at this;rw[decide_eq_false c1,Bool.false_and,Bool.false_and] at this;exact this
def numV (x:Str):V:=if zc6 x=true then .int (numI x) else .non
def zze:Sp:=fun vs H Q _=>∃x,vs = [.str x]/\x.length<=1000/\∀H',Same H H'->Q (numV x) H'
theorem znu {x:Str}(h:zc6 x=false):numV x = .non:=by unfold numV;rw[h];exact if_neg Bool.false_ne_true
theorem zhm {x:Str}(h:zc6 x=true):numV x = .int (numI x):=if_pos h
theorem zu0:(Str.ofString "-" : Str)=⟨#[45]⟩:=by decide +kernel
theorem zero_is:(Str.ofString "0" : Str)=⟨#[48]⟩:=by decide +kernel
theorem zks {x:Str}(h:(co x).head? = some 45):figs (co x)=(co x).drop 1:=by
  cases e:co x with
  | nil=>rw[e] at h;cases h
  | cons c r=>
    rw[e] at h;have h:c=45:=Option.some.inj h;subst h;rw[zfw];rfl
theorem zkt {x:Str}(h:¬(co x).head? = some 45):figs (co x)=co x:=by
  cases e:co x with
  | nil=>rfl
  | cons c r=>
    rw[e] at h;exact zfx r fun z=>h (by rw[z];rfl)
theorem zxg (l:List Nat):(figs l).length<=l.length:=by
  cases l with
  | nil=>exact Nat.le_refl _
  | cons c r=>
    by_cases h:c=45
    · subst h;rw[zfw];exact Nat.le_succ _
    · rw[zfx r h];exact Nat.le_refl _
theorem zmf {x:Str}(h:¬(1<=(figs (co x)).length/\(figs (co x)).length<=60)):zc6 x=false:=by
  unfold zc6
  by_cases h1:1<=(figs (co x)).length
  · rw[decide_eq_false (fun z=>h ⟨h1,z⟩),Bool.and_false,Bool.false_and,Bool.false_and]
  · rw[decide_eq_false h1,Bool.false_and,Bool.false_and,Bool.false_and]
theorem zqi {x:Str}(h:zkk (figs (co x)) FIGS=false):zc6 x=false:=by
  unfold zc6;rw[h,Bool.and_false,Bool.false_and]
theorem zs0 {x:Str}(h1:1<=(figs (co x)).length) (h2:(figs (co x)).length<=60) (h3:zkk (figs (co x)) FIGS=true):zc6 x = !(decide ((figs (co x)).head? = some 48) && !decide (x=ZERO)):=by
  unfold zc6;rw[decide_eq_true h1,decide_eq_true h2,h3];rfl
theorem zf1 (T:Tx K mg w C_Reading zq zk zo ze zb zf zd zg):Has P w K mg base "read_number" ["text"] 2 zze:=by
  refine T.zk1.has sc_read_number (fun vs H Q E h=>?_) (fun f cdv A outer s H vs Q E hr h=>?_)
  · obtain⟨x,rfl,_⟩:=h;rfl
  · obtain⟨x,rfl,hl,k⟩:=h;obtain⟨u_FIGURES,h_FIGURES,r_FIGURES⟩:=T.ztj;obtain⟨u_MOST_FIGURES,h_MOST_FIGURES,r_MOST_FIGURES⟩:=T.zi6;refine⟨_,(zj (zah (i:=1) sc_read_number.nd rfl (Or.inl rfl) (ztm (zdr (zbw K rfl PySem.F.plainAttrs_str PySem.F.slot_str_startswith PySem.F.type_str_startswith zhz (pv 0) (za zw zi))) (zaq zvo (pv 0) (zaw zn) za3) (pv 0)))
      (zj (zal (zez (ztt ztq ztq zn (za5 zg1 (by rfl) T.len boot_len (za (pv 1) zi)) (zj1 (v:=.int 60) (by rfl) h_MOST_FIGURES r_MOST_FIGURES))) (zp (zac zoc)) zz)
      (zj (zal (zez (zdr (zar (zg7 T) (hr.mono (by decide)) (by rfl) (za (pv 1) (za (zj1 (v:=.str "0123456789") (by rfl) h_FIGURES r_FIGURES) zi))))) (zp (zac zoc)) zz)
      (zj (zal (PW.pt (zds (zdr (zbw K rfl PySem.F.plainAttrs_str PySem.F.slot_str_startswith PySem.F.type_str_startswith zhz (pv 1) (za zw zi))) (zca (zy zj3 (pv 0) zw (zaf _))))) (zp (zac zoc)) zz)
      (zp (zac (zbb zrq (by rfl) T.int PyProof.Rows.boot_int (za (pv 0) zi)))))))),?_⟩
    refine⟨_,rfl,rfl,x,_,rfl,rfl,_,rfl,?_⟩;have key:∀R:V->Hp->Prop,(∀y,co y=figs (co x)->R (.str y) H)->(if Txt.startswith x (Str.ofString "-")=true then tSl rSlS (tVar 0) (zx8 (tC (.int 1))) zri (start ["text","figures"] [.str x]) H R else tVar 0 (start ["text","figures"] [.str x]) H R):=fun R hR=>by
      rw[zu0,zgq]
      by_cases c:(co x).head? = some 45
      · rw[decide_eq_true c];exact iteT ⟨_,rfl,_,rfl,x,rfl,zaj hl,hR _ (by rw[znf,zks c])⟩
      · rw[decide_eq_false c];exact iteF ⟨_,rfl,hR x (zkt c).symm⟩
    refine key _ fun y hy=>?_
    have hyl:y.length=(figs (co x)).length:=by rw[←za8,hy]
    have hyl2:y.length<=1000:=by rw[hyl];exact Nat.le_trans (zxg _) (by rw[za8];exact hl)
    have no:zc6 x=false->∀H',Same H H'->Q .non H':=fun z H' s'=>by
      have:=k H' s';rw[znu z] at this;exact this
    refine⟨_,rfl,y,rfl,zaj hyl2,_,_,rfl,rfl,_,rfl,?_⟩
    by_cases c1:1<=y.length
    · rw[decide_eq_true (show (1:Int)<=(y.length:Int) by omega)];refine iteT ⟨_,_,rfl,rfl,_,rfl,?_⟩
      by_cases c2:y.length<=60
      · rw[decide_eq_true (show (y.length:Int)<=60 by omega)];refine iteF ⟨_,rfl,y,FIGS,rfl,hyl2,fun H1 s1=>⟨_,rfl,?_⟩⟩;rw[hy];cases c3:zkk (figs (co x)) FIGS with
        | false=>exact iteT (no (zqi c3) H1 s1)
        | true=>
          refine iteF ⟨_,rfl,rfl,y,_,rfl,rfl,_,rfl,?_⟩;have ok:=zs0 (by omega) (by omega) c3;rw[zero_is,zgq,hy];have fin:zc6 x=true->∀H',Same H H'->tRet (tCB (fun xs H Q=>∃x n,xs = [V.str x]/\PySem.intText? x=some n/\x.length<=640/\Q (.int n) H) (zv1 (tVar 0) tNil)) { nx:=fun _ H'=>Q .non H',rt:=Q } [some (.str x),some (.str y)] H':=fun z H' s'=>by
            obtain⟨e1,e2⟩:=zuj z;refine⟨_,rfl,x,numI x,rfl,e1,Nat.le_trans e2 (by decide),?_⟩;have:=k H' s';rw[zhm z] at this;exact this
          by_cases c4:(figs (co x)).head? = some 48
          · rw[decide_eq_true c4] at ok ⊢;refine iteT ⟨_,rfl,rfl,_,rfl,?_⟩
            by_cases c5:x=ZERO
            · rw[decide_eq_true c5] at ok;rw[decide_eq_true (show V.str x=V.str (⟨#[48]⟩:Str) by rw[c5];exact congrArg V.str zero_is)];exact iteF (fin ok H1 s1)
            · rw[decide_eq_false c5] at ok;rw[decide_eq_false (show ¬V.str x=V.str (⟨#[48]⟩:Str) from fun z=>c5 ((V.str.inj z).trans zero_is.symm))];exact iteT (no ok H1 s1)
          · rw[decide_eq_false c4] at ok ⊢;exact iteF (iteF (fin ok H1 s1))
      · rw[decide_eq_false (show ¬(y.length:Int)<=60 by omega)];exact iteT (no (zmf (by omega)) H (Same.refl H))
    · rw[decide_eq_false (show ¬(1:Int)<=(y.length:Int) by omega)];exact iteF ⟨_,rfl,iteT (no (zmf (by omega)) H (Same.refl H))⟩
def strP:V->Bool
  | .str y=>!decide (y=(Str.ofString "" : Str))
  | _=>false
def zu1:Sp:=fun vs H Q _=>∃x,vs = [.str x]/\x.length<=1000000/\∀(D:Addr) (H':Hp),H D=none->H' D=some (.lst ((Dm.wordsOf x).map V.str))->Same H H'->Q (.ref D) H'
theorem zf2 (x:Str) (h:x.length<=1000000) (y:Str):(Txt.split x y).length<=sizeLine:=by
  have:=(PyProof.Rows.fact_split x y).2;exact Nat.le_trans this (Nat.le_trans (show x.length+2<=1000002 by omega) (by decide))
theorem zku {n:Nat}(h:n<=1000000):n<=sizeLine:=Nat.le_trans h (by decide)
theorem zf3 (T:Tx K mg w C_Reading zq zk zo ze zb zf zd zg):Has P w K mg base "split_words" ["line"] 1 zu1:=by
  refine T.zk2.has ziv (fun vs H Q E h=>?_) (fun f cdv A outer s H vs Q E hr h=>?_)
  · obtain⟨x,rfl,_⟩:=h;rfl
  · obtain⟨x,rfl,hl,k⟩:=h;refine⟨_,(zp (zac (zc5 (own:=["word"]) (cap:=[]) (ix:=[]) (osc:=zm (top 22)) rfl ⟨rfl,by decide +kernel,by decide +kernel,by decide +kernel,by decide +kernel⟩ rfl (zcy K rfl (zbw K rfl PySem.F.plainAttrs_str PySem.F.slot_str_split PySem.F.type_str_split zkf (pv 0) (za zw zi))) (fun _ _ _ _=>zas (i:=0) (show List.Nodup (["word"]:List Str) by decide +kernel) rfl (Or.inl rfl)) (fun _ _ _ _=>zwh (zy zj3 (pv 0) zw (zaf _))) (fun _ _ _ _=>(pv 0))))),?_⟩;refine⟨_,rfl,rfl,x,_,rfl,rfl,by decide +kernel,zku hl,zf2 x hl _,fun p hp=>?_⟩;refine⟨p,rfl,⟨_,SqL.of zc⟩,fun D hD=>?_⟩;have npD:p≠D:=zr zc hD;refine zd0 (zdh (a:=p) (K:=K) (xs:=(Txt.split x (Str.ofString " ")).map V.str)) strP (fun v=>v) (fun ys=>SqL.of (by rw[zv npD,zc])) (by rw[List.length_map];exact zf2 x hl _) (fun v hv ys Q' q=>?_) (fun v hv _ ys Q' q=>?_) ?_
    · obtain⟨y,_,rfl⟩:=List.mem_map.mp hv;refine⟨_,rfl,rfl,_,rfl,?_⟩;have e:strP (V.str y) = !decide (V.str y=V.str (Str.ofString "")):=by
        show (!decide (y=(Str.ofString "" : Str)))=_
        congr 1
        exact decide_eq_decide.mpr ⟨fun z=>congrArg V.str z,fun z=>V.str.inj z⟩
      rw[e] at q;exact q
    · exact⟨_,rfl,q⟩
    · refine k D _ ((Same.new hp).free hD) ?_ ((Same.new hp).trans (Same.new hD));rw[zc,List.map_id',List.filter_map];rfl
def zs1:Sp:=fun vs H Q _=>∃(a:Addr) (wl:List Str),vs = [.ref a]/\SqL K H a (wl.map V.str)/\∀H',Same H H'->Q (.bl (zbz wl)) H'
theorem zdu (T:Tx K mg w C_Reading zq zk zo ze zb zf zd zg):Has P w K mg base "is_passed_over" ["words"] 1 (zs1 (K:=K)):=by
  refine T.zhh.has zgw (fun vs H Q E h=>?_) (fun f cdv A outer s H vs Q E hr h=>?_)
  · obtain⟨a,wl,rfl,_⟩:=h;rfl
  · obtain⟨a,wl,rfl,ha,k⟩:=h;refine⟨_,(zp (zac (zzj (zgk (zke K rfl (hu10 hr)) (pv 0) (za2 zi) (zaf _)) (zvf (zbw K rfl PySem.F.plainAttrs_str PySem.F.slot_str_startswith PySem.F.type_str_startswith zhz (zae (zaa K rfl) (pv 0) zn (fun _ _=>rfl)) (za zw zi)))))),?_⟩;refine⟨_,rfl,by decide,fun e he=>?_⟩;have s1:=Same.new (o:=.lst []) he;refine⟨a,e,_,rfl,rfl,DEq.nilL (s1.seq ha) (SqL.of zc),_,rfl,?_⟩;cases wl with
    | nil=>exact iteT (k _ s1)
    | cons y r=>
      refine iteF ⟨_,rfl,a,_,_,_,rfl,rfl,s1.seq ha,zbx,rfl,y,_,rfl,rfl,k _ s1⟩
inductive ValOk:Str->V->Prop where
  | name {x:Str}(h:zap x=true):ValOk "name" (.str x)
  | year {n:Int}(h:zao n):ValOk "year" (.int n)
  | gap {n:Int}(h0:0<=n) (h:zao n):ValOk "gap" (.int n)
def zo4:Sp:=fun vs H Q _=>∃(kd:Str) (v r:V),vs = [.str kd,.str (zab v),r]/\ValOk kd v/\∀H',Same H H'->Q v H'
theorem sne {a b:String}(h:¬(Str.ofString a:Str)=Str.ofString b):decide (V.str (Str.ofString a)=V.str (Str.ofString b))=false:=decide_eq_false fun z=>h (V.str.inj z)
theorem zg8 (T:Tx K mg w C_Reading zq zk zo ze zb zf zd zg):Has P w K mg base "read_value" ["kind","word","row"] 3 zo4:=by
  refine T.zhe.has sc_read_value (fun vs H Q E h=>?_) (fun f cdv A outer s H vs Q E hr h=>?_)
  · obtain⟨kd,v,r,rfl,_⟩:=h;rfl
  · obtain⟨kd,v,r,rfl,hv,k⟩:=h;refine⟨_,(zj (zal (zy zbv (pv 0) zw (zaf _)) (zj (zal (zez (zdr (zar (zme T) (hr.mono (by decide)) (by rfl) (za (pv 1) zi)))) (zp zbq) zz)
        (zp (zac (pv 1)))) zz)
      (zj (zah (i:=3) sc_read_value.nd rfl (Or.inl rfl) (zar (zf1 T) (hr.mono (by decide)) (by rfl) (za (pv 1) zi)))
      (zj (zal (PW.pt (zk4 (zcx (zi8 (pv 3))) (zi9 (PW.pt (zds (zy zbv (pv 0) zw (zaf _)) (zca (zy zq9 (pv 3) zn (zaf _)))))))) (zp zbq) zz)
      (zp (zac (pv 3)))))),?_⟩
    cases hv with
    | name h=>
      rename_i x;have lx:=zcb h;refine⟨_,rfl,rfl,_,rfl,?_⟩;rw[decide_eq_true rfl];refine iteT ⟨_,rfl,x,rfl,by omega,fun H1 s1=>⟨_,rfl,?_⟩⟩;rw[h];exact iteF ⟨_,rfl,k _ s1⟩
    | year h=>
      rename_i n;obtain⟨o1,o2,o3⟩:zc6 (zab (.int n))=true/\numI (zab (.int n))=n/\(zab (.int n)).length<=61:=zgs n h;refine⟨_,rfl,rfl,_,rfl,?_⟩;rw[sne (by decide +kernel)];refine iteF ⟨_,rfl,_,rfl,by omega,fun H1 s1=>?_⟩;rw[zhm o1,o2];refine⟨_,rfl,_,rfl,?_⟩;rw[decide_eq_false (fun z=>nomatch z)];refine iteF ⟨_,rfl,rfl,_,rfl,?_⟩;rw[sne (by decide +kernel)];exact iteF (iteF ⟨_,rfl,k _ s1⟩)
    | gap h0 h=>
      rename_i n;obtain⟨o1,o2,o3⟩:zc6 (zab (.int n))=true/\numI (zab (.int n))=n/\(zab (.int n)).length<=61:=zgs n h;refine⟨_,rfl,rfl,_,rfl,?_⟩;rw[sne (by decide +kernel)];refine iteF ⟨_,rfl,_,rfl,by omega,fun H1 s1=>?_⟩;rw[zhm o1,o2];refine⟨_,rfl,_,rfl,?_⟩;rw[decide_eq_false (fun z=>nomatch z)];refine iteF ⟨_,rfl,rfl,_,rfl,?_⟩;rw[decide_eq_true rfl];refine iteT ⟨_,rfl,_,_,rfl,rfl,_,rfl,?_⟩;rw[decide_eq_false (by omega)];exact iteF ⟨_,rfl,k _ s1⟩
structure EntOk (ws:List V) (kd:Str) (ks:List Str) (vs:List V):Prop where
  eq:ws = .str kd::vs
  form:(kd,ks.map V.str)∈l_FORMS
  vals:Paired ValOk ks vs
  years:(Str.ofString "year" : Str)∈ks->∃pre lo hi,vs=pre++[.int lo,.int hi]/\lo<=hi
theorem zxh {ws:List V}(h:RowOk ws):∃kd ks vs,EntOk ws kd ks vs:=by
  cases h with
  | dig hl h1 h2=>exact⟨"dig",["year","year"],_,rfl,by simp[l_FORMS],.cons (.year h1) (.cons (.year h2) .nil),fun _=>⟨[],_,_,rfl,hl⟩⟩
  | unit hx=>exact⟨"unit",["name"],_,rfl,by simp[l_FORMS],.cons (.name hx) .nil,fun z=>absurd z (by decide +kernel)⟩
  | plain hk hx hy=>
    rename_i kd x y;refine⟨kd,["name","name"],_,rfl,?_,.cons (.name hx) (.cons (.name hy) .nil),fun z=>absurd z (by decide +kernel)⟩;unfold zgt at hk;simp only [List.mem_cons,List.not_mem_nil,or_false] at hk;rcases hk with rfl | rfl | rfl | rfl<;>simp[l_FORMS]
  | after hx hy h0 h1=>exact⟨"after",["name","name","gap"],_,rfl,by simp[l_FORMS],.cons (.name hx) (.cons (.name hy) (.cons (.gap h0 h1) .nil)),fun z=>absurd z (by decide +kernel)⟩
  | find hn hx hl h1 h2=>exact⟨"find",["name","name","year","year"],_,rfl,by simp[l_FORMS],.cons (.name hn) (.cons (.name hx) (.cons (.year h1) (.cons (.year h2) .nil))),fun _=>⟨[.str _,.str _],_,_,rfl,hl⟩⟩
theorem zs2 {kd:Str}{v:V}(h:ValOk kd v):valF (.str kd) (.str (zab v))=v:=by
  cases h with
  | name h=>
    rename_i x;show (if (Str.ofString "name" : Str)=Str.ofString "name" then V.str x else V.int (numI x))=V.str x;exact if_pos rfl
  | year h=>
    rename_i n;show (if (Str.ofString "year" : Str)=Str.ofString "name" then V.str (zab (.int n)) else V.int (numI (Str.ofString (toString n))))=V.int n;rw[if_neg (by decide +kernel),(zgs _ h).2.1]
  | gap h0 h=>
    rename_i n;show (if (Str.ofString "gap" : Str)=Str.ofString "name" then V.str (zab (.int n)) else V.int (numI (Str.ofString (toString n))))=V.int n;rw[if_neg (by decide +kernel),(zgs _ h).2.1]
theorem znv:∀{ks:List Str}{vs:List V},Paired ValOk ks vs->List.zipWith valF (ks.map V.str) (vs.map fun v=>V.str (zab v))=vs
  | _,_,.nil=>rfl
  | _,_,.cons h t=>by rw[List.map_cons,List.map_cons,List.zipWith_cons_cons,zs2 h,znv t]
theorem zmg:∀x∈l_FORMS,x.2.length<=4:=by decide +kernel
theorem zu2:∀x∈l_FORMS,x.2≠[]:=by decide +kernel
theorem zo5 {kd:Str}{ks:List V}(h:(kd,ks)∈l_FORMS):decide (kd∈l_FORMS.map (·.1))=true:=decide_eq_true (List.mem_map.mpr ⟨_,h,rfl⟩)
def zo6:Sp:=fun vs H Q _=>∃(a:Addr) (ws:List V) (r:V),vs = [.ref a,r]/\SqL K H a (ws.map fun v=>V.str (zab v))/\RowOk ws/\∀(p:Addr) (H':Hp),H p=none->H' p=some (.tup ws)->Same H H'->Q (.ref p) H'
def zs3:Sp:=fun vs H Q _=>∃(ad a:Addr) (kd:Str) (ks:List Str) (us:List V) (r:V),vs = [.ref ad,.ref a,r]/\(∀H',SqT K H' ad (ks.map V.str))/\SqL K H a ((V.str kd::us).map fun v=>V.str (zab v))/\
  EntOk (V.str kd::us) kd ks us/\∀(p:Addr) (H':Hp),H p=none->H' p=some (.tup (.str kd::us))->Same H H'->Q (.ref p) H'
theorem zxi {ks:List Str}(h:∀x∈ks,x.length<=100):∀v∈ks.map V.str,Wd v:=by
  intro v hv;obtain⟨x,hx,rfl⟩:=List.mem_map.mp hv;exact .inl ⟨x,rfl,h x hx⟩
theorem zif:∀x∈l_FORMS,∀v∈x.2,∀y,v=V.str y->y.length<=100:=by
  intro x hx v hv y e;subst e;simp[l_FORMS] at hx;rcases hx with rfl | rfl | rfl | rfl | rfl | rfl | rfl | rfl<;>simp at hv<;>(rcases hv with rfl | rfl)<;>decide +kernel
set_option maxHeartbeats 4000000 in
theorem zig (T:Tx K mg w C_Reading zq zk zo ze zb zf zd zg):Has P w K mg base "read_form" ["form","words","row"] 4 (zs3 (K:=K)):=by
  refine T.ziq.has sc_read_form (fun vs H Q E h=>?_) (fun f cdv A outer s H vs Q E hr h=>?_)
  · obtain⟨ad,a,kd,ks,us,r,rfl,_⟩:=h;rfl
  · obtain⟨ad,a,kd,ks,vs,r,rfl,kt,ha,⟨_,hf,hv,hy⟩,k⟩:=h;refine⟨_,(zj (zal (zy zj3 (za5 (zau K rfl) (by rfl) T.len boot_len (za (pv 1) zi)) (zai zdz (za5 (zau K rfl) (by rfl) T.len boot_len (za (pv 0) zi)) zn) (zaf _)) (zp zbq) zz)
      (zj (zwj (i:=3) (own:=["kind","word"]) (cap:=["row"]) (ix:=[2]) (osc:=zm (top 25)) rfl sc_read_form.nd rfl rfl rfl ⟨rfl,by decide +kernel,by decide +kernel,by decide +kernel,by decide +kernel⟩ rfl (zr6 K rfl true false (by rfl) T.zip (za (pv 0) (za (zaq (zba K rfl) (pv 1) (zaw zn) za3) zi))) (fun _ _ _ _=>zgp (n:=2) K rfl rfl (zbr (zas (i:=0) (show List.Nodup (["kind","word","row"]:List Str) by decide +kernel) rfl (Or.inl rfl)) (zbr (zas (i:=1) (show List.Nodup (["kind","word","row"]:List Str) by decide +kernel) rfl (Or.inl rfl)) zgj))) (fun _ _ _ _=>zcp) (fun _ _ _ _=>(zar (zg8 T) (hr.mono (by decide)) (by rfl) (za (pv 0) (za (pv 1) (za (pv 2) zi))))))
      (zj (zal (PW.pt (zds (zy (zke K rfl (hu10 hr)) (zaq (zsu (K:=K) rfl) (pv 0) (zaw (zj2 zfp zn)) za3) (za7 (za zw (za zw zi))) (zaf _)) (zca (zy ztr (zae (zaa K rfl) (pv 3) (zj2 zfp zn) (fun _ _=>rfl)) (zae (zaa K rfl) (pv 3) (zj2 zfp zn) (fun _ _=>rfl)) (zaf _))))) (zp zbq) zz)
      (zp (zac (zai (zhj K rfl) (za7 (za (zae (zaa K rfl) (pv 1) zn (fun _ _=>rfl)) zi)) (zbb (zbg K rfl) (by rfl) T.tuple PyProof.Rows.boot_tuple (za (pv 3) zi)))))))),?_⟩
    have hl:ks.length=vs.length:=Paired.length hv;have h4:=zmg _ hf;have h4:ks.length<=4:=by simpa using h4
    have hsh:∀x∈ks,x.length<=100:=fun x hx=>zif _ hf (.str x) (List.mem_map.mpr ⟨x,hx,rfl⟩) x rfl
    refine⟨_,rfl,a,_,rfl,.inl ha,_,rfl,ad,_,rfl,.inr (kt H),_,_,rfl,rfl,rfl,_,rfl,?_⟩;rw[decide_eq_true (by simp only [List.length_map,List.length_cons];congr 1;omega)];refine iteF ?_;refine⟨_,rfl,_,rfl,_,rfl,a,_,rfl,ha,fun p hp=>?_⟩;have s1:=Same.new (o:=.lst (cutV ((V.str kd::vs).map fun v=>V.str (zab v)) (some 1) none)) hp;have e1:upd H p (.lst (cutV ((V.str kd::vs).map fun v=>V.str (zab v)) (some 1) none)) p=some (.lst (vs.map fun v=>V.str (zab v))):=by rw[zc,List.map_cons,zby]
    generalize upd H p (.lst (cutV ((V.str kd::vs).map fun v=>V.str (zab v)) (some 1) none))=H1 at s1 e1;refine⟨ad,p,_,_,rfl,kt H1,SqL.of e1,fun D hD=>?_⟩;refine zon (xs:=ks.map V.str) (ys:=vs.map fun v=>V.str (zab v)) valF hD (fun H' s=>kt H') (fun H' s=>s.seq (SqL.of e1)) (by simp only [List.length_map];exact hl) (zaj (by rw[List.length_map];omega)) (fun i x y ex ey H' Q' s hQ=>?_) (fun H2 s2 hD2=>?_)
    · rw[List.getElem?_map] at ex ey;cases ek:ks[i]? with
      | none=>rw[ek] at ex;cases ex
      | some kd'=>
        obtain⟨v,ev,hkv⟩:=Paired.get' hv ek;rw[ek] at ex;rw[ev] at ey;cases ex;cases ey;rw[zs2 hkv] at hQ;exact⟨_,rfl,_,rfl,_,rfl,kd',v,r,rfl,hkv,hQ⟩
    rw[znv hv] at hD2;have q2:=s1.trans s2;dsimp only [za0];refine zeg false (fun Q' hQ=>?_) (fun H3 t3=>iteF ?_)
    · have yr:(Str.ofString "year" : Str).length<=100:=by decide +kernel
      have wy:∀v∈[V.str "year",V.str "year"],Wd v:=fun v hv=>by
        simp at hv;subst hv;exact .inl ⟨_,rfl,yr⟩
      have fin:∀(t:Addr) (zs:List V) (H4:Hp),Same H2 H4->SqT K H4 t zs->(∀z∈zs,z∈ks.map V.str)->∀p2,H4 p2=none->∃b,DEq K (upd H4 p2 (.tup [.str "year",.str "year"])) 8 (.ref t) (.ref p2) b/\(b=true->(Str.ofString "year" : Str)∈ks):=by
        intro t zs H4 s4 ht hz p2 hp2;have wz:∀v∈zs,Wd v:=fun v hv=>zxi hsh v (hz v hv)
        refine⟨_,DEq.flatT (n:=7) ((Same.new hp2).tup ht) (SqT.of zc) (fun x hx=>(wz x hx).flat) (fun x hx=>(wy x hx).flat),fun z=>?_⟩;rw[zvq wz wy] at z;have z:=of_decide_eq_true z;have:=hz (.str "year") (by rw[z];simp);obtain⟨x,hx,e⟩:=List.mem_map.mp this;have e:=V.str.inj e;subst e;exact hx
      refine⟨_,rfl,_,rfl,_,rfl,ad,_,rfl,kt H2,fun hw=>?W,fun hw p9 hp9=>?C⟩
      case' W=>
        obtain⟨t,et⟩:∃t,t=ad:=⟨_,rfl⟩;obtain⟨H4,eH⟩:∃H4,H4=H2:=⟨_,rfl⟩;have s4:Same H2 H4:=by rw[eH];exact (Same.refl _)
        have hd4:=s4 _ _ hD2;have fin:=fin t (ks.map V.str) H4 s4 (by rw[et];exact kt H4) (fun z h=>h);rw[←eH,←et]
      case' C=>
        have s4:Same H2 (upd H2 p9 (.tup (cutV (ks.map V.str) (some (-2)) none))):=Same.new hp9;have e4:upd H2 p9 (.tup (cutV (ks.map V.str) (some (-2)) none)) p9=some (.tup (cutV (ks.map V.str) (some (-2)) none)):=zc;obtain⟨t,et⟩:∃t,t=p9:=⟨_,rfl⟩;rw[←et];rw[←et] at e4 s4;generalize upd H2 t (.tup (cutV (ks.map V.str) (some (-2)) none))=H4 at s4 e4;have hd4:=s4 _ _ hD2;have fin:=fin t _ H4 s4 (SqT.of e4) (fun z h=>List.mem_of_mem_drop (List.mem_of_mem_take h))
      all_goals
        refine⟨(by show 2<=sizeLine;decide),fun p2 hp2=>?_⟩;obtain⟨b,hb,hb'⟩:=fin p2 hp2;have t5:=Same.new (o:=.tup [.str "year",.str "year"]) hp2;refine⟨t,p2,b,rfl,rfl,hb,_,rfl,?_⟩;refine ite2 (fun c=>?_) (fun c=>hQ _ (s4.trans t5));obtain⟨pre,lo,hi,rfl,hlo⟩:=hy (hb' c);have hd5:=t5 _ _ hd4;refine⟨_,rfl,_,rfl,D,_,_,_,rfl,rfl,SqL.of hd5,zl4 _ _ _,_,rfl,_,rfl,D,_,_,_,rfl,rfl,SqL.of hd5,zl5 _ _ _,_,_,rfl,rfl,_,rfl,?_⟩;rw[decide_eq_false (by omega)];exact hQ _ (s4.trans t5)
    have hD3:=t3 _ _ hD2;have q3:=q2.trans t3;refine⟨_,rfl,a,_,_,_,rfl,rfl,q3.seq ha,zbx,(by show 1<=sizeLine;decide),fun p1 hp1=>?_⟩;have s3:=Same.new (o:=.tup [.str kd]) hp1;refine⟨_,rfl,D,_,rfl,.inl ⟨SqL.of (s3 _ _ hD3),fun p2 hp2=>?_⟩⟩;have s4:=s3.trans (Same.new (o:=.tup vs) hp2);refine⟨p1,p2,_,_,rfl,rfl,SqT.of (Same.new hp2 _ _ zc),SqT.of zc,by simp,zaj (by show 1+vs.length<=1000;omega),fun z=>?_,fun _ p3 hp3=>?_⟩
    · subst z;have:ks = []:=List.length_eq_zero_iff.mp (by simpa using hl);subst this;exact (zu2 _ hf rfl).elim
    · exact k p3 _ ((q3.trans s4).free hp3) zc ((q3.trans s4).trans (Same.new hp3))
theorem zg9 (T:Tx K mg w C_Reading zq zk zo ze zb zf zd zg):Has P w K mg base "read_entry" ["words","row"] 5 (zo6 (K:=K)):=by
  refine T.zhd.has zfz (fun vs H Q E h=>?_) (fun f cdv A outer s H vs Q E hr h=>?_)
  · obtain⟨a,ws,r,rfl,_⟩:=h;rfl
  · obtain⟨a,ws,r,rfl,ha,hw,k⟩:=h;obtain⟨a_FORMS,m_FORMS,k_FORMS⟩:=T.ztk;refine⟨_,(zj (zal (zcx (zlv k_FORMS (by rfl) m_FORMS (zae (zaa K rfl) (pv 0) zn (fun _ _=>rfl)))) (zp zbq) zz)
      (zp (zac (zar (zig T) (hr.mono (by decide)) (by rfl) (za (zr3 k_FORMS (by rfl) m_FORMS (zae (zaa K rfl) (pv 0) zn (fun _ _=>rfl)) (fun _ _=>rfl)) (za (pv 0) (za (pv 1) zi))))))),?_⟩
    obtain⟨kd,ks,vs,ent⟩:=zxh hw;have hf:=ent.form;have ew:=ent.eq;subst ew;refine⟨_,rfl,a,_,_,_,rfl,rfl,ha,zbx,kd,rfl,_,rfl,?_⟩;rw[zo5 hf];refine iteF ?_;refine⟨_,rfl,a,_,_,_,rfl,rfl,ha,zbx,kd,_,rfl,hf,fun ad kt=>?_⟩;exact⟨_,rfl,_,rfl,ad,a,kd,ks,vs,r,rfl,fun H'=>kt.sq H',ha,ent,k⟩
def zxj:Sp:=fun vs H Q _=>∃(p dx:Addr),vs = [.ref p]/\H p=some (.ins C_Reading dx [])/\∀(du dt df:Addr) (H':Hp),H du=none->H dt=none->H df=none->ReadAt C_Reading H' p du dt df ⟨none,[],[],[]⟩->(∀b o,H b=some o->b≠p->H' b=some o)->Q .non H'
theorem zcz (T:Tx K mg w C_Reading zq zk zo ze zb zf zd zg):HasM P w K mg base C_Reading "__init__" ["self"] 1 (zxj (C_Reading:=C_Reading)):=by
  refine T.zgb.has zfb (fun vs H Q E h=>?_) (fun f cdv A outer s H vs Q E hr h=>?_)
  · obtain⟨p,dx,rfl,_⟩:=h;rfl
  · obtain⟨p,dx,rfl,hp,k⟩:=h;refine⟨_,(zj (zjc (pv 0) zoc rfl)
      (zj (zjc (pv 0) zoh rfl)
      (zj (zjc (pv 0) zt5 rfl)
      (zp (zjc (pv 0) zoh rfl))))),?_⟩
    refine⟨_,rfl,p,C_Reading,dx,[],rfl,hp,T.zx,T.za4,(by show 0<1000;decide),?_⟩;intro du hdu;have n1:p≠du:=zr zc hdu;refine⟨_,rfl,p,C_Reading,dx,_,rfl,by rw[zv n1,zc],T.zx,T.zav,(by show 1<1000;decide),?_⟩;intro dt hdt;have n2:p≠dt:=zr zc hdt;refine⟨_,rfl,p,C_Reading,dx,_,rfl,by rw[zv n2,zc],T.zx,T.zbk,?_,?_⟩
    · exact Nat.lt_of_le_of_lt (zcm _ _ _) (by show 1+1<1000;decide)
    intro df hdf;have n3:p≠df:=zr zc hdf;refine⟨_,rfl,p,C_Reading,dx,_,rfl,by rw[zv n3,zc],T.zx,T.zbe,?_,?_⟩
    · exact Nat.lt_of_le_of_lt (zcm _ _ _) (Nat.lt_of_le_of_lt (Nat.succ_le_succ (zcm _ _ _)) (by show 1+1+1<1000;decide))
    have a0:∀{b:Addr}{o:HO}{G:Hp},upd G p o b=none->b≠p->G b=none:=fun h n=>by rwa [zv n] at h
    have f1:H du=none:=a0 hdu n1.symm;have e1:upd (upd (upd H p (.ins C_Reading dx (putF "frame" .non []))) du (.dK [])) p (.ins C_Reading dx (putF "units" (.ref du) (putF "frame" .non []))) du=some (.dK []):=by rw[zv n1.symm,zc]
    have nut:du≠dt:=zr e1 hdt;have f2:H dt=none:=by
      have:=a0 hdt n2.symm;rw[zv nut.symm] at this;exact a0 this n2.symm
    have e2:=zr (H:=upd (upd (upd (upd (upd H p (.ins C_Reading dx (putF "frame" .non []))) du (.dK [])) p (.ins C_Reading dx (putF "units" (.ref du) (putF "frame" .non [])))) dt (.dT [])) p (.ins C_Reading dx (putF "ties" (.ref dt) (putF "units" (.ref du) (putF "frame" .non []))))) (a:=dt) (b:=df) (o:=.dT []) (by rw[zv n2.symm,zc]) hdf;have e3:=zr (H:=upd (upd (upd (upd (upd H p (.ins C_Reading dx (putF "frame" .non []))) du (.dK [])) p (.ins C_Reading dx (putF "units" (.ref du) (putF "frame" .non [])))) dt (.dT [])) p (.ins C_Reading dx (putF "ties" (.ref dt) (putF "units" (.ref du) (putF "frame" .non []))))) (a:=du) (b:=df) (o:=.dK []) (by rw[zv n1.symm,zv nut,e1]) hdf;have f3:H df=none:=by
      have:=a0 hdf n3.symm;rw[zv e2.symm] at this;have:=a0 this n3.symm;rw[zv e3.symm] at this;exact a0 this n3.symm
    refine k du dt df _ f1 f2 f3 ⟨⟨dx,.non,?_,rfl⟩,?_,?_,⟨[],.nil,?_⟩,e3,(fun _ h=>nomatch h),(fun _ h=>nomatch h)⟩ fun b o e hb=>?_
    · rw[zc,zsl]
    · rw[zv n1.symm,zv e3,zv n1.symm,zv nut,e1];rfl
    · rw[zv n2.symm,zv e2,zv n2.symm,zc];rfl
    · rw[zv n3.symm,zc];rfl
    · rw[zv hb,zv (zr e f3),zv hb,zv (zr e f2),zv hb,zv (zr e f1),zv hb];exact e
def znw:Sp:=fun vs H Q _=>∃(p du dt df:Addr) (s:RS) (x:Str) (r:V),vs = [.ref p,.str x,r]/\ReadAt C_Reading H p du dt df s/\x∈s.us/\Q .non H
theorem zcg (T:Tx K mg w C_Reading zq zk zo ze zb zf zd zg):HasML P w K mg base CX0 C_Reading "need_unit" ["self","name","row"] 3 (znw (C_Reading:=C_Reading)):=by
  refine T.zcw.hasL0 zcf (fun vs H Q E h=>?_) (fun f cdv A outer s H vs Q E hr h=>?_)
  · obtain⟨p,du,dt,df,st,x,r,rfl,_⟩:=h;rfl
  · obtain⟨p,du,dt,df,st,x,r,rfl,R,hx,k⟩:=h;have hu:=zli hr;refine⟨_,(zp (zal (zcx (zlh hu (pv 1) (zbn (pv 0) rfl))) (zp zbq) zz)),?_⟩;obtain⟨dx,fv,h1,_⟩:=R.ob;refine⟨_,rfl,_,rfl,p,C_Reading,dx,_,_,rfl,h1,T.zx,T.zav,zjm _ _ _ _,du,_,rfl,DGet.k (k:=Sum.inr x) R.u,_,rfl,?_⟩;rw[zei (dU_mem.mpr hx)];exact iteF k
theorem zbs (T:Tx K mg w C_Reading zq zk zo ze zb zf zd zg):HasM P w K mg base C_Reading "need_unit" ["self","name","row"] 3 (znw (C_Reading:=C_Reading)):=(zcg T).m
theorem zu3 {H:Hp}{p du dt df:Addr}{s:RS}{x:Str}(R:ReadAt C_Reading H p du dt df s) (hx:zap x=true) (hn:x ∉ s.us):ReadAt C_Reading (upd H du (.dK (putK (dU s.us) (Sum.inr x:Key) (.bl true)))) p du dt df ⟨s.fr,s.us++[x],s.ts,s.fs⟩:=by
  obtain⟨dx,fv,h1,h2⟩:=R.ob;obtain⟨af,ht,hf⟩:=R.f;have st:∀b xs,H b=some (.tup xs)->upd H du (.dK (putK (dU s.us) (Sum.inr x:Key) (.bl true))) b=some (.tup xs):=fun b xs e=>by
    rw[zv (zek e R.u (by intro z;cases z))];exact e
  rw[zw1 hn] at st ⊢;refine⟨⟨dx,fv,?_,h2.stay st⟩,zc,?_,⟨af,ht.stay st,?_⟩,R.nu,fun y hy=>?_,R.ties⟩
  · rw[zv (zek h1 R.u (by intro z;cases z))];exact h1
  · rw[zv (zek R.t R.u (by intro z;cases z))];exact R.t
  · rw[zv R.nu.symm];exact hf
  · rcases List.mem_append.mp hy with hy | hy
    · exact R.names y hy
    · rw[List.mem_singleton] at hy;subst hy;exact hx
theorem zkv {n:Nat}(h:n<=1000):n<sizeLine:=zb3 h
def zkw:Sp:=fun vs H Q _=>∃(p du dt df:Addr) (s:RS) (x:Str) (r:V),vs = [.ref p,.str x,r]/\ReadAt C_Reading H p du dt df s/\zap x=true/\x ∉ s.us/\s.us.length<=1000/\
  ∀H',ReadAt C_Reading H' p du dt df ⟨s.fr,s.us++[x],s.ts,s.fs⟩->Keep4 H H' p du dt df->Q .non H'
theorem zch (T:Tx K mg w C_Reading zq zk zo ze zb zf zd zg):HasML P w K mg base CX0 C_Reading "take_unit" ["self","name","row"] 3 (zkw (C_Reading:=C_Reading)):=by
  refine T.zcu.hasL0 zcd (fun vs H Q E h=>?_) (fun f cdv A outer s H vs Q E hr h=>?_)
  · obtain⟨p,du,dt,df,st,x,r,rfl,_⟩:=h;rfl
  · obtain⟨p,du,dt,df,st,x,r,rfl,R,hx,hn,hl,k⟩:=h;have hu:=zli hr;refine⟨_,(zj (zal (zcx (zje hu (pv 1) (zbn (pv 0) rfl))) (zp zbq) zz)
      (zp (zgn hu (zbn (pv 0) rfl) (pv 1) zho rfl))),?_⟩
    obtain⟨dx,fv,h1,_⟩:=R.ob;refine⟨_,rfl,_,rfl,p,C_Reading,dx,_,_,rfl,h1,T.zx,T.zav,zjm _ _ _ _,du,_,rfl,DGet.k (k:=Sum.inr x) R.u,_,rfl,?_⟩;rw[zb0 (fun z=>hn (dU_mem.mp z))];refine iteF ⟨_,rfl,p,C_Reading,dx,_,_,rfl,h1,T.zx,T.zav,zjm _ _ _ _,_,rfl,du,_,rfl,DPut.k (k:=Sum.inr x) R.u ?_,?_⟩
    · unfold dU;rw[List.length_map];exact zkv hl
    · exact k _ (zu3 R hx hn) fun b o e b1 b2 b3 b4=>by rw[zv b2];exact e
theorem zfc (T:Tx K mg w C_Reading zq zk zo ze zb zf zd zg):HasM P w K mg base C_Reading "take_unit" ["self","name","row"] 3 (zkw (C_Reading:=C_Reading)):=(zch T).m
def znx:Sp:=fun vs H Q _=>∃(p du dt df a:Addr) (s:RS) (ws:List V) (r:V),vs = [.ref p,.ref a,r]/\ReadAt C_Reading H p du dt df s/\H a=some (.tup ws)/\TieOk s.us ws/\ws ∉ s.ts/\s.ts.length<=1000/\
  ∀H',ReadAt C_Reading H' p du dt df ⟨s.fr,s.us,s.ts++[ws],s.fs⟩->Keep4 H H' p du dt df->Q .non H'
theorem zu4 {H:Hp}{p du dt df:Addr}{s:RS}{ws:List V}(R:ReadAt C_Reading H p du dt df s) (hw:∀v∈ws,Wd v) (hn:ws ∉ s.ts):ReadAt C_Reading (upd H dt (.dT (putK (dTi s.ts) (ws.map kW) (.bl true)))) p du dt df ⟨s.fr,s.us,s.ts++[ws],s.fs⟩:=by
  obtain⟨dx,fv,h1,h2⟩:=R.ob;obtain⟨af,ht,hf⟩:=R.f;have st:∀b xs,H b=some (.tup xs)->upd H dt (.dT (putK (dTi s.ts) (ws.map kW) (.bl true))) b=some (.tup xs):=fun b xs e=>by
    rw[zv (zek e R.t (by intro z;cases z))];exact e
  rw[zuo R.ties hw hn] at st ⊢;refine⟨⟨dx,fv,?_,h2.stay st⟩,?_,zc,⟨af,ht.stay st,?_⟩,R.nu,R.names,fun y hy=>?_⟩
  · rw[zv (zek h1 R.t (by intro z;cases z))];exact h1
  · rw[zv (zek R.u R.t (by intro z;cases z))];exact R.u
  · rw[zv (zek hf R.t (by intro z;cases z))];exact hf
  · rcases List.mem_append.mp hy with hy | hy
    · exact R.ties y hy
    · rw[List.mem_singleton] at hy;subst hy;exact hw
theorem zmh {us:List Str}{ws:List V}(h:TieOk us ws):∃kd x y,x∈us/\y∈us/\atI ws 0=some (.str kd)/\atI ws 1=some (.str x)/\atI ws 2=some (.str y)/\kd ∉ ([Str.ofString "dig",Str.ofString "unit",Str.ofString "find"]:List Str):=by
  cases h with
  | plain hk hx hy=>
    refine⟨_,_,_,hx,hy,rfl,rfl,rfl,?_⟩;unfold zgt at hk;simp only [List.mem_cons,List.not_mem_nil,or_false] at hk;rcases hk with rfl | rfl | rfl | rfl<;>decide +kernel
  | after hx hy h0 h1=>exact⟨_,_,_,hx,hy,rfl,rfl,rfl,by decide +kernel⟩
theorem zct (T:Tx K mg w C_Reading zq zk zo ze zb zf zd zg):HasML P w K mg base CX0 C_Reading "take_tie" ["self","tie","row"] 4 (znx (C_Reading:=C_Reading)):=by
  refine T.zc3.hasL0 zcs (fun vs H Q E h=>?_) (fun f cdv A outer s H vs Q E hr h=>?_)
  · obtain⟨p,du,dt,df,a,st,ws,r,rfl,_⟩:=h;rfl
  · obtain⟨p,du,dt,df,a,st,ws,r,rfl,R,ha,ht,hn,hl,k⟩:=h;have hu:=zli hr;refine⟨_,(zj (zal (zcx (zje hu (pv 1) (zbn (pv 0) rfl))) (zp zbq) zz)
      (zj (zat (zg3 (zbs T) T.zx (hr.mono (by decide)) (pv 0) (za (zae (zag K rfl) (pv 1) zn (fun _ _=>rfl)) (za (pv 2) zi))))
      (zj (zat (zg3 (zbs T) T.zx (hr.mono (by decide)) (pv 0) (za (zae (zag K rfl) (pv 1) zn (fun _ _=>rfl)) (za (pv 2) zi))))
      (zp (zgn hu (zbn (pv 0) rfl) (pv 1) zho rfl))))),?_⟩
    obtain⟨dx,fv,h1,_⟩:=R.ob;have hw:=(ht.words R.names).1;have ha':H a=some (.tup ((ws.map kW).map kV)):=by rw[zl6 hw];exact ha
    obtain⟨kd,x,y,hx,hy,i0,i1,i2,_⟩:=zmh ht;refine⟨_,rfl,_,rfl,p,C_Reading,dx,_,_,rfl,h1,T.zx,T.zbk,zoy _ _ _ _,dt,_,rfl,DGet.t R.t ha',_,rfl,?_⟩;rw[zb0 (fun z=>hn ((zkl R.ties hw).mp z))];refine iteF ⟨_,rfl,p,dx,_,rfl,h1,zbj _ _ _ _ (by decide +kernel),_,rfl,a,_,_,_,rfl,rfl,SqT.of ha,i1,_,rfl,p,du,dt,df,st,x,r,rfl,R,hx,?_⟩;refine⟨_,rfl,p,dx,_,rfl,h1,zbj _ _ _ _ (by decide +kernel),_,rfl,a,_,_,_,rfl,rfl,SqT.of ha,i2,_,rfl,p,du,dt,df,st,y,r,rfl,R,hy,?_⟩;refine⟨_,rfl,p,C_Reading,dx,_,_,rfl,h1,T.zx,T.zbk,zoy _ _ _ _,_,rfl,dt,_,rfl,DPut.t R.t ha' ?_,?_⟩
    · unfold dTi;rw[List.length_map];exact zkv hl
    · exact k _ (zu4 R hw hn) fun b o e b1 b2 b3 b4=>by rw[zv b3];exact e
theorem zf4 (T:Tx K mg w C_Reading zq zk zo ze zb zf zd zg):HasM P w K mg base C_Reading "take_tie" ["self","tie","row"] 4 (znx (C_Reading:=C_Reading)):=(zct T).m
def zkx:Sp:=fun vs H Q _=>∃(p du dt df a:Addr) (s:RS) (ws:List V) (r:V),vs = [.ref p,.ref a,r]/\ReadAt C_Reading H p du dt df s/\H a=some (.tup ws)/\FindOk s.us s.fs ws/\(∀f∈s.fs,∃x r,f=V.str x::r)/\s.fs.length<=1000/\
  ∀H',ReadAt C_Reading H' p du dt df ⟨s.fr,s.us,s.ts,s.fs++[ws]⟩->Keep4 H H' p du dt df->Q .non H'
theorem zci (T:Tx K mg w C_Reading zq zk zo ze zb zf zd zg):HasML P w K mg base CX0 C_Reading "take_find" ["self","find","row"] 4 (zkx (C_Reading:=C_Reading)):=by
  refine T.zcv.hasL0 zce (fun vs H Q E h=>?_) (fun f cdv A outer s H vs Q E hr h=>?_)
  · obtain⟨p,du,dt,df,a,st,ws,r,rfl,_⟩:=h;rfl
  · obtain⟨p,du,dt,df,a,st,ws,r,rfl,R,ha,ht,hfs,hl,k⟩:=h;have hu:=zli hr;refine⟨_,(zj (zal (zcx (zje hu (zae (zag K rfl) (pv 1) zn (fun _ _=>rfl)) (zbn (pv 0) rfl))) (zp zbq) zz)
      (zj (zat (zg3 (zbs T) T.zx (hr.mono (by decide)) (pv 0) (za (zae (zag K rfl) (pv 1) zn (fun _ _=>rfl)) (za (pv 2) zi))))
      (zp (zgn hu (zbn (pv 0) rfl) (zae (zag K rfl) (pv 1) zn (fun _ _=>rfl)) (pv 1) rfl)))),?_⟩
    obtain⟨dx,fv,h1,h2⟩:=R.ob;obtain⟨af,htf,hf⟩:=R.f;cases ht with
    | mk hn hx hlo y1 y2 hfr=>
      rename_i nm x lo hi;obtain⟨e1,e2⟩:=zsm (p:=a) (ws:=[.str nm,.str x,.int lo,.int hi]) htf.len hfr ⟨_,rfl⟩ hfs;refine⟨_,rfl,a,_,_,_,rfl,rfl,SqT.of ha,rfl,_,rfl,p,C_Reading,dx,_,_,rfl,h1,T.zx,T.zbe,zoz _ _ _ _,df,_,rfl,DGet.k (k:=Sum.inr nm) hf,_,rfl,?_⟩;rw[e1];refine iteF ⟨_,rfl,p,dx,_,rfl,h1,zbj _ _ _ _ (by decide +kernel),_,rfl,a,_,_,_,rfl,rfl,SqT.of ha,rfl,_,rfl,p,du,dt,df,st,x,r,rfl,R,hx,?_⟩;refine⟨_,rfl,_,rfl,p,C_Reading,dx,_,_,rfl,h1,T.zx,T.zbe,zoz _ _ _ _,_,rfl,a,_,_,_,rfl,rfl,SqT.of ha,rfl,df,_,rfl,DPut.k (k:=Sum.inr nm) hf ?_,?_⟩
      · unfold dF;rw[List.length_zip,List.length_map];exact zkv (Nat.le_trans (Nat.min_le_left _ _) hl)
      · have st':∀b xs,H b=some (.tup xs)->upd H df (.dK (putK (dF st.fs af) (Sum.inr nm:Key) (.ref a))) b=some (.tup xs):=fun b xs e=>by
          rw[zv (zek e hf (by intro z;cases z))];exact e
        refine k _ ⟨⟨dx,fv,?_,h2.stay st'⟩,?_,?_,⟨af++[a],(htf.stay st').snoc (st' _ _ ha),?_⟩,R.nu,R.names,R.ties⟩ fun b o e b1 b2 b3 b4=>by rw[zv b4];exact e
        · rw[zv (zek h1 hf (by intro z;cases z))];exact h1
        · rw[zv R.nu];exact R.u
        · rw[zv (zek R.t hf (by intro z;cases z))];exact R.t
        · rw[zc,e2]
theorem zfd (T:Tx K mg w C_Reading zq zk zo ze zb zf zd zg):HasM P w K mg base C_Reading "take_find" ["self","find","row"] 4 (zkx (C_Reading:=C_Reading)):=(zci T).m
def FsOk (s:RS):Prop:=(∀f∈s.fs,∃x r,f=V.str x::r)/\s.us.length<=1000/\s.ts.length<=1000/\s.fs.length<=1000
def zih:Sp:=fun vs H Q _=>∃(p du dt df a:Addr) (s s':RS) (ws:List V) (r:V),vs = [.ref p,.ref a,r]/\ReadAt C_Reading H p du dt df s/\H a=some (.tup ws)/\StepOk s ws s'/\FsOk s/\
  ∀H',ReadAt C_Reading H' p du dt df s'->Keep4 H H' p du dt df->Q .non H'
theorem zii {a b:String}(h:(Str.ofString a:Str)=Str.ofString b):decide (V.str (Str.ofString a)=V.str (Str.ofString b))=true:=decide_eq_true (congrArg V.str h)
theorem cut1 {x:V}{xs:List V}:¬(HT.sIx (x::xs).length 0 (some 1)=0/\HT.sIx (x::xs).length (x::xs).length none=(x::xs).length):=by
  rintro ⟨z,_⟩;unfold HT.sIx at z;simp at z
set_option maxHeartbeats 1000000 in
theorem zb8 (T:Tx K mg w C_Reading zq zk zo ze zb zf zd zg):HasML P w K mg base CX0 C_Reading "take_entry" ["self","entry","row"] 5 (zih (C_Reading:=C_Reading)):=by
  refine T.zck.hasL0 zb7 (fun vs H Q E h=>?_) (fun f cdv A outer s H vs Q E hr h=>?_)
  · obtain⟨p,du,dt,df,a,st,st',ws,r,rfl,_⟩:=h;rfl
  · obtain⟨p,du,dt,df,a,st,st',ws,r,rfl,R,ha,ht,hfs,k⟩:=h;refine⟨_,(zp (zal (zy zbv (zae (zag K rfl) (pv 1) zn (fun _ _=>rfl)) zw (zaf _)) (zp (zjc (pv 0) (zaq (zkd K rfl) (pv 1) (zaw zn) za3) rfl)) (zp (zal (zy zbv (zae (zag K rfl) (pv 1) zn (fun _ _=>rfl)) zw (zaf _)) (zp (zat (zg3 (zfc T) T.zx (hr.mono (by decide)) (pv 0) (za (zae (zag K rfl) (pv 1) zn (fun _ _=>rfl)) (za (pv 2) zi))))) (zp (zal (zy zbv (zae (zag K rfl) (pv 1) zn (fun _ _=>rfl)) zw (zaf _)) (zp (zat (zg3 (zfd T) T.zx (hr.mono (by decide)) (pv 0) (za (zaq (zkd K rfl) (pv 1) (zaw zn) za3) (za (pv 2) zi))))) (zp (zat (zg3 (zf4 T) T.zx (hr.mono (by decide)) (pv 0) (za (pv 1) (za (pv 2) zi))))))))))),?_⟩;obtain⟨dx,fv,h1,h2⟩:=R.ob;cases ht with
    | dig hl y1 y2=>
      rename_i us0 ts0 fs0 lo hi;refine⟨_,rfl,a,_,_,_,rfl,rfl,SqT.of ha,rfl,rfl,_,rfl,?_⟩;rw[zii rfl];refine iteT ⟨_,rfl,_,rfl,a,_,rfl,SqT.of ha,cut1,fun q hq=>?_⟩;rw[zby];have s1:=Same.new (o:=.tup [V.int lo,V.int hi]) hq;refine⟨_,rfl,p,C_Reading,dx,_,rfl,s1 _ _ h1,T.zx,T.za4,(by show 4<1000;decide),?_⟩;have R1:=R.same s1;have st'':∀b xs o,upd H q (.tup [V.int lo,V.int hi]) b=some (.tup xs)->upd (upd H q (.tup [V.int lo,V.int hi])) p (.ins C_Reading dx o) b=some (.tup xs):=fun b xs o e=>by
        rw[zv (zek e (s1 _ _ h1) (by intro z;cases z))];exact e
      obtain⟨af,htf,hf⟩:=R1.f;refine k _ ⟨⟨dx,.ref q,?_,q,rfl,st'' _ _ _ zc⟩,?_,?_,⟨af,htf.stay fun b xs e=>st'' b xs _ e,?_⟩,R.nu,R.names,R.ties⟩ fun b o e b1 b2 b3 b4=>?_
      · rw[zc,zp6]
      · rw[zv (zek R1.u (s1 _ _ h1) (by intro z;cases z))];exact R1.u
      · rw[zv (zek R1.t (s1 _ _ h1) (by intro z;cases z))];exact R1.t
      · rw[zv (zek hf (s1 _ _ h1) (by intro z;cases z))];exact hf
      · rw[zv b1];exact s1 _ _ e
    | unit hx hn=>
      refine⟨_,rfl,a,_,_,_,rfl,rfl,SqT.of ha,rfl,rfl,_,rfl,?_⟩;rw[sne (by decide +kernel)];refine iteF ⟨_,rfl,a,_,_,_,rfl,rfl,SqT.of ha,rfl,rfl,_,rfl,?_⟩;rw[zii rfl];exact iteT ⟨_,rfl,p,dx,_,rfl,h1,zbj _ _ _ _ (by decide +kernel),_,rfl,a,_,_,_,rfl,rfl,SqT.of ha,rfl,_,rfl,p,du,dt,df,_,_,r,rfl,R,hx,hn,hfs.2.1,k⟩
    | tie ht hn=>
      obtain⟨kd,x,y,hx,hy,i0,i1,i2,hk⟩:=zmh ht;simp only [List.mem_cons,List.not_mem_nil,or_false,not_or] at hk;refine⟨_,rfl,a,_,_,_,rfl,rfl,SqT.of ha,i0,rfl,_,rfl,?_⟩;rw[decide_eq_false (fun z=>hk.1 (V.str.inj z))];refine iteF ⟨_,rfl,a,_,_,_,rfl,rfl,SqT.of ha,i0,rfl,_,rfl,?_⟩;rw[decide_eq_false (fun z=>hk.2.1 (V.str.inj z))];refine iteF ⟨_,rfl,a,_,_,_,rfl,rfl,SqT.of ha,i0,rfl,_,rfl,?_⟩;rw[decide_eq_false (fun z=>hk.2.2 (V.str.inj z))];exact iteF ⟨_,rfl,p,dx,_,rfl,h1,zbj _ _ _ _ (by decide +kernel),_,rfl,_,rfl,p,du,dt,df,a,_,_,r,rfl,R,ha,ht,hn,hfs.2.2.1,k⟩
    | find hf=>
      refine⟨_,rfl,a,_,_,_,rfl,rfl,SqT.of ha,zbx,rfl,_,rfl,?_⟩;rw[sne (by decide +kernel)];refine iteF ⟨_,rfl,a,_,_,_,rfl,rfl,SqT.of ha,zbx,rfl,_,rfl,?_⟩;rw[sne (by decide +kernel)];refine iteF ⟨_,rfl,a,_,_,_,rfl,rfl,SqT.of ha,zbx,rfl,_,rfl,?_⟩;rw[zii rfl];refine iteT ⟨_,rfl,p,dx,_,rfl,h1,zbj _ _ _ _ (by decide +kernel),_,rfl,_,rfl,a,_,rfl,SqT.of ha,cut1,fun q hq=>?_⟩;rw[zby];rename_i f0 us0 ts0 fs0 ws0;have s1:=Same.new (o:=.tup ws0) hq;exact⟨_,rfl,p,du,dt,df,q,_,ws0,r,rfl,R.same s1,zc,hf,hfs.1,hfs.2.2.2,fun H' R' kp=>k H' R' ((Same.keep4 s1).trans kp)⟩
theorem zem (T:Tx K mg w C_Reading zq zk zo ze zb zf zd zg):HasM P w K mg base C_Reading "take_entry" ["self","entry","row"] 5 (zih (C_Reading:=C_Reading)):=(zb8 T).m
def zij:Sp:=fun vs H Q _=>∃(p du dt df a:Addr) (s s':RS) (ws:List V) (r:V),vs = [.ref p,.ref a,r]/\ReadAt C_Reading H p du dt df s/\SqL K H a (ws.map fun v=>V.str (zab v))/\StepOk s ws s'/\FsOk s/\
  ∀H',ReadAt C_Reading H' p du dt df s'->Keep4 H H' p du dt df->Q .non H'
theorem zqj {s s':RS}{ws:List V}(h:StepOk s ws s'):∃kd r,ws = .str kd::r/\decide (kd=(Str.ofString "dig" : Str))=s.fr.isNone:=by
  cases h with
  | dig hl y1 y2=>exact⟨_,_,rfl,by show decide _=true;decide +kernel⟩
  | unit hx hn=>exact⟨_,_,rfl,by show decide _=false;decide +kernel⟩
  | tie ht hn=>
    cases ht with
    | plain hk hx hy=>
      refine⟨_,_,rfl,?_⟩;unfold zgt at hk;simp only [List.mem_cons,List.not_mem_nil,or_false] at hk;rcases hk with rfl | rfl | rfl | rfl<;>(show decide _=false;decide +kernel)
    | after hx hy h0 h1=>exact⟨_,_,rfl,by show decide _=false;decide +kernel⟩
  | find hf=>exact⟨_,_,rfl,by show decide _=false;decide +kernel⟩
theorem zb9 (T:Tx K mg w C_Reading zq zk zo ze zb zf zd zg):HasML P w K mg base CX0 C_Reading "take_words" ["self","words","row"] 6 (zij (K:=K) (C_Reading:=C_Reading)):=by
  refine T.zcj.hasL0 zb6 (fun vs H Q E h=>?_) (fun f cdv A outer s H vs Q E hr h=>?_)
  · obtain⟨p,du,dt,df,a,st,st',ws,r,rfl,_⟩:=h;rfl
  · obtain⟨p,du,dt,df,a,st,st',ws,r,rfl,R,ha,ht,hfs,k⟩:=h;refine⟨_,(zj (zal (zy zj3 (zgk zbv (zae (zaa K rfl) (pv 1) zn (fun _ _=>rfl)) zw (zaf _)) (zve (zi8 (zbn (pv 0) rfl))) (zaf _)) (zp zbq) zz)
      (zp (zat (zg3 (zem T) T.zx (hr.mono (by decide)) (pv 0) (za (zar (zg9 T) (hr.mono (by decide)) (by rfl) (za (pv 1) (za (pv 2) zi))) (za (pv 2) zi)))))),?_⟩
    obtain⟨dx,fv,h1,h2⟩:=R.ob;obtain⟨kd,rest,rfl,hd⟩:=zqj ht;have row:=(ht.row R.names).1;refine⟨_,rfl,a,_,_,_,rfl,rfl,ha,zbx,rfl,_,rfl,p,C_Reading,dx,_,_,rfl,h1,T.zx,T.za4,zox _ _ _ _,rfl,_,rfl,?_⟩;have e1:decide (V.str (zab (.str kd))=V.str (Str.ofString "dig"))=decide (kd=(Str.ofString "dig" : Str)):=decide_eq_decide.mpr ⟨fun z=>V.str.inj z,fun z=>congrArg V.str z⟩;have e2:decide (fv = .non)=st.fr.isNone:=by
      cases q:st.fr with
      | none=>rw[q] at h2;rw[show fv=V.non from h2];rfl
      | some f=>
        rw[q] at h2;obtain⟨pp,e,_⟩:=h2;rw[e];rfl
    rw[e1,e2,hd,decide_eq_true rfl];refine iteF ⟨_,rfl,p,dx,_,rfl,h1,zbj _ _ _ _ (by decide +kernel),_,rfl,_,rfl,a,_,r,rfl,ha,row,fun q H1 hq e s1=>?_⟩;exact⟨_,rfl,p,du,dt,df,q,st,st',_,r,rfl,R.same s1,e,ht,hfs,fun H' R' kp=>k H' R' ((Same.keep4 s1).trans kp)⟩
theorem zen (T:Tx K mg w C_Reading zq zk zo ze zb zf zd zg):HasM P w K mg base C_Reading "take_words" ["self","words","row"] 6 (zij (K:=K) (C_Reading:=C_Reading)):=(zb9 T).m
def zqk:Sp:=fun vs H Q _=>∃(p du dt df:Addr) (s:RS) (lo hi:Int),vs = [.ref p]/\ReadAt C_Reading H p du dt df s/\s.fr=some (lo,hi)/\
  ∀(tl pm pu pt pf:Addr) (at' af:List Addr) (H':Hp),H tl=none->H pu=none->H pt=none->H pf=none->H' tl=some (.tup [.ref pm,.ref pu,.ref pt,.ref pf])->H' pm=some (.tup [.int lo,.int hi])->
    H' pu=some (.lst (s.us.map V.str))->H' pt=some (.lst (at'.map V.ref))->Tups H' at' s.ts->H' pf=some (.lst (af.map V.ref))->Tups H' af s.fs->pu≠pt->pu≠pf->pt≠pf->Same H H'->Q (.ref tl) H'
theorem zha {H:Hp}:∀{as:List Addr}{ts:List (List V)},(∀ws∈ts,∀v∈ws,Wd v)->zkj H as (dTi ts)->Tups H as ts
  | [],[],_,_=>.nil
  | a::as,ws::ts,hw,.cons h t=>by
    have h:H a=some (.tup ((ws.map kW).map kV)):=h;rw[zl6 (hw ws (List.mem_cons_self ..))] at h;exact .cons h (zha (fun vs hv=>hw vs (List.mem_cons_of_mem _ hv)) t)
theorem zxk {fs:List (List V)}{af:List Addr}(h:af.length=fs.length):(dF fs af).map (·.2)=af.map V.ref:=by
  unfold dF;rw[List.map_snd_zip (by simp;omega)]
theorem zdc (T:Tx K mg w C_Reading zq zk zo ze zb zf zd zg):HasM P w K mg base C_Reading "telling" ["self"] 1 (zqk (C_Reading:=C_Reading)):=by
  refine T.zgx.has zf0 (fun vs H Q E h=>?_) (fun f cdv A outer s H vs Q E hr h=>?_)
  · obtain⟨p,du,dt,df,st,lo,hi,rfl,_⟩:=h;rfl
  · obtain⟨p,du,dt,df,st,lo,hi,rfl,R,hfr,k⟩:=h;refine⟨_,(zp (zac (za7 (za (zbn (pv 0) rfl) (za (zbb (zlr rfl) (by rfl) T.list PyProof.Rows.boot_list (za (zbn (pv 0) rfl) zi)) (za (zbb (zls rfl) (by rfl) T.list PyProof.Rows.boot_list (za (zbn (pv 0) rfl) zi)) (za (zbb (zlt rfl) (by rfl) T.list PyProof.Rows.boot_list (za (zwo K rfl PySem.F.plainAttrs_dict PySem.F.slot_dict_values PySem.F.type_dict_values zr2 (zbn (pv 0) rfl)) zi)) zi))))))),?_⟩;obtain⟨dx,fv,h1,h2⟩:=R.ob;obtain⟨af,htf,hf⟩:=R.f;rw[hfr] at h2;obtain⟨pm,rfl,hpm⟩:=h2;refine⟨_,rfl,p,C_Reading,dx,_,_,rfl,h1,T.zx,T.za4,zox _ _ _ _,?_⟩;refine⟨_,rfl,p,C_Reading,dx,_,_,rfl,h1,T.zx,T.zav,zjm _ _ _ _,du,_,rfl,R.u,fun pu hpu=>?_⟩;have s1:=Same.new (o:=.lst ((dU st.us).map fun kv=>kV kv.1)) hpu;have e1:upd H pu (.lst ((dU st.us).map fun kv=>kV kv.1)) pu=some (.lst (st.us.map V.str)):=by
      rw[zc];unfold dU;rw[List.map_map];rfl
    generalize upd H pu (.lst ((dU st.us).map fun kv=>kV kv.1))=H1 at s1 e1;refine⟨_,rfl,p,C_Reading,dx,_,_,rfl,s1 _ _ h1,T.zx,T.zbk,zoy _ _ _ _,dt,_,rfl,s1 _ _ R.t,fun pt' as kt hpt=>?_⟩;have tt:=zha R.ties kt;have s2:=Same.new (o:=.lst (as.map V.ref)) hpt;have q2:=s1.trans s2;refine⟨_,rfl,p,C_Reading,dx,_,_,rfl,q2 _ _ h1,T.zx,T.zbe,zoz _ _ _ _,.inr (.inr (.inl ⟨rfl,.inl ⟨_,q2 _ _ hf⟩⟩)),df,_,rfl,rfl,q2 _ _ hf,fun pv hpv=>?_⟩;have s3:=Same.new (o:=vwO pv df) hpv;refine⟨pv,df,_,rfl,zc,s3 _ _ (q2 _ _ hf),fun pf hpf=>?_⟩;rw[zxk htf.len];have s4:=Same.new (o:=.lst (af.map V.ref)) hpf;have q4:=q2.trans (s3.trans s4);refine⟨(by show 4<=sizeLine;decide),fun tl htl=>?_⟩;have s5:=Same.new (o:=.tup [.ref pm,.ref pu,.ref pt',.ref pf]) htl;have g1:=s2 _ _ e1;have g2:upd H1 pt' (.lst (as.map V.ref)) pt'=_:=zc;have n1:pu≠pt':=zr e1 hpt;have n2:pu≠pf:=zr (s3 _ _ g1) hpf;have n3:pt'≠pf:=zr (s3 _ _ g2) hpf;exact k tl pm pu pt' pf as af _ (q4.free htl) hpu (s1.free hpt) ((q2.trans s3).free hpf) zc (s5 _ _ (q4 _ _ hpm)) (s5 _ _ (s4 _ _ (s3 _ _ g1))) (s5 _ _ (s4 _ _ (s3 _ _ g2))) (tt.same (s2.trans (s3.trans (s4.trans s5)))) (s5 _ _ zc) (htf.same (q4.trans s5)) n1 n2 n3 (q4.trans s5)
def zc0 (C:Addr):Sp:=fun vs H Q _=>∃(e:Addr) (n:Nat),vs = [.ref e,.int n]/\H e=some (excO e C none)/\n<1000/\∀d,d≠e->H d=none->Q .non (upd (upd H d (.xd [("row",.int n)])) e (excO e C (some d)))
theorem zu5:∀i:Nat,i<1000->(Str.ofString (toString (i:Int)):Str).length<=3:=fun i hi=>by
  rw[←za8,zgr];exact zr8 (by decide) (by omega)
set_option maxHeartbeats 8000000 in
theorem zej (T:Tx K mg w C_Reading zq zk zo ze zb zf zd zg) {C:Addr}(D:DfM K C "TextError.__init__" "__init__" (zax (top 2) 0) ["self","row"]) (xo:XOk K C) (xc:XCls K C) (na:NoAttr K C "row"):HasM P w K mg base C "__init__" ["self","row"] 1 (zc0 C):=by
  refine D.has zd4 (fun vs H Q E h=>?_) (fun f cdv A outer s H vs Q E hr h=>?_)
  · obtain⟨e,n,rfl,_⟩:=h;rfl
  · obtain⟨e,n,rfl,he,hn,k⟩:=h;refine⟨_,(zj (zat (zus (by rfl) T.zn4 T.zn5 (za (pv 0) (za (zsv (zy9 zw (zza (pv 1) zy8))) zi))))
      (zp (zw3 (pv 0) (pv 1) rfl))),?_⟩
    obtain⟨bm,xo,U⟩:=xo;have hl:=zu5 n hn;have e1:(Str.empty++Str.ofString "refused at line " : Str).length=16:=by decide +kernel
    refine⟨_,rfl,_,rfl,zaj (by rw[e1];decide),_,rfl,_,.inr ⟨_,rfl,Nat.lt_of_le_of_lt (Nat.log2_le_self _) (by omega),rfl⟩,zaj (by exact Nat.le_trans hl (by decide)),?_⟩;have e2:(Str.empty++Str.ofString "refused at line " ++ Str.ofString (toString (n:Int)):Str).length<=19:=by
      rw[←za8,zb5,List.length_append,za8,za8,e1];omega
    refine⟨zaj (by exact Nat.le_trans e2 (by decide)),zaj (by exact Nat.le_trans e2 (by decide)),?_⟩;refine⟨e,C,none,bm,_,rfl,he,xo,U,(by show 1<=sizeLine;decide),?_⟩;refine⟨_,rfl,_,rfl,e,C,rfl,he,xc,na,fun d hd=>?_⟩;exact k d (fun z=>by rw[z,he] at hd;cases hd) hd
theorem za9 (T:Tx K mg w C_Reading zq zk zo ze zb zf zd zg):HasM P w K mg base zo "__init__" ["self","row"] 1 (zc0 zo):=zej T T.zgy T.zde T.ztg T.zgc
theorem zf5 (T:Tx K mg w C_Reading zq zk zo ze zb zf zd zg):HasM P w K mg base ze "__init__" ["self","row"] 1 (zc0 ze):=zej T T.zgd T.zjv T.zqq T.ze2
theorem zeo (T:Tx K mg w C_Reading zq zk zo ze zb zf zd zg):HasM P w K mg base zb "__init__" ["self","row"] 1 (zc0 zb):=zej T T.zeu T.zhc T.zmw T.zdv
theorem zf6 (T:Tx K mg w C_Reading zq zk zo ze zb zf zd zg):HasM P w K mg base zf "__init__" ["self","row"] 1 (zc0 zf):=zej T T.zge T.zjx T.zqt T.ze3
theorem zbt (T:Tx K mg w C_Reading zq zk zo ze zb zf zd zg):HasM P w K mg base zd "__init__" ["self","row"] 1 (zc0 zd):=zej T T.zfg T.zdp T.zn7 T.zd9
theorem zf7 (T:Tx K mg w C_Reading zq zk zo ze zb zf zd zg):HasM P w K mg base zg "__init__" ["self","row"] 1 (zc0 zg):=zej T T.zgf T.zjz T.zqw T.ze4
theorem zu6 {H H':Hp}{e:Addr}(he:H e=none) (s:∀b o,b≠e->H b=some o->H' b=some o):Same H (del H' e):=fun b o h=>by
  have n:=zr h he;unfold del;rw[if_neg n];exact s b o n h
def RowE (C:Addr) (H:Hp) (E:XK) (r:Nat):Prop:=∀d H',Same H H'->H' d=some (.xd [("row",.int r)])->E (.ref C) (some d) H'
theorem RowE.same {C:Addr}{H G:Hp}{E:XK}{r:Nat}(h:RowE C H E r) (s:Same H G):RowE C G E r:=fun d H' s' e=>h d H' (s.trans s') e
theorem zbd {C:Addr}{G H:Hp}{E E1:XK}(r:Nat) (hr:r<1000) (s:Same H G) (k:RowE C H E r):∀e,G e=none->zc0 C [.ref e,.int r] (upd G e (excO e C none)) (fun v H2=>v = .non/\∃dc,H2 e=some (excO e C dc)/\E (.ref C) dc (del H2 e)) E1:=fun o ho=>by
  refine⟨o,r,rfl,zc,hr,fun d nd hd=>⟨rfl,some d,zc,k d _ (s.trans (zu6 ho fun b o' n h=>?_)) ?_⟩⟩
  · rw[zv nd] at hd;rw[zv n,zv (zr h hd),zv n];exact h
  · unfold del;rw[if_neg nd,zv nd,zc]
def zs4 (C:Wrg->Addr):Sp:=fun vs H Q E=>∃(kd x:Str) (r:Nat) (k:Wrg),vs = [.str kd,.str x,.int r]/\x.length<=1000/\r<1000/\BadV kd x k/\RowE (C k) H E r
theorem zmi (T:Tx K mg w C_Reading zq zk zo ze zb zf zd zg):HasX P w K mg base "read_value" ["kind","word","row"] 3 (zs4 (cw6 zo ze zb zf zd zg)):=by
  refine T.zhe.hasX sc_read_value (fun vs H Q E h=>?_) (fun f cdv A outer s H vs Q E hr h=>?_)
  · obtain⟨kd,x,r,kk,rfl,_⟩:=h;rfl
  · obtain⟨kd,x,r,kk,rfl,hx,hr',hv,kE⟩:=h;refine⟨_,(zj (zal (zy zbv (pv 0) zw (zaf _)) (zj (zal (zez (zdr (zar (zme T) (hr.mono (by decide)) (by rfl) (za (pv 1) zi)))) (zp (zbc (zf5 T) T.zjv (hr.mono (by decide)) xeIs_of (by rfl) T.zju (by decide) (za (pv 2) zi))) zz)
        (zp (zac (pv 1)))) zz)
      (zj (zah (i:=3) sc_read_value.nd rfl (Or.inl rfl) (zar (zf1 T) (hr.mono (by decide)) (by rfl) (za (pv 1) zi)))
      (zj (zal (PW.pt (zk4 (zcx (zi8 (pv 3))) (zi9 (PW.pt (zds (zy zbv (pv 0) zw (zaf _)) (zca (zy zq9 (pv 3) zn (zaf _)))))))) (zp (zbc (zeo T) T.zhc (hr.mono (by decide)) xeIs_of (by rfl) T.zhb (by decide) (za (pv 2) zi))) zz)
      (zp (zac (pv 3)))))),?_⟩
    cases hv with
    | name h=>
      refine⟨_,rfl,rfl,_,rfl,?_⟩;rw[decide_eq_true rfl];refine iteT ⟨_,rfl,x,rfl,hx,fun H1 s1=>⟨_,rfl,?_⟩⟩;rw[h];exact iteT ⟨_,rfl,zbd r hr' s1 kE⟩
    | year h=>
      refine⟨_,rfl,rfl,_,rfl,?_⟩;rw[sne (by decide +kernel)];refine iteF ⟨_,rfl,_,rfl,hx,fun H1 s1=>?_⟩;rw[znu h];refine⟨_,rfl,_,rfl,?_⟩;rw[decide_eq_true rfl];exact iteT (iteT ⟨_,rfl,zbd r hr' s1 kE⟩)
    | gap h=>
      refine⟨_,rfl,rfl,_,rfl,?_⟩;rw[sne (by decide +kernel)];refine iteF ⟨_,rfl,_,rfl,hx,fun H1 s1=>?_⟩;rw[znu h];refine⟨_,rfl,_,rfl,?_⟩;rw[decide_eq_true rfl];exact iteT (iteT ⟨_,rfl,zbd r hr' s1 kE⟩)
    | neg h n=>
      refine⟨_,rfl,rfl,_,rfl,?_⟩;rw[sne (by decide +kernel)];refine iteF ⟨_,rfl,_,rfl,hx,fun H1 s1=>?_⟩;rw[zhm h];refine⟨_,rfl,_,rfl,?_⟩;rw[decide_eq_false (fun z=>nomatch z)];refine iteF ⟨_,rfl,rfl,_,rfl,?_⟩;rw[decide_eq_true rfl];refine iteT ⟨_,rfl,_,_,rfl,rfl,_,rfl,?_⟩;rw[decide_eq_true n];exact iteT ⟨_,rfl,zbd r hr' s1 kE⟩
theorem zmj (T:Tx K mg w C_Reading zq zk zo ze zb zf zd zg):HasX P w K mg base "read_value" ["kind","word","row"] 3 (fun vs H Q E=>zo4 vs H Q E\/zs4 (cw6 zo ze zb zf zd zg) vs H Q E):=(zg8 T).x.or (zmi T)
inductive BadF (ks:List Str):List Str->Wrg->Prop where
  | len {r:List Str}(h:r.length≠ks.length):BadF ks r .row
  | val {j:Nat}{kd x:Str}{k:Wrg}{r:List Str}(hl:r.length=ks.length) (hg:∀i,i<j->∃kd v,ks[i]? = some kd/\r[i]? = some (zab v)/\ValOk kd v) (hk:ks[j]? = some kd) (hx:r[j]? = some x) (hb:BadV kd x k):BadF ks r k
  | span {kp:List Str}{pre:List V}{lo hi:Int}(ek:ks=kp++([Str.ofString "year",Str.ofString "year"]:List Str)) (hv:Paired ValOk ks (pre++[.int lo,.int hi])) (h:hi<lo):BadF ks ((pre++[V.int lo,V.int hi]).map zab) .span
def zs5 (C:Wrg->Addr):Sp:=fun vs H Q E=>∃(ad a:Addr) (kd:Str) (ks rs:List Str) (r:Nat) (k:Wrg),vs = [.ref ad,.ref a,.int r]/\(∀H',SqT K H' ad (ks.map V.str))/\SqL K H a ((kd::rs).map V.str)/\(kd,ks.map V.str)∈l_FORMS/\rs.length<=900/\(∀x∈rs,x.length<=1000)/\r<1000/\BadF ks rs k/\RowE (C k) H E r
theorem zql (xs:List V) (u v:V):cutV (xs++[u,v]) (some (-2)) none = [u,v]:=by
  unfold cutV HT.sIx;dsimp only;rw[if_pos (by decide),List.length_append];rw[show ((-2:Int)+((xs.length + [u,v].length:Nat):Int)).toNat=xs.length by simp;omega,List.drop_left];simp
set_option maxHeartbeats 4000000 in
theorem zny (T:Tx K mg w C_Reading zq zk zo ze zb zf zd zg):HasX P w K mg base "read_form" ["form","words","row"] 4 (zs5 (K:=K) (cw6 zo ze zb zf zd zg)):=by
  refine T.ziq.hasX sc_read_form (fun vs H Q E h=>?_) (fun f cdv A outer s H vs Q E hr h=>?_)
  · obtain⟨ad,a,kd,ks,us,r,k,rfl,_⟩:=h;rfl
  · obtain⟨ad,a,kd,ks,rs,r,kk,rfl,kt,ha,hf,hn,hx,hr',hb,kE⟩:=h;refine⟨_,(zj (zal (zy zj3 (za5 (zau K rfl) (by rfl) T.len boot_len (za (pv 1) zi)) (zai zdz (za5 (zau K rfl) (by rfl) T.len boot_len (za (pv 0) zi)) zn) (zaf _)) (zp (zbc (za9 T) T.zde (hr.mono (by decide)) xeIs_of (by rfl) T.zdd (by decide) (za (pv 2) zi))) zz)
      (zj (zux (i:=3) (own:=["kind","word"]) (cap:=["row"]) (ix:=[2]) (osc:=zm (top 25)) xeIs_of rfl sc_read_form.nd rfl rfl rfl ⟨rfl,by decide +kernel,by decide +kernel,by decide +kernel,by decide +kernel⟩ rfl (zr6 K rfl true false (by rfl) T.zip (za (pv 0) (za (zaq (zba K rfl) (pv 1) (zaw zn) za3) zi))) (fun _ _ _ _=>zgp (n:=2) K rfl rfl (zbr (zas (i:=0) (show List.Nodup (["kind","word","row"]:List Str) by decide +kernel) rfl (Or.inl rfl)) (zbr (zas (i:=1) (show List.Nodup (["kind","word","row"]:List Str) by decide +kernel) rfl (Or.inl rfl)) zgj))) (fun _ _ _ _=>zcp) (fun _ _ _ _ _ pas_=>(zzd (zmj T) pas_ (hr.mono (by decide)) (by rfl) (za (pv 0) (za (pv 1) (za (pv 2) zi))))))
      (zj (zal (PW.pt (zds (zy (zke K rfl (hu10 hr)) (zaq (zsu (K:=K) rfl) (pv 0) (zaw (zj2 zfp zn)) za3) (za7 (za zw (za zw zi))) (zaf _)) (zca (zy ztr (zae (zaa K rfl) (pv 3) (zj2 zfp zn) (fun _ _=>rfl)) (zae (zaa K rfl) (pv 3) (zj2 zfp zn) (fun _ _=>rfl)) (zaf _))))) (zp (zbc (zf6 T) T.zjx (hr.mono (by decide)) xeIs_of (by rfl) T.zjw (by decide) (za (pv 2) zi))) zz)
      (zp (zac (zai (zhj K rfl) (za7 (za (zae (zaa K rfl) (pv 1) zn (fun _ _=>rfl)) zi)) (zbb (zbg K rfl) (by rfl) T.tuple PyProof.Rows.boot_tuple (za (pv 3) zi)))))))),?_⟩
    have h4:=zmg _ hf;have h4:ks.length<=4:=by simpa using h4
    have hsh:∀x∈ks,x.length<=100:=fun x hx=>zif _ hf (.str x) (List.mem_map.mpr ⟨x,hx,rfl⟩) x rfl
    refine⟨_,rfl,a,_,rfl,.inl ha,_,rfl,ad,_,rfl,.inr (kt H),_,_,rfl,rfl,rfl,_,rfl,?_⟩
    by_cases hl:rs.length=ks.length
    rotate_left
    · have ek:kk = .row:=by
        cases hb with
        | len h=>rfl
        | val hl' _ _ _ _=>exact absurd hl' hl
        | span ek hv h=>
          have:=Paired.length hv;rw[List.length_map] at hl;exact absurd this.symm hl
      subst ek;rw[decide_eq_false (fun z=>by
        simp only [List.length_map,List.length_cons] at z;injection z with z
        omega)]
      exact iteT ⟨_,rfl,zbd r hr' (Same.refl _) kE⟩
    rw[decide_eq_true (by simp only [List.length_map,List.length_cons];congr 1;omega)];refine iteF ?_;refine⟨_,rfl,_,rfl,_,rfl,a,_,rfl,ha,fun p hp=>?_⟩;have s1:=Same.new (o:=.lst (cutV ((kd::rs).map V.str) (some 1) none)) hp;have e1:upd H p (.lst (cutV ((kd::rs).map V.str) (some 1) none)) p=some (.lst (rs.map V.str)):=by rw[zc,List.map_cons,zby]
    generalize upd H p (.lst (cutV ((kd::rs).map V.str) (some 1) none))=H1 at s1 e1;refine⟨ad,p,_,_,rfl,kt H1,SqL.of e1,fun D hD=>?_⟩;cases hb with
    | len h=>exact absurd hl h
    | val hl' hg hk hx' hb=>
      rename_i j kj xj;have hj:j<ks.length:=(List.getElem?_eq_some_iff.mp hk).1;refine zmc (xs:=ks.map V.str) (ys:=rs.map V.str) hD (fun H' s=>kt H') (fun H' s=>s.seq (SqL.of e1)) (by simp only [List.length_map];omega) (zaj (by rw[List.length_map];omega)) j (by rw[List.length_map];exact hj) (fun i x y hi ex ey H' Q' s hQ=>?_) (fun x y ex ey H' Q' s=>?_)
      · obtain⟨ki,v,g1,g2,hv⟩:=hg i hi;rw[List.getElem?_map,g1] at ex;rw[List.getElem?_map,g2] at ey;cases ex;cases ey;exact⟨_,rfl,_,rfl,_,rfl,.inl ⟨ki,v,_,rfl,hv,fun H'' s''=>hQ _ _ s''⟩⟩
      · rw[List.getElem?_map,hk] at ex;rw[List.getElem?_map,hx'] at ey;cases ex;cases ey;exact⟨_,rfl,_,rfl,_,rfl,.inr ⟨kj,xj,r,kk,rfl,hx _ (List.mem_of_getElem? hx'),hr',hb,kE.same (s1.trans s)⟩⟩
    | span ek hv h=>
      rename_i kp pre lo hi;have ey0:((pre++[V.int lo,V.int hi]).map zab).map V.str=(pre++[V.int lo,V.int hi]).map fun v=>V.str (zab v):=by rw[List.map_map];rfl
      rw[ey0] at e1;refine zon (xs:=ks.map V.str) (ys:=(pre++[V.int lo,V.int hi]).map fun v=>V.str (zab v)) valF hD (fun H' s=>kt H') (fun H' s=>s.seq (SqL.of e1)) (by rw[List.length_map,List.length_map,Paired.length hv]) (zaj (by rw[List.length_map];omega)) (fun i x y ex ey H' Q' s hQ=>?_) (fun H2 s2 hD2=>?_)
      · rw[List.getElem?_map] at ex ey;cases ek':ks[i]? with
        | none=>rw[ek'] at ex;cases ex
        | some kd'=>
          obtain⟨v,ev,hkv⟩:=Paired.get' hv ek';rw[ek'] at ex;rw[ev] at ey;cases ex;cases ey;rw[zs2 hkv] at hQ;exact⟨_,rfl,_,rfl,_,rfl,.inl ⟨kd',v,_,rfl,hkv,hQ⟩⟩
      rw[znv hv] at hD2;have q2:=s1.trans s2;dsimp only [za0];have yr:(Str.ofString "year" : Str).length<=100:=by decide +kernel
      have wy:∀v∈[V.str "year",V.str "year"],Wd v:=fun v hv=>by
        simp at hv;subst hv;exact .inl ⟨_,rfl,yr⟩
      have fin:∀(t:Addr) (H4:Hp),Same H2 H4->SqT K H4 t [V.str "year",V.str "year"]->∀p2,H4 p2=none->DEq K (upd H4 p2 (.tup [.str "year",.str "year"])) 8 (.ref t) (.ref p2) true:=by
        intro t H4 s4 ht p2 hp2;have:=DEq.flatT (n:=7) ((Same.new (o:=.tup [.str "year",.str "year"]) hp2).tup ht) (SqT.of zc) (fun x hx=>(wy x hx).flat) (fun x hx=>(wy x hx).flat);rw[zfs (fun x hx=>(wy x hx).flat)] at this;exact this
      have ekv:ks.map V.str=kp.map V.str++[V.str "year",V.str "year"]:=by rw[ek,List.map_append];rfl
      refine⟨_,rfl,_,rfl,_,rfl,ad,_,rfl,kt H2,fun hw=>?W,fun hw p9 hp9=>?C⟩
      case' W=>
        have e0:ks.map V.str = [V.str "year",V.str "year"]:=by
          have h0:=hw.1;rw[ekv] at h0 ⊢;unfold HT.sIx at h0;dsimp only at h0;rw[if_pos (by decide),List.length_append] at h0;have:(kp.map V.str).length=0:=by simp only [List.length_cons,List.length_nil] at h0;omega
          rw[List.length_eq_zero_iff.mp this];rfl
        obtain⟨t,et⟩:∃t,t=ad:=⟨_,rfl⟩;obtain⟨H4,eH⟩:∃H4,H4=H2:=⟨_,rfl⟩;have s4:Same H2 H4:=by rw[eH];exact (Same.refl _)
        have hd4:=s4 _ _ hD2;have fin:=fin t H4 s4 (by rw[et,←e0];exact kt H4);rw[←eH,←et]
      case' C=>
        rw[show cutV (ks.map V.str) (some (-2)) none = [V.str "year",V.str "year"] by rw[ekv];exact zql _ _ _] at *;have s4:Same H2 (upd H2 p9 (.tup [V.str "year",V.str "year"])):=Same.new hp9;have e4:upd H2 p9 (.tup [V.str "year",V.str "year"]) p9=some (.tup [V.str "year",V.str "year"]):=zc;obtain⟨t,et⟩:∃t,t=p9:=⟨_,rfl⟩;rw[←et];rw[←et] at e4 s4;generalize upd H2 t (.tup [V.str "year",V.str "year"])=H4 at s4 e4;have hd4:=s4 _ _ hD2;have fin:=fin t H4 s4 (SqT.of e4)
      all_goals
        refine⟨(by show 2<=sizeLine;decide),fun p2 hp2=>?_⟩;have hb:=fin p2 hp2;have t5:=Same.new (o:=.tup [.str "year",.str "year"]) hp2;refine⟨t,p2,true,rfl,rfl,hb,_,rfl,iteT ?_⟩;have hd5:=t5 _ _ hd4;refine⟨_,rfl,_,rfl,D,_,_,_,rfl,rfl,SqL.of hd5,zl4 _ _ _,_,rfl,_,rfl,D,_,_,_,rfl,rfl,SqL.of hd5,zl5 _ _ _,_,_,rfl,rfl,_,rfl,?_⟩;rw[decide_eq_true (by omega)];exact iteT ⟨_,rfl,zbd r hr' (q2.trans (s4.trans t5)) kE⟩
theorem znz (T:Tx K mg w C_Reading zq zk zo ze zb zf zd zg):HasX P w K mg base "read_form" ["form","words","row"] 4 (fun vs H Q E=>zs3 (K:=K) vs H Q E\/zs5 (K:=K) (cw6 zo ze zb zf zd zg) vs H Q E):=(zig T).x.or (zny T)
inductive BadW:List Str->Wrg->Prop where
  | first {x:Str}{r:List Str}(h:x ∉ l_FORMS.map (·.1)):BadW (x::r) .row
  | form {kd:Str}{ks r:List Str}{k:Wrg}(hf:(kd,ks.map V.str)∈l_FORMS) (h:BadF ks r k):BadW (kd::r) k
def zs6 (C:Wrg->Addr):Sp:=fun vs H Q E=>∃(a:Addr) (wl:List Str) (r:Nat) (k:Wrg),vs = [.ref a,.int r]/\SqL K H a (wl.map V.str)/\wl.length<=900/\(∀x∈wl,x.length<=1000)/\r<1000/\BadW wl k/\RowE (C k) H E r
theorem zmk (T:Tx K mg w C_Reading zq zk zo ze zb zf zd zg):HasX P w K mg base "read_entry" ["words","row"] 5 (zs6 (K:=K) (cw6 zo ze zb zf zd zg)):=by
  refine T.zhd.hasX zfz (fun vs H Q E h=>?_) (fun f cdv A outer s H vs Q E hr h=>?_)
  · obtain⟨a,wl,r,k,rfl,_⟩:=h;rfl
  · obtain⟨a,wl,r,kk,rfl,ha,hn,hx,hr',hb,kE⟩:=h;obtain⟨a_FORMS,m_FORMS,k_FORMS⟩:=T.ztk;refine⟨_,(zj (zal (zcx (zlv k_FORMS (by rfl) m_FORMS (zae (zaa K rfl) (pv 0) zn (fun _ _=>rfl)))) (zp (zbc (za9 T) T.zde (hr.mono (by decide)) xeIs_of (by rfl) T.zdd (by decide) (za (pv 1) zi))) zz)
      (zp (zac (zvs (znz T) xeIs_of (hr.mono (by decide)) (by rfl) (za (zr3 k_FORMS (by rfl) m_FORMS (zae (zaa K rfl) (pv 0) zn (fun _ _=>rfl)) (fun _ _=>rfl)) (za (pv 0) (za (pv 1) zi))))))),?_⟩
    cases hb with
    | first h=>
      refine⟨_,rfl,a,_,_,_,rfl,rfl,ha,zbx,_,rfl,_,rfl,?_⟩;rw[decide_eq_false h];exact iteT ⟨_,rfl,zbd r hr' (Same.refl _) kE⟩
    | form hf h=>
      rename_i kd ks rs;refine⟨_,rfl,a,_,_,_,rfl,rfl,ha,zbx,kd,rfl,_,rfl,?_⟩;rw[zo5 hf];refine iteF ?_;refine⟨_,rfl,a,_,_,_,rfl,rfl,ha,zbx,kd,_,rfl,hf,fun ad kt=>?_⟩;exact⟨_,rfl,_,rfl,.inr ⟨ad,a,kd,ks,rs,r,kk,rfl,fun H'=>kt.sq H',ha,hf,by simp at hn;omega,fun x h=>hx x (List.mem_cons_of_mem _ h),hr',h,kE⟩⟩
theorem zml (T:Tx K mg w C_Reading zq zk zo ze zb zf zd zg):HasX P w K mg base "read_entry" ["words","row"] 5 (fun vs H Q E=>zo6 (K:=K) vs H Q E\/zs6 (K:=K) (cw6 zo ze zb zf zd zg) vs H Q E):=(zg9 T).x.or (zmk T)
def zo7 (C:Wrg->Addr):Sp:=fun vs H Q E=>∃(p du dt df:Addr) (s:RS) (x:Str) (r:Nat),vs = [.ref p,.str x,.int r]/\ReadAt C_Reading H p du dt df s/\x ∉ s.us/\r<1000/\RowE (C .unit) H E r
theorem zep (T:Tx K mg w C_Reading zq zk zo ze zb zf zd zg):HasML P w K mg base (CX1 P w) C_Reading "need_unit" ["self","name","row"] 3 (zo7 (C_Reading:=C_Reading) (cw6 zo ze zb zf zd zg)):=by
  refine T.zcw.hasL zcf (fun vs H Q E h=>?_) (fun f cdv A outer s H vs Q E hr h=>?_)
  · obtain⟨p,du,dt,df,st,x,r,rfl,_⟩:=h;rfl
  · obtain⟨p,du,dt,df,st,x,r,rfl,R,hx,hr',kE⟩:=h;have hu:=zli hr;refine⟨_,(zp (zal (zcx (zlh hu (pv 1) (zbn (pv 0) rfl))) (zp (zbc (zf7 T) T.zjz (hr.mono (by decide)) xeIs_of (by rfl) T.zjy (by decide) (za (pv 2) zi))) zz)),?_⟩;obtain⟨dx,fv,h1,_⟩:=R.ob;refine⟨_,rfl,_,rfl,p,C_Reading,dx,_,_,rfl,h1,T.zx,T.zav,zjm _ _ _ _,du,_,rfl,DGet.k (k:=Sum.inr x) R.u,_,rfl,?_⟩;rw[zb0 (fun z=>hx (dU_mem.mp z))];exact iteT ⟨_,rfl,zbd r hr' (Same.refl _) kE⟩
theorem zbo (T:Tx K mg w C_Reading zq zk zo ze zb zf zd zg):zl7 P w K mg base C_Reading "need_unit" ["self","name","row"] 3 (fun vs H Q E=>znw (C_Reading:=C_Reading) vs H Q E\/zo7 (C_Reading:=C_Reading) (cw6 zo ze zb zf zd zg) vs H Q E):=((zcg T).x.or (zep T)).mx
def zmm (C:Wrg->Addr):Sp:=fun vs H Q E=>∃(p du dt df:Addr) (s:RS) (x:Str) (r:Nat),vs = [.ref p,.str x,.int r]/\ReadAt C_Reading H p du dt df s/\x∈s.us/\r<1000/\RowE (C .twice) H E r
theorem zeq (T:Tx K mg w C_Reading zq zk zo ze zb zf zd zg):HasML P w K mg base (CX1 P w) C_Reading "take_unit" ["self","name","row"] 3 (zmm (C_Reading:=C_Reading) (cw6 zo ze zb zf zd zg)):=by
  refine T.zcu.hasL zcd (fun vs H Q E h=>?_) (fun f cdv A outer s H vs Q E hr h=>?_)
  · obtain⟨p,du,dt,df,st,x,r,rfl,_⟩:=h;rfl
  · obtain⟨p,du,dt,df,st,x,r,rfl,R,hx,hr',kE⟩:=h;have hu:=zli hr;refine⟨_,(zj (zal (zcx (zje hu (pv 1) (zbn (pv 0) rfl))) (zp (zbc (zbt T) T.zdp (hr.mono (by decide)) xeIs_of (by rfl) T.zdo (by decide) (za (pv 2) zi))) zz)
      (zp (zgn hu (zbn (pv 0) rfl) (pv 1) zho rfl))),?_⟩
    obtain⟨dx,fv,h1,_⟩:=R.ob;refine⟨_,rfl,_,rfl,p,C_Reading,dx,_,_,rfl,h1,T.zx,T.zav,zjm _ _ _ _,du,_,rfl,DGet.k (k:=Sum.inr x) R.u,_,rfl,?_⟩;rw[zei (dU_mem.mpr hx)];exact iteT ⟨_,rfl,zbd r hr' (Same.refl _) kE⟩
theorem zer (T:Tx K mg w C_Reading zq zk zo ze zb zf zd zg):zl7 P w K mg base C_Reading "take_unit" ["self","name","row"] 3 (fun vs H Q E=>zkw (C_Reading:=C_Reading) vs H Q E\/zmm (C_Reading:=C_Reading) (cw6 zo ze zb zf zd zg) vs H Q E):=((zch T).x.or (zeq T)).mx
def zo8 (C:Wrg->Addr):Sp:=fun vs H Q E=>∃(p du dt df a:Addr) (s:RS) (ws:List V) (kd x y:Str) (q:List V) (r:Nat) (k:Wrg),vs = [.ref p,.ref a,.int r]/\ReadAt C_Reading H p du dt df s/\H a=some (.tup ws)/\ws = .str kd :: .str x :: .str y::q/\(∀v∈ws,Wd v)/\((ws∈s.ts/\k = .twice)\/(ws ∉ s.ts/\(x ∉ s.us\/y ∉ s.us)/\k = .unit))/\r<1000/\RowE (C k) H E r
theorem zfe (T:Tx K mg w C_Reading zq zk zo ze zb zf zd zg):HasML P w K mg base (CX1 P w) C_Reading "take_tie" ["self","tie","row"] 4 (zo8 (C_Reading:=C_Reading) (cw6 zo ze zb zf zd zg)):=by
  refine T.zc3.hasL zcs (fun vs H Q E h=>?_) (fun f cdv A outer s H vs Q E hr h=>?_)
  · obtain⟨p,du,dt,df,a,st,ws,kd,x,y,q,r,k,rfl,_⟩:=h;rfl
  · obtain⟨p,du,dt,df,a,st,ws,kd,x,y,q,r,kk,rfl,R,ha,ew,hw,hb,hr',kE⟩:=h;have hu:=zli hr;refine⟨_,(zj (zal (zcx (zje hu (pv 1) (zbn (pv 0) rfl))) (zp (zbc (zbt T) T.zdp (hr.mono (by decide)) xeIs_of (by rfl) T.zdo (by decide) (za (pv 2) zi))) zz)
      (zj (zat (zd2 (zbo T) xeIs_of T.zx (hr.mono (by decide)) (pv 0) (za (zae (zag K rfl) (pv 1) zn (fun _ _=>rfl)) (za (pv 2) zi))))
      (zj (zat (zd2 (zbo T) xeIs_of T.zx (hr.mono (by decide)) (pv 0) (za (zae (zag K rfl) (pv 1) zn (fun _ _=>rfl)) (za (pv 2) zi))))
      (zp (zgn hu (zbn (pv 0) rfl) (pv 1) zho rfl))))),?_⟩
    obtain⟨dx,fv,h1,_⟩:=R.ob;have ha':H a=some (.tup ((ws.map kW).map kV)):=by rw[zl6 hw];exact ha
    have i1:atI ws 1=some (.str x):=by rw[ew];exact zan (j:=1) rfl
    have i2:atI ws 2=some (.str y):=by rw[ew];exact zan (j:=2) rfl
    refine⟨_,rfl,_,rfl,p,C_Reading,dx,_,_,rfl,h1,T.zx,T.zbk,zoy _ _ _ _,dt,_,rfl,DGet.t R.t ha',_,rfl,?_⟩;rcases hb with ⟨hm,rfl⟩ | ⟨hm,hu,rfl⟩
    · rw[zei ((zkl R.ties hw).mpr hm)];exact iteT ⟨_,rfl,zbd r hr' (Same.refl _) kE⟩
    · rw[zb0 (fun z=>hm ((zkl R.ties hw).mp z))];refine iteF ⟨_,rfl,p,dx,_,rfl,h1,zbj _ _ _ _ (by decide +kernel),_,rfl,a,_,_,_,rfl,rfl,SqT.of ha,i1,_,rfl,?_⟩
      by_cases c:x∈st.us
      · refine .inl ⟨p,du,dt,df,st,x,_,rfl,R,c,?_⟩;refine⟨_,rfl,p,dx,_,rfl,h1,zbj _ _ _ _ (by decide +kernel),_,rfl,a,_,_,_,rfl,rfl,SqT.of ha,i2,_,rfl,?_⟩;exact .inr ⟨p,du,dt,df,st,y,r,rfl,R,hu.elim (fun z=>absurd c z) id,hr',kE⟩
      · exact .inr ⟨p,du,dt,df,st,x,r,rfl,R,c,hr',kE⟩
theorem zff (T:Tx K mg w C_Reading zq zk zo ze zb zf zd zg):zl7 P w K mg base C_Reading "take_tie" ["self","tie","row"] 4 (fun vs H Q E=>znx (C_Reading:=C_Reading) vs H Q E\/zo8 (C_Reading:=C_Reading) (cw6 zo ze zb zf zd zg) vs H Q E):=((zct T).x.or (zfe T)).mx
def zmn (C:Wrg->Addr):Sp:=fun vs H Q E=>∃(p du dt df a:Addr) (s:RS) (nm x:Str) (lo hi:Int) (r:Nat) (k:Wrg),vs = [.ref p,.ref a,.int r]/\ReadAt C_Reading H p du dt df s/\H a=some (.tup [.str nm,.str x,.int lo,.int hi])/\(∀f∈s.fs,∃x r,f=V.str x::r)/\(((∃f∈s.fs,f.head? = some (.str nm))/\k = .twice)\/((∀f∈s.fs,f.head?≠some (.str nm))/\x ∉ s.us/\k = .unit))/\r<1000/\RowE (C k) H E r
theorem zz2 {fs:List (List V)}{af:List Addr}{nm:Str}(hl:af.length=fs.length) (hfs:∀f∈fs,∃x r,f=V.str x::r) (h:∃f∈fs,f.head? = some (.str nm)):(valV (dF fs af) (Sum.inr nm:Key)).isSome=true:=by
  apply zei;obtain⟨f,hf,e⟩:=h;unfold dF;rw[List.map_fst_zip (by simp;omega)];refine List.mem_map.mpr ⟨f,hf,?_⟩;obtain⟨y,q,rfl⟩:=hfs f hf;have e:=V.str.inj (Option.some.inj e);subst e;rfl
theorem zes (T:Tx K mg w C_Reading zq zk zo ze zb zf zd zg):HasML P w K mg base (CX1 P w) C_Reading "take_find" ["self","find","row"] 4 (zmn (C_Reading:=C_Reading) (cw6 zo ze zb zf zd zg)):=by
  refine T.zcv.hasL zce (fun vs H Q E h=>?_) (fun f cdv A outer s H vs Q E hr h=>?_)
  · obtain⟨p,du,dt,df,a,st,nm,x,lo,hi,r,k,rfl,_⟩:=h;rfl
  · obtain⟨p,du,dt,df,a,st,nm,x,lo,hi,r,kk,rfl,R,ha,hfs,hb,hr',kE⟩:=h;have hu:=zli hr;refine⟨_,(zj (zal (zcx (zje hu (zae (zag K rfl) (pv 1) zn (fun _ _=>rfl)) (zbn (pv 0) rfl))) (zp (zbc (zbt T) T.zdp (hr.mono (by decide)) xeIs_of (by rfl) T.zdo (by decide) (za (pv 2) zi))) zz)
      (zj (zat (zd2 (zbo T) xeIs_of T.zx (hr.mono (by decide)) (pv 0) (za (zae (zag K rfl) (pv 1) zn (fun _ _=>rfl)) (za (pv 2) zi))))
      (zp (zgn hu (zbn (pv 0) rfl) (zae (zag K rfl) (pv 1) zn (fun _ _=>rfl)) (pv 1) rfl)))),?_⟩
    obtain⟨dx,fv,h1,h2⟩:=R.ob;obtain⟨af,htf,hf⟩:=R.f;refine⟨_,rfl,a,_,_,_,rfl,rfl,SqT.of ha,rfl,_,rfl,p,C_Reading,dx,_,_,rfl,h1,T.zx,T.zbe,zoz _ _ _ _,df,_,rfl,DGet.k (k:=Sum.inr nm) hf,_,rfl,?_⟩;rcases hb with ⟨hm,rfl⟩ | ⟨hm,hu,rfl⟩
    · rw[zz2 htf.len hfs hm];exact iteT ⟨_,rfl,zbd r hr' (Same.refl _) kE⟩
    · obtain⟨e1,_⟩:=zsm (p:=a) (ws:=[.str nm,.str x,.int lo,.int hi]) htf.len hm ⟨_,rfl⟩ hfs;rw[e1];refine iteF ⟨_,rfl,p,dx,_,rfl,h1,zbj _ _ _ _ (by decide +kernel),_,rfl,a,_,_,_,rfl,rfl,SqT.of ha,rfl,_,rfl,?_⟩;exact .inr ⟨p,du,dt,df,st,x,r,rfl,R,hu,hr',kE⟩
theorem zet (T:Tx K mg w C_Reading zq zk zo ze zb zf zd zg):zl7 P w K mg base C_Reading "take_find" ["self","find","row"] 4 (fun vs H Q E=>zkx (C_Reading:=C_Reading) vs H Q E\/zmn (C_Reading:=C_Reading) (cw6 zo ze zb zf zd zg) vs H Q E):=((zci T).x.or (zes T)).mx
def zjo (C:Wrg->Addr):Sp:=fun vs H Q E=>∃(p du dt df a:Addr) (s:RS) (ws:List V) (r:Nat) (k:Wrg),vs = [.ref p,.ref a,.int r]/\ReadAt C_Reading H p du dt df s/\H a=some (.tup ws)/\BadT s ws k/\(∀v∈ws,Wd v)/\(∀f∈s.fs,∃x r,f=V.str x::r)/\r<1000/\RowE (C k) H E r
set_option maxHeartbeats 1000000 in
theorem zd5 (T:Tx K mg w C_Reading zq zk zo ze zb zf zd zg):HasML P w K mg base (CX1 P w) C_Reading "take_entry" ["self","entry","row"] 5 (zjo (C_Reading:=C_Reading) (cw6 zo ze zb zf zd zg)):=by
  refine T.zck.hasL zb7 (fun vs H Q E h=>?_) (fun f cdv A outer s H vs Q E hr h=>?_)
  · obtain⟨p,du,dt,df,a,st,ws,r,k,rfl,_⟩:=h;rfl
  · obtain⟨p,du,dt,df,a,st,ws,r,kk,rfl,R,ha,ht,hw,hfs,hr',kE⟩:=h;refine⟨_,(zp (zal (zy zbv (zae (zag K rfl) (pv 1) zn (fun _ _=>rfl)) zw (zaf _)) (zp (zjc (pv 0) (zaq (zkd K rfl) (pv 1) (zaw zn) za3) rfl)) (zp (zal (zy zbv (zae (zag K rfl) (pv 1) zn (fun _ _=>rfl)) zw (zaf _)) (zp (zat (zd2 (zer T) xeIs_of T.zx (hr.mono (by decide)) (pv 0) (za (zae (zag K rfl) (pv 1) zn (fun _ _=>rfl)) (za (pv 2) zi))))) (zp (zal (zy zbv (zae (zag K rfl) (pv 1) zn (fun _ _=>rfl)) zw (zaf _)) (zp (zat (zd2 (zet T) xeIs_of T.zx (hr.mono (by decide)) (pv 0) (za (zaq (zkd K rfl) (pv 1) (zaw zn) za3) (za (pv 2) zi))))) (zp (zat (zd2 (zff T) xeIs_of T.zx (hr.mono (by decide)) (pv 0) (za (pv 1) (za (pv 2) zi))))))))))),?_⟩;obtain⟨dx,fv,h1,h2⟩:=R.ob;have hb:(∃x:Str,ws = [.str "unit",.str x]/\x∈st.us/\kk = .twice)\/(∃(kd x y:Str) (q:List V),ws = .str kd :: .str x :: .str y::q/\kd ∉ ([Str.ofString "dig",Str.ofString "unit",Str.ofString "find"]:List Str)/\((ws∈st.ts/\kk = .twice)\/(ws ∉ st.ts/\(x ∉ st.us\/y ∉ st.us)/\kk = .unit)))\/
        (∃(nm x:Str) (lo hi:Int),ws = [.str "find",.str nm,.str x,.int lo,.int hi]/\(((∃f∈st.fs,f.head? = some (.str nm))/\kk = .twice)\/((∀f∈st.fs,f.head?≠some (.str nm))/\x ∉ st.us/\kk = .unit))):=by
      cases ht with
      | unit hx=>exact .inl ⟨_,rfl,hx,rfl⟩
      | find h=>exact .inr (.inr ⟨_,_,_,_,rfl,.inl ⟨h,rfl⟩⟩)
      | findU hn h hx=>exact .inr (.inr ⟨_,_,_,_,rfl,.inr ⟨h,hx,rfl⟩⟩)
      | tie e hk h=>exact .inr (.inl ⟨_,_,_,_,e,hk,.inl ⟨h,rfl⟩⟩)
      | tieU e hk h hu=>exact .inr (.inl ⟨_,_,_,_,e,hk,.inr ⟨h,hu,rfl⟩⟩)
    rcases hb with ⟨x,ew,hx,ek⟩ | ⟨kd,x,y,q,ew,hk,hb⟩ | ⟨nm,x,lo,hi,ew,hb⟩
    · subst ew ek;refine⟨_,rfl,a,_,_,_,rfl,rfl,SqT.of ha,rfl,rfl,_,rfl,?_⟩;rw[sne (by decide +kernel)];refine iteF ⟨_,rfl,a,_,_,_,rfl,rfl,SqT.of ha,rfl,rfl,_,rfl,?_⟩;rw[zii rfl];exact iteT ⟨_,rfl,p,dx,_,rfl,h1,zbj _ _ _ _ (by decide +kernel),_,rfl,a,_,_,_,rfl,rfl,SqT.of ha,rfl,_,rfl,.inr ⟨p,du,dt,df,_,_,r,rfl,R,hx,hr',kE⟩⟩
    · have i0:atI ws 0=some (.str kd):=by rw[ew];exact zbx
      simp only [List.mem_cons,List.not_mem_nil,or_false,not_or] at hk;refine⟨_,rfl,a,_,_,_,rfl,rfl,SqT.of ha,i0,rfl,_,rfl,?_⟩;rw[decide_eq_false (fun z=>hk.1 (V.str.inj z))];refine iteF ⟨_,rfl,a,_,_,_,rfl,rfl,SqT.of ha,i0,rfl,_,rfl,?_⟩;rw[decide_eq_false (fun z=>hk.2.1 (V.str.inj z))];refine iteF ⟨_,rfl,a,_,_,_,rfl,rfl,SqT.of ha,i0,rfl,_,rfl,?_⟩;rw[decide_eq_false (fun z=>hk.2.2 (V.str.inj z))];exact iteF ⟨_,rfl,p,dx,_,rfl,h1,zbj _ _ _ _ (by decide +kernel),_,rfl,_,rfl,.inr ⟨p,du,dt,df,a,st,ws,kd,x,y,q,r,kk,rfl,R,ha,ew,hw,hb,hr',kE⟩⟩
    · subst ew;refine⟨_,rfl,a,_,_,_,rfl,rfl,SqT.of ha,zbx,rfl,_,rfl,?_⟩;rw[sne (by decide +kernel)];refine iteF ⟨_,rfl,a,_,_,_,rfl,rfl,SqT.of ha,zbx,rfl,_,rfl,?_⟩;rw[sne (by decide +kernel)];refine iteF ⟨_,rfl,a,_,_,_,rfl,rfl,SqT.of ha,zbx,rfl,_,rfl,?_⟩;rw[zii rfl];refine iteT ⟨_,rfl,p,dx,_,rfl,h1,zbj _ _ _ _ (by decide +kernel),_,rfl,_,rfl,a,_,rfl,SqT.of ha,cut1,fun q hq=>?_⟩;rw[zby];have s1:=Same.new (o:=.tup [V.str nm,V.str x,V.int lo,V.int hi]) hq;exact⟨_,rfl,.inr ⟨p,du,dt,df,q,st,nm,x,lo,hi,r,kk,rfl,R.same s1,zc,hfs,hb,hr',kE.same s1⟩⟩
theorem zd6 (T:Tx K mg w C_Reading zq zk zo ze zb zf zd zg):zl7 P w K mg base C_Reading "take_entry" ["self","entry","row"] 5 (fun vs H Q E=>zih (C_Reading:=C_Reading) vs H Q E\/zjo (C_Reading:=C_Reading) (cw6 zo ze zb zf zd zg) vs H Q E):=((zb8 T).x.or (zd5 T)).mx
inductive BadS:RS->List Str->Wrg->Prop where
  | dig {s:RS}{x:Str}{r:List Str}(h:decide (x=(Str.ofString "dig" : Str))≠s.fr.isNone):BadS s (x::r) .row
  | ent {s:RS}{x:Str}{r:List Str}{k:Wrg}(h:decide (x=(Str.ofString "dig" : Str))=s.fr.isNone) (b:BadW (x::r) k):BadS s (x::r) k
  | take {s:RS}{kd:Str}{q:List V}{k:Wrg}(h:decide (kd=(Str.ofString "dig" : Str))=s.fr.isNone) (row:RowOk (.str kd::q)) (b:BadT s (.str kd::q) k):BadS s ((V.str kd::q).map zab) k
def zjp (C:Wrg->Addr):Sp:=fun vs H Q E=>∃(p du dt df a:Addr) (s:RS) (wl:List Str) (r:Nat) (k:Wrg),vs = [.ref p,.ref a,.int r]/\ReadAt C_Reading H p du dt df s/\SqL K H a (wl.map V.str)/\wl.length<=900/\(∀x∈wl,x.length<=1000)/\BadS s wl k/\(∀f∈s.fs,∃x r,f=V.str x::r)/\r<1000/\RowE (C k) H E r
theorem zd7 (T:Tx K mg w C_Reading zq zk zo ze zb zf zd zg):HasML P w K mg base (CX1 P w) C_Reading "take_words" ["self","words","row"] 6 (zjp (K:=K) (C_Reading:=C_Reading) (cw6 zo ze zb zf zd zg)):=by
  refine T.zcj.hasL zb6 (fun vs H Q E h=>?_) (fun f cdv A outer s H vs Q E hr h=>?_)
  · obtain⟨p,du,dt,df,a,st,wl,r,k,rfl,_⟩:=h;rfl
  · obtain⟨p,du,dt,df,a,st,wl,r,kk,rfl,R,ha,hn,hx,hb,hfs,hr',kE⟩:=h;refine⟨_,(zj (zal (zy zj3 (zgk zbv (zae (zaa K rfl) (pv 1) zn (fun _ _=>rfl)) zw (zaf _)) (zve (zi8 (zbn (pv 0) rfl))) (zaf _)) (zp (zbc (za9 T) T.zde (hr.mono (by decide)) xeIs_of (by rfl) T.zdd (by decide) (za (pv 2) zi))) zz)
      (zp (zat (zd2 (zd6 T) xeIs_of T.zx (hr.mono (by decide)) (pv 0) (za (zvs (zml T) xeIs_of (hr.mono (by decide)) (by rfl) (za (pv 1) (za (pv 2) zi))) (za (pv 2) zi)))))),?_⟩
    obtain⟨dx,fv,h1,h2⟩:=R.ob;obtain⟨kd,rest,rfl⟩:∃kd rest,wl=kd::rest:=by
      cases hb with
      | dig h=>exact⟨_,_,rfl⟩
      | ent h b=>exact⟨_,_,rfl⟩
      | take h row b=>exact⟨_,_,rfl⟩
    refine⟨_,rfl,a,_,_,_,rfl,rfl,ha,zbx,rfl,_,rfl,p,C_Reading,dx,_,_,rfl,h1,T.zx,T.za4,zox _ _ _ _,rfl,_,rfl,?_⟩;have e1:decide (V.str kd=V.str (Str.ofString "dig"))=decide (kd=(Str.ofString "dig" : Str)):=decide_eq_decide.mpr ⟨fun z=>V.str.inj z,fun z=>congrArg V.str z⟩;have e2:decide (fv = .non)=st.fr.isNone:=by
      cases q:st.fr with
      | none=>rw[q] at h2;rw[show fv=V.non from h2];rfl
      | some f=>
        rw[q] at h2;obtain⟨pp,e,_⟩:=h2;rw[e];rfl
    rw[e1,e2]
    by_cases hd:decide (kd=(Str.ofString "dig" : Str))=st.fr.isNone
    rotate_left
    · have ek:kk = .row:=by
        generalize hw:kd::rest=wl at hb;cases hb with
        | dig h=>rfl
        | ent h b=>cases hw;exact absurd h hd
        | take h row b=>cases hw;exact absurd h hd
      subst ek;rw[decide_eq_false (fun z=>hd (V.bl.inj z))];exact iteT ⟨_,rfl,zbd r hr' (Same.refl _) kE⟩
    rw[hd,decide_eq_true rfl];refine iteF ⟨_,rfl,p,dx,_,rfl,h1,zbj _ _ _ _ (by decide +kernel),_,rfl,_,rfl,?_⟩;generalize hw:kd::rest=wl at hb ha hn hx;cases hb with
    | dig h=>cases hw;exact absurd hd h
    | ent h b=>exact .inr ⟨a,_,r,kk,rfl,ha,hn,hx,hr',b,kE⟩
    | take h row b=>
      rename_i kd' q';refine .inl ⟨a,_,_,rfl,by rw[List.map_map] at ha;exact ha,row,fun q H1 hq e s1=>?_⟩;exact⟨_,rfl,.inr ⟨p,du,dt,df,q,st,_,r,kk,rfl,R.same s1,e,b,row.wd,hfs,hr',kE.same s1⟩⟩
theorem zd8 (T:Tx K mg w C_Reading zq zk zo ze zb zf zd zg):zl7 P w K mg base C_Reading "take_words" ["self","words","row"] 6 (fun vs H Q E=>zij (K:=K) (C_Reading:=C_Reading) vs H Q E\/zjp (K:=K) (C_Reading:=C_Reading) (cw6 zo ze zb zf zd zg) vs H Q E):=((zb9 T).x.or (zd7 T)).mx
def Fs2 (s:RS) (i:Nat):Prop:=(∀f∈s.fs,∃x r,f=V.str x::r)/\s.us.length<=i/\s.ts.length<=i/\s.fs.length<=i
theorem Fs2.step {s s':RS}{ws:List V}{i:Nat}(h:Fs2 s i) (st:StepOk s ws s'):Fs2 s' (i+1):=by
  obtain⟨a,b,c,d⟩:=h;cases st with
  | dig hl y1 y2=>exact⟨a,Nat.le_succ_of_le b,Nat.le_succ_of_le c,Nat.le_succ_of_le d⟩
  | unit hx hn=>exact⟨a,by simp at b ⊢;omega,by simp at c ⊢;omega,by simp at d ⊢;omega⟩
  | tie ht hn=>exact⟨a,by simp at b ⊢;omega,by simp at c ⊢;omega,by simp at d ⊢;omega⟩
  | find hf=>
    refine⟨fun f hf'=>?_,by simp at b ⊢;omega,by simp at c ⊢;omega,by simp at d ⊢;omega⟩;rcases List.mem_append.mp hf' with z | z
    · exact a f z
    · rw[List.mem_singleton] at z;subst z;cases hf with
      | mk hn hx hl h1 h2 _=>exact⟨_,_,rfl⟩
def zs7 (H:Hp) (s:RS) (lo hi:Int) (Q:VK):Prop:=∀(tl pm pu pt pf:Addr) (at' af:List Addr) (H':Hp),H tl=none->H pu=none->H pt=none->H pf=none->H' tl=some (.tup [.ref pm,.ref pu,.ref pt,.ref pf])->H' pm=some (.tup [.int lo,.int hi])->
    H' pu=some (.lst (s.us.map V.str))->H' pt=some (.lst (at'.map V.ref))->Tups H' at' s.ts->H' pf=some (.lst (af.map V.ref))->Tups H' af s.fs->pu≠pt->pu≠pf->pt≠pf->Same H H'->Q (.ref tl) H'
def zn0:Sp:=fun vs H Q _=>∃(x:Str) (s:RS) (lo hi:Int),vs = [.str x]/\x.length<=1000000/\(∀l∈Txt.split x "\n",l.length<=1000000)/\(Txt.split x "\n").length<=900/\Reads ⟨none,[],[],[]⟩ (Txt.split x "\n") s/\s.fr=some (lo,hi)/\zs7 H s lo hi Q
set_option maxHeartbeats 1000000 in
theorem zc8 (T:Tx K mg w C_Reading zq zk zo ze zb zf zd zg):Has P w K mg base "read_telling" ["text"] 7 zn0:=by
  refine T.ze5.has sc_read_telling (fun vs H Q E h=>?_) (fun f cdv A outer s H vs Q E hr h=>?_)
  · obtain⟨x,st,lo,hi,rfl,_⟩:=h;rfl
  · obtain⟨x,st,lo,hi,rfl,hl,hls,hn,rd,hfr,k⟩:=h;refine⟨_,(zj (zal (zez (zdr (za5 (zln K rfl) (by rfl) T.isinstance PyProof.Rows.boot_isinstance (za (pv 0) (za (zq2 (v:=.ty "str") (by rfl) T.str PyProof.Rows.boot_str rfl) zi))))) (zp zbq) zz)
      (zj (zah (i:=1) sc_read_telling.nd rfl (Or.inl rfl) (zr5 (zcz T) T.zjs T.zjt (hr.mono (by decide)) (by rfl) T.zjr))
      (zj (zg0 PassesOwn.never rfl (zoo K rfl 1 (by decide) (by rfl) T.enumerate (zbw K rfl PySem.F.plainAttrs_str PySem.F.slot_str_split PySem.F.type_str_split zkf (pv 0) (za zw zi))) (zgp K rfl rfl (zbr (zas (i:=2) sc_read_telling.nd rfl (Or.inl rfl)) (zbr (zas (i:=3) sc_read_telling.nd rfl (Or.inl rfl)) zgj))) (zj (zah (i:=4) sc_read_telling.nd rfl (Or.inl rfl) (zar (zf3 T) (hr.mono (by decide)) (by rfl) (za (pv 3) zi)))
        (zp (zal (zez (zdr (zar (zdu T) (hr.mono (by decide)) (by rfl) (za (pv 4) zi)))) (zp (zat (zg3 (zen T) T.zx (hr.mono (by decide)) (pv 1) (za (pv 4) (za (pv 2) zi))))) zz))))
      (zj (zal (zcx (zi8 (zbn (pv 1) rfl))) (zp zbq) zz)
      (zp (zac (zr4 (zdc T) T.zx (hr.mono (by decide)) (pv 1)))))))),?_⟩
    refine⟨_,rfl,_,_,_,true,rfl,.str _,rfl,_,rfl,iteF ?_⟩;intro r dx hr0 hdx nrx;have s0:Same H (upd (upd H dx (.own r)) r (.ins C_Reading dx [])):=fun b o e=>by
      rw[zv (zr e hr0),zv (zr e hdx)];exact e
    refine⟨r,dx,rfl,zc,fun du dt df H1 f1 f2 f3 R1 kp=>⟨rfl,?_⟩⟩;have s1:Same H H1:=fun b o e=>kp b o (s0 b o e) (zr e hr0)
    have fu:=s0.free f1;have ft:=s0.free f2;have ff:=s0.free f3;refine⟨_,rfl,rfl,x,_,rfl,rfl,by decide +kernel,zku hl,zf2 x hl _,fun l hpl=>?_⟩;generalize hls':Txt.split x (Str.ofString "\n")=lines at hpl;have eL:Txt.split x "\n" = lines:=hls';rw[eL] at hls hn rd;have s2:=Same.new (o:=.lst (lines.map V.str)) hpl;have fl:=s1.free hpl;have nlr:l≠r:=by
      rintro rfl;obtain⟨_,_,e,_⟩:=R1.ob;rw[e] at hpl;cases hpl
    have nlu:l≠du:=fun e=>by subst e;rw[R1.u] at hpl;cases hpl
    have nlt:l≠dt:=fun e=>by subst e;rw[R1.t] at hpl;cases hpl
    have nlf:l≠df:=fun e=>by
      subst e;obtain⟨_,_,e⟩:=R1.f;rw[e] at hpl;cases hpl
    refine⟨l,_,rfl,SqL.of zc,zop (xs:=lines.map V.str) (fun i σ H'=>∃(si:RS) (v2 v3 v4:Option V),σ = [some (.str x),some (.ref r),v2,v3,v4]/\ReadAt C_Reading H' r du dt df si/\Reads si (lines.drop i) st/\Fs2 si i/\Same H H'/\H' l=some (.lst (lines.map V.str)))
      ⟨_,none,none,none,rfl,R1.same s2,by rw[List.drop_zero];exact rd,⟨(fun _ h=>nomatch h),Nat.le_refl _,Nat.le_refl _,Nat.le_refl _⟩,s1.trans s2,zc⟩ (fun i σ H' _ h=>by obtain⟨_,_,_,_,_,_,_,_,_,e⟩:=h;exact SqL.of e) ?_ ?_⟩
    · rintro i v σ H' Tp hv ⟨si,v2,v3,v4,rfl,R,rdi,fs,q,el⟩ hTp;rw[List.getElem?_map] at hv;cases ey:lines[i]? with
      | none=>rw[ey] at hv;cases hv
      | some y=>
        rw[ey] at hv;cases hv;have hi:=(List.getElem?_eq_some_iff.mp ey).1;have ed:lines.drop i=y::lines.drop (i+1):=by
          rw[List.drop_eq_getElem_cons hi]
          congr 1
          exact (List.getElem?_eq_some_iff.mp ey).2
        rw[ed] at rdi;have sT:=Same.new (o:=.tup [.int ((1+i:Nat):Int),.str y]) hTp;refine⟨Tp,_,rfl,SqT.of zc,rfl,_,_,rfl,_,_,rfl,rfl,?_⟩;refine⟨_,rfl,y,rfl,hls y (List.mem_of_getElem? ey),fun D H2 fD hD s2'=>?_⟩;have sA:=sT.trans s2';refine⟨_,rfl,D,_,rfl,SqL.of hD,fun H3 s3=>⟨_,rfl,?_⟩⟩;have sB:=sA.trans s3;cases rdi with
        | skip h rr=>
          rw[h];exact iteF ⟨si,_,_,_,rfl,R.same sB,rr,⟨fs.1,by have:=fs.2.1;omega,by have:=fs.2.2.1;omega,by have:=fs.2.2.2;omega⟩,q.trans sB,sB _ _ el⟩
        | row h stp rr=>
          rename_i s1' ws;have np:=((stp.row R.names).1).notPassed;rw[h,np];obtain⟨dx',fv',h1',_⟩:=(R.same sB).ob;have hD3:SqL K H3 D (ws.map fun v=>V.str (zab v)):=by
            have:=s3 _ _ hD;rw[h,List.map_map] at this;exact SqL.of this
          refine iteT ⟨_,rfl,r,dx',_,rfl,h1',zbj _ _ _ _ (by decide +kernel),_,rfl,_,rfl,r,du,dt,df,D,si,s1',ws,_,rfl,R.same sB,hD3,stp,⟨fs.1,by have:=fs.2.1;omega,by have:=fs.2.2.1;omega,by have:=fs.2.2.2;omega⟩,fun H4 R4 kp4=>?_⟩;exact⟨s1',_,_,_,rfl,R4,rr,fs.step stp,Keep4.same (q.trans sB) kp4 hr0 fu ft ff,kp4 _ _ (sB _ _ el) nlr nlu nlt nlf⟩
    · rintro σ H' ⟨si,v2,v3,v4,rfl,R,rdi,fs,q,el⟩;rw[List.length_map,List.drop_length] at rdi;cases rdi;obtain⟨dx',fv',h1',h2'⟩:=R.ob;rw[hfr] at h2';obtain⟨pm,rfl,hpm⟩:=h2';refine⟨_,rfl,r,C_Reading,dx',_,_,rfl,h1',T.zx,T.za4,zox _ _ _ _,_,rfl,?_⟩;rw[decide_eq_false (fun z=>nomatch z)];refine iteF ⟨_,rfl,r,dx',_,rfl,h1',zbj _ _ _ _ (by decide +kernel),r,du,dt,df,st,lo,hi,rfl,R,hfr,fun tl pm pu pt' pf at' af H5 g1 g2 g3 g4 g5 g6 g7 g8 g9 ga gb gc gd ge sF=>?_⟩;exact k tl pm pu pt' pf at' af H5 (q.free g1) (q.free g2) (q.free g3) (q.free g4) g5 g6 g7 g8 g9 ga gb gc gd ge (q.trans sF)
inductive Refs:RS->List Str->Nat->Wrg->Prop where
  | here {s:RS}{l:Str}{ls:List Str}{k:Wrg}(h:zbz (Dm.wordsOf l)=false) (b:BadS s (Dm.wordsOf l) k) (hw:(Dm.wordsOf l).length<=900/\∀y∈Dm.wordsOf l,y.length<=1000):Refs s (l::ls) 1 k
  | skip {s:RS}{l:Str}{ls:List Str}{n:Nat}{k:Wrg}(h:zbz (Dm.wordsOf l)=true) (r:Refs s ls n k):Refs s (l::ls) (n+1) k
  | row {s s1:RS}{l:Str}{ls:List Str}{ws:List V}{n:Nat}{k:Wrg}(h:Dm.wordsOf l=ws.map zab) (st:StepOk s ws s1) (r:Refs s1 ls n k):Refs s (l::ls) (n+1) k
theorem Reads.refs {s s1:RS}{ls ms:List Str}{n:Nat}{k:Wrg}(h:Reads s ls s1) (h2:Refs s1 ms n k):Refs s (ls++ms) (ls.length+n) k:=by
  induction h with
  | nil=>rw[List.length_nil,Nat.zero_add];exact h2
  | skip h _ ih=>have:=Refs.skip h (ih h2);rw[List.length_cons,show ∀a:Nat,a+1+n=a+n+1 from fun a=>by omega];exact this
  | row h st _ ih=>have:=Refs.row h st (ih h2);rw[List.length_cons,show ∀a:Nat,a+1+n=a+n+1 from fun a=>by omega];exact this
def zo9 (C:Wrg->Addr):Sp:=fun vs H Q E=>∃(x:Str) (r:Nat) (k:Wrg),vs = [.str x]/\x.length<=1000000/\(∀l∈Txt.split x "\n",l.length<=1000000)/\(Txt.split x "\n").length<=900/\Refs ⟨none,[],[],[]⟩ (Txt.split x "\n") r k/\RowE (C k) H E r
set_option maxHeartbeats 2000000 in
theorem ziw (T:Tx K mg w C_Reading zq zk zo ze zb zf zd zg):HasX P w K mg base "read_telling" ["text"] 7 (zo9 (cw6 zo ze zb zf zd zg)):=by
  refine T.ze5.hasX sc_read_telling (fun vs H Q E h=>?_) (fun f cdv A outer s H vs Q E hr h=>?_)
  · obtain⟨x,r0,kk,rfl,_⟩:=h;rfl
  · obtain⟨x,r0,kk,rfl,hl,hls,hn,rd,kE⟩:=h;refine⟨_,(zj (zal (zez (zdr (za5 (zln K rfl) (by rfl) T.isinstance PyProof.Rows.boot_isinstance (za (pv 0) (za (zq2 (v:=.ty "str") (by rfl) T.str PyProof.Rows.boot_str rfl) zi))))) (zp (zbc (za9 T) T.zde (hr.mono (by decide)) xeIs_of (by rfl) T.zdd (by decide) (za zn zi))) zz)
      (zj (zah (i:=1) sc_read_telling.nd rfl (Or.inl rfl) (zr5 (zcz T) T.zjs T.zjt (hr.mono (by decide)) (by rfl) T.zjr))
      (zj (zg0 xeIs_of.own rfl (zoo K rfl 1 (by decide) (by rfl) T.enumerate (zbw K rfl PySem.F.plainAttrs_str PySem.F.slot_str_split PySem.F.type_str_split zkf (pv 0) (za zw zi))) (zgp K rfl rfl (zbr (zas (i:=2) sc_read_telling.nd rfl (Or.inl rfl)) (zbr (zas (i:=3) sc_read_telling.nd rfl (Or.inl rfl)) zgj))) (zj (zah (i:=4) sc_read_telling.nd rfl (Or.inl rfl) (zar (zf3 T) (hr.mono (by decide)) (by rfl) (za (pv 3) zi)))
        (zp (zal (zez (zdr (zar (zdu T) (hr.mono (by decide)) (by rfl) (za (pv 4) zi)))) (zp (zat (zd2 (zd8 T) xeIs_of T.zx (hr.mono (by decide)) (pv 1) (za (pv 4) (za (pv 2) zi))))) zz))))
      (zj (zal (zcx (zi8 (zbn (pv 1) rfl))) (zp (zbc (za9 T) T.zde (hr.mono (by decide)) xeIs_of (by rfl) T.zdd (by decide) (za zn zi))) zz)
      (zp (zac (zr4 (zdc T) T.zx (hr.mono (by decide)) (pv 1)))))))),?_⟩
    refine⟨_,rfl,_,_,_,true,rfl,.str _,rfl,_,rfl,iteF ?_⟩;intro r dx hr0 hdx nrx;have s0:Same H (upd (upd H dx (.own r)) r (.ins C_Reading dx [])):=fun b o e=>by
      rw[zv (zr e hr0),zv (zr e hdx)];exact e
    refine⟨r,dx,rfl,zc,fun du dt df H1 f1 f2 f3 R1 kp=>⟨rfl,?_⟩⟩;have s1:Same H H1:=fun b o e=>kp b o (s0 b o e) (zr e hr0)
    have fu:=s0.free f1;have ft:=s0.free f2;have ff:=s0.free f3;refine⟨_,rfl,rfl,x,_,rfl,rfl,by decide +kernel,zku hl,zf2 x hl _,fun l hpl=>?_⟩;generalize hls':Txt.split x (Str.ofString "\n")=lines at hpl;have eL:Txt.split x "\n" = lines:=hls';rw[eL] at hls hn rd;have s2:=Same.new (o:=.lst (lines.map V.str)) hpl;have fl:=s1.free hpl;have nlr:l≠r:=by
      rintro rfl;obtain⟨_,_,e,_⟩:=R1.ob;rw[e] at hpl;cases hpl
    have nlu:l≠du:=fun e=>by subst e;rw[R1.u] at hpl;cases hpl
    have nlt:l≠dt:=fun e=>by subst e;rw[R1.t] at hpl;cases hpl
    have nlf:l≠df:=fun e=>by
      subst e;obtain⟨_,_,e⟩:=R1.f;rw[e] at hpl;cases hpl
    refine⟨l,_,rfl,SqL.of zc,zop (xs:=lines.map V.str) (fun i σ H'=>∃(si:RS) (v2 v3 v4:Option V) (n:Nat),σ = [some (.str x),some (.ref r),v2,v3,v4]/\ReadAt C_Reading H' r du dt df si/\(Refs si (lines.drop i) n kk/\i+n=r0)/\Fs2 si i/\Same H H'/\H' l=some (.lst (lines.map V.str)))
      ⟨_,none,none,none,r0,rfl,R1.same s2,⟨by rw[List.drop_zero];exact rd,Nat.zero_add _⟩,⟨(fun _ h=>nomatch h),Nat.le_refl _,Nat.le_refl _,Nat.le_refl _⟩,s1.trans s2,zc⟩ (fun i σ H' _ h=>by obtain⟨_,_,_,_,_,_,_,_,_,_,e⟩:=h;exact SqL.of e) ?_ ?_⟩
    · rintro i v σ H' Tp hv ⟨si,v2,v3,v4,n,rfl,R,⟨rdi,er⟩,fs,q,el⟩ hTp;rw[List.getElem?_map] at hv;cases ey:lines[i]? with
      | none=>rw[ey] at hv;cases hv
      | some y=>
        rw[ey] at hv;cases hv;have hi:=(List.getElem?_eq_some_iff.mp ey).1;have ed:lines.drop i=y::lines.drop (i+1):=by
          rw[List.drop_eq_getElem_cons hi]
          congr 1
          exact (List.getElem?_eq_some_iff.mp ey).2
        rw[ed] at rdi;have sT:=Same.new (o:=.tup [.int ((1+i:Nat):Int),.str y]) hTp;refine⟨Tp,_,rfl,SqT.of zc,rfl,_,_,rfl,_,_,rfl,rfl,?_⟩;refine⟨_,rfl,y,rfl,hls y (List.mem_of_getElem? ey),fun D H2 fD hD s2'=>?_⟩;have sA:=sT.trans s2';refine⟨_,rfl,D,_,rfl,SqL.of hD,fun H3 s3=>⟨_,rfl,?_⟩⟩;have sB:=sA.trans s3;cases rdi with
        | here h b hw=>
          rw[h];obtain⟨dx',fv',h1',_⟩:=(R.same sB).ob;exact iteT ⟨_,rfl,r,dx',_,rfl,h1',zbj _ _ _ _ (by decide +kernel),_,rfl,_,rfl,.inr ⟨r,du,dt,df,D,si,_,1+i,kk,rfl,R.same sB,SqL.of (s3 _ _ hD),hw.1,hw.2,b,fs.1,by omega,(show RowE _ H _ (1+i) by rw[show 1+i=r0 by omega];exact kE).same (q.trans sB)⟩⟩
        | skip h rr=>
          rw[h];exact iteF ⟨si,_,_,_,_,rfl,R.same sB,⟨rr,by omega⟩,⟨fs.1,by have:=fs.2.1;omega,by have:=fs.2.2.1;omega,by have:=fs.2.2.2;omega⟩,q.trans sB,sB _ _ el⟩
        | row h stp rr=>
          rename_i s1' ws n';have np:=((stp.row R.names).1).notPassed;rw[h,np];obtain⟨dx',fv',h1',_⟩:=(R.same sB).ob;have hD3:SqL K H3 D (ws.map fun v=>V.str (zab v)):=by
            have:=s3 _ _ hD;rw[h,List.map_map] at this;exact SqL.of this
          refine iteT ⟨_,rfl,r,dx',_,rfl,h1',zbj _ _ _ _ (by decide +kernel),_,rfl,_,rfl,.inl ⟨r,du,dt,df,D,si,s1',ws,_,rfl,R.same sB,hD3,stp,⟨fs.1,by have:=fs.2.1;omega,by have:=fs.2.2.1;omega,by have:=fs.2.2.2;omega⟩,fun H4 R4 kp4=>?_⟩⟩;exact⟨s1',_,_,_,_,rfl,R4,⟨rr,by omega⟩,fs.step stp,Keep4.same (q.trans sB) kp4 hr0 fu ft ff,kp4 _ _ (sB _ _ el) nlr nlu nlt nlf⟩
    · rintro σ H' ⟨si,v2,v3,v4,n,rfl,R,⟨rdi,er⟩,fs,q,el⟩;rw[List.length_map,List.drop_length] at rdi;cases rdi
theorem zix (T:Tx K mg w C_Reading zq zk zo ze zb zf zd zg):HasX P w K mg base "read_telling" ["text"] 7 (fun vs H Q E=>zn0 vs H Q E\/zo9 (cw6 zo ze zb zf zd zg) vs H Q E):=(zc8 T).x.or (ziw T)
def zpa:Sp:=fun vs H Q _=>∃(a:Addr) (ws:List V),vs = [.ref a]/\SqT K H a ws/\(∀v∈ws,Wd v)/\ws.length<=6/\∀H',Same H H'->Q (.str (zcr ws)) H'
theorem filt (l:List V):l.filter (fun _=>true)=l:=List.filter_eq_self.mpr fun _ _=>rfl
theorem zc1 (T:Tx K mg w C_Reading zq zk zo ze zb zf zd zg):Has P w K mg base "show_words" ["words"] 1 (zpa (K:=K)):=by
  refine T.zmz.has zkr (fun vs H Q E h=>?_) (fun f cdv A outer s H vs Q E hr h=>?_)
  · obtain⟨a,ws,rfl,_⟩:=h;rfl
  · obtain⟨a,ws,rfl,ha,hw,hl,k⟩:=h;refine⟨_,(zp (zac (zbw K rfl PySem.F.plainAttrs_str PySem.F.slot_str_join PySem.F.type_str_join (zhk K rfl) zw (za (zc5 (own:=["word"]) (cap:=[]) (ix:=[]) (osc:=zm (top 19)) rfl ⟨rfl,by decide +kernel,by decide +kernel,by decide +kernel,by decide +kernel⟩ rfl (zwp K rfl (pv 0)) (fun _ _ _ _=>zas (i:=0) (show List.Nodup (["word"]:List Str) by decide +kernel) rfl (Or.inl rfl)) (fun _ _ _ _=>zcp) (fun _ _ _ _=>(zbb zll (by rfl) T.str PyProof.Rows.boot_str (za (pv 0) zi)))) zi)))),?_⟩;refine⟨rfl,_,rfl,a,rfl,⟨_,ha⟩,fun D hD=>?_⟩;refine zd0 (zwk (xs:=ws)) (fun _=>true) (fun v=>.str (zab v)) (fun ys=>(Same.new hD).tup ha) (zaj (by omega)) (fun v hv ys Q' q=>q) (fun v hv _ ys Q' q=>?_) ?_
    · exact⟨_,rfl,v,rfl,hw v hv,q⟩
    · rw[filt];refine⟨_,D,ws.map zab,rfl,rfl,SqL.of (by rw[zc,List.map_map];rfl),zpy hw hl,?_⟩;rw[zpv];exact k _ (Same.new hD)
theorem zqm (T:Tx K mg w C_Reading zq zk zo ze zb zf zd zg):Has P w K mg base "show_tie" ["tie"] 2 (zpa (K:=K)):=by
  refine T.zqy.has znt (fun vs H Q E h=>?_) (fun f cdv A outer s H vs Q E hr h=>?_)
  · obtain⟨a,ws,rfl,_⟩:=h;rfl
  · obtain⟨a,ws,rfl,ha,hw,hl,k⟩:=h;refine⟨_,(zp (zac (zar (zc1 T) (hr.mono (by decide)) (by rfl) (za (pv 0) zi)))),?_⟩;exact⟨_,rfl,a,ws,rfl,ha,hw,hl,k⟩
def zxl:Sp:=fun vs H Q _=>∃(tl pm pu pt pf:Addr) (lo hi:Int) (us:List Str) (ts fs:List (List V)) (at' af:List Addr),vs = [.ref tl]/\SqT K H tl [.ref pm,.ref pu,.ref pt,.ref pf]/\TellAt K H pm pu pt pf lo hi us ts fs at' af/\TellOk lo hi us ts fs/\
  ∀H',Same H H'->Q (.str (zir (zay lo hi us ts fs))) H'
def zxm:V->V
  | .str x=>rowV [.str "unit",.str x]
  | _=>.non
set_option maxHeartbeats 4000000 in
theorem ziy (T:Tx K mg w C_Reading zq zk zo ze zb zf zd zg):Has P w K mg base "show_telling" ["telling"] 3 (zxl (K:=K)):=by
  refine T.zi1.has sc_show_telling (fun vs H Q E h=>?_) (fun f cdv A outer s H vs Q E hr h=>?_)
  · obtain⟨tl,pm,pu,pt',pf,lo,hi,us,ts,fs,at',af,rfl,_⟩:=h;rfl
  · obtain⟨tl,pm,pu,pt',pf,lo,hi,us,ts,fs,at',af,rfl,htl,ta,ok,k⟩:=h;refine⟨_,(zj (zah (i:=1) sc_show_telling.nd rfl (Or.inl rfl) (za2 (za (zar (zc1 T) (hr.mono (by decide)) (by rfl) (za (zai (zhj K rfl) (za7 (za zw zi)) (zae (zag K rfl) (pv 0) zn (fun _ _=>rfl))) zi)) zi)))
      (zj (zat (zbw K rfl PySem.F.plainAttrs_list PySem.F.slot_list_extend PySem.F.type_list_extend zht (pv 1) (za (zc5 (own:=["name"]) (cap:=[]) (ix:=[]) (osc:=zm (top 21)) rfl ⟨rfl,by decide +kernel,by decide +kernel,by decide +kernel,by decide +kernel⟩ rfl (zcy K rfl (zae (zag K rfl) (pv 0) zn (fun _ _=>rfl))) (fun _ _ _ _=>zas (i:=0) (show List.Nodup (["name"]:List Str) by decide +kernel) rfl (Or.inl rfl)) (fun _ _ _ _=>zcp) (fun _ _ _ _=>(zar (zc1 T) (hr.mono (by decide)) (by rfl) (za (za7 (za zw (za (pv 0) zi))) zi)))) zi)))
      (zj (zat (zbw K rfl PySem.F.plainAttrs_list PySem.F.slot_list_extend PySem.F.type_list_extend zht (pv 1) (za (zc5 (own:=["tie"]) (cap:=[]) (ix:=[]) (osc:=zm (top 21)) rfl ⟨rfl,by decide +kernel,by decide +kernel,by decide +kernel,by decide +kernel⟩ rfl (zcy K rfl (zae (zag K rfl) (pv 0) zn (fun _ _=>rfl))) (fun _ _ _ _=>zas (i:=0) (show List.Nodup (["tie"]:List Str) by decide +kernel) rfl (Or.inl rfl)) (fun _ _ _ _=>zcp) (fun _ _ _ _=>(zar (zqm T) (hr.mono (by decide)) (by rfl) (za (pv 0) zi)))) zi)))
      (zj (zat (zbw K rfl PySem.F.plainAttrs_list PySem.F.slot_list_extend PySem.F.type_list_extend zht (pv 1) (za (zc5 (own:=["find"]) (cap:=[]) (ix:=[]) (osc:=zm (top 21)) rfl ⟨rfl,by decide +kernel,by decide +kernel,by decide +kernel,by decide +kernel⟩ rfl (zcy K rfl (zae (zag K rfl) (pv 0) zn (fun _ _=>rfl))) (fun _ _ _ _=>zas (i:=0) (show List.Nodup (["find"]:List Str) by decide +kernel) rfl (Or.inl rfl)) (fun _ _ _ _=>zcp) (fun _ _ _ _=>(zar (zc1 T) (hr.mono (by decide)) (by rfl) (za (zai (zhj K rfl) (za7 (za zw zi)) (pv 0)) zi)))) zi)))
      (zp (zac (zbw K rfl PySem.F.plainAttrs_str PySem.F.slot_str_join PySem.F.type_str_join (zhk K rfl) zw (za (pv 1) zi)))))))),?_⟩
    have c1:=ok.u.1;have c2:=ok.t.1;have c3:=ok.f.1;refine⟨(by show 1<=sizeLine;decide),fun p1 hp1=>?_⟩;have s1:=Same.new (o:=.tup [.str "dig"]) hp1;refine⟨_,rfl,tl,_,_,_,rfl,rfl,s1.tup htl,rfl,?_⟩;refine⟨p1,pm,_,_,rfl,rfl,SqT.of zc,s1.tup ta.m,by simp,(by show 1+2<=sizeLine;decide),fun z=>by simp at z,fun _ p2 hp2=>?_⟩;have s2:=s1.trans (Same.new (o:=.tup ([.str "dig"]++[.int lo,.int hi])) hp2);refine⟨p2,_,rfl,SqT.of zc,zyu ok.lo ok.hi,by simp,fun H3 s3=>?_⟩;have s3:=s2.trans s3;refine⟨(by show 1<=sizeLine;decide),fun pl hpl=>?_⟩;have fl:=s3.free hpl;have s4:=s3.trans (Same.new (o:=.lst [.str (zcr ([.str "dig"]++[.int lo,.int hi]))]) hpl);have hl4:upd H3 pl (.lst [.str (zcr ([.str "dig"]++[.int lo,.int hi]))]) pl=some (.lst ([[.str "dig",.int lo,.int hi]].map rowV)):=zc;generalize upd H3 pl (.lst [.str (zcr ([.str "dig"]++[.int lo,.int hi]))])=H4 at s4 hl4;show tSeq _ _ _ _ H4;refine⟨_,rfl,.inl ⟨rfl,_,SqL.of hl4⟩,_,rfl,tl,_,_,_,rfl,rfl,s4.tup htl,rfl,pu,rfl,⟨_,s4.seq ta.u⟩,fun D hD=>?_⟩;refine zh0 (zdh (xs:=us.map V.str)) zxm hD (fun H' s=>(s4.trans s).seq ta.u) (zaj (by rw[List.length_map];omega)) (fun x hx H' Q' s hQ=>?_) (fun H5 s5 hD5=>?_)
    · obtain⟨x,hx',rfl⟩:=List.mem_map.mp hx;have b:=ok.u.2 x hx';refine⟨_,rfl,(by show 2<=sizeLine;decide),fun p hp=>?_⟩;refine⟨p,_,rfl,SqT.of zc,fun v hv=>?_,by simp,fun H'' s'=>hQ _ ((Same.new hp).trans s')⟩;simp only [List.mem_cons,List.not_mem_nil,or_false] at hv;rcases hv with rfl | rfl
      · exact .inl ⟨_,rfl,by decide +kernel⟩
      · exact .inl ⟨_,rfl,b⟩
    have q5:=s4.trans s5;refine⟨pl,D,_,_,rfl,rfl,s5 _ _ hl4,hD5,zaj (by simp;omega),?_⟩;have e5:([[V.str "dig",.int lo,.int hi]].map rowV++(us.map V.str).map zxm)=([.str "dig",.int lo,.int hi]::us.map (fun x=>[V.str "unit",V.str x])).map rowV:=by
      show rowV _::(us.map V.str).map zxm=rowV _::(us.map _).map rowV;rw[List.map_map,List.map_map];rfl
    rw[e5];have q5':Same H (upd H5 pl (.lst (([.str "dig",.int lo,.int hi]::us.map (fun x=>[V.str "unit",V.str x])).map rowV))):=q5.upd fl;have hl5:upd H5 pl (.lst (([.str "dig",.int lo,.int hi]::us.map (fun x=>[V.str "unit",V.str x])).map rowV)) pl=_:=zc;generalize upd H5 pl (.lst (([.str "dig",.int lo,.int hi]::us.map (fun x=>[V.str "unit",V.str x])).map rowV))=H6 at q5' hl5;refine⟨_,rfl,.inl ⟨rfl,_,SqL.of hl5⟩,_,rfl,tl,_,_,_,rfl,rfl,q5'.tup htl,rfl,pt',rfl,⟨_,q5'.seq ta.t⟩,fun D' hD'=>?_⟩;refine zh0 (zdh (xs:=at'.map V.ref)) (tupF H rowV) hD' (fun H' s=>(q5'.trans s).seq ta.t) (zaj (by rw[List.length_map,ta.tt.len];omega)) (fun x hx H' Q' s hQ=>?_) (fun H7 s7 hD7=>?_)
    · obtain⟨a,ha,rfl⟩:=List.mem_map.mp hx;obtain⟨ws,hws,ea⟩:=ta.tt.get ha;obtain⟨b1,b2,_⟩:=ok.t.2 ws hws;rw[zni ea] at hQ;exact⟨_,rfl,a,ws,rfl,SqT.of (s _ _ (q5' _ _ ea)),b1,by omega,hQ⟩
    rw[ta.tt.mapF] at hD7;refine⟨pl,D',_,_,rfl,rfl,s7 _ _ hl5,hD7,zaj (by simp;omega),?_⟩;rw[←List.map_append];have q7:Same H (upd H7 pl (.lst (([.str "dig",.int lo,.int hi]::us.map (fun x=>[V.str "unit",V.str x])++ts).map rowV))):=(q5'.trans s7).upd fl;have hl7:upd H7 pl (.lst (([.str "dig",.int lo,.int hi]::us.map (fun x=>[V.str "unit",V.str x])++ts).map rowV)) pl=_:=zc;generalize upd H7 pl (.lst (([.str "dig",.int lo,.int hi]::us.map (fun x=>[V.str "unit",V.str x])++ts).map rowV))=H8 at q7 hl7;refine⟨_,rfl,.inl ⟨rfl,_,SqL.of hl7⟩,_,rfl,tl,_,_,_,rfl,rfl,q7.tup htl,rfl,pf,rfl,⟨_,q7.seq ta.f⟩,fun D' hD'=>?_⟩;refine zh0 (zdh (xs:=af.map V.ref)) (tupF H fun ws=>rowV (.str "find" :: ws)) hD' (fun H' s=>(q7.trans s).seq ta.f) (zaj (by rw[List.length_map,ta.ft.len];omega)) (fun x hx H' Q' s hQ=>?_) (fun H9 s9 hD9=>?_)
    · obtain⟨a,ha,rfl⟩:=List.mem_map.mp hx;obtain⟨ws,hws,ea⟩:=ta.ft.get ha;obtain⟨b1,b2⟩:=ok.f.2 ws hws;rw[zni ea] at hQ;refine⟨(by show 1<=sizeLine;decide),fun p3 hp3=>?_⟩;have s3:=Same.new (o:=.tup [.str "find"]) hp3;refine⟨_,rfl,p3,a,_,_,rfl,rfl,SqT.of zc,SqT.of (s3 _ _ (s _ _ (q7 _ _ ea))),by simp,zaj (by show 1+ws.length<=1000;omega),fun z=>by rw[z] at b2;simp at b2,fun _ p4 hp4=>?_⟩;have s4:=s3.trans (Same.new (o:=.tup ([.str "find"]++ws)) hp4);refine⟨p4,_,rfl,SqT.of zc,fun v hv=>?_,by simp;omega,fun H'' s'=>hQ _ (s4.trans s')⟩;rcases List.mem_cons.mp hv with rfl | hv
      · exact .inl ⟨_,rfl,by decide +kernel⟩
      · exact b1 v hv
    rw[ta.ft.mapF] at hD9;refine⟨pl,D',_,_,rfl,rfl,s9 _ _ hl7,hD9,zaj (by simp;omega),?_⟩;have e9:([.str "dig",.int lo,.int hi]::us.map (fun x=>[V.str "unit",V.str x])++ts).map rowV++fs.map (fun ws=>rowV (.str "find" :: ws))=((zay lo hi us ts fs).map zcr).map V.str:=by
      rw[List.map_map];unfold zay;rw[←List.cons_append,←List.cons_append,List.map_append (l₂:=fs.map _),List.map_map (l:=fs)];rfl
    rw[e9];refine⟨rfl,_,rfl,_,pl,_,rfl,rfl,SqL.of zc,zpx ok.rows ok.count,?_⟩;rw[zpw];exact k _ ((q7.trans s9).upd fl)
theorem c60:CPow 10 60:=⟨by decide,by decide,by decide⟩
theorem c59:CPow 10 59:=⟨by decide,by decide,by decide⟩
theorem m60:(0:Int)<10 ^ (60:Int).toNat:=by decide
theorem m59:(0:Int)<10 ^ (59:Int).toNat:=by decide
theorem yo {z:Int}(h1 : -(10 ^ 59:Int)<=z) (h2:z<10 ^ 60):zao z/\zao (z-1):=by
  unfold zao;constructor<;>omega
def zxn:Sp:=fun vs H Q _=>∃c k:Int,vs = [.int c,.int k]/\∀(z:Int) (H':Hp),zao z->zao (z-1)->Same H H'->Q (.int z) H'
set_option maxHeartbeats 4000000 in
theorem zdm (T:Tx K mg w C_Reading zq zk zo ze zb zf zd zg):Has P w K mg base "_law_year" ["_law_cell","_law_k"] 2 zxn:=by
  refine T.zoa.has sc__law_year (fun vs H Q E h=>?_) (fun f cdv A outer s H vs Q E hr h=>?_)
  · obtain⟨c,i,rfl,_⟩:=h;rfl
  · obtain⟨c,i,rfl,k⟩:=h;refine⟨_,(zj (zah (i:=2) sc__law_year.nd rfl (Or.inl rfl) (za2 (za (zai zk5 (zar (zak T) (hr.mono (by decide)) (by rfl) (za (pv 0) (za (pv 1) (za zn zi)))) zn) (za (zar (zak T) (hr.mono (by decide)) (by rfl) (za (pv 0) (za (pv 1) (za zn zi)))) (za (zai zbu (zai zjb (pv 0) zn) (zai zoe zn zn)) zi)))))
      (zj (zah (i:=2) sc__law_year.nd rfl (Or.inl rfl) (zai zyd (pv 2) (za2 (za (zai zk5 (zj2 zfp zn) (zai zbu (zai zjb (pv 0) zn) (zai zoe zn zn))) zi))))
      (zp (zac (zae (zaa K rfl) (pv 2) (zar (zak T) (hr.mono (by decide)) (by rfl) (za (pv 0) (za (zai zdz (pv 1) zn) (za zn zi)))) (fun _ _=>rfl)))))),?_⟩
    walk_at "rd"
    refine⟨by decide,?_⟩
    walk_at "rd"
    refine⟨by decide,?_⟩
    walk_at "rd"
    refine⟨.inr ⟨by decide,by decide⟩,?_⟩
    walk_at "rd"
    refine⟨c60,?_⟩
    walk_at "rd"
    refine⟨m60,(by show 3<=sizeLine;decide),fun p1 hp1=>?_⟩
    walk_at "rd"
    refine⟨.inr ⟨by decide,by decide⟩,?_⟩
    walk_at "rd"
    refine⟨c59,?_⟩
    walk_at "rd"
    refine⟨m59,?_⟩
    walk_at "rd"
    refine⟨(by show 1<=sizeLine;decide),fun p2 hp2=>?_⟩;have n12:p1≠p2:=zr zc hp2;refine⟨p1,p2,_,_,rfl,rfl,by rw[zv n12,zc],zc,(by show 4<=sizeLine;decide),fun p3 hp3=>?_⟩
    walk_at "rd"
    refine⟨by decide,?_⟩;obtain⟨b1,b2⟩:=ze9 c (i+1) 4 (by decide);obtain⟨d1,d2⟩:=ze9 c i 60 (by decide);obtain⟨d3,d4⟩:=ze9 c i 12 (by decide);have d5:=Int.emod_nonneg (c * 48271) (show (10 ^ (60:Int).toNat:Int)≠0 by decide);have d6:=Int.emod_lt_of_pos (c * 48271) m60;have d7:=Int.emod_nonneg (c * 40692) (show (10 ^ (59:Int).toNat:Int)≠0 by decide);have d8:=Int.emod_lt_of_pos (c * 40692) m59;have e60:(10:Int) ^ (60:Int).toNat=10 ^ 60:=rfl;have e59:(10:Int) ^ (59:Int).toNat=10 ^ 59:=rfl;rw[e60] at d6;have Y1:=yo (z:=pt c i 60-20) (by omega) (by omega);have Y2:=yo (z:=pt c i 12) (by omega) (by omega);have Y3:=yo (z:=c * 48271%10 ^ (60:Int).toNat) (Int.le_trans (by decide) d5) d6;have Y4:=yo (z:=-1-c * 40692%10 ^ (59:Int).toNat) (by generalize c * 40692%10 ^ (59:Int).toNat=u at d7 d8 ⊢;rw[e59] at d8;omega) (by generalize c * 40692%10 ^ (59:Int).toNat=u at d7 d8 ⊢;rw[e59] at d8;omega);have h4:pt c (i+1) 4=0\/pt c (i+1) 4=1\/pt c (i+1) 4=2\/pt c (i+1) 4=3:=by clear d5 d6 d7 d8;omega
    rcases h4 with h4 | h4 | h4 | h4
    · rw[h4];exact⟨p3,_,_,_,rfl,rfl,SqL.of zc,rfl,k _ _ Y1.1 Y1.2 ((Same.new hp1).trans ((Same.new hp2).trans (Same.new hp3)))⟩
    · rw[h4];exact⟨p3,_,_,_,rfl,rfl,SqL.of zc,rfl,k _ _ Y2.1 Y2.2 ((Same.new hp1).trans ((Same.new hp2).trans (Same.new hp3)))⟩
    · rw[h4];exact⟨p3,_,_,_,rfl,rfl,SqL.of zc,rfl,k _ _ Y3.1 Y3.2 ((Same.new hp1).trans ((Same.new hp2).trans (Same.new hp3)))⟩
    · rw[h4];exact⟨p3,_,_,_,rfl,rfl,SqL.of zc,rfl,k _ _ Y4.1 Y4.2 ((Same.new hp1).trans ((Same.new hp2).trans (Same.new hp3)))⟩
theorem zxo {us:List Str}{i:Int}(h0:0<=i) (h1:i<(us.length:Int)):∃x∈us,atI (us.map V.str) i=some (.str x):=by
  have hi:i.toNat<us.length:=by omega
  refine⟨us[i.toNat],List.getElem_mem hi,?_⟩;have:=zan (xs:=us.map V.str) (j:=i.toNat) (v:=.str us[i.toNat]) (by simp[hi]);rw[Int.toNat_of_nonneg h0] at this;exact this
def zf8:List V:=[.str "over",.str "cuts",.str "fills",.str "after",.str "same"]
theorem zxp {i:Int}(h0:0<=i) (h1:i<5):∃kd:Str,atI zf8 i=some (.str kd)/\(kd = "after"\/kd∈zgt):=by
  have h:i=0\/i=1\/i=2\/i=3\/i=4:=by omega
  rcases h with rfl | rfl | rfl | rfl | rfl
  · exact⟨_,rfl,.inr (by decide +kernel)⟩
  · exact⟨_,rfl,.inr (by decide +kernel)⟩
  · exact⟨_,rfl,.inr (by decide +kernel)⟩
  · exact⟨_,rfl,.inl rfl⟩
  · exact⟨_,rfl,.inr (by decide +kernel)⟩
theorem zjq {a b:Int}{ms:List Int}(h:ms.Perm [a,b]) (hs:ms.Pairwise (·<=·)):∃lo hi,ms = [lo,hi]/\lo<=hi/\(lo=a\/lo=b)/\(hi=a\/hi=b):=by
  have hl:=h.length_eq
  match ms,hl with
  | [lo,hi],_=>
    have m1:=h.mem_iff (a:=lo);have m2:=h.mem_iff (a:=hi);have e1:=m1.mp (by simp);have e2:=m2.mp (by simp);simp at e1 e2;refine⟨lo,hi,rfl,?_,e1,e2⟩;have:=List.rel_of_pairwise_cons hs (a':=hi) (by simp);exact this
def zs8:Sp:=fun vs H Q _=>∃(n m:Addr) (xs ms:List Str) (c:Int),vs = [.ref n,.ref m,.int c]/\SqL K H n (xs.map V.str)/\SqL K H m (ms.map V.str)/\xs.length=9/\ms.length=9/\(∀x∈xs,zap x=true)/\(∀x∈ms,zap x=true)/\
  ∀(p:Addr) (ws:List V) (H':Hp),Drw ws->H p=none->H' p=some (.lst ws)->Same H H'->Q (.ref p) H'
set_option maxHeartbeats 8000000 in
theorem zmo (T:Tx K mg w C_Reading zq zk zo ze zb zf zd zg):Has P w K mg base "_law_drawn" ["_law_names_here","_law_marks","_law_cell"] 3 (zs8 (K:=K)):=by
  refine T.zm1.has sc__law_drawn (fun vs H Q E h=>?_) (fun f cdv A outer s H vs Q E hr h=>?_)
  · obtain⟨n,m,xs,ms,c,rfl,_⟩:=h;rfl
  · obtain⟨n,m,xs,ms,c,rfl,hn,hm,x9,m9,xn,mn,k⟩:=h;have b_all:zh (top 34) = [((zh (top 34)).getD 0 (.Pass ⟨0,0,0,0⟩)),((zh (top 34)).getD 1 (.Pass ⟨0,0,0,0⟩)),((zh (top 34)).getD 2 (.Pass ⟨0,0,0,0⟩)),((zh (top 34)).getD 3 (.Pass ⟨0,0,0,0⟩)),((zh (top 34)).getD 4 (.Pass ⟨0,0,0,0⟩)),((zh (top 34)).getD 5 (.Pass ⟨0,0,0,0⟩)),((zh (top 34)).getD 6 (.Pass ⟨0,0,0,0⟩)),((zh (top 34)).getD 7 (.Pass ⟨0,0,0,0⟩))]:=by kernel_rfl
    rw[b_all];have z_0:PS (cxOf CX0 P w K mg base ["_law_names_here","_law_marks","_law_cell","_law_one","_law_other","_law_way","_law_years","_law_kind"] "_law_drawn" (zm (top 34)) f cdv A outer s H E).nox ((zh (top 34)).getD 0 (.Pass ⟨0,0,0,0⟩)) _:=(@zah _ _ 3 _ _ _ _ sc__law_drawn.nd rfl (Or.inl rfl) (@zae _ _ _ _ _ _ _ (@zaa _ K rfl) (pv 0) (@zar _ _ _ _ _ _ _ _ _ _ (zak T) (hr.mono (by decide)) (by rfl) (@za _ _ _ _ _ (pv 2) (@za _ _ _ _ _ (@zn _ _ _ _) (@za _ _ _ _ _ (@zn _ _ _ _) (@zi _) (by rfl)) (by rfl)) (by rfl)) (by decide) (by rfl) (by rfl)) (fun _ _=>rfl)) (by rfl) (by first | exact .inl rfl | exact .inr rfl | assumption));have z_1:PS (cxOf CX0 P w K mg base ["_law_names_here","_law_marks","_law_cell","_law_one","_law_other","_law_way","_law_years","_law_kind"] "_law_drawn" (zm (top 34)) f cdv A outer s H E).nox ((zh (top 34)).getD 1 (.Pass ⟨0,0,0,0⟩)) _:=(@zah _ _ 4 _ _ _ _ sc__law_drawn.nd rfl (Or.inl rfl) (@zae _ _ _ _ _ _ _ (@zaa _ K rfl) (pv 0) (@zar _ _ _ _ _ _ _ _ _ _ (zak T) (hr.mono (by decide)) (by rfl) (@za _ _ _ _ _ (pv 2) (@za _ _ _ _ _ (@zn _ _ _ _) (@za _ _ _ _ _ (@zn _ _ _ _) (@zi _) (by rfl)) (by rfl)) (by rfl)) (by decide) (by rfl) (by rfl)) (fun _ _=>rfl)) (by rfl) (by first | exact .inl rfl | exact .inr rfl | assumption));have z_2:PS (cxOf CX0 P w K mg base ["_law_names_here","_law_marks","_law_cell","_law_one","_law_other","_law_way","_law_years","_law_kind"] "_law_drawn" (zm (top 34)) f cdv A outer s H E).nox ((zh (top 34)).getD 2 (.Pass ⟨0,0,0,0⟩)) _:=(@zah _ _ 5 _ _ _ _ sc__law_drawn.nd rfl (Or.inl rfl) (@zar _ _ _ _ _ _ _ _ _ _ (zak T) (hr.mono (by decide)) (by rfl) (@za _ _ _ _ _ (pv 2) (@za _ _ _ _ _ (@zn _ _ _ _) (@za _ _ _ _ _ (@zn _ _ _ _) (@zi _) (by rfl)) (by rfl)) (by rfl)) (by decide) (by rfl) (by rfl)) (by rfl) (by first | exact .inl rfl | exact .inr rfl | assumption));have z_3:PS (cxOf CX0 P w K mg base ["_law_names_here","_law_marks","_law_cell","_law_one","_law_other","_law_way","_law_years","_law_kind"] "_law_drawn" (zm (top 34)) f cdv A outer s H E).nox ((zh (top 34)).getD 3 (.Pass ⟨0,0,0,0⟩)) _:=(@zal _ _ _ _ _ _ _ _ (@zy _ _ _ _ _ _ _ _ (@zq9 _) (pv 5) (@zn _ _ _ _) (zaf _)) (@zp _ _ _ (@zac _ _ _ _ (@za2 _ _ _ _ (@za _ _ _ _ _ (@zw _ _ _ _) (@za _ _ _ _ _ (pv 3) (@zi _) (by rfl)) (by rfl))))) (@zz _));have z_4:PS (cxOf CX0 P w K mg base ["_law_names_here","_law_marks","_law_cell","_law_one","_law_other","_law_way","_law_years","_law_kind"] "_law_drawn" (zm (top 34)) f cdv A outer s H E).nox ((zh (top 34)).getD 4 (.Pass ⟨0,0,0,0⟩)) _:=(@zal _ _ _ _ _ _ _ _ (@zy _ _ _ _ _ _ _ _ (@zq9 _) (pv 5) (@zn _ _ _ _) (zaf _)) (@zj _ _ _ _ _ (@zah _ _ 6 _ _ _ _ sc__law_drawn.nd rfl (Or.inl rfl) (@za5 _ _ _ _ _ _ _ _ _ (@zft _ K rfl) (by rfl) T.sorted PyProof.Rows.boot_sorted (@za _ _ _ _ _ (@za2 _ _ _ _ (@za _ _ _ _ _ (@zar _ _ _ _ _ _ _ _ _ _ (zdm T) (hr.mono (by decide)) (by rfl) (@za _ _ _ _ _ (pv 2) (@za _ _ _ _ _ (@zn _ _ _ _) (@zi _) (by rfl)) (by rfl)) (by decide) (by rfl) (by rfl)) (@za _ _ _ _ _ (@zar _ _ _ _ _ _ _ _ _ _ (zdm T) (hr.mono (by decide)) (by rfl) (@za _ _ _ _ _ (pv 2) (@za _ _ _ _ _ (@zn _ _ _ _) (@zi _) (by rfl)) (by rfl)) (by decide) (by rfl) (by rfl)) (@zi _) (by rfl)) (by rfl))) (@zi _) (by rfl)) (by decide) (by decide) (by rfl) (by rfl)) (by rfl) (by first | exact .inl rfl | exact .inr rfl | assumption)) (@zp _ _ _ (@zac _ _ _ _ (@za2 _ _ _ _ (@za _ _ _ _ _ (@zw _ _ _ _) (@za _ _ _ _ _ (@zae _ _ _ _ _ _ _ (@zaa _ K rfl) (pv 1) (@zar _ _ _ _ _ _ _ _ _ _ (zak T) (hr.mono (by decide)) (by rfl) (@za _ _ _ _ _ (pv 2) (@za _ _ _ _ _ (@zn _ _ _ _) (@za _ _ _ _ _ (@zn _ _ _ _) (@zi _) (by rfl)) (by rfl)) (by rfl)) (by decide) (by rfl) (by rfl)) (fun _ _=>rfl)) (@za _ _ _ _ _ (pv 3) (@za _ _ _ _ _ (@zae _ _ _ _ _ _ _ (@zaa _ K rfl) (pv 6) (@zn _ _ _ _) (fun _ _=>rfl)) (@za _ _ _ _ _ (@zae _ _ _ _ _ _ _ (@zaa _ K rfl) (pv 6) (@zn _ _ _ _) (fun _ _=>rfl)) (@zi _) (by rfl)) (by rfl)) (by rfl)) (by rfl)) (by rfl)))))) (@zz _));have z_5:PS (cxOf CX0 P w K mg base ["_law_names_here","_law_marks","_law_cell","_law_one","_law_other","_law_way","_law_years","_law_kind"] "_law_drawn" (zm (top 34)) f cdv A outer s H E).nox ((zh (top 34)).getD 5 (.Pass ⟨0,0,0,0⟩)) _:=(@zah _ _ 7 _ _ _ _ sc__law_drawn.nd rfl (Or.inl rfl) (@zae _ _ _ _ _ _ _ (@zaa _ K rfl) (@za2 _ _ _ _ (@za _ _ _ _ _ (@zw _ _ _ _) (@za _ _ _ _ _ (@zw _ _ _ _) (@za _ _ _ _ _ (@zw _ _ _ _) (@za _ _ _ _ _ (@zw _ _ _ _) (@za _ _ _ _ _ (@zw _ _ _ _) (@zi _) (by rfl)) (by rfl)) (by rfl)) (by rfl)) (by rfl))) (@zar _ _ _ _ _ _ _ _ _ _ (zak T) (hr.mono (by decide)) (by rfl) (@za _ _ _ _ _ (pv 2) (@za _ _ _ _ _ (@zn _ _ _ _) (@za _ _ _ _ _ (@zn _ _ _ _) (@zi _) (by rfl)) (by rfl)) (by rfl)) (by decide) (by rfl) (by rfl)) (fun _ _=>rfl)) (by rfl) (by first | exact .inl rfl | exact .inr rfl | assumption));have z_6:PS (cxOf CX0 P w K mg base ["_law_names_here","_law_marks","_law_cell","_law_one","_law_other","_law_way","_law_years","_law_kind"] "_law_drawn" (zm (top 34)) f cdv A outer s H E).nox ((zh (top 34)).getD 6 (.Pass ⟨0,0,0,0⟩)) _:=(@zal _ _ _ _ _ _ _ _ (@zy _ _ _ _ _ _ _ _ (@zbv _) (pv 7) (@zw _ _ _ _) (zaf _)) (@zp _ _ _ (@zac _ _ _ _ (@za2 _ _ _ _ (@za _ _ _ _ _ (pv 7) (@za _ _ _ _ _ (pv 3) (@za _ _ _ _ _ (pv 4) (@za _ _ _ _ _ (@zae _ _ _ _ _ _ _ (@zaa _ K rfl) (@za2 _ _ _ _ (@za _ _ _ _ _ (@zar _ _ _ _ _ _ _ _ _ _ (zak T) (hr.mono (by decide)) (by rfl) (@za _ _ _ _ _ (pv 2) (@za _ _ _ _ _ (@zn _ _ _ _) (@za _ _ _ _ _ (@zn _ _ _ _) (@zi _) (by rfl)) (by rfl)) (by rfl)) (by decide) (by rfl) (by rfl)) (@za _ _ _ _ _ (@zai _ _ _ _ _ _ _ _ (@zbu _) (@zai _ _ _ _ _ _ _ _ (@zjb _) (pv 2) (@zn _ _ _ _)) (@zai _ _ _ _ _ _ _ _ (@zoe _) (@zn _ _ _ _) (@zn _ _ _ _))) (@zi _) (by rfl)) (by rfl))) (@zar _ _ _ _ _ _ _ _ _ _ (zak T) (hr.mono (by decide)) (by rfl) (@za _ _ _ _ _ (pv 2) (@za _ _ _ _ _ (@zn _ _ _ _) (@za _ _ _ _ _ (@zn _ _ _ _) (@zi _) (by rfl)) (by rfl)) (by rfl)) (by decide) (by rfl) (by rfl)) (fun _ _=>rfl)) (@zi _) (by rfl)) (by rfl)) (by rfl)) (by rfl))))) (@zz _));have z_7:PS (cxOf CX0 P w K mg base ["_law_names_here","_law_marks","_law_cell","_law_one","_law_other","_law_way","_law_years","_law_kind"] "_law_drawn" (zm (top 34)) f cdv A outer s H E).nox ((zh (top 34)).getD 7 (.Pass ⟨0,0,0,0⟩)) _:=(@zac _ _ _ _ (@za2 _ _ _ _ (@za _ _ _ _ _ (pv 7) (@za _ _ _ _ _ (pv 3) (@za _ _ _ _ _ (pv 4) (@zi _) (by rfl)) (by rfl)) (by rfl))));generalize ((zh (top 34)).getD 0 (.Pass ⟨0,0,0,0⟩))=s_0 at z_0 ⊢;generalize ((zh (top 34)).getD 1 (.Pass ⟨0,0,0,0⟩))=s_1 at z_1 ⊢;generalize ((zh (top 34)).getD 2 (.Pass ⟨0,0,0,0⟩))=s_2 at z_2 ⊢;generalize ((zh (top 34)).getD 3 (.Pass ⟨0,0,0,0⟩))=s_3 at z_3 ⊢;generalize ((zh (top 34)).getD 4 (.Pass ⟨0,0,0,0⟩))=s_4 at z_4 ⊢;generalize ((zh (top 34)).getD 5 (.Pass ⟨0,0,0,0⟩))=s_5 at z_5 ⊢;generalize ((zh (top 34)).getD 6 (.Pass ⟨0,0,0,0⟩))=s_6 at z_6 ⊢;generalize ((zh (top 34)).getD 7 (.Pass ⟨0,0,0,0⟩))=s_7 at z_7 ⊢;refine⟨_,zj z_0 (zj z_1 (zj z_2 (zj z_3 (zj z_4 (zj z_5 (zj z_6 (zp z_7))))))),?_⟩;clear b_all z_0 z_1 z_2 z_3 z_4 z_5 z_6 z_7 s_0 s_1 s_2 s_3 s_4 s_5 s_6 s_7;rw[show L2.start (["_law_names_here","_law_marks","_law_cell","_law_one","_law_other","_law_way","_law_years","_law_kind"]:List Str) [V.ref n,V.ref m,V.int c] = [some (V.ref n),some (V.ref m),some (V.int c),none,none,none,none,none] from rfl];have i9:(9:Int)=(xs.length:Int):=by rw[x9];rfl
    have j9:(9:Int)=(ms.length:Int):=by rw[m9];rfl
    have p9:(0:Int)<9:=by decide
    obtain⟨x,hx,ex⟩:=zxo (us:=xs) (ze9 c 2 9 p9).1 (by rw[←i9];exact (ze9 c 2 9 p9).2);obtain⟨y,hy,ey⟩:=zxo (us:=xs) (ze9 c 3 9 p9).1 (by rw[←i9];exact (ze9 c 3 9 p9).2);obtain⟨z,hz,ez⟩:=zxo (us:=ms) (ze9 c 4 9 p9).1 (by rw[←j9];exact (ze9 c 4 9 p9).2);refine⟨_,rfl,_,rfl,_,_,_,rfl,p9,n,_,_,_,rfl,rfl,hn,ex,?_⟩
    try dsimp only [za0,List.set]
    refine⟨_,rfl,_,rfl,_,_,_,rfl,p9,n,_,_,_,rfl,rfl,hn,ey,?_⟩
    try dsimp only [za0,List.set]
    refine⟨_,rfl,_,_,_,rfl,by decide,?_⟩
    try dsimp only [za0,List.set]
    generalize pt c 0 10=way;refine⟨_,rfl,_,_,rfl,rfl,_,rfl,?_⟩;refine ite2 (fun _=>?_) (fun _=>?_)
    · exact⟨_,rfl,by show 2<=sizeLine;decide,fun p hp=>k p _ _ (.unit (xn x hx)) hp zc (Same.new hp)⟩
    try unfold zfo
    try dsimp only
    refine⟨_,rfl,_,_,rfl,rfl,_,rfl,?_⟩;refine ite2 (fun _=>?_) (fun _=>?_)
    · refine⟨_,rfl,_,_,rfl,fun z1 H1 y1 w1 s1=>?_⟩;refine⟨_,rfl,_,_,rfl,fun z2 H2 y2 w2 s2=>?_⟩;refine⟨(by show 2<=sizeLine;decide),fun p1 hp1=>?_⟩;have s3:Same H (upd H2 p1 (.lst [.int z1,.int z2])):=s1.trans (s2.trans (Same.new hp1));refine⟨p1,[z1,z2],rfl,SqL.of zc,(by show 2<64;decide),fun p2 zs hp2 pm ps=>?_⟩;obtain⟨lo,hi,rfl,o1,o2,o3⟩:=zjq pm ps;have s4:Same H (upd (upd H2 p1 (.lst [.int z1,.int z2])) p2 (.lst ([lo,hi].map V.int))):=s3.trans (Same.new hp2);have e4:upd (upd H2 p1 (.lst [.int z1,.int z2])) p2 (.lst ([lo,hi].map V.int)) p2=some (.lst [.int lo,.int hi]):=zc;generalize upd (upd H2 p1 (.lst [.int z1,.int z2])) p2 (.lst ([lo,hi].map V.int))=H4 at s4 e4
      try dsimp only [za0,List.set]
      refine⟨_,rfl,_,rfl,_,_,_,rfl,p9,m,_,_,_,rfl,rfl,s4.seq hm,ez,_,rfl,_,rfl,p2,_,_,_,rfl,rfl,SqL.of e4,rfl,_,rfl,p2,_,_,_,rfl,rfl,SqL.of e4,rfl,by show 5<=sizeLine;decide,fun p hp=>k p _ _ (.find (mn z hz) (xn x hx) o1 ?_ ?_ ?_) (s4.free hp) zc (s4.trans (Same.new hp))⟩
      · rcases o2 with rfl | rfl
        · exact y1
        · exact y2
      · rcases o3 with rfl | rfl
        · exact y1
        · exact y2
      · rcases o3 with rfl | rfl
        · exact w1
        · exact w2
    try unfold zfo
    try dsimp only
    refine⟨(by show 5<=sizeLine;decide),fun p1 hp1=>?_⟩;refine⟨_,rfl,_,_,_,rfl,by decide,?_⟩;obtain⟨kd,ek,hk⟩:=zxp (ze9 c 4 5 (by decide)).1 (ze9 c 4 5 (by decide)).2;have s1:Same H (upd H p1 (.lst zf8)):=Same.new hp1;refine⟨p1,zf8,_,_,rfl,rfl,SqL.of zc,ek,?_⟩
    try dsimp only [za0,List.set]
    show tSeq _ _ _ _ (upd H p1 (.lst zf8));generalize upd H p1 (.lst zf8)=H1 at s1;refine⟨_,rfl,rfl,_,rfl,?_⟩;refine ite2 (fun c1=>?_) (fun c1=>?_)
    · have c1:=V.str.inj (of_decide_eq_true c1);subst c1;refine⟨_,rfl,_,rfl,_,rfl,_,rfl,_,_,_,rfl,by decide,?_⟩
      walk_at "rd"
      refine⟨.inr ⟨by decide,by decide⟩,?_⟩
      walk_at "rd"
      refine⟨c60,?_⟩
      walk_at "rd"
      refine⟨m60,(by show 2<=sizeLine;decide),fun p2 hp2=>?_⟩
      walk_at "rd"
      refine⟨by decide,?_⟩;obtain⟨b1,b2⟩:=ze9 c 6 2 (by decide);obtain⟨d1,d2⟩:=ze9 c 5 9 (by decide);have d5:=Int.emod_nonneg (c * 48271) (show (10 ^ (60:Int).toNat:Int)≠0 by decide);have d6:=Int.emod_lt_of_pos (c * 48271) m60;have e60:(10:Int) ^ (60:Int).toNat=10 ^ 60:=rfl;rw[e60] at d5 d6;have h2:pt c 6 2=0\/pt c 6 2=1:=by omega
      rcases h2 with h2 | h2
      all_goals
        rw[h2];refine⟨p2,_,_,_,rfl,rfl,SqL.of zc,rfl,(by show 4<=sizeLine;decide),fun p3 hp3=>k p3 _ _ (.after (xn x hx) (xn y hy) ?_ ?_) (s1.free ((Same.new hp2).free hp3)) zc (s1.trans ((Same.new hp2).trans (Same.new hp3)))⟩
      · exact d1
      · show (pt c 5 9).natAbs<10 ^ 60;omega
      · exact d5
      · show (c * 48271%10 ^ 60).natAbs<10 ^ 60;omega
    · refine⟨_,rfl,_,rfl,_,rfl,(by show 3<=sizeLine;decide),fun p2 hp2=>?_⟩;have hk':kd∈zgt:=by
        rcases hk with hk | hk
        · exact absurd (decide_eq_true (congrArg V.str hk)) c1
        · exact hk
      exact k p2 _ _ (.plain hk' (xn x hx) (xn y hy)) (s1.free hp2) zc (s1.trans (Same.new hp2))
def zu7:Sp:=fun vs H Q _=>∃(a:Addr) (ws:List V) (c:Int),vs = [.ref a,.int c]/\SqL K H a ws/\ws≠[]/\(∀v∈ws,Wd v)/\(∀u∈ws.map zab,Pln u)/\ws.length<=7/\∀(y:Str) H',Dm.wordsOf y=ws.map zab->10 ∉ co y->y.length<=900->Same H H'->Q (.str y) H'
theorem zn1 {ws:List V}{g:Nat}(h:∀v∈ws,Wd v) (hl:ws.length<=7) (hg:g<=2):((ws.map zab).map (·.length)).sum+(ws.map zab).length * (zam (List.replicate g 32)).length<=16777216/\(Txt.join (zam (List.replicate g 32)) (ws.map zab)).length<=900:=by
  have h2:=zh6 (l:=ws.map fun v=>co (zab v)) (k:=100) fun x hx=>by
    obtain⟨v,hv,rfl⟩:=List.mem_map.mp hx;exact zfy (h v hv)
  have e:(ws.map fun v=>co (zab v)).map List.length=(ws.map zab).map (·.length):=by
    rw[List.map_map,List.map_map];exact List.map_congr_left fun v _=>za8 _
  rw[List.length_map] at h2;have h3:ws.length * 100<=7 * 100:=Nat.mul_le_mul_right _ hl;have h4:ws.length * g<=7 * 2:=Nat.mul_le_mul hl hg;have h5:=zjl (List.replicate g 32) ((ws.map zab).map co);rw[List.length_map,List.length_map,List.length_replicate,show ((ws.map zab).map co).map List.length=(ws.map zab).map (·.length) by rw[List.map_map];exact List.map_congr_left fun v _=>za8 _] at h5;rw[e] at h2;refine⟨by rw[List.length_map,zgv];omega,?_⟩;rw[←za8,zhl,zad];omega
set_option maxHeartbeats 8000000 in
theorem zik (T:Tx K mg w C_Reading zq zk zo ze zb zf zd zg):Has P w K mg base "_law_line" ["_law_parts","_law_cell"] 2 (zu7 (K:=K)):=by
  refine T.zob.has sc__law_line (fun vs H Q E h=>?_) (fun f cdv A outer s H vs Q E hr h=>?_)
  · obtain⟨a,ws,c,rfl,_⟩:=h;rfl
  · obtain⟨a,ws,c,rfl,ha,hne,hw,hp,hl,k⟩:=h;have b_all:zh (top 37) = [((zh (top 37)).getD 0 (.Pass ⟨0,0,0,0⟩)),((zh (top 37)).getD 1 (.Pass ⟨0,0,0,0⟩))]:=by kernel_rfl
    rw[b_all];have z_0:PS (cxOf CX0 P w K mg base ["_law_parts","_law_cell","_law_gap"] "_law_line" (zm (top 37)) f cdv A outer s H E).nox ((zh (top 37)).getD 0 (.Pass ⟨0,0,0,0⟩)) _:=(@zah _ _ 2 _ _ _ _ sc__law_line.nd rfl (Or.inl rfl) (@zai _ _ _ _ _ _ _ _ (@zh3 _) (@zw _ _ _ _) (@zai _ _ _ _ _ _ _ _ (@zdz _) (@zn _ _ _ _) (@zai _ _ _ _ _ _ _ _ (@zbu _) (pv 1) (@zn _ _ _ _)))) (by rfl) (by first | exact .inl rfl | exact .inr rfl | assumption));have z_1:PS (cxOf CX0 P w K mg base ["_law_parts","_law_cell","_law_gap"] "_law_line" (zm (top 37)) f cdv A outer s H E).nox ((zh (top 37)).getD 1 (.Pass ⟨0,0,0,0⟩)) _:=(@zac _ _ _ _ (@zai _ _ _ _ _ _ _ _ (@zgl _) (@zai _ _ _ _ _ _ _ _ (@zgl _) (@zai _ _ _ _ _ _ _ _ (@zh3 _) (@zw _ _ _ _) (@zai _ _ _ _ _ _ _ _ (@zbu _) (@zai _ _ _ _ _ _ _ _ (@zm7 _) (pv 1) (@zn _ _ _ _)) (@zn _ _ _ _))) (@zbw _ K rfl _ _ _ _ _ _ _ _ _ _ _ PySem.F.plainAttrs_str PySem.F.slot_str_join PySem.F.type_str_join (@zhk _ K rfl) (pv 2) (@za _ _ _ _ _ (@zc5 _ _ _ _ _ _ _ ["_law_part_here"] [] [] _ _ _ _ (zm (top 37)) rfl ⟨rfl,by decide +kernel,by decide +kernel,by decide +kernel,by decide +kernel⟩ rfl (@zcy _ _ K rfl _ _ (pv 0)) (fun _ _ _ _=>@zas _ _ 0 _ (show List.Nodup (["_law_part_here"]:List Str) by decide +kernel) rfl (Or.inl rfl) (by first | exact .inl rfl | exact .inr rfl | assumption)) (fun _ _ _ _=>@zcp _) (fun _ _ _ _=>(@zbb _ _ _ _ _ _ _ _ _ (@zll _) (by rfl) T.str PyProof.Rows.boot_str (@za _ _ _ _ _ (pv 0) (@zi _) (by rfl)) (by decide) (by decide) (by rfl) (by rfl))) (by intro _;rfl) (by rfl)) (@zi _) (by rfl)) (by rfl) (by rfl) (by rfl) (by rfl) (by rfl))) (@zai _ _ _ _ _ _ _ _ (@zh3 _) (@zw _ _ _ _) (@zai _ _ _ _ _ _ _ _ (@zbu _) (@zai _ _ _ _ _ _ _ _ (@zm7 _) (pv 1) (@zn _ _ _ _)) (@zn _ _ _ _)))));generalize ((zh (top 37)).getD 0 (.Pass ⟨0,0,0,0⟩))=s_0 at z_0 ⊢;generalize ((zh (top 37)).getD 1 (.Pass ⟨0,0,0,0⟩))=s_1 at z_1 ⊢;refine⟨_,zj z_0 (zp z_1),?_⟩;clear b_all z_0 z_1 s_0 s_1;rw[show L2.start (["_law_parts","_law_cell","_law_gap"]:List Str) [V.ref a,V.int c] = [some (V.ref a),some (V.int c),none] from rfl];have m1:=Int.emod_nonneg c (show (2:Int)≠0 by decide);have m2:=Int.emod_lt_of_pos c (show (0:Int)<2 by decide);have d1:=Int.emod_nonneg (c / 2) (show (2:Int)≠0 by decide);have d2:=Int.emod_lt_of_pos (c / 2) (show (0:Int)<2 by decide);have f1:=Int.emod_nonneg (c / 4) (show (2:Int)≠0 by decide);have f2:=Int.emod_lt_of_pos (c / 4) (show (0:Int)<2 by decide);refine⟨_,rfl,_,_,rfl,rfl,(by decide:(0:Int)<2),_,_,rfl,rfl,_,rfl,rfl,by omega,by omega,?_⟩
    try dsimp only [za0,List.set]
    obtain⟨g,eg,g1,g2⟩:∃g,(1+c%2).toNat=g/\1<=g/\g<=2:=⟨_,rfl,by omega,by omega⟩;obtain⟨n,en,hn⟩:∃n,(c / 2%2).toNat=n/\n<=1:=⟨_,rfl,by omega⟩;obtain⟨m,em,hm⟩:∃m,(c / 4%2).toNat=m/\m<=1:=⟨_,rfl,by omega⟩;rw[eg];have wb:=zn1 hw hl g2;have ok:=zuw (us:=ws.map zab) (by simpa using hne) hp (by rw[List.length_map];exact hl) hn ⟨g1,g2⟩ hm;refine⟨_,rfl,_,_,rfl,rfl,⟨by decide,by decide⟩,_,_,rfl,rfl,(by decide:(0:Int)<2),_,rfl,rfl,by omega,by omega,?_⟩;rw[en];refine⟨_,rfl,rfl,_,rfl,a,rfl,⟨_,ha⟩,fun D hD=>?_⟩;refine zd0 (zdh (K:=K) (a:=a) (xs:=ws)) (fun _=>true) (fun v=>.str (zab v)) (fun ys=>(Same.new hD).seq ha) (zaj (by omega)) (fun v hv ys Q' q=>q) (fun v hv _ ys Q' q=>?_) ?_
    · exact⟨_,rfl,v,rfl,hw v hv,q⟩
    rw[filt];have bn:=zgv n;have bm:=zgv m;have l1:(zam (List.replicate n 32)++Txt.join (zam (List.replicate g 32)) (ws.map zab)).length<=901:=by rw[zw9,bn];omega
    refine⟨_,D,ws.map zab,rfl,rfl,SqL.of (by rw[zc,List.map_map];rfl),wb.1,_,_,rfl,rfl,zaj (by show (zam (List.replicate n 32)).length+(Txt.join (zam (List.replicate g 32)) (ws.map zab)).length<=1000;omega),?_⟩;refine⟨_,rfl,_,_,rfl,rfl,⟨by decide,by decide⟩,_,_,rfl,rfl,(by decide:(0:Int)<2),_,rfl,rfl,by omega,by omega,?_⟩;rw[em];refine⟨_,_,rfl,rfl,zaj (by show (zam (List.replicate n 32)++Txt.join (zam (List.replicate g 32)) (ws.map zab)).length+(zam (List.replicate m 32)).length<=1000;omega),?_⟩;exact k (znr n g m (ws.map zab)) _ ok.1 ok.2.1 ok.2.2 (Same.new hD)
def zzf (w:Str):Prop:=32 ∉ co w/\10 ∉ co w/\co w≠[]/\w.length<=90
instance (w:Str):Decidable (zzf w):=by unfold zzf;infer_instance
theorem zs9 {ks:List Str}{vs:List V}(h:Paired ValOk ks vs) {i:Nat}(hi:i<ks.length):∃kd v,ks[i]? = some kd/\vs[i]? = some v/\ValOk kd v:=by
  obtain⟨v,e,hv⟩:=Paired.get' h (List.getElem?_eq_getElem hi);exact⟨_,v,List.getElem?_eq_getElem hi,e,hv⟩
theorem zu8 {kp kq rq:List Str}{vs:List V}{kd x:Str}{k:Wrg}(h:Paired ValOk kp vs) (hb:BadV kd x k) (hl:rq.length=kq.length):BadF (kp++kd::kq) (vs.map zab++x::rq) k:=by
  have hv:=Paired.length h;refine .val (j:=kp.length) (kd:=kd) (x:=x) (by simp;omega) (fun i hi=>?_) (by simp) (by rw[List.getElem?_append_right (by simp;omega)];simp[hv]) hb;obtain⟨kd',v,e1,e2,h1⟩:=zs9 h hi;refine⟨kd',v,by rw[List.getElem?_append_left hi];exact e1,?_,h1⟩;rw[List.getElem?_append_left (by rw[List.length_map];omega),List.getElem?_map,e2];rfl
theorem zky {x:Str}{f:Int×Int}(h:x≠Str.ofString "dig"):decide (x=(Str.ofString "dig" : Str))=(some f).isNone:=decide_eq_false h
def wkS:Wrg->Str
  | .row=>"row"
  | .name=>"name"
  | .number=>"number"
  | .span=>"span"
  | .twice=>"twice"
  | .unit=>"unit"
theorem zil {xs:List V}{z:Nat}(h1:z<=xs.length):cutV xs none (some (z:Int))=xs.take z:=by
  unfold cutV HT.sIx;simp;split
  · omega
  · congr 1
    omega
theorem zpb {xs:List V}{z:Nat}(h1:z<=xs.length):cutV xs (some (z:Int)) none=xs.drop z:=by
  unfold cutV HT.sIx;simp;split
  · omega
  · rw[Nat.min_eq_left (by omega)];apply List.take_of_length_le;rw[List.length_drop];omega
theorem zu9 (xs:List V) (h:1<=xs.length):cutV xs none (some (-1))=xs.take (xs.length-1):=by
  unfold cutV HT.sIx;dsimp only;rw[if_pos (by decide)];rw[show ((-1:Int)+(xs.length:Int)).toNat=xs.length-1 by omega];simp
def SpB (ws:List V) (k:Wrg):Prop:=ws≠[]/\(∀v∈ws,Wd v)/\(∀u∈ws.map zab,Pln u)/\ws.length<=7/\zbz (ws.map zab)=false/\∀f us ts fs,BadS ⟨some f,us,ts,fs⟩ (ws.map zab) k
theorem zc2 {ws:List V}(h:Drw ws):(∀v∈ws,Wd v)/\ws.length<=5:=by
  cases h with
  | unit hx=>exact⟨fun v hv=>by
      simp only [List.mem_cons,List.not_mem_nil,or_false] at hv;rcases hv with rfl | rfl
      · exact .inl ⟨_,rfl,by decide +kernel⟩
      · exact .inl ⟨_,rfl,by have:=zcb hx;omega⟩,by simp⟩
  | find hn hx hl h1 h2 h3=>exact⟨fun v hv=>by
      simp only [List.mem_cons,List.not_mem_nil,or_false] at hv;rcases hv with rfl | rfl | rfl | rfl | rfl
      · exact .inl ⟨_,rfl,by decide +kernel⟩
      · exact .inl ⟨_,rfl,by have:=zcb hn;omega⟩
      · exact .inl ⟨_,rfl,by have:=zcb hx;omega⟩
      · exact .inr ⟨_,rfl,h1⟩
      · exact .inr ⟨_,rfl,h2⟩,by simp⟩
  | plain hk hx hy=>exact⟨fun v hv=>by
      simp only [List.mem_cons,List.not_mem_nil,or_false] at hv;rcases hv with rfl | rfl | rfl
      · exact .inl ⟨_,rfl,(by decide +kernel:∀x∈zgt,x.length<=100) _ hk⟩
      · exact .inl ⟨_,rfl,by have:=zcb hx;omega⟩
      · exact .inl ⟨_,rfl,by have:=zcb hy;omega⟩,by simp⟩
  | after hx hy h0 h1=>exact⟨fun v hv=>by
      simp only [List.mem_cons,List.not_mem_nil,or_false] at hv;rcases hv with rfl | rfl | rfl | rfl
      · exact .inl ⟨_,rfl,by decide +kernel⟩
      · exact .inl ⟨_,rfl,by have:=zcb hx;omega⟩
      · exact .inl ⟨_,rfl,by have:=zcb hy;omega⟩
      · exact .inr ⟨_,rfl,h1⟩,by simp⟩
theorem zf9 {ws:List V}(h:Drw ws):∃kd ks v vs,ws = .str kd::v::vs/\(kd,(Str.ofString "name" :: ks).map V.str)∈l_FORMS/\vs.length=ks.length/\kd≠Str.ofString "dig":=by
  cases h with
  | unit hx=>exact⟨_,[],_,_,rfl,by simp[l_FORMS],rfl,by decide +kernel⟩
  | find hn hx hl h1 h2 h3=>exact⟨_,[Str.ofString "name",Str.ofString "year",Str.ofString "year"],_,_,rfl,by simp[l_FORMS],rfl,by decide +kernel⟩
  | plain hk hx hy=>
    simp only [zgt,List.mem_cons,List.not_mem_nil,or_false] at hk;rcases hk with rfl | rfl | rfl | rfl<;>exact⟨_,[Str.ofString "name"],_,_,rfl,by simp[l_FORMS],rfl,by decide +kernel⟩
  | after hx hy h0 h1=>exact⟨_,[Str.ofString "name",Str.ofString "gap"],_,_,rfl,by simp[l_FORMS],rfl,by decide +kernel⟩
def FIRST0:List Str:=["Unit","x","dig","ties","ove","units"]
def NAMES0:List Str:=["A","a_b","abcdefghijklm","a,"]
def NUMS0:List Str:=["x","01","-0","1.","-"]
theorem zn2 {l:List Str}(h:l.all (fun x=>decide (Pln x) && !(Txt.startswith x ";")&&decide (x.length<=100))=true) {x:Str}(hx:x∈l):Pln x/\zbz [x]=false/\Wd (.str x):=by
  have:=List.all_eq_true.mp h x hx;simp only [Bool.and_eq_true,decide_eq_true_eq,Bool.not_eq_true'] at this;exact⟨this.1.1,this.1.2,.inl ⟨_,rfl,this.2⟩⟩
theorem zxq:FIRST0.all (fun x=>decide (Pln x) && !(Txt.startswith x ";")&&decide (x.length<=100))=true:=by decide +kernel
theorem zzg:NAMES0.all (fun x=>decide (Pln x) && !(Txt.startswith x ";")&&decide (x.length<=100))=true:=by decide +kernel
theorem zz3:NUMS0.all (fun x=>decide (Pln x) && !(Txt.startswith x ";")&&decide (x.length<=100))=true:=by decide +kernel
theorem zim {ws:List V}{k:Wrg}(ne:ws≠[]) (hl:ws.length<=7) (h:∀v∈ws,Wd v/\Pln (zab v)) (hp:zbz (ws.map zab)=false) (hb:∀f us ts fs,BadS ⟨some f,us,ts,fs⟩ (ws.map zab) k):SpB ws k:=
  ⟨ne,fun v hv=>(h v hv).1,fun u hu=>by
    obtain⟨v,hv,rfl⟩:=List.mem_map.mp hu;exact (h v hv).2,hl,hp,hb⟩
theorem zdn {ws:List V}(h:Drw ws):∀v∈ws,Wd v/\Pln (zab v):=fun v hv=>⟨(zc2 h).1 v hv,h.plain_words (zc2 h).1 _ (List.mem_map.mpr ⟨v,hv,rfl⟩)⟩
theorem spA {x kd:Str}{vs:List V}(h:Drw (.str kd::vs)) (hx:x∈FIRST0):SpB (.str x::vs) .row:=by
  have p:=zn2 zxq hx;refine zim (List.cons_ne_nil _ _) (by have:=(zc2 h).2;rw[List.length_cons] at this ⊢;omega) (fun v hv=>?_) p.2.1 fun f us ts fs=>?_
  · rcases List.mem_cons.mp hv with rfl | hv
    · exact⟨p.2.2,p.1⟩
    · exact zdn h v (List.mem_cons_of_mem _ hv)
  · rcases (by decide +kernel:∀x∈FIRST0,x=Str.ofString "dig"\/(x≠Str.ofString "dig"/\x ∉ l_FORMS.map (·.1))) x hx with e | ⟨e1,e2⟩
    · exact .dig (by show decide (x=_)≠_;rw[decide_eq_true e];exact fun z=>nomatch z)
    · exact .ent (zky e1) (.first e2)
theorem spB1 {ws:List V}(h:Drw ws):SpB (ws++[.str (Str.ofString "a")]) .row:=by
  have w:=zc2 h;have np:=h.row.notPassed;have e:=zdn h;obtain⟨kd,ks,v,vs,rfl,hf,hl,hd⟩:=zf9 h;refine zim (by simp) (by rw[List.length_append];have:=w.2;show _+1<=7;omega) (fun u hu=>?_) np fun f us ts fs=>?_
  · rcases List.mem_append.mp hu with hu | hu
    · exact e u hu
    · rw[List.mem_singleton.mp hu];exact⟨.inl ⟨_,rfl,by decide +kernel⟩,by show Pln (Str.ofString "a");decide +kernel⟩
  · exact .ent (zky hd) (.form hf (.len (by simp[hl])))
theorem spC {kd x:Str}{v:V}{vs:List V}(h:Drw (.str kd::v::vs)) (hx:x∈NAMES0):SpB (.str kd :: .str x::vs) .name:=by
  have w:=zc2 h;have np:=h.row.notPassed;have e:=zdn h;obtain⟨kd',ks,v',vs',e',hf,hl,hd⟩:=zf9 h;cases e';have p:=zn2 zzg hx;refine zim (List.cons_ne_nil _ _) (by have:=w.2;simp only [List.length_cons] at this ⊢;omega) (fun u hu=>?_) np fun f us ts fs=>?_
  · rcases List.mem_cons.mp hu with rfl | hu
    · exact e _ (List.mem_cons_self ..)
    · rcases List.mem_cons.mp hu with rfl | hu
      · exact⟨p.2.2,p.1⟩
      · exact e _ (List.mem_cons_of_mem _ (List.mem_cons_of_mem _ hu))
  · exact .ent (zky hd) (.form hf (zu8 (kp:=[]) (kq:=ks) (rq:=vs.map zab) .nil (.name ((by decide +kernel:∀x∈NAMES0,zap x=false) x hx)) (by rw[List.length_map,hl])))
theorem spD {a b c d:V}{r:List V}{x:Str}(h:Drw (a::b::c::d::r)) (hx:x∈NUMS0):SpB (a::b::c :: .str x::r) .number:=by
  have w:=zc2 h;have np:=h.row.notPassed;have e:=zdn h;have p:=zn2 zz3 hx;have bad:=(by decide +kernel:∀x∈NUMS0,zc6 x=false) x hx;refine zim (List.cons_ne_nil _ _) (by have:=w.2;simp only [List.length_cons] at this ⊢;omega) (fun u hu=>?_) np fun f us ts fs=>?_
  · simp only [List.mem_cons] at hu e;rcases hu with rfl | rfl | rfl | rfl | hu
    · exact e _ (.inl rfl)
    · exact e _ (.inr (.inl rfl))
    · exact e _ (.inr (.inr (.inl rfl)))
    · exact⟨p.2.2,p.1⟩
    · exact e _ (.inr (.inr (.inr (.inr hu))))
  · cases h with
    | find hn hx hl h1 h2 h3=>
      rename_i nm y lo hi;have z:=zu8 (kp:=[Str.ofString "name",Str.ofString "name"]) (kq:=[Str.ofString "year"]) (rq:=[zab (.int hi)]) (.cons (.name hn) (.cons (.name hx) .nil)) (.year bad) rfl;exact .ent (zky (by decide +kernel)) (.form (show (Str.ofString "find",([Str.ofString "name",Str.ofString "name",Str.ofString "year",Str.ofString "year"]:List Str).map V.str)∈l_FORMS by simp[l_FORMS]) z)
    | after hx hy h0 h1=>
      have z:=zu8 (kp:=[Str.ofString "name",Str.ofString "name"]) (kq:=[]) (rq:=[]) (.cons (.name hx) (.cons (.name hy) .nil)) (.gap bad) rfl;exact .ent (zky (by decide +kernel)) (.form (show (Str.ofString "after",([Str.ofString "name",Str.ofString "name",Str.ofString "gap"]:List Str).map V.str)∈l_FORMS by simp[l_FORMS]) z)
theorem zin {z:Int}(h:z.natAbs<10 ^ 60):Wd (.int z)/\Pln (zab (.int z)):=by
  have s:=zdb z;have w:Wd (.int z):=.inr ⟨_,rfl,h⟩;have:=zfy w;rw[za8] at this;exact⟨w,fun c=>(s.1 32 c).1 rfl,fun c=>(s.1 10 c).2.1 rfl,s.2,this⟩
theorem spE {x y:Str}{n z:Int}(h:Drw [.str (Str.ofString "after"),.str x,.str y,.int n]) (hz:z<0) (hy':z.natAbs<10 ^ 60):SpB [.str (Str.ofString "after"),.str x,.str y,.int z] .number:=by
  have np:=h.row.notPassed;have e:=zdn h;refine zim (List.cons_ne_nil _ _) (by simp) (fun u hu=>?_) np fun f us ts fs=>?_
  · simp only [List.mem_cons,List.not_mem_nil,or_false] at hu e;rcases hu with rfl | rfl | rfl | rfl
    · exact e _ (.inl rfl)
    · exact e _ (.inr (.inl rfl))
    · exact e _ (.inr (.inr (.inl rfl)))
    · exact zin hy'
  · obtain⟨hx,hy⟩:zap x=true/\zap y=true:=by
      cases h with
      | after hx hy h0 h1=>exact⟨hx,hy⟩
    have on:=zgs z hy';have z:=zu8 (kp:=[Str.ofString "name",Str.ofString "name"]) (kq:=[]) (rq:=[]) (.cons (.name hx) (.cons (.name hy) .nil)) (.neg (x:=zab (.int z)) on.1 (by show numI (Str.ofString (toString z))<0;rw[on.2.1];exact hz)) rfl;exact .ent (zky (by decide +kernel)) (.form (show (Str.ofString "after",([Str.ofString "name",Str.ofString "name",Str.ofString "gap"]:List Str).map V.str)∈l_FORMS by simp[l_FORMS]) z)
theorem spF {m x:Str}{lo hi:Int}(h:Drw [.str (Str.ofString "find"),.str m,.str x,.int lo,.int hi]):SpB [.str (Str.ofString "find"),.str m,.str x,.int hi,.int (hi-1)] .span:=by
  have np:=h.row.notPassed;have e:=zdn h;obtain⟨hn,hx,h2,h3⟩:zap m=true/\zap x=true/\zao hi/\zao (hi-1):=by
    cases h with
    | find hn hx hl h1 h2 h3=>exact⟨hn,hx,h2,h3⟩
  refine zim (List.cons_ne_nil _ _) (by simp) (fun u hu=>?_) np fun f us ts fs=>?_
  · simp only [List.mem_cons,List.not_mem_nil,or_false] at hu e;rcases hu with rfl | rfl | rfl | rfl | rfl
    · exact e _ (.inl rfl)
    · exact e _ (.inr (.inl rfl))
    · exact e _ (.inr (.inr (.inl rfl)))
    · exact zin h2
    · exact zin h3
  · have z:=BadF.span (kp:=[Str.ofString "name",Str.ofString "name"]) (pre:=[.str m,.str x]) (lo:=hi) (hi:=hi-1) rfl (.cons (.name hn) (.cons (.name hx) (.cons (.year h2) (.cons (.year h3) .nil)))) (by omega);exact .ent (zky (by decide +kernel)) (.form (show (Str.ofString "find",([Str.ofString "name",Str.ofString "name",Str.ofString "year",Str.ofString "year"]:List Str).map V.str)∈l_FORMS by simp[l_FORMS]) z)
theorem spG {ws:List V}(h:Drw ws):SpB (ws.take (ws.length-1)) .row:=by
  have w:=zc2 h;have np:=h.row.notPassed;have e:=zdn h;obtain⟨kd,ks,v,vs,rfl,hf,hl,hd⟩:=zf9 h;have et:(V.str kd::v::vs).take ((V.str kd::v::vs).length-1) = .str kd::(v::vs).take vs.length:=by simp[List.take]
  rw[et];refine zim (List.cons_ne_nil _ _) (by have:=w.2;simp only [List.length_cons,List.length_take] at this ⊢;omega) (fun u hu=>?_) np fun f us ts fs=>?_
  · rcases List.mem_cons.mp hu with rfl | hu
    · exact e _ (List.mem_cons_self ..)
    · exact e _ (List.mem_cons_of_mem _ (List.mem_of_mem_take hu))
  · exact .ent (zky hd) (.form hf (.len (by simp[hl])))
def zva:Sp:=fun vs H Q _=>∃(a:Addr) (ws:List V) (c:Int),vs = [.ref a,.int c]/\H a=some (.lst ws)/\Drw ws/\∀(q p:Addr) (ws':List V) (kk:Wrg) (H':Hp),SpB ws' kk->H p=none->Same H H'->H' p=some (.lst ws')->H' q=some (.tup [.ref p,.str (wkS kk)])->Q (.ref q) H'
theorem zpc {l:List Str}{n:Nat}(hl:l.length=n) (h0:0<n) (c:Int):∃x∈l,atI (l.map V.str) (c%(n:Int))=some (.str x):=by
  have h1:=Int.emod_nonneg c (show (n:Int)≠0 by omega);have h2:=Int.emod_lt_of_pos c (show (0:Int)<n by omega);obtain⟨j,ej⟩:∃j:Nat,c%(n:Int)=(j:Int):=⟨(c%n).toNat,by omega⟩;have hj:j<l.length:=by omega
  exact⟨l[j],List.getElem_mem hj,by rw[ej];exact zan (by rw[List.getElem?_map,List.getElem?_eq_getElem hj];rfl)⟩
set_option maxHeartbeats 16000000 in
theorem ziz (T:Tx K mg w C_Reading zq zk zo ze zb zf zd zg):Has P w K mg base "_law_spoiled" ["_law_parts","_law_cell"] 2 (zva):=by
  refine T.zi3.has sc__law_spoiled (fun vs H Q E h=>?_) (fun f cdv A outer s H vs Q E hr h=>?_)
  · obtain⟨a,ws,c,rfl,_⟩:=h;rfl
  · obtain⟨a,ws,c,rfl,ha,dr,k⟩:=h;have b_all:zh (top 35) = [((zh (top 35)).getD 0 (.Pass ⟨0,0,0,0⟩)),((zh (top 35)).getD 1 (.Pass ⟨0,0,0,0⟩)),((zh (top 35)).getD 2 (.Pass ⟨0,0,0,0⟩)),((zh (top 35)).getD 3 (.Pass ⟨0,0,0,0⟩)),((zh (top 35)).getD 4 (.Pass ⟨0,0,0,0⟩)),((zh (top 35)).getD 5 (.Pass ⟨0,0,0,0⟩)),((zh (top 35)).getD 6 (.Pass ⟨0,0,0,0⟩)),((zh (top 35)).getD 7 (.Pass ⟨0,0,0,0⟩))]:=by kernel_rfl
    rw[b_all];have z_0:PS (cxOf CX0 P w K mg base ["_law_parts","_law_cell","_law_way"] "_law_spoiled" (zm (top 35)) f cdv A outer s H E).nox ((zh (top 35)).getD 0 (.Pass ⟨0,0,0,0⟩)) _:=(@zah _ _ 2 _ _ _ _ sc__law_spoiled.nd rfl (Or.inl rfl) (@zar _ _ _ _ _ _ _ _ _ _ (zak T) (hr.mono (by decide)) (by rfl) (@za _ _ _ _ _ (pv 1) (@za _ _ _ _ _ (@zn _ _ _ _) (@za _ _ _ _ _ (@zn _ _ _ _) (@zi _) (by rfl)) (by rfl)) (by rfl)) (by decide) (by rfl) (by rfl)) (by rfl) (by first | exact .inl rfl | exact .inr rfl | assumption));have z_1:PS (cxOf CX0 P w K mg base ["_law_parts","_law_cell","_law_way"] "_law_spoiled" (zm (top 35)) f cdv A outer s H E).nox ((zh (top 35)).getD 1 (.Pass ⟨0,0,0,0⟩)) _:=(@zal _ _ _ _ _ _ _ _ (@zy _ _ _ _ _ _ _ _ (@zbv _) (pv 2) (@zn _ _ _ _) (zaf _)) (@zp _ _ _ (@zac _ _ _ _ (@za7 _ _ _ _ _ (@za _ _ _ _ _ (@zai _ _ _ _ _ _ _ _ (@zc7 _ K rfl) (@za2 _ _ _ _ (@za _ _ _ _ _ (@zae _ _ _ _ _ _ _ (@zaa _ K rfl) (@za2 _ _ _ _ (@za _ _ _ _ _ (@zw _ _ _ _) (@za _ _ _ _ _ (@zw _ _ _ _) (@za _ _ _ _ _ (@zw _ _ _ _) (@za _ _ _ _ _ (@zw _ _ _ _) (@za _ _ _ _ _ (@zw _ _ _ _) (@za _ _ _ _ _ (@zw _ _ _ _) (@zi _) (by rfl)) (by rfl)) (by rfl)) (by rfl)) (by rfl)) (by rfl))) (@zai _ _ _ _ _ _ _ _ (@zbu _) (pv 1) (@zn _ _ _ _)) (fun _ _=>rfl)) (@zi _) (by rfl))) (@zaq _ _ _ _ _ _ _ _ _ _ (@zba _ K rfl) (pv 0) (@zaw _ _ _ (@zn _ _ _ _)) (@za3 _))) (@za _ _ _ _ _ (@zw _ _ _ _) (@zi _) (by rfl)) (by rfl))))) (@zz _));have z_2:PS (cxOf CX0 P w K mg base ["_law_parts","_law_cell","_law_way"] "_law_spoiled" (zm (top 35)) f cdv A outer s H E).nox ((zh (top 35)).getD 2 (.Pass ⟨0,0,0,0⟩)) _:=(@zal _ _ _ _ _ _ _ _ (@zy _ _ _ _ _ _ _ _ (@zbv _) (pv 2) (@zn _ _ _ _) (zaf _)) (@zp _ _ _ (@zac _ _ _ _ (@za7 _ _ _ _ _ (@za _ _ _ _ _ (@zai _ _ _ _ _ _ _ _ (@zc7 _ K rfl) (pv 0) (@za2 _ _ _ _ (@za _ _ _ _ _ (@zw _ _ _ _) (@zi _) (by rfl)))) (@za _ _ _ _ _ (@zw _ _ _ _) (@zi _) (by rfl)) (by rfl))))) (@zz _));have z_3:PS (cxOf CX0 P w K mg base ["_law_parts","_law_cell","_law_way"] "_law_spoiled" (zm (top 35)) f cdv A outer s H E).nox ((zh (top 35)).getD 3 (.Pass ⟨0,0,0,0⟩)) _:=(@zal _ _ _ _ _ _ _ _ (@zy _ _ _ _ _ _ _ _ (@zbv _) (pv 2) (@zn _ _ _ _) (zaf _)) (@zp _ _ _ (@zac _ _ _ _ (@za7 _ _ _ _ _ (@za _ _ _ _ _ (@zai _ _ _ _ _ _ _ _ (@zc7 _ K rfl) (@zai _ _ _ _ _ _ _ _ (@zc7 _ K rfl) (@zaq _ _ _ _ _ _ _ _ _ _ (@zba _ K rfl) (pv 0) (@za3 _) (@zaw _ _ _ (@zn _ _ _ _))) (@za2 _ _ _ _ (@za _ _ _ _ _ (@zae _ _ _ _ _ _ _ (@zaa _ K rfl) (@za2 _ _ _ _ (@za _ _ _ _ _ (@zw _ _ _ _) (@za _ _ _ _ _ (@zw _ _ _ _) (@za _ _ _ _ _ (@zw _ _ _ _) (@za _ _ _ _ _ (@zw _ _ _ _) (@zi _) (by rfl)) (by rfl)) (by rfl)) (by rfl))) (@zai _ _ _ _ _ _ _ _ (@zbu _) (pv 1) (@zn _ _ _ _)) (fun _ _=>rfl)) (@zi _) (by rfl)))) (@zaq _ _ _ _ _ _ _ _ _ _ (@zba _ K rfl) (pv 0) (@zaw _ _ _ (@zn _ _ _ _)) (@za3 _))) (@za _ _ _ _ _ (@zw _ _ _ _) (@zi _) (by rfl)) (by rfl))))) (@zz _));have z_4:PS (cxOf CX0 P w K mg base ["_law_parts","_law_cell","_law_way"] "_law_spoiled" (zm (top 35)) f cdv A outer s H E).nox ((zh (top 35)).getD 4 (.Pass ⟨0,0,0,0⟩)) _:=(@zal _ _ _ _ _ _ _ _ (@PW.pt _ _ _ (@zds _ _ _ _ _ _ _ (@zy _ _ _ _ _ _ _ _ (@zbv _) (pv 2) (@zn _ _ _ _) (zaf _)) (@zca _ _ _ _ (@zy _ _ _ _ _ _ _ _ (@ztr _) (@za5 _ _ _ _ _ _ _ _ _ (@zau _ K rfl) (by rfl) T.len boot_len (@za _ _ _ _ _ (pv 0) (@zi _) (by rfl)) (by decide) (by decide) (by rfl) (by rfl)) (@zn _ _ _ _) (zaf _))))) (@zp _ _ _ (@zac _ _ _ _ (@za7 _ _ _ _ _ (@za _ _ _ _ _ (@zai _ _ _ _ _ _ _ _ (@zc7 _ K rfl) (@zai _ _ _ _ _ _ _ _ (@zc7 _ K rfl) (@zaq _ _ _ _ _ _ _ _ _ _ (@zba _ K rfl) (pv 0) (@za3 _) (@zaw _ _ _ (@zn _ _ _ _))) (@za2 _ _ _ _ (@za _ _ _ _ _ (@zae _ _ _ _ _ _ _ (@zaa _ K rfl) (@za2 _ _ _ _ (@za _ _ _ _ _ (@zw _ _ _ _) (@za _ _ _ _ _ (@zw _ _ _ _) (@za _ _ _ _ _ (@zw _ _ _ _) (@za _ _ _ _ _ (@zw _ _ _ _) (@za _ _ _ _ _ (@zw _ _ _ _) (@zi _) (by rfl)) (by rfl)) (by rfl)) (by rfl)) (by rfl))) (@zai _ _ _ _ _ _ _ _ (@zbu _) (pv 1) (@zn _ _ _ _)) (fun _ _=>rfl)) (@zi _) (by rfl)))) (@zaq _ _ _ _ _ _ _ _ _ _ (@zba _ K rfl) (pv 0) (@zaw _ _ _ (@zn _ _ _ _)) (@za3 _))) (@za _ _ _ _ _ (@zw _ _ _ _) (@zi _) (by rfl)) (by rfl))))) (@zz _));have z_5:PS (cxOf CX0 P w K mg base ["_law_parts","_law_cell","_law_way"] "_law_spoiled" (zm (top 35)) f cdv A outer s H E).nox ((zh (top 35)).getD 5 (.Pass ⟨0,0,0,0⟩)) _:=(@zal _ _ _ _ _ _ _ _ (@PW.pt _ _ _ (@zds _ _ _ _ _ _ _ (@zy _ _ _ _ _ _ _ _ (@zbv _) (pv 2) (@zn _ _ _ _) (zaf _)) (@zca _ _ _ _ (@zy _ _ _ _ _ _ _ _ (@zbv _) (@zae _ _ _ _ _ _ _ (@zaa _ K rfl) (pv 0) (@zn _ _ _ _) (fun _ _=>rfl)) (@zw _ _ _ _) (zaf _))))) (@zp _ _ _ (@zac _ _ _ _ (@za7 _ _ _ _ _ (@za _ _ _ _ _ (@zai _ _ _ _ _ _ _ _ (@zc7 _ K rfl) (@zaq _ _ _ _ _ _ _ _ _ _ (@zba _ K rfl) (pv 0) (@za3 _) (@zaw _ _ _ (@zn _ _ _ _))) (@za2 _ _ _ _ (@za _ _ _ _ _ (@zai _ _ _ _ _ _ _ _ (@zk5 _) (@zj2 _ _ _ _ _ _ (@zfp _) (@zn _ _ _ _)) (@zai _ _ _ _ _ _ _ _ (@zbu _) (pv 1) (@zai _ _ _ _ _ _ _ _ (@zoe _) (@zn _ _ _ _) (@zn _ _ _ _)))) (@zi _) (by rfl)))) (@za _ _ _ _ _ (@zw _ _ _ _) (@zi _) (by rfl)) (by rfl))))) (@zz _));have z_6:PS (cxOf CX0 P w K mg base ["_law_parts","_law_cell","_law_way"] "_law_spoiled" (zm (top 35)) f cdv A outer s H E).nox ((zh (top 35)).getD 6 (.Pass ⟨0,0,0,0⟩)) _:=(@zal _ _ _ _ _ _ _ _ (@PW.pt _ _ _ (@zds _ _ _ _ _ _ _ (@zy _ _ _ _ _ _ _ _ (@zbv _) (pv 2) (@zn _ _ _ _) (zaf _)) (@zca _ _ _ _ (@zy _ _ _ _ _ _ _ _ (@zbv _) (@zae _ _ _ _ _ _ _ (@zaa _ K rfl) (pv 0) (@zn _ _ _ _) (fun _ _=>rfl)) (@zw _ _ _ _) (zaf _))))) (@zp _ _ _ (@zac _ _ _ _ (@za7 _ _ _ _ _ (@za _ _ _ _ _ (@zai _ _ _ _ _ _ _ _ (@zc7 _ K rfl) (@zaq _ _ _ _ _ _ _ _ _ _ (@zba _ K rfl) (pv 0) (@za3 _) (@zaw _ _ _ (@zn _ _ _ _))) (@za2 _ _ _ _ (@za _ _ _ _ _ (@zae _ _ _ _ _ _ _ (@zaa _ K rfl) (pv 0) (@zn _ _ _ _) (fun _ _=>rfl)) (@za _ _ _ _ _ (@zai _ _ _ _ _ _ _ _ (@zk5 _) (@zae _ _ _ _ _ _ _ (@zaa _ K rfl) (pv 0) (@zn _ _ _ _) (fun _ _=>rfl)) (@zn _ _ _ _)) (@zi _) (by rfl)) (by rfl)))) (@za _ _ _ _ _ (@zw _ _ _ _) (@zi _) (by rfl)) (by rfl))))) (@zz _));have z_7:PS (cxOf CX0 P w K mg base ["_law_parts","_law_cell","_law_way"] "_law_spoiled" (zm (top 35)) f cdv A outer s H E).nox ((zh (top 35)).getD 7 (.Pass ⟨0,0,0,0⟩)) _:=(@zac _ _ _ _ (@za7 _ _ _ _ _ (@za _ _ _ _ _ (@zaq _ _ _ _ _ _ _ _ _ _ (@zba _ K rfl) (pv 0) (@za3 _) (@zaw _ _ _ (@zj2 _ _ _ _ _ _ (@zfp _) (@zn _ _ _ _)))) (@za _ _ _ _ _ (@zw _ _ _ _) (@zi _) (by rfl)) (by rfl))));generalize ((zh (top 35)).getD 0 (.Pass ⟨0,0,0,0⟩))=s_0 at z_0 ⊢;generalize ((zh (top 35)).getD 1 (.Pass ⟨0,0,0,0⟩))=s_1 at z_1 ⊢;generalize ((zh (top 35)).getD 2 (.Pass ⟨0,0,0,0⟩))=s_2 at z_2 ⊢;generalize ((zh (top 35)).getD 3 (.Pass ⟨0,0,0,0⟩))=s_3 at z_3 ⊢;generalize ((zh (top 35)).getD 4 (.Pass ⟨0,0,0,0⟩))=s_4 at z_4 ⊢;generalize ((zh (top 35)).getD 5 (.Pass ⟨0,0,0,0⟩))=s_5 at z_5 ⊢;generalize ((zh (top 35)).getD 6 (.Pass ⟨0,0,0,0⟩))=s_6 at z_6 ⊢;generalize ((zh (top 35)).getD 7 (.Pass ⟨0,0,0,0⟩))=s_7 at z_7 ⊢;refine⟨_,zj z_0 (zj z_1 (zj z_2 (zj z_3 (zj z_4 (zj z_5 (zj z_6 (zp z_7))))))),?_⟩;clear b_all z_0 z_1 z_2 z_3 z_4 z_5 z_6 z_7 s_0 s_1 s_2 s_3 s_4 s_5 s_6 s_7;rw[show L2.start (["_law_parts","_law_cell","_law_way"]:List Str) [V.ref a,V.int c] = [some (V.ref a),some (V.int c),none] from rfl];have w:=zc2 dr;obtain⟨kd,ks,v1,vs,ews,hf,hlv,hd⟩:=zf9 dr;subst ews;have l5:=w.2;simp only [List.length_cons] at l5;refine⟨_,rfl,_,_,_,rfl,by decide,?_⟩
    try dsimp only [za0,List.set]
    generalize pt c 15 6=way;have m9:(0:Int)<10 ^ (9:Int).toNat:=by decide
    refine zcq (decide (V.int way=V.int 0)) (fun Q' q=>⟨_,rfl,rfl,_,rfl,q⟩) ?_;refine ite2 (fun _=>?_) (fun _=>?_)
    · refine⟨by show 6<=sizeLine;decide,fun p1 h1=>?_⟩;obtain⟨x,hx,ex⟩:=zpc (l:=FIRST0) (n:=6) rfl (by decide) c;have s1:=Same.new (o:=.lst (FIRST0.map V.str)) h1;refine⟨_,rfl,_,_,rfl,rfl,(by decide:(0:Int)<6),p1,FIRST0.map V.str,_,_,rfl,rfl,SqL.of zc,ex,by show 1<=sizeLine;decide,fun p2 h2=>?_⟩;have s2:=s1.trans (Same.new (o:=.lst [V.str x]) h2);refine⟨_,rfl,_,rfl,a,_,rfl,SqL.of (s2 _ _ ha),fun p3 h3=>?_⟩;rw[zby];have t3:=Same.new (o:=.lst (v1::vs)) h3;refine⟨p2,p3,_,_,rfl,rfl,SqL.of (t3 _ _ zc),SqL.of zc,zaj (by simp only [List.length_cons,List.length_nil];omega),fun p4 h4=>?_⟩;refine⟨by show 2<=sizeLine;decide,fun q hq=>k q p4 _ .row _ (spA dr hx) ((s2.trans t3).free h4) (s2.trans (t3.trans ((Same.new h4).trans (Same.new hq)))) (Same.new hq _ _ zc) zc⟩
    try unfold zfo
    try dsimp only
    refine zcq (decide (V.int way=V.int 1)) (fun Q' q=>⟨_,rfl,rfl,_,rfl,q⟩) ?_;refine ite2 (fun _=>?_) (fun _=>?_)
    · refine⟨_,rfl,by show 1<=sizeLine;decide,fun p1 h1=>?_⟩;have s1:=Same.new (o:=.lst [.str (Str.ofString "a")]) h1;refine⟨a,p1,_,_,rfl,rfl,SqL.of (s1 _ _ ha),SqL.of zc,zaj (by simp only [List.length_cons,List.length_nil];omega),fun p2 h2=>?_⟩;exact⟨by show 2<=sizeLine;decide,fun q hq=>k q p2 _ .row _ (spB1 dr) (s1.free h2) (s1.trans ((Same.new h2).trans (Same.new hq))) (Same.new hq _ _ zc) zc⟩
    try unfold zfo
    try dsimp only
    refine zcq (decide (V.int way=V.int 2)) (fun Q' q=>⟨_,rfl,rfl,_,rfl,q⟩) ?_;refine ite2 (fun _=>?_) (fun _=>?_)
    · refine⟨_,rfl,_,rfl,a,_,rfl,SqL.of ha,fun p1 h1=>?_⟩;rw[show cutV (V.str kd::v1::vs) none (some 1) = [.str kd] from (zil (z:=1) (by simp)).trans rfl];have s1:=Same.new (o:=.lst [V.str kd]) h1;refine⟨by show 4<=sizeLine;decide,fun p2 h2=>?_⟩;obtain⟨x,hx,ex⟩:=zpc (l:=NAMES0) (n:=4) rfl (by decide) c;have s2:=Same.new (o:=.lst (NAMES0.map V.str)) h2;refine⟨_,rfl,_,_,rfl,rfl,(by decide:(0:Int)<4),p2,NAMES0.map V.str,_,_,rfl,rfl,SqL.of zc,ex,by show 1<=sizeLine;decide,fun p3 h3=>?_⟩;have s3:=Same.new (o:=.lst [V.str x]) h3;refine⟨p1,p3,_,_,rfl,rfl,SqL.of (s3 _ _ (s2 _ _ zc)),SqL.of zc,zaj (by simp),fun p4 h4=>?_⟩;have s4:=Same.new (o:=.lst ([V.str kd]++[V.str x])) h4;have q4:=s1.trans (s2.trans (s3.trans s4));refine⟨_,rfl,_,rfl,a,_,rfl,SqL.of (q4 _ _ ha),fun p5 h5=>?_⟩;rw[show cutV (V.str kd::v1::vs) (some 2) none=vs from (zpb (z:=2) (by simp)).trans rfl];have s5:=Same.new (o:=.lst vs) h5;refine⟨p4,p5,_,_,rfl,rfl,SqL.of (s5 _ _ zc),SqL.of zc,zaj (by simp;omega),fun p6 h6=>?_⟩;exact⟨by show 2<=sizeLine;decide,fun q hq=>k q p6 _ .name _ (spC dr hx) ((q4.trans s5).free h6) (q4.trans (s5.trans ((Same.new h6).trans (Same.new hq)))) (Same.new hq _ _ zc) zc⟩
    try unfold zfo
    try dsimp only
    refine zcq (decide (V.int way=V.int 3)&&decide ((3:Int)<((V.str kd::v1::vs).length:Int))) (fun Q' hQ=>?_) ?_
    · refine⟨_,rfl,rfl,_,rfl,?_⟩;cases h4:decide (V.int way=V.int 3) with
      | false=>exact iteF (by rw[h4,Bool.false_and] at hQ;exact hQ)
      | true=>
        rw[h4,Bool.true_and] at hQ;exact iteT ⟨_,rfl,a,_,rfl,.inl (SqL.of ha),_,_,rfl,rfl,_,rfl,hQ⟩
    refine ite2 (fun cc=>?_) (fun _=>?_)
    · rw[Bool.and_eq_true] at cc;have l3:=of_decide_eq_true cc.2;obtain⟨v2,v3,r,rfl⟩:∃v2 v3 r,vs=v2::v3::r:=by
        match vs,l3 with
        | [],l3=>simp at l3
        | [_],l3=>simp at l3
        | v2::v3::r,_=>exact⟨_,_,_,rfl⟩
      simp only [List.length_cons] at l5;refine⟨_,rfl,_,rfl,a,_,rfl,SqL.of ha,fun p1 h1=>?_⟩;rw[show cutV (V.str kd::v1::v2::v3::r) none (some 3) = [.str kd,v1,v2] from (zil (z:=3) (by simp)).trans rfl];have s1:=Same.new (o:=.lst [V.str kd,v1,v2]) h1;refine⟨by show 5<=sizeLine;decide,fun p2 h2=>?_⟩;obtain⟨x,hx,ex⟩:=zpc (l:=NUMS0) (n:=5) rfl (by decide) c;have s2:=Same.new (o:=.lst (NUMS0.map V.str)) h2;refine⟨_,rfl,_,_,rfl,rfl,(by decide:(0:Int)<5),p2,NUMS0.map V.str,_,_,rfl,rfl,SqL.of zc,ex,by show 1<=sizeLine;decide,fun p3 h3=>?_⟩;have s3:=Same.new (o:=.lst [V.str x]) h3;refine⟨p1,p3,_,_,rfl,rfl,SqL.of (s3 _ _ (s2 _ _ zc)),SqL.of zc,zaj (by simp),fun p4 h4=>?_⟩;have s4:=Same.new (o:=.lst ([V.str kd,v1,v2]++[V.str x])) h4;have q4:=s1.trans (s2.trans (s3.trans s4));refine⟨_,rfl,_,rfl,a,_,rfl,SqL.of (q4 _ _ ha),fun p5 h5=>?_⟩;rw[show cutV (V.str kd::v1::v2::v3::r) (some 4) none=r from (zpb (z:=4) (by simp)).trans rfl];have s5:=Same.new (o:=.lst r) h5;refine⟨p4,p5,_,_,rfl,rfl,SqL.of (s5 _ _ zc),SqL.of zc,zaj (by simp;omega),fun p6 h6=>?_⟩;exact⟨by show 2<=sizeLine;decide,fun q hq=>k q p6 _ .number _ (spD dr hx) ((q4.trans s5).free h6) (q4.trans (s5.trans ((Same.new h6).trans (Same.new hq)))) (Same.new hq _ _ zc) zc⟩
    try unfold zfo
    try dsimp only
    refine zcq (decide (V.int way=V.int 4)&&decide (V.str kd=V.str (Str.ofString "after"))) (fun Q' hQ=>?_) ?_
    · refine⟨_,rfl,rfl,_,rfl,?_⟩;cases h4:decide (V.int way=V.int 4) with
      | false=>exact iteF (by rw[h4,Bool.false_and] at hQ;exact hQ)
      | true=>
        rw[h4,Bool.true_and] at hQ;exact iteT ⟨_,rfl,a,_,_,_,rfl,rfl,SqL.of ha,zbx,rfl,_,rfl,hQ⟩
    refine ite2 (fun cc=>?_) (fun _=>?_)
    · rw[Bool.and_eq_true] at cc;have ek:=V.str.inj (of_decide_eq_true cc.2);subst ek;obtain⟨x,y,n,e1⟩:∃x y n,(v1::vs) = [V.str x,V.str y,V.int n]:=by
        cases dr with
        | plain hk hx hy=>exact absurd hk (by decide +kernel)
        | after hx hy h0 h1=>exact⟨_,_,_,rfl⟩
      cases e1;have z1:=Int.emod_nonneg c (show (10 ^ (9:Int).toNat:Int)≠0 by decide);have z2:=Int.emod_lt_of_pos c m9;have e9:(10:Int) ^ (9:Int).toNat=1000000000:=rfl;rw[e9] at z1 z2;have y1:(-1-c%1000000000).natAbs<10 ^ 60:=Nat.lt_trans (by omega) (by decide:(1000000001:Nat)<10 ^ 60);refine⟨_,rfl,_,rfl,a,_,rfl,SqL.of ha,fun p1 h1=>?_⟩;rw[show cutV [V.str (Str.ofString "after"),V.str x,V.str y,V.int n] none (some 3) = [V.str (Str.ofString "after"),V.str x,V.str y] from (zil (z:=3) (by simp)).trans rfl];have s1:=Same.new (o:=.lst [V.str (Str.ofString "after"),V.str x,V.str y]) h1;refine⟨_,rfl,_,rfl,_,_,rfl,rfl,⟨by decide,by decide,by decide⟩,_,_,rfl,rfl,m9,_,_,rfl,rfl,by show 1<=sizeLine;decide,fun p2 h2=>?_⟩;have s2:=Same.new (o:=.lst [V.int (-1-c%1000000000)]) h2;refine⟨p1,p2,_,_,rfl,rfl,SqL.of (s2 _ _ zc),SqL.of zc,zaj (by simp),fun p3 h3=>?_⟩;exact⟨by show 2<=sizeLine;decide,fun q hq=>k q p3 _ .number _ (spE dr (by omega) y1) ((s1.trans s2).free h3) (s1.trans (s2.trans ((Same.new h3).trans (Same.new hq)))) (Same.new hq _ _ zc) zc⟩
    try unfold zfo
    try dsimp only
    refine zcq (decide (V.int way=V.int 5)&&decide (V.str kd=V.str (Str.ofString "find"))) (fun Q' hQ=>?_) ?_
    · refine⟨_,rfl,rfl,_,rfl,?_⟩;cases h4:decide (V.int way=V.int 5) with
      | false=>exact iteF (by rw[h4,Bool.false_and] at hQ;exact hQ)
      | true=>
        rw[h4,Bool.true_and] at hQ;exact iteT ⟨_,rfl,a,_,_,_,rfl,rfl,SqL.of ha,zbx,rfl,_,rfl,hQ⟩
    refine ite2 (fun cc=>?_) (fun _=>?_)
    · rw[Bool.and_eq_true] at cc;have ek:=V.str.inj (of_decide_eq_true cc.2);subst ek;obtain⟨m,x,lo,hi,e1⟩:∃m x lo hi,(v1::vs) = [V.str m,V.str x,V.int lo,V.int hi]:=by
        cases dr with
        | plain hk hx hy=>exact absurd hk (by decide +kernel)
        | find hn hx hl h1 h2 h3=>exact⟨_,_,_,_,rfl⟩
      cases e1;refine⟨_,rfl,_,rfl,a,_,rfl,SqL.of ha,fun p1 h1=>?_⟩;rw[show cutV [V.str (Str.ofString "find"),V.str m,V.str x,V.int lo,V.int hi] none (some 3) = [V.str (Str.ofString "find"),V.str m,V.str x] from (zil (z:=3) (by simp)).trans rfl];have s1:=Same.new (o:=.lst [V.str (Str.ofString "find"),V.str m,V.str x]) h1;refine⟨_,rfl,a,_,_,_,rfl,rfl,SqL.of (s1 _ _ ha),zan (j:=4) rfl,_,rfl,a,_,_,_,rfl,rfl,SqL.of (s1 _ _ ha),zan (j:=4) rfl,_,_,rfl,rfl,by show 2<=sizeLine;decide,fun p2 h2=>?_⟩;have s2:=Same.new (o:=.lst [V.int hi,V.int (hi-1)]) h2;refine⟨p1,p2,_,_,rfl,rfl,SqL.of (s2 _ _ zc),SqL.of zc,zaj (by simp),fun p3 h3=>?_⟩;exact⟨by show 2<=sizeLine;decide,fun q hq=>k q p3 _ .span _ (spF dr) ((s1.trans s2).free h3) (s1.trans (s2.trans ((Same.new h3).trans (Same.new hq)))) (Same.new hq _ _ zc) zc⟩
    try unfold zfo
    try dsimp only
    refine⟨_,rfl,_,rfl,_,rfl,a,_,rfl,SqL.of ha,fun p1 h1=>?_⟩;rw[zu9 _ (by simp)];exact⟨by show 2<=sizeLine;decide,fun q hq=>k q p1 _ .row _ (spG dr) h1 ((Same.new h1).trans (Same.new hq)) (Same.new hq _ _ zc) zc⟩
theorem zpd {J:It}{xs:List V}{P:Hp->Prop}{own:List Str}{ix:List Nat}{te:TE}{σ:St}{H1:Hp}{D:Addr}{Q:VK}(F:Fix J xs P) (f:V->Str) (hD:H1 D=none) (hP:∀H',Same H1 H'->P H') (hz:xs.length<=1000)
    (he:∀x∈xs,∀H' (Q':VK),Same H1 H'->(∀H'',Same H' H''->Q' (.str (f x)) H'')->te ((st0 own ix σ).set 0 (some x)) H' Q')
    (hQ:∀H',Same H1 H'->H' D=some (.lst ((xs.map f).map V.str))->Q (.ref D) H'):zkb own ix J (za0 0) tYes te σ H1 D Q:=by
  refine zuh F (fun i σ' ys H'=>(∀z,σ'.set 0 z=(st0 own ix σ).set 0 z)/\ys=((xs.take i).map f).map V.str/\Same H1 H'/\H' D=some (.lst ys)) ⟨fun _=>rfl,rfl,Same.new hD,zc⟩ (fun i σ' ys H' h=>?_) (zaj hz) ?_ ?_
  · obtain⟨_,rfl,q,hd⟩:=h;exact⟨hP _ q,hd,by simp only [List.length_map,List.length_take];omega⟩
  · rintro i x σ' ys H' hx ⟨hs,rfl,q,hd⟩;have hix:=zyq hx;unfold za0 tYes;dsimp only;rw[hs];refine iteT (he x (List.mem_of_getElem? hx) H' _ q fun H'' s=>⟨s _ _ hd,zzs hix ⟨fun z=>List.set_set ..,?_,(q.trans s).upd hD,zc⟩⟩);rw[List.take_add_one,hx,List.map_append,List.map_append];rfl
  · rintro σ' ys H' ⟨_,rfl,q,hd⟩;rw[List.take_length] at hd;exact hQ _ q hd
def strV:V->Str
  | .str x=>x
  | _=>Str.ofString ""
def refV (H:Hp) (g:List V->Str):V->Str
  | .ref a=>match H a with
    | some (.tup ws)=>g ws
    | _=>Str.ofString ""
  | _=>Str.ofString ""
theorem zio {H:Hp}{g:List V->Str}{a:Addr}{ws:List V}(h:H a=some (.tup ws)):refV H g (.ref a)=g ws:=by
  unfold refV;dsimp only;rw[h]
def zta:Sp:=fun vs H Q _=>∃(p pu pt pf:Addr) (ws:List V) (us:List Str) (ts fs rs:List (List V)) (at' af:List Addr),vs = [.ref p,.ref pu,.ref pt,.ref pf]/\H p=some (.lst ws)/\Drw ws/\J3 H pu pt pf us ts fs at' af/\Told us ts fs rs/\rs.length<=63/\pu≠pt/\pu≠pf/\pt≠pf/\
  (∀(us':List Str) (ts' fs' rs':List (List V)) (at2 af2:List Addr) (H':Hp),(∀f,StepOk ⟨some f,us,ts,fs⟩ ws ⟨some f,us',ts',fs'⟩)->Told us' ts' fs' rs'->rs'.length<=rs.length+1->J3 H' pu pt pf us' ts' fs' at2 af2->ziu H H' pu pt pf->Q (.str "good") H')/\
  (∀(k:Wrg) (H':Hp),(∀f,BadT ⟨some f,us,ts,fs⟩ ws k)->Same H H'->Q (.str (wkS k)) H')
theorem zbh {xs:List Str}:(xs.map V.str).all zcn=true:=by rw[List.all_map];exact List.all_eq_true.mpr fun _ _=>rfl
theorem zkz {H H1:Hp}{pu pt pf a:Addr}{o:HO}(s:Same H H1) (h:a=pu\/a=pt\/a=pf):ziu H (upd H1 a o) pu pt pf:=fun b ob e n1 n2 n3=>by
  rw[zv (by rcases h with rfl | rfl | rfl;exact n1;exact n2;exact n3)];exact s _ _ e
theorem zpe {H:Hp}{af:List Addr}{us:List Str}{ts fs rs:List (List V)}(ft:Tups H af fs) (td:Told us ts fs rs) (nm:Str):nm∈(af.map V.ref).map (refV H fun ws=>strV (ws.headD .non))↔∃f∈fs,f.head? = some (.str nm):=by
  constructor
  · intro h;obtain⟨v,hv,e⟩:=List.mem_map.mp h;obtain⟨a,ha,rfl⟩:=List.mem_map.mp hv;obtain⟨ws,hw,ea⟩:=ft.get ha;obtain⟨F,x,lo,hi,rfl,_⟩:=td.finds ws hw;rw[zio ea] at e;exact⟨_,hw,by rw[←e];rfl⟩
  · rintro ⟨f,hf,e⟩;obtain⟨i,hi,e'⟩:=List.getElem_of_mem hf;have hib:i<af.length:=by rw[ft.len];exact hi
    obtain⟨ws,ew,ea⟩:=ft.at (List.getElem?_eq_getElem hib);rw[List.getElem?_eq_getElem hi,e'] at ew;cases ew;obtain⟨F,x,lo,hi',rfl,_⟩:=td.finds _ hf;cases e;exact List.mem_map.mpr ⟨.ref af[i],List.mem_map.mpr ⟨af[i],List.getElem_mem hib,rfl⟩,by rw[zio ea];rfl⟩
theorem ztb {ws:List V}(h:Drw ws):(∃x,ws = [.str (Str.ofString "unit"),.str x]/\zap x=true)\/(∃m x lo hi,ws = [.str (Str.ofString "find"),.str m,.str x,.int lo,.int hi]/\zap m=true/\zap x=true/\lo<=hi/\zao lo/\zao hi)\/
    ∃kd x y r,ws = .str kd :: .str x :: .str y::r/\kd≠Str.ofString "unit"/\kd≠Str.ofString "find"/\kd ∉ ([Str.ofString "dig",Str.ofString "unit",Str.ofString "find"]:List Str)/\∀us:List Str,x∈us->y∈us->TieOk us (.str kd :: .str x :: .str y::r):=by
  cases h with
  | unit hx=>exact .inl ⟨_,rfl,hx⟩
  | find hn hx hl h1 h2 h3=>exact .inr (.inl ⟨_,_,_,_,rfl,hn,hx,hl,h1,h2⟩)
  | plain hk hx hy=>
    have k3:=(by decide +kernel:∀k∈zgt,k ∉ ([Str.ofString "dig",Str.ofString "unit",Str.ofString "find"]:List Str)) _ hk;exact .inr (.inr ⟨_,_,_,_,rfl,(fun z=>k3 (by rw[z];decide +kernel)),(fun z=>k3 (by rw[z];decide +kernel)),k3,fun us a b=>.plain hk a b⟩)
  | after hx hy h0 h1=>exact .inr (.inr ⟨_,_,_,_,rfl,by decide +kernel,by decide +kernel,by decide +kernel,fun us a b=>.after a b h0 h1⟩)
set_option maxHeartbeats 8000000 in
theorem zk0 (T:Tx K mg w C_Reading zq zk zo ze zb zf zd zg):Has P w K mg base "_law_judged" ["_law_parts","_law_units","_law_ties","_law_finds"] 1 (zta):=by
  refine T.zk3.has sc__law_judged (fun vs H Q E h=>?_) (fun f cdv A outer s H vs Q E hr h=>?_)
  · obtain⟨p,pu,pt',pf,ws,us,ts,fs,rs,at',af,rfl,_⟩:=h;rfl
  · obtain⟨p,pu,pt',pf,ws,us,ts,fs,rs,at',af,rfl,hp,dr,J,td,r63,nut,nuf,ntf,kG,kB⟩:=h;have b_all:zh (top 36) = [((zh (top 36)).getD 0 (.Pass ⟨0,0,0,0⟩)),((zh (top 36)).getD 1 (.Pass ⟨0,0,0,0⟩)),((zh (top 36)).getD 2 (.Pass ⟨0,0,0,0⟩)),((zh (top 36)).getD 3 (.Pass ⟨0,0,0,0⟩)),((zh (top 36)).getD 4 (.Pass ⟨0,0,0,0⟩)),((zh (top 36)).getD 5 (.Pass ⟨0,0,0,0⟩)),((zh (top 36)).getD 6 (.Pass ⟨0,0,0,0⟩))]:=by kernel_rfl
    rw[b_all];have z_0:PS (cxOf CX0 P w K mg base ["_law_parts","_law_units","_law_ties","_law_finds","_law_kind"] "_law_judged" (zm (top 36)) f cdv A outer s H E).nox ((zh (top 36)).getD 0 (.Pass ⟨0,0,0,0⟩)) _:=(@zah _ _ 4 _ _ _ _ sc__law_judged.nd rfl (Or.inl rfl) (@zae _ _ _ _ _ _ _ (@zaa _ K rfl) (pv 0) (@zn _ _ _ _) (fun _ _=>rfl)) (by rfl) (by first | exact .inl rfl | exact .inr rfl | assumption));have z_1:PS (cxOf CX0 P w K mg base ["_law_parts","_law_units","_law_ties","_law_finds","_law_kind"] "_law_judged" (zm (top 36)) f cdv A outer s H E).nox ((zh (top 36)).getD 1 (.Pass ⟨0,0,0,0⟩)) _:=(@zal _ _ _ _ _ _ _ _ (@zy _ _ _ _ _ _ _ _ (@zbv _) (pv 4) (@zw _ _ _ _) (zaf _)) (@zj _ _ _ _ _ (@zal _ _ _ _ _ _ _ _ (@zy _ _ _ _ _ _ _ _ (@zef _ K rfl) (@zae _ _ _ _ _ _ _ (@zaa _ K rfl) (pv 0) (@zn _ _ _ _) (fun _ _=>rfl)) (pv 1) (by with_unfolding_all rfl)) (@zp _ _ _ (@zac _ _ _ _ (@zw _ _ _ _))) (@zz _)) (@zj _ _ _ _ _ (@zat _ _ _ _ (@zbw _ K rfl _ _ _ _ _ _ _ _ _ _ _ PySem.F.plainAttrs_list PySem.F.slot_list_append PySem.F.type_list_append (@zb2 _) (pv 1) (@za _ _ _ _ _ (@zae _ _ _ _ _ _ _ (@zaa _ K rfl) (pv 0) (@zn _ _ _ _) (fun _ _=>rfl)) (@zi _) (by rfl)) (by rfl) (by rfl) (by rfl) (by rfl) (by rfl)) (by rfl)) (@zp _ _ _ (@zac _ _ _ _ (@zw _ _ _ _))))) (@zz _));have z_2:PS (cxOf CX0 P w K mg base ["_law_parts","_law_units","_law_ties","_law_finds","_law_kind"] "_law_judged" (zm (top 36)) f cdv A outer s H E).nox ((zh (top 36)).getD 2 (.Pass ⟨0,0,0,0⟩)) _:=(@zal _ _ _ _ _ _ _ _ (@zy _ _ _ _ _ _ _ _ (@zbv _) (pv 4) (@zw _ _ _ _) (zaf _)) (@zj _ _ _ _ _ (@zal _ _ _ _ _ _ _ _ (@zy _ _ _ _ _ _ _ _ (@zef _ K rfl) (@zae _ _ _ _ _ _ _ (@zaa _ K rfl) (pv 0) (@zn _ _ _ _) (fun _ _=>rfl)) (@zc5 _ _ _ _ _ _ _ ["_law_find"] [] [] _ _ _ _ (zm (top 36)) rfl ⟨rfl,by decide +kernel,by decide +kernel,by decide +kernel,by decide +kernel⟩ rfl (@zcy _ _ K rfl _ _ (pv 3)) (fun _ _ _ _=>@zas _ _ 0 _ (show List.Nodup (["_law_find"]:List Str) by decide +kernel) rfl (Or.inl rfl) (by first | exact .inl rfl | exact .inr rfl | assumption)) (fun _ _ _ _=>@zcp _) (fun _ _ _ _=>(@zae _ _ _ _ _ _ _ (@zag _ K rfl) (pv 0) (@zn _ _ _ _) (fun _ _=>rfl))) (by intro _;rfl) (by rfl)) (by with_unfolding_all rfl)) (@zp _ _ _ (@zac _ _ _ _ (@zw _ _ _ _))) (@zz _)) (@zj _ _ _ _ _ (@zal _ _ _ _ _ _ _ _ (@zy _ _ _ _ _ _ _ _ (@zbl _ K rfl) (@zae _ _ _ _ _ _ _ (@zaa _ K rfl) (pv 0) (@zn _ _ _ _) (fun _ _=>rfl)) (pv 1) (by with_unfolding_all rfl)) (@zp _ _ _ (@zac _ _ _ _ (@zw _ _ _ _))) (@zz _)) (@zj _ _ _ _ _ (@zat _ _ _ _ (@zbw _ K rfl _ _ _ _ _ _ _ _ _ _ _ PySem.F.plainAttrs_list PySem.F.slot_list_append PySem.F.type_list_append (@zb2 _) (pv 3) (@za _ _ _ _ _ (@zbb _ _ _ _ _ _ _ _ _ (@zbg _ K rfl) (by rfl) T.tuple PyProof.Rows.boot_tuple (@za _ _ _ _ _ (@zaq _ _ _ _ _ _ _ _ _ _ (@zba _ K rfl) (pv 0) (@zaw _ _ _ (@zn _ _ _ _)) (@za3 _)) (@zi _) (by rfl)) (by decide) (by decide) (by rfl) (by rfl)) (@zi _) (by rfl)) (by rfl) (by rfl) (by rfl) (by rfl) (by rfl)) (by rfl)) (@zp _ _ _ (@zac _ _ _ _ (@zw _ _ _ _)))))) (@zz _));have z_3:PS (cxOf CX0 P w K mg base ["_law_parts","_law_units","_law_ties","_law_finds","_law_kind"] "_law_judged" (zm (top 36)) f cdv A outer s H E).nox ((zh (top 36)).getD 3 (.Pass ⟨0,0,0,0⟩)) _:=(@zal _ _ _ _ _ _ _ _ (@zy _ _ _ _ _ _ _ _ (@zrv _ K rfl (hu11 hr)) (@zbb _ _ _ _ _ _ _ _ _ (@zbg _ K rfl) (by rfl) T.tuple PyProof.Rows.boot_tuple (@za _ _ _ _ _ (pv 0) (@zi _) (by rfl)) (by decide) (by decide) (by rfl) (by rfl)) (pv 2) (by with_unfolding_all rfl)) (@zp _ _ _ (@zac _ _ _ _ (@zw _ _ _ _))) (@zz _));have z_4:PS (cxOf CX0 P w K mg base ["_law_parts","_law_units","_law_ties","_law_finds","_law_kind"] "_law_judged" (zm (top 36)) f cdv A outer s H E).nox ((zh (top 36)).getD 4 (.Pass ⟨0,0,0,0⟩)) _:=(@zal _ _ _ _ _ _ _ _ (@PW.pt _ _ _ (@zk4 _ _ _ _ _ _ _ (@zy _ _ _ _ _ _ _ _ (@zbl _ K rfl) (@zae _ _ _ _ _ _ _ (@zaa _ K rfl) (pv 0) (@zn _ _ _ _) (fun _ _=>rfl)) (pv 1) (by with_unfolding_all rfl)) (@zi9 _ _ _ _ (@zy _ _ _ _ _ _ _ _ (@zbl _ K rfl) (@zae _ _ _ _ _ _ _ (@zaa _ K rfl) (pv 0) (@zn _ _ _ _) (fun _ _=>rfl)) (pv 1) (by with_unfolding_all rfl))))) (@zp _ _ _ (@zac _ _ _ _ (@zw _ _ _ _))) (@zz _));have z_5:PS (cxOf CX0 P w K mg base ["_law_parts","_law_units","_law_ties","_law_finds","_law_kind"] "_law_judged" (zm (top 36)) f cdv A outer s H E).nox ((zh (top 36)).getD 5 (.Pass ⟨0,0,0,0⟩)) _:=(@zat _ _ _ _ (@zbw _ K rfl _ _ _ _ _ _ _ _ _ _ _ PySem.F.plainAttrs_list PySem.F.slot_list_append PySem.F.type_list_append (@zb2 _) (pv 2) (@za _ _ _ _ _ (@zbb _ _ _ _ _ _ _ _ _ (@zbg _ K rfl) (by rfl) T.tuple PyProof.Rows.boot_tuple (@za _ _ _ _ _ (pv 0) (@zi _) (by rfl)) (by decide) (by decide) (by rfl) (by rfl)) (@zi _) (by rfl)) (by rfl) (by rfl) (by rfl) (by rfl) (by rfl)) (by rfl));have z_6:PS (cxOf CX0 P w K mg base ["_law_parts","_law_units","_law_ties","_law_finds","_law_kind"] "_law_judged" (zm (top 36)) f cdv A outer s H E).nox ((zh (top 36)).getD 6 (.Pass ⟨0,0,0,0⟩)) _:=(@zac _ _ _ _ (@zw _ _ _ _));generalize ((zh (top 36)).getD 0 (.Pass ⟨0,0,0,0⟩))=s_0 at z_0 ⊢;generalize ((zh (top 36)).getD 1 (.Pass ⟨0,0,0,0⟩))=s_1 at z_1 ⊢;generalize ((zh (top 36)).getD 2 (.Pass ⟨0,0,0,0⟩))=s_2 at z_2 ⊢;generalize ((zh (top 36)).getD 3 (.Pass ⟨0,0,0,0⟩))=s_3 at z_3 ⊢;generalize ((zh (top 36)).getD 4 (.Pass ⟨0,0,0,0⟩))=s_4 at z_4 ⊢;generalize ((zh (top 36)).getD 5 (.Pass ⟨0,0,0,0⟩))=s_5 at z_5 ⊢;generalize ((zh (top 36)).getD 6 (.Pass ⟨0,0,0,0⟩))=s_6 at z_6 ⊢;refine⟨_,zj z_0 (zj z_1 (zj z_2 (zj z_3 (zj z_4 (zj z_5 (zp z_6)))))),?_⟩;clear b_all z_0 z_1 z_2 z_3 z_4 z_5 z_6 s_0 s_1 s_2 s_3 s_4 s_5 s_6;rw[show L2.start (["_law_parts","_law_units","_law_ties","_law_finds","_law_kind"]:List Str) [V.ref p,V.ref pu,V.ref pt',V.ref pf] = [some (V.ref p),some (V.ref pu),some (V.ref pt'),some (V.ref pf),none] from rfl];have lens:=td.lens;have nm:=td.names.2;have lat:=J.tt.len;have laf:=J.ft.len;have w:=zc2 dr;rcases ztb dr with ⟨x,rfl,hx⟩ | ⟨m,x,lo,hi,rfl,hn,hx,hl,h1,h2⟩ | ⟨kd,x,y,r,rfl,ku,kf,k3,hxy⟩
    · refine⟨_,rfl,p,_,_,_,rfl,rfl,SqL.of hp,zbx,?_⟩
      try dsimp only [za0,List.set]
      refine⟨_,rfl,rfl,_,rfl,?_⟩;rw[decide_eq_true rfl];refine iteT ⟨_,rfl,p,_,_,_,rfl,rfl,SqL.of hp,zan (j:=1) rfl,_,rfl,pu,_,rfl,.inl (SqL.of J.u),rfl,zbh,_,rfl,?_⟩;rw[if_neg Bool.false_ne_true,zb1];refine ite2 (fun c=>?_) (fun c=>?_)
      · exact kB .twice _ (fun f=>.unit (of_decide_eq_true c)) (Same.refl _)
      · have c:x ∉ us:=fun z=>c (decide_eq_true z)
        refine⟨_,rfl,.inl ⟨rfl,_,SqL.of J.u⟩,_,rfl,p,_,_,_,rfl,rfl,SqL.of hp,zan (j:=1) rfl,pu,_,_,rfl,rfl,J.u,by rw[List.length_map];exact zb3 (by omega),?_⟩;exact kG _ _ _ _ _ _ _ (fun f=>.unit hx c) (td.unit hx c) (by rw[List.length_append];exact Nat.le_refl _) (J.addU nut.symm nuf.symm x) (zkz (Same.refl _) (.inl rfl))
    · refine⟨_,rfl,p,_,_,_,rfl,rfl,SqL.of hp,zbx,?_⟩
      try dsimp only [za0,List.set]
      refine⟨_,rfl,rfl,_,rfl,?_⟩;rw[decide_eq_false (fun z=>absurd (V.str.inj z) (by decide +kernel))];refine iteF ⟨_,rfl,rfl,_,rfl,?_⟩;rw[decide_eq_true rfl];refine iteT ⟨_,rfl,p,_,_,_,rfl,rfl,SqL.of hp,zan (j:=1) rfl,_,rfl,pf,rfl,⟨_,SqL.of J.f⟩,fun D hD=>?_⟩;refine zpd (zdh (K:=K) (a:=pf) (xs:=af.map V.ref)) (refV H fun ws=>strV (ws.headD .non)) hD (fun H' s=>SqL.of (s _ _ J.f)) (by rw[List.length_map];omega) (fun v hv H' Q' s q=>?_) (fun H1 s1 e1=>?_)
      · obtain⟨a,hm,rfl⟩:=List.mem_map.mp hv;obtain⟨ws,hw,ea⟩:=J.ft.get hm;obtain⟨F,y,lo',hi',rfl,_⟩:=td.finds ws hw;have:=q _ (Same.refl _);rw[zio ea] at this;exact⟨_,rfl,a,_,_,_,rfl,rfl,SqT.of (s _ _ ea),zbx,this⟩
      have J1:=J.same s1;have hp1:=s1 _ _ hp;refine⟨D,_,rfl,.inl (SqL.of e1),rfl,zbh,_,rfl,?_⟩;rw[if_neg Bool.false_ne_true,zb1];refine ite2 (fun c=>?_) (fun c=>?_)
      · exact kB .twice _ (fun f=>.find ((zpe J.ft td m).mp (of_decide_eq_true c))) s1
      · have c:∀f∈fs,f.head?≠some (.str m):=fun f hf z=>c (decide_eq_true ((zpe J.ft td m).mpr ⟨f,hf,z⟩))
        refine⟨_,rfl,p,_,_,_,rfl,rfl,SqL.of hp1,zan (j:=2) rfl,_,rfl,pu,_,rfl,.inl (SqL.of J1.u),rfl,zbh,_,rfl,?_⟩;rw[if_pos rfl,zb1];refine ite2 (fun c2=>?_) (fun c2=>?_)
        · have c2:x ∉ us:=by simpa using c2
          exact kB .unit _ (fun f=>.findU hn c c2) s1
        · have c2:x∈us:=by simpa using c2
          refine⟨_,rfl,.inl ⟨rfl,_,SqL.of J1.f⟩,_,rfl,_,rfl,p,_,rfl,SqL.of hp1,fun p1 hq1=>?_⟩;rw[zby];have t1:=Same.new (o:=.lst [.str m,.str x,.int lo,.int hi]) hq1;refine⟨p1,_,rfl,.inl ⟨SqL.of zc,fun p2 hq2=>?_⟩⟩;have t2:=Same.new (o:=.tup [.str m,.str x,.int lo,.int hi]) hq2;have J2:=J1.same (t1.trans t2);refine⟨pf,_,_,rfl,rfl,J2.f,by rw[List.length_map];exact zb3 (by omega),?_⟩;have fo:FindOk us fs [.str m,.str x,.int lo,.int hi]:=.mk hn c2 hl h1 h2 c;exact kG _ _ _ _ _ _ _ (fun f=>.find fo) (td.find fo) (by rw[List.length_append];exact Nat.le_refl _) (J2.addF nuf ntf zc) (zkz (s1.trans (t1.trans t2)) (.inr (.inr rfl)))
    · refine⟨_,rfl,p,_,_,_,rfl,rfl,SqL.of hp,zbx,?_⟩
      try dsimp only [za0,List.set]
      refine⟨_,rfl,rfl,_,rfl,?_⟩;rw[decide_eq_false (fun z=>ku (V.str.inj z))];refine iteF ⟨_,rfl,rfl,_,rfl,?_⟩;rw[decide_eq_false (fun z=>kf (V.str.inj z))];refine iteF ⟨_,rfl,p,_,rfl,.inl ⟨SqL.of hp,fun p1 hq1=>?_⟩⟩;have t1:=Same.new (o:=.tup (V.str kd :: .str x :: .str y::r)) hq1;have e1:upd H p1 (.tup (V.str kd :: .str x :: .str y::r)) p1=some (.tup (V.str kd :: .str x :: .str y::r)):=zc;generalize upd H p1 (.tup (V.str kd :: .str x :: .str y::r))=H1 at t1 e1;have J1:=J.same t1;have hp1:=t1 _ _ hp;have hts:∀vs∈ts,∀v∈vs,Wd v:=fun vs hv=>((td.ties vs hv).words nm).1
      refine⟨_,rfl,pt',_,_,rfl,.inl (SqL.of J1.t),J1.tt.deq (n:=7) hts e1 w.1,_,rfl,?_⟩;rw[if_neg Bool.false_ne_true,J1.tt.anyE];refine ite2 (fun c=>?_) (fun c=>?_)
      · exact kB .twice _ (fun f=>.tie rfl k3 (of_decide_eq_true c)) t1
      · have c:(V.str kd :: .str x :: .str y::r) ∉ ts:=fun z=>c (decide_eq_true z)
        try unfold zfo
        try dsimp only
        refine zcq (!(decide (x∈us)&&decide (y∈us))) (fun Q' hQ=>?_) ?_
        · refine⟨_,rfl,p,_,_,_,rfl,rfl,SqL.of hp1,zan (j:=1) rfl,_,rfl,pu,_,rfl,.inl (SqL.of J1.u),rfl,zbh,_,rfl,?_⟩;rw[if_pos rfl,zb1];cases cx:decide (x∈us) with
          | false=>exact iteT (by rw[cx] at hQ;exact hQ)
          | true=>
            refine iteF ⟨_,rfl,p,_,_,_,rfl,rfl,SqL.of hp1,zan (j:=2) rfl,_,rfl,pu,_,rfl,.inl (SqL.of J1.u),rfl,zbh,_,rfl,?_⟩;rw[if_pos rfl,zb1];rw[cx,Bool.true_and] at hQ;exact hQ
        refine ite2 (fun c2=>?_) (fun c2=>?_)
        · have c2:x ∉ us\/y ∉ us:=by
            by_cases a:x∈us
            · by_cases b:y∈us
              · rw[decide_eq_true a,decide_eq_true b] at c2;cases c2
              · exact .inr b
            · exact .inl a
          exact kB .unit _ (fun f=>.tieU rfl k3 c c2) t1
        · have c2:x∈us/\y∈us:=by
            by_cases a:x∈us
            · by_cases b:y∈us
              · exact⟨a,b⟩
              · rw[decide_eq_true a,decide_eq_false b] at c2;exact absurd rfl c2
            · rw[decide_eq_false a] at c2;exact absurd rfl c2
          try unfold zfo
          try dsimp only
          refine⟨_,rfl,.inl ⟨rfl,_,SqL.of J1.t⟩,_,rfl,p,_,rfl,.inl ⟨SqL.of hp1,fun p2 hq2=>?_⟩⟩;have t2:=Same.new (o:=.tup (V.str kd :: .str x :: .str y::r)) hq2;have J2:=J1.same t2;refine⟨pt',_,_,rfl,rfl,J2.t,by rw[List.length_map];exact zb3 (by omega),?_⟩;have tk:=hxy us c2.1 c2.2;exact kG _ _ _ _ _ _ _ (fun f=>.tie tk c) (td.tie tk c) (by rw[List.length_append];exact Nat.le_refl _) (J2.addT nut ntf.symm zc) (zkz (t1.trans t2) (.inr (.inl rfl)))
theorem zmp {a b:TS}{D:Ends}{σ:St}{H:Hp}(P:St->Hp->Prop) (h1:∀D':Ends,(∀σ' H',P σ' H'->D'.nx σ' H')->a D' σ H) (h2:∀σ' H',P σ' H'->b D σ' H'):tSeq a b D σ H:=h1 _ h2
theorem zz4 {v:V}{j:Nat}{u:TS}{E0:Ends}{σ:St}{H:Hp}(k:u E0 (σ.set j (some v)) H):tSeq (tAsg (tC v) (za0 j)) u E0 σ H:=k
def LOk (ls:List Str):Prop:=∀l∈ls,10 ∉ co l/\l.length<=900
theorem LOk.snoc {ls:List Str}{l:Str}(h:LOk ls) (h1:10 ∉ co l) (h2:l.length<=900):LOk (ls++[l]):=fun x hx=>(List.mem_append.mp hx).elim (h x) fun z=>by rw[List.mem_singleton.mp z];exact⟨h1,h2⟩
def PASS7:List Str:=["",";"," "," ; unit a"]
theorem zz5:∀l∈PASS7,zbz (Dm.wordsOf l)=true/\10 ∉ co l/\l.length<=900:=by decide +kernel
def LnOk (ws:List V):Prop:=ws≠[]/\(∀v∈ws,Wd v)/\(∀u∈ws.map zab,Pln u)/\ws.length<=7
theorem ztc {ws:List V}(h:Drw ws):LnOk ws:=⟨h.row.ne,(zc2 h).1,h.plain_words (zc2 h).1,by have:=(zc2 h).2;omega⟩
theorem zxr {ws:List V}(h:Drw ws):LnOk (.str (Str.ofString ";")::ws)/\zbz ((V.str (Str.ofString ";")::ws).map zab)=true:=by
  have l:=ztc h;refine⟨⟨List.cons_ne_nil _ _,fun v hv=>?_,fun u hu=>?_,by have:=(zc2 h).2;rw[List.length_cons];omega⟩,by show Txt.startswith (Str.ofString ";") ";" = true;decide +kernel⟩
  · rcases List.mem_cons.mp hv with rfl | hv
    · exact .inl ⟨_,rfl,by decide +kernel⟩
    · exact l.2.1 v hv
  · rcases List.mem_cons.mp hu with rfl | hu
    · show Pln (Str.ofString ";");decide +kernel
    · exact l.2.2.1 u hu
theorem zn3 (k:Wrg):decide (V.str (wkS k)=V.str (Str.ofString "good"))=false:=by cases k<;>decide +kernel
def HowL (us0:List Str) (ts0 fs0:List (List V)) (us:List Str) (ts fs:List (List V)) (ws:List V) (way:Str):Prop:=
  (way=Str.ofString "good"/\∀(f:Int×Int) (y:Str),Dm.wordsOf y=ws.map zab->Reads ⟨some f,us0,ts0,fs0⟩ [y] ⟨some f,us,ts,fs⟩)\/
  ∃k,way=wkS k/\zbz (ws.map zab)=false/\∀f,BadS ⟨some f,us0,ts0,fs0⟩ (ws.map zab) k
def EndL (H':Hp) (pu pt pf:Addr) (ls:List Str) (way:Str) (r:Int):Prop:=
  (∃(us:List Str) (ts fs rs:List (List V)) (at2 af2:List Addr),way=Str.ofString "good"/\r=0/\Told us ts fs rs/\rs.length<=63/\J3 H' pu pt pf us ts fs at2 af2/\∀f,Reads ⟨some f,[],[],[]⟩ ls ⟨some f,us,ts,fs⟩)\/
  ∃k,way=wkS k/\r=((ls.length+1:Nat):Int)/\∀f,Refs ⟨some f,[],[],[]⟩ ls ls.length k
def ztd:Sp:=fun vs H Q _=>∃(n m pc pu pt pf:Addr) (sp:Bool) (xs ms:List Str) (cs:List Int),vs = [.ref n,.ref m,.ref pc,.bl sp,.ref pu,.ref pt,.ref pf]/\H n=some (.lst (xs.map V.str))/\H m=some (.lst (ms.map V.str))/\H pc=some (.lst (cs.map V.int))/\
  xs.length=9/\ms.length=9/\(∀x∈xs,zap x=true)/\(∀x∈ms,zap x=true)/\cs.length<=63/\(n≠pu/\n≠pt/\n≠pf)/\(m≠pu/\m≠pt/\m≠pf)/\(pc≠pu/\pc≠pt/\pc≠pf)/\pu≠pt/\pu≠pf/\pt≠pf/\J3 H pu pt pf [] [] [] [] []/\
  ∀(q pl pe:Addr) (ls:List Str) (way:Str) (r:Int) (H':Hp),ziu H H' pu pt pf->H' q=some (.tup [.ref pl,.ref pe])->H' pl=some (.lst (ls.map V.str))->H' pe=some (.tup [.str way,.int r])->LOk ls->ls.length<=126->EndL H' pu pt pf ls way r->Q (.ref q) H'
set_option maxHeartbeats 16000000 in
theorem zmq (T:Tx K mg w C_Reading zq zk zo ze zb zf zd zg):Has P w K mg base "_law_lines" ["_law_names_here","_law_marks","_law_cells","_law_spoils","_law_units","_law_ties","_law_finds"] 4 (ztd):=by
  refine T.zm2.has sc__law_lines (fun vs H Q E h=>?_) (fun f cdv A outer s H vs Q E hr h=>?_)
  · obtain⟨n,m,pc,pu,pt',pf,sp,xs,ms,cs,rfl,_⟩:=h;rfl
  · obtain⟨n,m,pc,pu,pt',pf,sp,xs,ms,cs,rfl,hn,hm,hc,x9,m9,xn,mn,c63,⟨n1,n2,n3⟩,⟨m1,m2,m3⟩,⟨c1,c2,c3⟩,nut,nuf,ntf,J0,k⟩:=h;have b_all:zh (top 38) = [((zh (top 38)).getD 0 (.Pass ⟨0,0,0,0⟩)),((zh (top 38)).getD 1 (.Pass ⟨0,0,0,0⟩)),((zh (top 38)).getD 2 (.Pass ⟨0,0,0,0⟩))]:=by kernel_rfl
    rw[b_all];have z_0:PS (cxOf CX0 P w K mg base ["_law_names_here","_law_marks","_law_cells","_law_spoils","_law_units","_law_ties","_law_finds","_law_lines_here","_law_cell","_law_parts","_law_way"] "_law_lines" (zm (top 38)) f cdv A outer s H E).nox ((zh (top 38)).getD 0 (.Pass ⟨0,0,0,0⟩)) _:=(@zah _ _ 7 _ _ _ _ sc__law_lines.nd rfl (Or.inl rfl) (@za2 _ _ _ _ (@zi _)) (by rfl) (by first | exact .inl rfl | exact .inr rfl | assumption));have z_1:PS (cxOf CX0 P w K mg base ["_law_names_here","_law_marks","_law_cells","_law_spoils","_law_units","_law_ties","_law_finds","_law_lines_here","_law_cell","_law_parts","_law_way"] "_law_lines" (zm (top 38)) f cdv A outer s H E).nox ((zh (top 38)).getD 1 (.Pass ⟨0,0,0,0⟩)) _:=(@zg0 _ _ _ _ _ _ _ _ PassesOwn.never rfl (@zcy _ _ K rfl _ _ (pv 2)) (@zas _ _ 8 _ sc__law_lines.nd rfl (Or.inl rfl) (by first | exact .inl rfl | exact .inr rfl | assumption)) (@zj _ _ _ _ _ (@zah _ _ 9 _ _ _ _ sc__law_lines.nd rfl (Or.inl rfl) (@zar _ _ _ _ _ _ _ _ _ _ (zmo T) (hr.mono (by decide)) (by rfl) (@za _ _ _ _ _ (pv 0) (@za _ _ _ _ _ (pv 1) (@za _ _ _ _ _ (pv 8) (@zi _) (by rfl)) (by rfl)) (by rfl)) (by decide) (by rfl) (by rfl)) (by rfl) (by first | exact .inl rfl | exact .inr rfl | assumption)) (@zj _ _ _ _ _ (@zah _ _ 10 _ _ _ _ sc__law_lines.nd rfl (Or.inl rfl) (@zw _ _ _ _) (by rfl) (by first | exact .inl rfl | exact .inr rfl | assumption)) (@zj _ _ _ _ _ (@zal _ _ _ _ _ _ _ _ (@PW.pt _ _ _ (@zds _ _ _ _ _ _ _ (@zdr _ _ _ (pv 3) (by intro _;rfl)) (@zca _ _ _ _ (@zy _ _ _ _ _ _ _ _ (@zbv _) (@zar _ _ _ _ _ _ _ _ _ _ (zak T) (hr.mono (by decide)) (by rfl) (@za _ _ _ _ _ (pv 8) (@za _ _ _ _ _ (@zn _ _ _ _) (@za _ _ _ _ _ (@zn _ _ _ _) (@zi _) (by rfl)) (by rfl)) (by rfl)) (by decide) (by rfl) (by rfl)) (@zn _ _ _ _) (zaf _))))) (@zp _ _ _ (@zvg _ _ _ _ _ _ (@zar _ _ _ _ _ _ _ _ _ _ (ziz T) (hr.mono (by decide)) (by rfl) (@za _ _ _ _ _ (pv 9) (@za _ _ _ _ _ (pv 8) (@zi _) (by rfl)) (by rfl)) (by decide) (by rfl) (by rfl)) (@zgp _ K rfl _ _ _ _ _ rfl (@zbr _ _ _ _ _ (@zas _ _ 9 _ sc__law_lines.nd rfl (Or.inl rfl) (by first | exact .inl rfl | exact .inr rfl | assumption)) (@zbr _ _ _ _ _ (@zas _ _ 10 _ sc__law_lines.nd rfl (Or.inl rfl) (by first | exact .inl rfl | exact .inr rfl | assumption)) (@zgj _) (by rfl)) (by rfl)) (by rfl) (by rfl)) (by rfl) (by rfl) (by rfl))) (@zj _ _ _ _ _ (@zah _ _ 10 _ _ _ _ sc__law_lines.nd rfl (Or.inl rfl) (@zar _ _ _ _ _ _ _ _ _ _ (zk0 T) (hr.mono (by decide)) (by rfl) (@za _ _ _ _ _ (pv 9) (@za _ _ _ _ _ (pv 4) (@za _ _ _ _ _ (pv 5) (@za _ _ _ _ _ (pv 6) (@zi _) (by rfl)) (by rfl)) (by rfl)) (by rfl)) (by decide) (by rfl) (by rfl)) (by rfl) (by first | exact .inl rfl | exact .inr rfl | assumption)) (@zp _ _ _ (@zal _ _ _ _ _ _ _ _ (@PW.pt _ _ _ (@zds _ _ _ _ _ _ _ (@zy _ _ _ _ _ _ _ _ (@zj3 _) (pv 10) (@zw _ _ _ _) (zaf _)) (@zca _ _ _ _ (@zez _ _ _ _ (@PW.pt _ _ _ (@zds _ _ _ _ _ _ _ (@zdr _ _ _ (pv 3) (by intro _;rfl)) (@zca _ _ _ _ (@zy _ _ _ _ _ _ _ _ (@zbv _) (@zar _ _ _ _ _ _ _ _ _ _ (zak T) (hr.mono (by decide)) (by rfl) (@za _ _ _ _ _ (pv 8) (@za _ _ _ _ _ (@zn _ _ _ _) (@za _ _ _ _ _ (@zn _ _ _ _) (@zi _) (by rfl)) (by rfl)) (by rfl)) (by decide) (by rfl) (by rfl)) (@zn _ _ _ _) (zaf _))))))))) (@zj _ _ _ _ _ (@zah _ _ 9 _ _ _ _ sc__law_lines.nd rfl (Or.inl rfl) (@zai _ _ _ _ _ _ _ _ (@zc7 _ K rfl) (@za2 _ _ _ _ (@za _ _ _ _ _ (@zw _ _ _ _) (@zi _) (by rfl))) (pv 9)) (by rfl) (by first | exact .inl rfl | exact .inr rfl | assumption)) (@zp _ _ _ (@zah _ _ 10 _ _ _ _ sc__law_lines.nd rfl (Or.inl rfl) (@zw _ _ _ _) (by rfl) (by first | exact .inl rfl | exact .inr rfl | assumption)))) (@zz _))))) (@zj _ _ _ _ _ (@zal _ _ _ _ _ _ _ _ (@zy _ _ _ _ _ _ _ _ (@zbv _) (@zai _ _ _ _ _ _ _ _ (@zbu _) (pv 8) (@zn _ _ _ _)) (@zn _ _ _ _) (zaf _)) (@zp _ _ _ (@zat _ _ _ _ (@zbw _ K rfl _ _ _ _ _ _ _ _ _ _ _ PySem.F.plainAttrs_list PySem.F.slot_list_append PySem.F.type_list_append (@zb2 _) (pv 7) (@za _ _ _ _ _ (@zae _ _ _ _ _ _ _ (@zaa _ K rfl) (@za2 _ _ _ _ (@za _ _ _ _ _ (@zw _ _ _ _) (@za _ _ _ _ _ (@zw _ _ _ _) (@za _ _ _ _ _ (@zw _ _ _ _) (@za _ _ _ _ _ (@zw _ _ _ _) (@zi _) (by rfl)) (by rfl)) (by rfl)) (by rfl))) (@zai _ _ _ _ _ _ _ _ (@zbu _) (@zai _ _ _ _ _ _ _ _ (@zm7 _) (pv 8) (@zn _ _ _ _)) (@zn _ _ _ _)) (fun _ _=>rfl)) (@zi _) (by rfl)) (by rfl) (by rfl) (by rfl) (by rfl) (by rfl)) (by rfl))) (@zz _)) (@zj _ _ _ _ _ (@zat _ _ _ _ (@zbw _ K rfl _ _ _ _ _ _ _ _ _ _ _ PySem.F.plainAttrs_list PySem.F.slot_list_append PySem.F.type_list_append (@zb2 _) (pv 7) (@za _ _ _ _ _ (@zar _ _ _ _ _ _ _ _ _ _ (zik T) (hr.mono (by decide)) (by rfl) (@za _ _ _ _ _ (pv 9) (@za _ _ _ _ _ (pv 8) (@zi _) (by rfl)) (by rfl)) (by decide) (by rfl) (by rfl)) (@zi _) (by rfl)) (by rfl) (by rfl) (by rfl) (by rfl) (by rfl)) (by rfl)) (@zp _ _ _ (@zal _ _ _ _ _ _ _ _ (@zy _ _ _ _ _ _ _ _ (@zj3 _) (pv 10) (@zw _ _ _ _) (zaf _)) (@zp _ _ _ (@zac _ _ _ _ (@za7 _ _ _ _ _ (@za _ _ _ _ _ (pv 7) (@za _ _ _ _ _ (@za7 _ _ _ _ _ (@za _ _ _ _ _ (pv 10) (@za _ _ _ _ _ (@zai _ _ _ _ _ _ _ _ (@zdz _) (@za5 _ _ _ _ _ _ _ _ _ (@zau _ K rfl) (by rfl) T.len boot_len (@za _ _ _ _ _ (pv 7) (@zi _) (by rfl)) (by decide) (by decide) (by rfl) (by rfl)) (@zn _ _ _ _)) (@zi _) (by rfl)) (by rfl))) (@zi _) (by rfl)) (by rfl))))) (@zz _)))))))) (by intro _;rfl));have z_2:PS (cxOf CX0 P w K mg base ["_law_names_here","_law_marks","_law_cells","_law_spoils","_law_units","_law_ties","_law_finds","_law_lines_here","_law_cell","_law_parts","_law_way"] "_law_lines" (zm (top 38)) f cdv A outer s H E).nox ((zh (top 38)).getD 2 (.Pass ⟨0,0,0,0⟩)) _:=(@zac _ _ _ _ (@za7 _ _ _ _ _ (@za _ _ _ _ _ (pv 7) (@za _ _ _ _ _ (@za7 _ _ _ _ _ (@za _ _ _ _ _ (@zw _ _ _ _) (@za _ _ _ _ _ (@zn _ _ _ _) (@zi _) (by rfl)) (by rfl))) (@zi _) (by rfl)) (by rfl))));generalize ((zh (top 38)).getD 0 (.Pass ⟨0,0,0,0⟩))=s_0 at z_0 ⊢;generalize ((zh (top 38)).getD 1 (.Pass ⟨0,0,0,0⟩))=s_1 at z_1 ⊢;generalize ((zh (top 38)).getD 2 (.Pass ⟨0,0,0,0⟩))=s_2 at z_2 ⊢;refine⟨_,zj z_0 (zj z_1 (zp z_2)),?_⟩;clear b_all z_0 z_1 z_2 s_0 s_1 s_2;rw[show L2.start (["_law_names_here","_law_marks","_law_cells","_law_spoils","_law_units","_law_ties","_law_finds","_law_lines_here","_law_cell","_law_parts","_law_way"]:List Str) [V.ref n,V.ref m,V.ref pc,V.bl sp,V.ref pu,V.ref pt',V.ref pf] = [some (V.ref n),some (V.ref m),some (V.ref pc),some (V.bl sp),some (V.ref pu),some (V.ref pt'),some (V.ref pf),none,none,none,none] from rfl];refine⟨by show 0<=sizeLine;decide,fun pl hpl=>?_⟩
    try dsimp only [za0,List.set]
    have s0:=Same.new (o:=.lst []) hpl;have e0:upd H pl (.lst []) pl=some (.lst (([]:List Str).map V.str)):=zc;have J1:=J0.same s0;have lu:pl≠pu:=fun e=>by rw[e,J0.u] at hpl;cases hpl
    have lt:pl≠pt':=fun e=>by rw[e,J0.t] at hpl;cases hpl
    have lf:pl≠pf:=fun e=>by rw[e,J0.f] at hpl;cases hpl
    have K0:ziu H (upd H pl (.lst [])) pu pt' pf:=fun b o e _ _ _=>s0 _ _ e
    generalize upd H pl (.lst [])=H1 at e0 J1 K0;refine⟨_,rfl,pc,rfl,⟨_,SqL.of (K0 _ _ hc c1 c2 c3)⟩,ztp (xs:=cs.map V.int) (fun i σ H'=>∃v8 v9 v10 us ts fs rs at2 af2 ls,σ = [some (.ref n),some (.ref m),some (.ref pc),some (.bl sp),some (.ref pu),some (.ref pt'),some (.ref pf),some (.ref pl),v8,v9,v10]/\Told us ts fs rs/\rs.length<=i/\J3 H' pu pt' pf us ts fs at2 af2/\H' pl=some (.lst (List.map V.str ls))/\(∀f,Reads ⟨some f,[],[],[]⟩ ls ⟨some f,us,ts,fs⟩)/\ls.length<=2 * i/\LOk ls/\ziu H H' pu pt' pf)
      ⟨none,none,none,[],[],[],[],[],[],[],rfl,.nil,Nat.le_refl _,J1,e0,fun f=>.nil,Nat.le_refl _,fun _ h=>(nomatch h),K0⟩ (fun i σ H' _ h=>by obtain⟨_,_,_,_,_,_,_,_,_,_,_,_,_,_,_,_,_,_,q⟩:=h;exact SqL.of (q _ _ hc c1 c2 c3)) ?_ ?_⟩
    · rintro i x σ H2 hx ⟨v8,v9,v10,us,ts,fs,rs,at2,af2,ls,rfl,td,lr,J,hpl2,rd,ll,lok,kp⟩;have hi:i<cs.length:=by
        have:=(List.getElem?_eq_some_iff.mp hx).1;simpa using this
      obtain⟨cl,rfl⟩:∃z,x=V.int z:=by
        rw[List.getElem?_map] at hx;cases e:cs[i]? with
        | none=>rw[e] at hx;cases hx
        | some z=>rw[e] at hx;exact⟨z,(Option.some.inj hx).symm⟩
      try dsimp only [za0,List.set]
      refine⟨_,rfl,_,rfl,_,rfl,n,m,xs,ms,cl,rfl,SqL.of (kp _ _ hn n1 n2 n3),SqL.of (kp _ _ hm m1 m2 m3),x9,m9,xn,mn,fun pp ws H3 dr fp hpp s3=>?_⟩
      try dsimp only [za0,List.set]
      have J3':=J.same s3;have hpl3:=s3 _ _ hpl2;have kp3:ziu H H3 pu pt' pf:=fun b o e a1 a2 a3=>s3 _ _ (kp b o e a1 a2 a3)
      have plp:pl≠pp:=fun e=>by rw[←e,hpl2] at fp;cases fp
      have ppu:pp≠pu:=fun e=>by rw[e,J.u] at fp;cases fp
      have ppt:pp≠pt':=fun e=>by rw[e,J.t] at fp;cases fp
      have ppf:pp≠pf:=fun e=>by rw[e,J.f] at fp;cases fp
      refine zz4 ?_
      try dsimp only [za0,List.set]
      refine zmp (fun σ' H'=>∃pq ws' way us' ts' fs' rs' at3 af3,σ' = [some (.ref n),some (.ref m),some (.ref pc),some (.bl sp),some (.ref pu),some (.ref pt'),some (.ref pf),some (.ref pl),some (.int cl),some (.ref pq),some (.str way)]/\H' pq=some (.lst ws')/\LnOk ws'/\pq≠pl/\Told us' ts' fs' rs'/\rs'.length<=i+1/\J3 H' pu pt' pf us' ts' fs' at3 af3/\H' pl=some (.lst (List.map V.str ls))/\ziu H H' pu pt' pf/\HowL us ts fs us' ts' fs' ws' way) (fun D' hnx=>?_) ?_
      · refine zcq (sp&&decide (V.int (pt cl 16 40)=V.int 1)) (fun Q' hQ=>?_) ?_
        · refine⟨_,rfl,_,rfl,?_⟩;cases sp with
          | false=>exact iteF hQ
          | true=>exact iteT ⟨_,rfl,_,_,_,rfl,by decide,rfl,_,rfl,hQ⟩
        refine ite2 (fun _=>?_) (fun _=>?_)
        · refine⟨_,rfl,_,rfl,pp,ws,cl,rfl,hpp,dr,fun q p ws' kk H4 sb f4 s4 hp4 hq4=>?_⟩;refine⟨q,_,rfl,SqT.of hq4,rfl,_,_,rfl,_,_,rfl,rfl,?_⟩
          try dsimp only [za0,List.set]
          exact hnx _ _ ⟨p,ws',_,us,ts,fs,rs,at2,af2,rfl,hp4,⟨sb.1,sb.2.1,sb.2.2.1,sb.2.2.2.1⟩,(fun e=>by rw[e,hpl3] at f4;cases f4),td,by omega,J3'.same s4,s4 _ _ hpl3,fun b o e a1 a2 a3=>s4 _ _ (kp3 b o e a1 a2 a3),.inr ⟨kk,rfl,sb.2.2.2.2.1,fun f=>sb.2.2.2.2.2 f us ts fs⟩⟩
        · refine⟨_,rfl,_,rfl,_,rfl,_,rfl,pp,pu,pt',pf,ws,us,ts,fs,rs,at2,af2,rfl,hpp,dr,J3',td,by omega,nut,nuf,ntf,fun us' ts' fs' rs' at3 af3 H4 st td' lr' J4 k4=>?_,fun kk H4 bad s4=>?_⟩
          · try dsimp only [za0,List.set]
            refine zcq false (fun Q' hQ=>⟨_,rfl,rfl,_,rfl,iteF hQ⟩) (iteF ?_);refine hnx _ _ ⟨pp,ws,_,us',ts',fs',rs',at3,af3,rfl,k4 _ _ hpp ppu ppt ppf,ztc dr,plp.symm,td',by omega,J4,k4 _ _ hpl3 lu lt lf,fun b o e a1 a2 a3=>k4 _ _ (kp3 b o e a1 a2 a3) a1 a2 a3,.inl ⟨rfl,fun f y hy=>?_⟩⟩;exact .row hy (st f) .nil
          · try dsimp only [za0,List.set]
            have hpp4:=s4 _ _ hpp;have wg:=zn3 kk;refine zcq (!(sp&&decide (V.int (pt cl 17 12)=V.int 1))) (fun Q' hQ=>?_) ?_
            · refine⟨_,rfl,rfl,_,rfl,?_⟩;rw[wg];refine iteT ⟨_,rfl,_,rfl,?_⟩;cases sp with
              | false=>exact iteF hQ
              | true=>exact iteT ⟨_,rfl,_,_,_,rfl,by decide,rfl,_,rfl,hQ⟩
            refine ite2 (fun _=>?_) (fun _=>?_)
            · refine⟨by show 1<=sizeLine;decide,fun p1 h1=>?_⟩;have t1:=Same.new (o:=.lst [.str (Str.ofString ";")]) h1;have l5:=(zc2 dr).2;refine⟨_,rfl,p1,pp,_,_,rfl,rfl,SqL.of zc,SqL.of (t1 _ _ hpp4),zaj (by simp only [List.length_cons,List.length_nil];omega),fun p2 h2=>?_⟩;have t2:=Same.new (o:=.lst ([.str (Str.ofString ";")]++ws)) h2;have q4:=s4.trans (t1.trans t2);have sm:=zxr dr
              try dsimp only [za0,List.set]
              refine hnx _ _ ⟨p2,_,_,us,ts,fs,rs,at2,af2,rfl,zc,sm.1,(fun e=>by rw[e,(s4.trans t1) _ _ hpl3] at h2;cases h2),td,by omega,J3'.same q4,q4 _ _ hpl3,fun b o e a1 a2 a3=>q4 _ _ (kp3 b o e a1 a2 a3),.inl ⟨rfl,fun f y hy=>.skip (by rw[hy];exact sm.2) .nil⟩⟩
            · refine hnx _ _ ⟨pp,ws,_,us,ts,fs,rs,at2,af2,rfl,hpp4,ztc dr,plp.symm,td,by omega,J3'.same s4,s4 _ _ hpl3,fun b o e a1 a2 a3=>s4 _ _ (kp3 b o e a1 a2 a3),.inr ⟨kk,rfl,dr.row.notPassed,fun f=>?_⟩⟩;obtain⟨kd,ks,v,vs,rfl,_,_,hd⟩:=zf9 dr;exact .take (zky hd) dr.row (bad f)
      rintro σ' H4 ⟨pq,ws',way,us',ts',fs',rs',at3,af3,rfl,hpq,ln,npl,td',lr',J4,hpl4,kp4,how⟩;refine zmp (fun σ' H'=>∃ls',σ' = [some (.ref n),some (.ref m),some (.ref pc),some (.bl sp),some (.ref pu),some (.ref pt'),some (.ref pf),some (.ref pl),some (.int cl),some (.ref pq),some (.str way)]/\H' pl=some (.lst (List.map V.str ls'))/\H' pq=some (.lst ws')/\J3 H' pu pt' pf us' ts' fs' at3 af3/\ziu H H' pu pt' pf/\(∀f,Reads ⟨some f,[],[],[]⟩ ls' ⟨some f,us,ts,fs⟩)/\ls'.length<=2 * i+1/\LOk ls') (fun D' hnx=>?_) ?_
      · refine zcq (decide (V.int (cl%9)=V.int 4)) (fun Q' hQ=>⟨_,rfl,_,_,rfl,rfl,(show (0:Int)<9 by decide),rfl,_,rfl,hQ⟩) ?_;refine ite2 (fun _=>?_) (fun _=>?_)
        · refine⟨_,rfl,.inl ⟨rfl,_,SqL.of hpl4⟩,by show 4<=sizeLine;decide,fun p1 h1=>?_⟩;obtain⟨z,hz,ez⟩:=zpc (l:=PASS7) (n:=4) rfl (by decide) (cl / 9);have t1:=Same.new (o:=.lst (PASS7.map V.str)) h1;have p7:=zz5 z hz;refine⟨_,rfl,_,_,rfl,rfl,⟨by decide,by decide⟩,_,_,rfl,rfl,(by decide:(0:Int)<4),p1,PASS7.map V.str,_,_,rfl,rfl,SqL.of zc,ez,?_⟩;refine⟨pl,_,_,rfl,rfl,t1 _ _ hpl4,by rw[List.length_map];exact zb3 (by omega),?_⟩;have J5:=J4.same t1;refine hnx _ _ ⟨ls++[z],rfl,by rw[zc,List.map_append];rfl,by rw[zv npl];exact t1 _ _ hpq,⟨by rw[zv lu.symm];exact J5.u,by rw[zv lt.symm];exact J5.t,J5.tt.stay (zdi (t1 _ _ hpl4)),by rw[zv lf.symm];exact J5.f,J5.ft.stay (zdi (t1 _ _ hpl4))⟩,fun b o e a1 a2 a3=>?_,fun f=>(rd f).append (.skip p7.1 .nil),by rw[List.length_append];show _+1<=_;omega,lok.snoc p7.2.1 p7.2.2⟩;rw[zv (fun z=>by rw[z,hpl] at e;cases e)];exact t1 _ _ (kp4 b o e a1 a2 a3)
        · exact hnx _ _ ⟨ls,rfl,hpl4,hpq,J4,kp4,rd,by omega,lok⟩
      rintro σ' H5 ⟨ls',rfl,hpl5,hpq5,J5,kp5,rd5,ll5,lok5⟩;refine⟨_,rfl,.inl ⟨rfl,_,SqL.of hpl5⟩,_,rfl,_,rfl,pq,ws',cl,rfl,SqL.of hpq5,ln.1,ln.2.1,ln.2.2.1,ln.2.2.2,fun y H6 hy y10 y9 s6=>?_⟩;refine⟨pl,_,_,rfl,rfl,s6 _ _ hpl5,by rw[List.length_map];exact zb3 (by omega),?_⟩;have hpl7:upd H6 pl (.lst (ls'.map V.str++[.str y])) pl=some (.lst ((ls'++[y]).map V.str)):=by rw[zc,List.map_append];rfl
      have J6:=J5.same s6;have J7:J3 (upd H6 pl (.lst (ls'.map V.str++[.str y]))) pu pt' pf us' ts' fs' at3 af3:=⟨by rw[zv lu.symm];exact J6.u,by rw[zv lt.symm];exact J6.t,J6.tt.stay (zdi (s6 _ _ hpl5)),by rw[zv lf.symm];exact J6.f,J6.ft.stay (zdi (s6 _ _ hpl5))⟩;have kp7:ziu H (upd H6 pl (.lst (ls'.map V.str++[.str y]))) pu pt' pf:=fun b o e a1 a2 a3=>by
        rw[zv (fun z=>by rw[z,hpl] at e;cases e)];exact s6 _ _ (kp5 b o e a1 a2 a3)
      generalize upd H6 pl (.lst (ls'.map V.str++[.str y]))=H7 at hpl7 J7 kp7
      try dsimp only
      rcases how with ⟨rfl,hg⟩ | ⟨kk,rfl,np,bd⟩
      · refine zcq false (fun Q' hQ=>⟨_,rfl,rfl,_,rfl,hQ⟩) (iteF ?_);exact⟨_,_,_,us',ts',fs',rs',at3,af3,ls'++[y],rfl,td',lr',J7,hpl7,fun f=>(rd5 f).append (hg f y hy),by rw[List.length_append];show _+1<=_;omega,lok5.snoc y10 y9,kp7⟩
      · refine zcq true (fun Q' hQ=>⟨_,rfl,rfl,_,rfl,by rw[zn3 kk];exact hQ⟩) (iteT ?_);refine⟨_,rfl,_,rfl,_,rfl,pl,_,rfl,.inl (SqL.of hpl7),_,_,rfl,rfl,by show 2<=sizeLine;decide,fun pe hpe=>?_⟩;have t8:=Same.new (o:=.tup [.str (wkS kk),.int ((((ls'++[y]).map V.str).length:Int)+1)]) hpe;refine⟨by show 2<=sizeLine;decide,fun q hq=>?_⟩;have t9:=Same.new (o:=.tup [.ref pl,.ref pe]) hq;refine k q pl pe (ls'++[y]) _ _ _ (fun b o e a1 a2 a3=>t9 _ _ (t8 _ _ (kp7 b o e a1 a2 a3))) zc (t9 _ _ (t8 _ _ hpl7)) (t9 _ _ zc) (lok5.snoc y10 y9) (by rw[List.length_append];show _+1<=_;omega) (.inr ⟨kk,rfl,by rw[List.length_map];rfl,fun f=>?_⟩);have:=Reads.refs (rd5 f) (.here (l:=y) (ls:=[]) (by rw[hy];exact np) (by rw[hy];exact bd f) ?_)
        · rw[List.length_append];exact this
        · rw[hy,List.length_map];exact⟨by have:=ln.2.2.2;omega,fun u hu=>by have:=(ln.2.2.1 u hu).2.2.2;omega⟩
    · rintro σ H2 ⟨v8,v9,v10,us,ts,fs,rs,at2,af2,ls,rfl,td,lr,J,hpl2,rd,ll,lok,kp⟩;rw[List.length_map] at lr ll;refine⟨_,rfl,by show 2<=sizeLine;decide,fun pe hpe=>?_⟩;have t8:=Same.new (o:=.tup [.str (Str.ofString "good"),.int 0]) hpe;refine⟨by show 2<=sizeLine;decide,fun q hq=>?_⟩;have t9:=Same.new (o:=.tup [.ref pl,.ref pe]) hq;exact k q pl pe ls _ _ _ (fun b o e a1 a2 a3=>t9 _ _ (t8 _ _ (kp b o e a1 a2 a3))) zc (t9 _ _ (t8 _ _ hpl2)) (t9 _ _ zc) lok (by omega) (.inl ⟨us,ts,fs,rs,at2,af2,rfl,rfl,td,by omega,J.same (t8.trans t9),rd⟩)
def RdOr (x way:Str) (r:Int):Prop:=x.length<=1000000/\(∀l∈Txt.split x "\n",l.length<=1000000)/\(Txt.split x "\n").length<=900/\
  ((∃st lo hi,Reads ⟨none,[],[],[]⟩ (Txt.split x "\n") st/\st.fr=some (lo,hi)/\way=Str.ofString "good"/\r=0)\/∃(k:Wrg) (n:Nat),Refs ⟨none,[],[],[]⟩ (Txt.split x "\n") n k/\way=wkS k/\r=(n:Int))
def zqn:Sp:=fun vs H Q _=>∃(x way:Str) (r:Int),vs = [.str x]/\RdOr x way r/\∀(q:Addr) (H':Hp),Same H H'->H' q=some (.tup [.str way,.int r])->Q (.ref q) H'
set_option maxHeartbeats 8000000 in
theorem zi0 (T:Tx K mg w C_Reading zq zk zo ze zb zf zd zg):Has P w K mg base "_law_refusal" ["_law_text"] 8 zqn:=by
  refine T.zi4.has sc__law_refusal (fun vs H Q E h=>?_) (fun f cdv A outer s H vs Q E hr h=>?_)
  · obtain⟨x,way,r,rfl,_⟩:=h;rfl
  · obtain⟨x,way,r,rfl,⟨hl,hls,hn,rd⟩,k⟩:=h;refine⟨_,(zj (zah (i:=1) sc__law_refusal.nd rfl (Or.inl rfl) (za7 (za zw (za zn zi))))
      (zj (zy4 ⟨rfl,rfl,rfl⟩ (fun pn xe Es pt=>(zp (zat (zy3 (zix T) pt (hr.mono (by decide)) (by rfl) (za (pv 0) zi))))) (zno (i:=2) ⟨rfl,rfl,rfl⟩ (by rfl) T.zdd T.ztf sc__law_refusal.nd rfl rfl (fun _ _=>(zp (zah (i:=1) sc__law_refusal.nd rfl (Or.inl rfl) (za7 (za zw (za (zdl K rfl (pv 2) rfl) zi)))))) (zno (i:=2) ⟨rfl,rfl,rfl⟩ (by rfl) T.zju T.zqp sc__law_refusal.nd rfl rfl (fun _ _=>(zp (zah (i:=1) sc__law_refusal.nd rfl (Or.inl rfl) (za7 (za zw (za (zdl K rfl (pv 2) rfl) zi)))))) (zno (i:=2) ⟨rfl,rfl,rfl⟩ (by rfl) T.zhb T.zmv sc__law_refusal.nd rfl rfl (fun _ _=>(zp (zah (i:=1) sc__law_refusal.nd rfl (Or.inl rfl) (za7 (za zw (za (zdl K rfl (pv 2) rfl) zi)))))) (zno (i:=2) ⟨rfl,rfl,rfl⟩ (by rfl) T.zjw T.zqs sc__law_refusal.nd rfl rfl (fun _ _=>(zp (zah (i:=1) sc__law_refusal.nd rfl (Or.inl rfl) (za7 (za zw (za (zdl K rfl (pv 2) rfl) zi)))))) (zno (i:=2) ⟨rfl,rfl,rfl⟩ (by rfl) T.zdo T.zn6 sc__law_refusal.nd rfl rfl (fun _ _=>(zp (zah (i:=1) sc__law_refusal.nd rfl (Or.inl rfl) (za7 (za zw (za (zdl K rfl (pv 2) rfl) zi)))))) (zno (i:=2) ⟨rfl,rfl,rfl⟩ (by rfl) T.zjy T.zqv sc__law_refusal.nd rfl rfl (fun _ _=>(zp (zah (i:=1) sc__law_refusal.nd rfl (Or.inl rfl) (za7 (za zw (za (zdl K rfl (pv 2) rfl) zi)))))) (zno (i:=2) ⟨rfl,rfl,rfl⟩ (by rfl) T.zmt T.zmu sc__law_refusal.nd rfl rfl (fun _ _=>(zp (zah (i:=1) sc__law_refusal.nd rfl (Or.inl rfl) (za7 (za zw (za (zdl K rfl (pv 2) rfl) zi)))))) zy5))))))))
      (zp (zac (pv 1))))),?_⟩
    refine⟨by show 2<=sizeLine;decide,fun b0 hb0=>?_⟩;have t0:=Same.new (o:=.tup [.str (Str.ofString "good"),.int 0]) hb0;have e0:upd H b0 (.tup [.str (Str.ofString "good"),.int 0]) b0=some (.tup [.str (Str.ofString "good"),.int 0]):=zc;generalize upd H b0 (.tup [.str (Str.ofString "good"),.int 0])=H0 at t0 e0;rcases rd with ⟨st,lo,hi,rd,fr,rfl,rfl⟩ | ⟨kk,n,rd,rfl,rfl⟩
    · refine⟨_,rfl,.inl ⟨x,st,lo,hi,rfl,hl,hls,hn,rd,fr,fun tl gm gu gt gf bt bf HC' n1 n2 n3 n4 e1' e2' e3' e4' e5' e6' e7' _ _ _ sE'=>?_⟩⟩;exact⟨_,rfl,k b0 _ (t0.trans sE') (sE' _ _ e0)⟩
    · refine⟨_,rfl,.inr ⟨x,n,kk,rfl,hl,hls,hn,rd,fun d H1 s1 hd=>?_⟩⟩;cases kk with
      | row=>
        refine⟨zo,rfl,?_⟩;refine⟨true,T.zgz,?_⟩;rw[if_pos rfl];intro e he;have t2:=Same.new (o:=excH e zo (some d)) he;refine⟨_,rfl,e,zo,d,_,_,rfl,zc,t2 _ _ hd,T.zth,T.zgc,rfl,by show 2<=sizeLine;decide,fun q hq=>?_⟩;exact⟨_,rfl,k q _ (t0.trans (s1.trans (t2.trans (Same.new hq)))) zc⟩
      | name=>
        refine⟨ze,rfl,?_⟩;refine⟨false,T.zgh,?_⟩;rw[if_neg Bool.false_ne_true];refine⟨true,T.zfj,?_⟩;rw[if_pos rfl];intro e he;have t2:=Same.new (o:=excH e ze (some d)) he;refine⟨_,rfl,e,ze,d,_,_,rfl,zc,t2 _ _ hd,T.zqr,T.ze2,rfl,by show 2<=sizeLine;decide,fun q hq=>?_⟩;exact⟨_,rfl,k q _ (t0.trans (s1.trans (t2.trans (Same.new hq)))) zc⟩
      | number=>
        refine⟨zb,rfl,?_⟩;refine⟨false,T.zev,?_⟩;rw[if_neg Bool.false_ne_true];refine⟨false,T.zeb,?_⟩;rw[if_neg Bool.false_ne_true];refine⟨true,T.zdq,?_⟩;rw[if_pos rfl];intro e he;have t2:=Same.new (o:=excH e zb (some d)) he;refine⟨_,rfl,e,zb,d,_,_,rfl,zc,t2 _ _ hd,T.zmx,T.zdv,rfl,by show 2<=sizeLine;decide,fun q hq=>?_⟩;exact⟨_,rfl,k q _ (t0.trans (s1.trans (t2.trans (Same.new hq)))) zc⟩
      | span=>
        refine⟨zf,rfl,?_⟩;refine⟨false,T.zgg,?_⟩;rw[if_neg Bool.false_ne_true];refine⟨false,T.zfh,?_⟩;rw[if_neg Bool.false_ne_true];refine⟨false,T.zea,?_⟩;rw[if_neg Bool.false_ne_true];refine⟨true,T.zfi,?_⟩;rw[if_pos rfl];intro e he;have t2:=Same.new (o:=excH e zf (some d)) he;refine⟨_,rfl,e,zf,d,_,_,rfl,zc,t2 _ _ hd,T.zqu,T.ze3,rfl,by show 2<=sizeLine;decide,fun q hq=>?_⟩;exact⟨_,rfl,k q _ (t0.trans (s1.trans (t2.trans (Same.new hq)))) zc⟩
      | twice=>
        refine⟨zd,rfl,?_⟩;refine⟨false,T.zfk,?_⟩;rw[if_neg Bool.false_ne_true];refine⟨false,T.zew,?_⟩;rw[if_neg Bool.false_ne_true];refine⟨false,T.zdx,?_⟩;rw[if_neg Bool.false_ne_true];refine⟨false,T.zex,?_⟩;rw[if_neg Bool.false_ne_true];refine⟨true,T.zec,?_⟩;rw[if_pos rfl];intro e he;have t2:=Same.new (o:=excH e zd (some d)) he;refine⟨_,rfl,e,zd,d,_,_,rfl,zc,t2 _ _ hd,T.zn8,T.zd9,rfl,by show 2<=sizeLine;decide,fun q hq=>?_⟩;exact⟨_,rfl,k q _ (t0.trans (s1.trans (t2.trans (Same.new hq)))) zc⟩
      | unit=>
        refine⟨zg,rfl,?_⟩;refine⟨false,T.zgi,?_⟩;rw[if_neg Bool.false_ne_true];refine⟨false,T.zfl,?_⟩;rw[if_neg Bool.false_ne_true];refine⟨false,T.zed,?_⟩;rw[if_neg Bool.false_ne_true];refine⟨false,T.zfm,?_⟩;rw[if_neg Bool.false_ne_true];refine⟨false,T.zey,?_⟩;rw[if_neg Bool.false_ne_true];refine⟨true,T.zfn,?_⟩;rw[if_pos rfl];intro e he;have t2:=Same.new (o:=excH e zg (some d)) he;refine⟨_,rfl,e,zg,d,_,_,rfl,zc,t2 _ _ hd,T.zqx,T.ze4,rfl,by show 2<=sizeLine;decide,fun q hq=>?_⟩;exact⟨_,rfl,k q _ (t0.trans (s1.trans (t2.trans (Same.new hq)))) zc⟩
theorem zvb {us:List Str}{fs:List (List V)}(c:FChain us fs):∀k (h:k<fs.length),∀f∈fs.take k,f.head?≠(fs[k]).head?:=by
  induction c with
  | nil=>intro k h;simp at h
  | snoc c h ih=>
    rename_i fs ws;intro k hk f hf;rw[List.length_append] at hk
    by_cases e:k<fs.length
    · rw[List.take_append_of_le_length (by omega)] at hf;rw[List.getElem_append_left e];exact ih k e f hf
    · have e:k=fs.length:=by have:k<fs.length+1:=hk;omega
      subst e;rw[List.take_left] at hf;rw[List.getElem_append_right (Nat.le_refl _)];cases h with
      | mk hn hx hl h1 h2 h3=>
        simp only [Nat.sub_self,List.getElem_cons_zero];exact h3 f hf
theorem zte {α:Type}{xs:List α}(nd:xs.Nodup) (k:Nat) (h:k<xs.length):xs[k] ∉ xs.take k:=by
  intro z;obtain⟨j,hj,e⟩:=List.mem_iff_getElem.mp z;rw[List.getElem_take] at e;rw[List.length_take] at hj;have:=(List.getElem_inj nd).mp e;omega
theorem zga {H:Hp}:∀{as:List Addr}{wss:List (List V)}(n:Nat),Tups H as wss->Tups H (as.take n) (wss.take n)
  | _,_,0,_=>.nil
  | _,_,n+1,.nil=>.nil
  | _,_,n+1,.cons h t=>.cons h (zga n t)
def zvc:Sp:=fun vs H Q _=>∃(tl gm gu gt gf:Addr) (us:List Str) (ts fs rs:List (List V)) (bt bf:List Addr),vs = [.ref tl]/\H tl=some (.tup [.ref gm,.ref gu,.ref gt,.ref gf])/\J3 H gu gt gf us ts fs bt bf/\Told us ts fs rs/\rs.length<=63/\∀H',Same H H'->Q (.bl true) H'
set_option maxHeartbeats 16000000 in
theorem zmr (T:Tx K mg w C_Reading zq zk zo ze zb zf zd zg):Has P w K mg base "_law_holds" ["_law_telling"] 1 (zvc):=by
  refine T.zm3.has sc__law_holds (fun vs H Q E h=>?_) (fun f cdv A outer s H vs Q E hr h=>?_)
  · obtain⟨tl,gm,gu,gt,gf,us,ts,fs,rs,bt,bf,rfl,_⟩:=h;rfl
  · obtain⟨tl,gm,gu,gt,gf,us,ts,fs,rs,bt,bf,rfl,ht,J,td,r63,k⟩:=h;have b_all:zh (top 40) = [((zh (top 40)).getD 0 (.Pass ⟨0,0,0,0⟩)),((zh (top 40)).getD 1 (.Pass ⟨0,0,0,0⟩)),((zh (top 40)).getD 2 (.Pass ⟨0,0,0,0⟩)),((zh (top 40)).getD 3 (.Pass ⟨0,0,0,0⟩)),((zh (top 40)).getD 4 (.Pass ⟨0,0,0,0⟩))]:=by kernel_rfl
    rw[b_all];have z_0:PS (cxOf CX0 P w K mg base ["_law_telling","_law_units","_law_ties","_law_finds","_law_k"] "_law_holds" (zm (top 40)) f cdv A outer s H E).nox ((zh (top 40)).getD 0 (.Pass ⟨0,0,0,0⟩)) _:=(@zxb _ _ 1 2 3 _ _ _ _ _ _ _ _ _ _ _ _ _ _ rfl sc__law_holds.nd rfl rfl rfl (by decide) (by decide) (by decide) rfl rfl rfl (@za _ _ _ _ _ (@zae _ _ _ _ _ _ _ (@zag _ K rfl) (pv 0) (@zn _ _ _ _) (fun _ _=>rfl)) (@za _ _ _ _ _ (@zae _ _ _ _ _ _ _ (@zag _ K rfl) (pv 0) (@zn _ _ _ _) (fun _ _=>rfl)) (@za _ _ _ _ _ (@zae _ _ _ _ _ _ _ (@zag _ K rfl) (pv 0) (@zn _ _ _ _) (fun _ _=>rfl)) (@zi _) (by rfl)) (by rfl)) (by rfl)) rfl (by rfl));have z_1:PS (cxOf CX0 P w K mg base ["_law_telling","_law_units","_law_ties","_law_finds","_law_k"] "_law_holds" (zm (top 40)) f cdv A outer s H E).nox ((zh (top 40)).getD 1 (.Pass ⟨0,0,0,0⟩)) _:=(@zg0 _ _ _ _ _ _ _ _ PassesOwn.never rfl (@zc9 _ _ _ _ _ _ (by rfl) T.range (@za _ _ _ _ _ (@za5 _ _ _ _ _ _ _ _ _ (@zau _ K rfl) (by rfl) T.len boot_len (@za _ _ _ _ _ (pv 1) (@zi _) (by rfl)) (by decide) (by decide) (by rfl) (by rfl)) (@zi _) (by rfl)) (by rfl)) (@zas _ _ 4 _ sc__law_holds.nd rfl (Or.inl rfl) (by first | exact .inl rfl | exact .inr rfl | assumption)) (@zp _ _ _ (@zal _ _ _ _ _ _ _ _ (@zy _ _ _ _ _ _ _ _ (@zef _ K rfl) (@zae _ _ _ _ _ _ _ (@zaa _ K rfl) (pv 1) (pv 4) (fun _ _=>rfl)) (@zaq _ _ _ _ _ _ _ _ _ _ (@zba _ K rfl) (pv 1) (@za3 _) (@zaw _ _ _ (pv 4))) (by with_unfolding_all rfl)) (@zp _ _ _ (@zac _ _ _ _ (@zho _ _ _ _))) (@zz _))) (by intro _;rfl));have z_2:PS (cxOf CX0 P w K mg base ["_law_telling","_law_units","_law_ties","_law_finds","_law_k"] "_law_holds" (zm (top 40)) f cdv A outer s H E).nox ((zh (top 40)).getD 2 (.Pass ⟨0,0,0,0⟩)) _:=(@zg0 _ _ _ _ _ _ _ _ PassesOwn.never rfl (@zc9 _ _ _ _ _ _ (by rfl) T.range (@za _ _ _ _ _ (@za5 _ _ _ _ _ _ _ _ _ (@zau _ K rfl) (by rfl) T.len boot_len (@za _ _ _ _ _ (pv 2) (@zi _) (by rfl)) (by decide) (by decide) (by rfl) (by rfl)) (@zi _) (by rfl)) (by rfl)) (@zas _ _ 4 _ sc__law_holds.nd rfl (Or.inl rfl) (by first | exact .inl rfl | exact .inr rfl | assumption)) (@zp _ _ _ (@zal _ _ _ _ _ _ _ _ (@PW.pt _ _ _ (@zk4 _ _ _ _ _ _ _ (@zy _ _ _ _ _ _ _ _ (@zrv _ K rfl (hu11 hr)) (@zae _ _ _ _ _ _ _ (@zaa _ K rfl) (pv 2) (pv 4) (fun _ _=>rfl)) (@zaq _ _ _ _ _ _ _ _ _ _ (@zba _ K rfl) (pv 2) (@za3 _) (@zaw _ _ _ (pv 4))) (by with_unfolding_all rfl)) (@zk4 _ _ _ _ _ _ _ (@zy _ _ _ _ _ _ _ _ (@zbl _ K rfl) (@zae _ _ _ _ _ _ _ (@zag _ K rfl) (@zae _ _ _ _ _ _ _ (@zaa _ K rfl) (pv 2) (pv 4) (fun _ _=>rfl)) (@zn _ _ _ _) (fun _ _=>rfl)) (pv 1) (by with_unfolding_all rfl)) (@zi9 _ _ _ _ (@zy _ _ _ _ _ _ _ _ (@zbl _ K rfl) (@zae _ _ _ _ _ _ _ (@zag _ K rfl) (@zae _ _ _ _ _ _ _ (@zaa _ K rfl) (pv 2) (pv 4) (fun _ _=>rfl)) (@zn _ _ _ _) (fun _ _=>rfl)) (pv 1) (by with_unfolding_all rfl)))))) (@zp _ _ _ (@zac _ _ _ _ (@zho _ _ _ _))) (@zz _))) (by intro _;rfl));have z_3:PS (cxOf CX0 P w K mg base ["_law_telling","_law_units","_law_ties","_law_finds","_law_k"] "_law_holds" (zm (top 40)) f cdv A outer s H E).nox ((zh (top 40)).getD 3 (.Pass ⟨0,0,0,0⟩)) _:=(@zg0 _ _ _ _ _ _ _ _ PassesOwn.never rfl (@zc9 _ _ _ _ _ _ (by rfl) T.range (@za _ _ _ _ _ (@za5 _ _ _ _ _ _ _ _ _ (@zau _ K rfl) (by rfl) T.len boot_len (@za _ _ _ _ _ (pv 3) (@zi _) (by rfl)) (by decide) (by decide) (by rfl) (by rfl)) (@zi _) (by rfl)) (by rfl)) (@zas _ _ 4 _ sc__law_holds.nd rfl (Or.inl rfl) (by first | exact .inl rfl | exact .inr rfl | assumption)) (@zp _ _ _ (@zal _ _ _ _ _ _ _ _ (@PW.pt _ _ _ (@zk4 _ _ _ _ _ _ _ (@zy _ _ _ _ _ _ _ _ (@zef _ K rfl) (@zae _ _ _ _ _ _ _ (@zag _ K rfl) (@zae _ _ _ _ _ _ _ (@zaa _ K rfl) (pv 3) (pv 4) (fun _ _=>rfl)) (@zn _ _ _ _) (fun _ _=>rfl)) (@zc5 _ _ _ _ _ _ _ ["_law_find"] [] [] _ _ _ _ (zm (top 40)) rfl ⟨rfl,by decide +kernel,by decide +kernel,by decide +kernel,by decide +kernel⟩ rfl (@zcy _ _ K rfl _ _ (@zaq _ _ _ _ _ _ _ _ _ _ (@zba _ K rfl) (pv 3) (@za3 _) (@zaw _ _ _ (pv 4)))) (fun _ _ _ _=>@zas _ _ 0 _ (show List.Nodup (["_law_find"]:List Str) by decide +kernel) rfl (Or.inl rfl) (by first | exact .inl rfl | exact .inr rfl | assumption)) (fun _ _ _ _=>@zcp _) (fun _ _ _ _=>(@zae _ _ _ _ _ _ _ (@zag _ K rfl) (pv 0) (@zn _ _ _ _) (fun _ _=>rfl))) (by intro _;rfl) (by rfl)) (by with_unfolding_all rfl)) (@zk4 _ _ _ _ _ _ _ (@zy _ _ _ _ _ _ _ _ (@zbl _ K rfl) (@zae _ _ _ _ _ _ _ (@zag _ K rfl) (@zae _ _ _ _ _ _ _ (@zaa _ K rfl) (pv 3) (pv 4) (fun _ _=>rfl)) (@zn _ _ _ _) (fun _ _=>rfl)) (pv 1) (by with_unfolding_all rfl)) (@zi9 _ _ _ _ (@zy _ _ _ _ _ _ _ _ (@ztr _) (@zae _ _ _ _ _ _ _ (@zag _ K rfl) (@zae _ _ _ _ _ _ _ (@zaa _ K rfl) (pv 3) (pv 4) (fun _ _=>rfl)) (@zn _ _ _ _) (fun _ _=>rfl)) (@zae _ _ _ _ _ _ _ (@zag _ K rfl) (@zae _ _ _ _ _ _ _ (@zaa _ K rfl) (pv 3) (pv 4) (fun _ _=>rfl)) (@zn _ _ _ _) (fun _ _=>rfl)) (zaf _)))))) (@zp _ _ _ (@zac _ _ _ _ (@zho _ _ _ _))) (@zz _))) (by intro _;rfl));have z_4:PS (cxOf CX0 P w K mg base ["_law_telling","_law_units","_law_ties","_law_finds","_law_k"] "_law_holds" (zm (top 40)) f cdv A outer s H E).nox ((zh (top 40)).getD 4 (.Pass ⟨0,0,0,0⟩)) _:=(@zac _ _ _ _ (@zho _ _ _ _));generalize ((zh (top 40)).getD 0 (.Pass ⟨0,0,0,0⟩))=s_0 at z_0 ⊢;generalize ((zh (top 40)).getD 1 (.Pass ⟨0,0,0,0⟩))=s_1 at z_1 ⊢;generalize ((zh (top 40)).getD 2 (.Pass ⟨0,0,0,0⟩))=s_2 at z_2 ⊢;generalize ((zh (top 40)).getD 3 (.Pass ⟨0,0,0,0⟩))=s_3 at z_3 ⊢;generalize ((zh (top 40)).getD 4 (.Pass ⟨0,0,0,0⟩))=s_4 at z_4 ⊢;refine⟨_,zj z_0 (zj z_1 (zj z_2 (zj z_3 (zp z_4)))),?_⟩;clear b_all z_0 z_1 z_2 z_3 z_4 s_0 s_1 s_2 s_3 s_4;rw[show L2.start (["_law_telling","_law_units","_law_ties","_law_finds","_law_k"]:List Str) [V.ref tl] = [some (V.ref tl),none,none,none,none] from rfl];have lens:=td.lens;have lbt:=J.tt.len;have lbf:=J.ft.len;have nm:=td.names;refine⟨_,rfl,tl,_,_,_,rfl,rfl,SqT.of ht,zan (j:=1) rfl,_,rfl,tl,_,_,_,rfl,rfl,SqT.of ht,zan (j:=2) rfl,_,rfl,tl,_,_,_,rfl,rfl,SqT.of ht,zan (j:=3) rfl,_,_,_,rfl,?_⟩
    try dsimp only [za0,List.set]
    have t0:=Same.refl H;have J1:=J;refine⟨_,rfl,gu,_,rfl,.inl (SqL.of J1.u),_,rfl,by rw[List.length_map];omega,by rw[List.length_map];omega,zdy (lo:=0) (n:=(((us.map V.str).length:Nat):Int).toNat) (fun i σ H'=>∃v4,σ = [some (.ref tl),some (.ref gu),some (.ref gt),some (.ref gf),v4]/\Same H H') ⟨none,rfl,Same.refl _⟩ ?_ ?_⟩
    · rintro i σ H2 hi ⟨v4,rfl,q⟩;have hi:i<us.length:=by rw[List.length_map] at hi;omega
      have ei:(0:Int)+(i:Nat)=((i:Nat):Int):=by omega
      rw[ei]
      try dsimp only [za0,List.set]
      have hu:=q _ _ J1.u;refine zeg false (fun Q' hQ=>?_) (fun H3 s3=>iteF ⟨_,rfl,q.trans s3⟩);refine⟨_,rfl,_,rfl,gu,_,_,.str us[i],rfl,rfl,SqL.of hu,zan (by rw[List.getElem?_map,List.getElem?_eq_getElem hi];rfl),_,rfl,_,rfl,_,rfl,gu,_,rfl,SqL.of hu,fun p1 h1=>?_⟩;rw[zil (by rw[List.length_map];omega),←List.map_take];refine⟨p1,_,rfl,.inl (SqL.of zc),rfl,zbh,_,rfl,?_⟩;rw[if_neg Bool.false_ne_true,zb1,decide_eq_false (zte nm.1 i hi)];exact hQ _ (Same.new h1)
    rintro σ H2 ⟨v4,rfl,q⟩;have J2:=J1.same q;have q1:=t0.trans q;clear J1 q t0;refine⟨_,rfl,gt,_,rfl,.inl (SqL.of J2.t),_,rfl,by rw[List.length_map];omega,by rw[List.length_map];omega,zdy (lo:=0) (n:=(((bt.map V.ref).length:Nat):Int).toNat) (fun i σ H'=>∃v4,σ = [some (.ref tl),some (.ref gu),some (.ref gt),some (.ref gf),v4]/\Same H2 H') ⟨v4,rfl,Same.refl _⟩ ?_ ?_⟩
    · rintro i σ H3 hi ⟨v4,rfl,q⟩;have hi:i<bt.length:=by rw[List.length_map] at hi;omega
      have ei:(0:Int)+(i:Nat)=((i:Nat):Int):=by omega
      rw[ei]
      try dsimp only [za0,List.set]
      have J3':=J2.same q;have hts:∀vs∈ts,∀v∈vs,Wd v:=fun vs hv=>((td.ties vs hv).words nm.2).1
      obtain⟨ws,ew,ea⟩:=J3'.tt.at (List.getElem?_eq_getElem hi);have hw:=List.mem_of_getElem? ew;have eb:(bt.map V.ref)[i]? = some (.ref bt[i]):=by rw[List.getElem?_map,List.getElem?_eq_getElem hi];rfl
      generalize bt[i]=b at ea eb;refine zeg false (fun Q' hQ=>?_) (fun H4 s4=>iteF ⟨_,rfl,q.trans s4⟩);refine⟨_,rfl,_,rfl,gt,_,_,.ref b,rfl,rfl,SqL.of J3'.t,zan eb,_,rfl,_,rfl,_,rfl,gt,_,rfl,SqL.of J3'.t,fun p1 h1=>?_⟩;rw[zil (by rw[List.length_map];omega),←List.map_take];have t1:=Same.new (o:=.lst ((bt.take i).map V.ref)) h1;have J4:=J3'.same t1;have e4:=t1 _ _ ea;refine⟨p1,_,_,rfl,.inl (SqL.of zc),(zga i J4.tt).deq (n:=7) (fun vs hv=>hts vs (List.mem_of_mem_take hv)) e4 (hts ws hw),_,rfl,?_⟩;have hi':i<ts.length:=by omega
      have ewi:ws=ts[i]:=by rw[List.getElem?_eq_getElem hi'] at ew;exact (Option.some.inj ew).symm
      rw[if_neg Bool.false_ne_true,(zga i J4.tt).anyE,decide_eq_false (by rw[ewi];exact zte td.tiesNd i hi')];obtain⟨kd,x,y,r,rfl,hx,hy⟩:∃kd x y r,ws=V.str kd :: .str x :: .str y::r/\x∈us/\y∈us:=by
        cases td.ties ws hw with
        | plain hk hx hy=>exact⟨_,_,_,_,rfl,hx,hy⟩
        | after hx hy h0 h1=>exact⟨_,_,_,_,rfl,hx,hy⟩
      refine iteF ⟨_,rfl,_,rfl,gt,_,_,.ref b,rfl,rfl,SqL.of J4.t,zan eb,b,_,_,_,rfl,rfl,SqT.of e4,zan (j:=1) rfl,_,rfl,gu,_,rfl,.inl (SqL.of J4.u),rfl,zbh,_,rfl,?_⟩;rw[if_pos rfl,zb1,decide_eq_true hx];refine iteF ⟨_,rfl,_,rfl,gt,_,_,.ref b,rfl,rfl,SqL.of J4.t,zan eb,b,_,_,_,rfl,rfl,SqT.of e4,zan (j:=2) rfl,_,rfl,gu,_,rfl,.inl (SqL.of J4.u),rfl,zbh,_,rfl,?_⟩;rw[if_pos rfl,zb1,decide_eq_true hy];exact hQ _ t1
    rintro σ H3 ⟨v4',rfl,q⟩;have J3':=J2.same q;have q3:=q1.trans q;clear J2 q q1;refine⟨_,rfl,gf,_,rfl,.inl (SqL.of J3'.f),_,rfl,by rw[List.length_map];omega,by rw[List.length_map];omega,zdy (lo:=0) (n:=(((bf.map V.ref).length:Nat):Int).toNat) (fun i σ H'=>∃v4,σ = [some (.ref tl),some (.ref gu),some (.ref gt),some (.ref gf),v4]/\Same H3 H') ⟨v4',rfl,Same.refl _⟩ ?_ ?_⟩
    · rintro i σ H4 hi ⟨v4,rfl,q⟩;have hi:i<bf.length:=by rw[List.length_map] at hi;omega
      have ei:(0:Int)+(i:Nat)=((i:Nat):Int):=by omega
      rw[ei]
      try dsimp only [za0,List.set]
      have J4:=J3'.same q;obtain⟨ws,ew,ea⟩:=J4.ft.at (List.getElem?_eq_getElem hi);have hw:=List.mem_of_getElem? ew;have eb:(bf.map V.ref)[i]? = some (.ref bf[i]):=by rw[List.getElem?_map,List.getElem?_eq_getElem hi];rfl
      generalize bf[i]=b at ea eb;have hi':i<fs.length:=by omega
      have ewi:ws=fs[i]:=by rw[List.getElem?_eq_getElem hi'] at ew;exact (Option.some.inj ew).symm
      have hd:=zvb td.chain i hi';rw[←ewi] at hd;obtain⟨F,x,lo,hi2,rfl,hF,hx,hlh,_⟩:=td.finds ws hw;refine zeg false (fun Q' hQ=>?_) (fun H5 s5=>iteF ⟨_,rfl,q.trans s5⟩);refine⟨_,rfl,_,rfl,gf,_,_,.ref b,rfl,rfl,SqL.of J4.f,zan eb,b,_,_,_,rfl,rfl,SqT.of ea,zbx,_,rfl,_,rfl,_,rfl,gf,_,rfl,SqL.of J4.f,fun p1 h1=>?_⟩;rw[zil (by rw[List.length_map];omega),←List.map_take];have t1:=Same.new (o:=.lst ((bf.take i).map V.ref)) h1;have e1:upd H4 p1 (.lst ((bf.take i).map V.ref)) p1=some (.lst ((bf.take i).map V.ref)):=zc;have J5:=J4.same t1;have ea:=t1 _ _ ea;generalize upd H4 p1 (.lst ((bf.take i).map V.ref))=H5 at t1 e1 J5 ea;have tk:=zga i J5.ft;refine⟨p1,rfl,⟨_,SqL.of e1⟩,fun D hD=>?_⟩;refine zpd (zdh (K:=K) (a:=p1) (xs:=(bf.take i).map V.ref)) (refV H5 fun ws=>strV (ws.headD .non)) hD (fun H' s=>SqL.of (s _ _ e1)) (by rw[List.length_map,List.length_take];omega) (fun v hv H' Q' s q=>?_) (fun H6 s6 e6=>?_)
      · obtain⟨a,hm,rfl⟩:=List.mem_map.mp hv;obtain⟨ws,hw',ea'⟩:=tk.get hm;obtain⟨F',y,lo',hi',rfl,_⟩:=td.finds ws (List.mem_of_mem_take hw');have:=q _ (Same.refl _);rw[zio ea'] at this;exact⟨_,rfl,a,_,_,_,rfl,rfl,SqT.of (s _ _ ea'),zbx,this⟩
      have J6:=J5.same s6;have ea:=s6 _ _ ea;refine⟨D,_,rfl,.inl (SqL.of e6),rfl,zbh,_,rfl,?_⟩;rw[if_neg Bool.false_ne_true,zb1,decide_eq_false (fun z=>by
        obtain⟨v,hv,e⟩:=List.mem_map.mp z;obtain⟨a,hm,rfl⟩:=List.mem_map.mp hv;obtain⟨ws,hw',ea'⟩:=tk.get hm;obtain⟨F',y,lo',hi',rfl,_⟩:=td.finds ws (List.mem_of_mem_take hw');rw[zio ea'] at e;exact hd _ hw' (by show some (V.str F')=some (V.str F);rw[←e];rfl))]
      refine iteF ⟨_,rfl,_,rfl,gf,_,_,.ref b,rfl,rfl,SqL.of J6.f,zan eb,b,_,_,_,rfl,rfl,SqT.of ea,zan (j:=1) rfl,_,rfl,gu,_,rfl,.inl (SqL.of J6.u),rfl,zbh,_,rfl,?_⟩;rw[if_pos rfl,zb1,decide_eq_true hx];refine iteF ⟨_,rfl,_,rfl,gf,_,_,.ref b,rfl,rfl,SqL.of J6.f,zan eb,b,_,_,_,rfl,rfl,SqT.of ea,zan (j:=2) rfl,_,rfl,_,rfl,gf,_,_,.ref b,rfl,rfl,SqL.of J6.f,zan eb,b,_,_,_,rfl,rfl,SqT.of ea,zan (j:=3) rfl,_,_,rfl,rfl,_,rfl,?_⟩;rw[decide_eq_false (by omega)];exact hQ _ (t1.trans s6)
    rintro σ H4 ⟨v4'',rfl,q⟩;exact k _ (q3.trans q)
theorem DEq.listL {K:PySem.W.Frag}{H:Hp}{n:Nat}{a b:Addr}{xs ys:List V}(hx:SqL K H a xs) (hy:SqL K H b ys) (hl:xs.length=ys.length) (h:∀(i:Nat) x y,xs[i]? = some x->ys[i]? = some y->DEq K H n x y true):DEq K H (n+1) (.ref a) (.ref b) true:=by
  have:=DEq.lst (n:=n) (fun _=>true) hx hy hl h;rw[List.all_eq_true.mpr fun _ _=>rfl] at this;exact this
theorem zms {H:Hp}{n:Nat}{as bs:List Addr}{wss:List (List V)}(ta:Tups H as wss) (tb:Tups H bs wss) (hw:∀vs∈wss,∀v∈vs,Wd v):∀(i:Nat) x y,(as.map V.ref)[i]? = some x->(bs.map V.ref)[i]? = some y->DEq K H (n+1) x y true:=by
  intro i x y ex ey;rw[List.getElem?_map] at ex ey;cases ea:as[i]? with
  | none=>rw[ea] at ex;cases ex
  | some a=>
    cases eb:bs[i]? with
    | none=>rw[eb] at ey;cases ey
    | some b=>
      rw[ea] at ex;rw[eb] at ey;cases ex;cases ey;obtain⟨ws,e1,h1⟩:=ta.at ea;obtain⟨ws',e2,h2⟩:=tb.at eb;rw[e1] at e2;cases e2;have fl:∀v∈ws,zcn v=true:=fun v hv=>(hw ws (List.mem_of_getElem? e1) v hv).flat
      have:=DEq.flatT (n:=n) (SqT.of (K:=K) h1) (SqT.of h2) fl fl
      rwa [zfs fl] at this
theorem zpf {H:Hp}{tl pz gm gu gt gf pm pu pt pf:Addr}{at' af bt bf:List Addr}{lo hi:Int}{us:List Str}{ts fs:List (List V)}(h1:H tl=some (.tup [.ref gm,.ref gu,.ref gt,.ref gf])) (h2:H pz=some (.tup [.ref pm,.ref pu,.ref pt,.ref pf])) (m1:H gm=some (.tup [.int lo,.int hi])) (m2:H pm=some (.tup [.int lo,.int hi]))
    (u1:H gu=some (.lst (us.map V.str))) (u2:H pu=some (.lst (us.map V.str))) (t1:H gt=some (.lst (bt.map V.ref))) (t2:H pt=some (.lst (at'.map V.ref))) (b1:Tups H bt ts) (b2:Tups H at' ts) (f1:H gf=some (.lst (bf.map V.ref))) (f2:H pf=some (.lst (af.map V.ref))) (c1:Tups H bf fs) (c2:Tups H af fs) (ht:∀vs∈ts,∀v∈vs,Wd v) (hf:∀vs∈fs,∀v∈vs,Wd v):DEq K H 8 (.ref tl) (.ref pz) true:=by
  refine DEq.sameT (n:=7) (SqT.of h1) (SqT.of h2) rfl (fun i x y ex ey=>?_)
  match i,ex,ey with
  | 0,ex,ey=>
    cases ex;cases ey;have fl:∀v∈([V.int lo,V.int hi]:List V),zcn v=true:=by simp[zcn]
    have:=DEq.flatT (n:=6) (SqT.of (K:=K) m1) (SqT.of m2) fl fl
    rwa [zfs fl] at this
  | 1,ex,ey=>
    cases ex;cases ey;refine DEq.sameL (n:=6) (SqL.of u1) (SqL.of u2) fun x hx=>?_
    obtain⟨z,_,rfl⟩:=List.mem_map.mp hx;have:=DEq.flat (K:=K) (H:=H) (n:=6) (x:=.str z) (y:=.str z) rfl rfl
    rwa [zkc rfl] at this
  | 2,ex,ey=>
    cases ex;cases ey;exact DEq.listL (n:=6) (SqL.of t1) (SqL.of t2) (by rw[List.length_map,List.length_map,b1.len,b2.len]) (zms b1 b2 ht)
  | 3,ex,ey=>
    cases ex;cases ey;exact DEq.listL (n:=6) (SqL.of f1) (SqL.of f2) (by rw[List.length_map,List.length_map,c1.len,c2.len]) (zms c1 c2 hf)
  | i+4,ex,ey=>cases ex
theorem zqo {us:List Str}{ts fs rs:List (List V)}{lo hi:Int}(t:Told us ts fs rs) (hl:lo<=hi) (h1:zao lo) (h2:zao hi) (ok:TellOk lo hi us ts fs) {H:Hp}{Q:VK}{E:XK}(k:zs7 H ⟨some (lo,hi),us,ts,fs⟩ lo hi Q) :
    zn0 [.str (zir (zay lo hi us ts fs))] H Q E:=by
  have ho:=t.rowsOk hl h1 h2;have tt:=zsw ok ho;refine⟨_,⟨some (lo,hi),us,ts,fs⟩,lo,hi,rfl,tt.2,?_,?_,?_,rfl,k⟩
  · rw[tt.1];intro l hl;obtain⟨ws,hw,rfl⟩:=List.mem_map.mp hl;have:=zh7 (ok.rows ws hw).1 (ok.rows ws hw).2;rw[zl1];omega
  · rw[tt.1,List.length_map];have:=ok.count;omega
  · rw[tt.1];exact t.grouped hl h1 h2
def kLaw:Nat:=12
def sp_law:Sp:=fun vs H Q _=>∃(a:Addr) (ns:List Int),vs = [.ref a]/\SqL K H a (ns.map V.int)/\ns.length<=63/\∀H',Q (.bl true) H'
theorem zxs {lo hi:Int}(h1:zao lo) (h2:zao hi):LnOk [.str (Str.ofString "dig"),.int lo,.int hi]:=by
  refine⟨List.cons_ne_nil _ _,fun v hv=>?_,fun u hu=>?_,by simp⟩
  · simp only [List.mem_cons,List.not_mem_nil,or_false] at hv;rcases hv with rfl | rfl | rfl
    · exact .inl ⟨_,rfl,by decide +kernel⟩
    · exact .inr ⟨_,rfl,h1⟩
    · exact .inr ⟨_,rfl,h2⟩
  · simp only [List.map_cons,List.map_nil,List.mem_cons,List.not_mem_nil,or_false] at hu;rcases hu with rfl | rfl | rfl
    · show Pln (Str.ofString "dig");decide +kernel
    · exact (zin h1).2
    · exact (zin h2).2
theorem zvd {H0 H H':Hp}{pu pt pf a:Addr}{xs:List V}(h0:SqL K H0 a xs) (s:Same H0 H) (k:ziu H H' pu pt pf) (n1:H0 pu=none) (n2:H0 pt=none) (n3:H0 pf=none):SqL K H' a xs:=by
  rcases h0 with (h | ⟨o,h⟩) | h
  · exact .inl (.inl (k _ _ (s _ _ h) (zr h n1) (zr h n2) (zr h n3)))
  · exact .inl (.inr ⟨o,k _ _ (s _ _ h) (zr h n1) (zr h n2) (zr h n3)⟩)
  · exact .inr h
theorem zzh {ls:List Str}(ne:ls≠[]) (h:LOk ls) (hl:ls.length<=200):(Txt.join "\n" ls).length<=1000000/\(∀l∈Txt.split (Txt.join "\n" ls) "\n",l.length<=1000000)/\(Txt.split (Txt.join "\n" ls) "\n").length<=900/\Txt.split (Txt.join "\n" ls) "\n" = ls/\(ls.map (·.length)).sum+ls.length * (Str.ofString "\n" : Str).length<=16777216:=by
  have e:=zqc ne fun l hx=>(h l hx).1
  have b:=zsy (ls:=ls) (by omega) fun l hx=>(h l hx).2
  refine⟨b.1,?_,?_,e,b.2⟩
  · rw[e];intro l hx;have:=(h l hx).2;omega
  · rw[e];omega
set_option maxHeartbeats 16000000 in
theorem h_law (T:Tx K mg w C_Reading zq zk zo ze zb zf zd zg):Has P w K mg base "law" ["_law_script"] kLaw (sp_law (K:=K)):=by
  refine T.zz6.has sc_law (fun vs H Q E h=>?_) (fun f cdv A outer s H vs Q E hr h=>?_)
  · obtain⟨a,ns,rfl,_⟩:=h;rfl
  · obtain⟨a,ns,rfl,ha,hl,k⟩:=h;have b_all:zh (top 41) = [((zh (top 41)).getD 0 (.Pass ⟨0,0,0,0⟩)),((zh (top 41)).getD 1 (.Pass ⟨0,0,0,0⟩)),((zh (top 41)).getD 2 (.Pass ⟨0,0,0,0⟩)),((zh (top 41)).getD 3 (.Pass ⟨0,0,0,0⟩)),((zh (top 41)).getD 4 (.Pass ⟨0,0,0,0⟩)),((zh (top 41)).getD 5 (.Pass ⟨0,0,0,0⟩)),((zh (top 41)).getD 6 (.Pass ⟨0,0,0,0⟩)),((zh (top 41)).getD 7 (.Pass ⟨0,0,0,0⟩)),((zh (top 41)).getD 8 (.Pass ⟨0,0,0,0⟩)),((zh (top 41)).getD 9 (.Pass ⟨0,0,0,0⟩)),((zh (top 41)).getD 10 (.Pass ⟨0,0,0,0⟩)),((zh (top 41)).getD 11 (.Pass ⟨0,0,0,0⟩)),((zh (top 41)).getD 12 (.Pass ⟨0,0,0,0⟩))]:=by kernel_rfl
    rw[b_all];have z_0:PS (cxOf CX0 P w K mg base ["_law_script","_law_names_here","_law_marks","_law_frame","_law_units","_law_ties","_law_finds","_law_lines_here","_law_end","_law_text","_law_telling"] "law" (zm (top 41)) f cdv A outer s H E).nox ((zh (top 41)).getD 0 (.Pass ⟨0,0,0,0⟩)) _:=(@zah _ _ 1 _ _ _ _ sc_law.nd rfl (Or.inl rfl) (@zar _ _ _ _ _ _ _ _ _ _ (zg6 T) (hr.mono (by decide)) (by rfl) (@za _ _ _ _ _ (@zar _ _ _ _ _ _ _ _ _ _ (zaz T) (hr.mono (by decide)) (by rfl) (@za _ _ _ _ _ (pv 0) (@za _ _ _ _ _ (@zn _ _ _ _) (@zi _) (by rfl)) (by rfl)) (by decide) (by rfl) (by rfl)) (@za _ _ _ _ _ (@zar _ _ _ _ _ _ _ _ _ _ (zaz T) (hr.mono (by decide)) (by rfl) (@za _ _ _ _ _ (pv 0) (@za _ _ _ _ _ (@zn _ _ _ _) (@zi _) (by rfl)) (by rfl)) (by decide) (by rfl) (by rfl)) (@za _ _ _ _ _ (@zn _ _ _ _) (@zi _) (by rfl)) (by rfl)) (by rfl)) (by decide) (by rfl) (by rfl)) (by rfl) (by first | exact .inl rfl | exact .inr rfl | assumption));have z_1:PS (cxOf CX0 P w K mg base ["_law_script","_law_names_here","_law_marks","_law_frame","_law_units","_law_ties","_law_finds","_law_lines_here","_law_end","_law_text","_law_telling"] "law" (zm (top 41)) f cdv A outer s H E).nox ((zh (top 41)).getD 1 (.Pass ⟨0,0,0,0⟩)) _:=(@zah _ _ 2 _ _ _ _ sc_law.nd rfl (Or.inl rfl) (@zar _ _ _ _ _ _ _ _ _ _ (zg6 T) (hr.mono (by decide)) (by rfl) (@za _ _ _ _ _ (@zar _ _ _ _ _ _ _ _ _ _ (zaz T) (hr.mono (by decide)) (by rfl) (@za _ _ _ _ _ (pv 0) (@za _ _ _ _ _ (@zn _ _ _ _) (@zi _) (by rfl)) (by rfl)) (by decide) (by rfl) (by rfl)) (@za _ _ _ _ _ (@zar _ _ _ _ _ _ _ _ _ _ (zaz T) (hr.mono (by decide)) (by rfl) (@za _ _ _ _ _ (pv 0) (@za _ _ _ _ _ (@zn _ _ _ _) (@zi _) (by rfl)) (by rfl)) (by decide) (by rfl) (by rfl)) (@za _ _ _ _ _ (@zn _ _ _ _) (@zi _) (by rfl)) (by rfl)) (by rfl)) (by decide) (by rfl) (by rfl)) (by rfl) (by first | exact .inl rfl | exact .inr rfl | assumption));have z_2:PS (cxOf CX0 P w K mg base ["_law_script","_law_names_here","_law_marks","_law_frame","_law_units","_law_ties","_law_finds","_law_lines_here","_law_end","_law_text","_law_telling"] "law" (zm (top 41)) f cdv A outer s H E).nox ((zh (top 41)).getD 2 (.Pass ⟨0,0,0,0⟩)) _:=(@zah _ _ 3 _ _ _ _ sc_law.nd rfl (Or.inl rfl) (@zbb _ _ _ _ _ _ _ _ _ (@zbg _ K rfl) (by rfl) T.tuple PyProof.Rows.boot_tuple (@za _ _ _ _ _ (@za5 _ _ _ _ _ _ _ _ _ (@zft _ K rfl) (by rfl) T.sorted PyProof.Rows.boot_sorted (@za _ _ _ _ _ (@za2 _ _ _ _ (@za _ _ _ _ _ (@zar _ _ _ _ _ _ _ _ _ _ (zdm T) (hr.mono (by decide)) (by rfl) (@za _ _ _ _ _ (@zar _ _ _ _ _ _ _ _ _ _ (zaz T) (hr.mono (by decide)) (by rfl) (@za _ _ _ _ _ (pv 0) (@za _ _ _ _ _ (@zn _ _ _ _) (@zi _) (by rfl)) (by rfl)) (by decide) (by rfl) (by rfl)) (@za _ _ _ _ _ (@zn _ _ _ _) (@zi _) (by rfl)) (by rfl)) (by decide) (by rfl) (by rfl)) (@za _ _ _ _ _ (@zar _ _ _ _ _ _ _ _ _ _ (zdm T) (hr.mono (by decide)) (by rfl) (@za _ _ _ _ _ (@zar _ _ _ _ _ _ _ _ _ _ (zaz T) (hr.mono (by decide)) (by rfl) (@za _ _ _ _ _ (pv 0) (@za _ _ _ _ _ (@zn _ _ _ _) (@zi _) (by rfl)) (by rfl)) (by decide) (by rfl) (by rfl)) (@za _ _ _ _ _ (@zn _ _ _ _) (@zi _) (by rfl)) (by rfl)) (by decide) (by rfl) (by rfl)) (@zi _) (by rfl)) (by rfl))) (@zi _) (by rfl)) (by decide) (by decide) (by rfl) (by rfl)) (@zi _) (by rfl)) (by decide) (by decide) (by rfl) (by rfl)) (by rfl) (by first | exact .inl rfl | exact .inr rfl | assumption));have z_3:PS (cxOf CX0 P w K mg base ["_law_script","_law_names_here","_law_marks","_law_frame","_law_units","_law_ties","_law_finds","_law_lines_here","_law_end","_law_text","_law_telling"] "law" (zm (top 41)) f cdv A outer s H E).nox ((zh (top 41)).getD 3 (.Pass ⟨0,0,0,0⟩)) _:=(@zah _ _ 4 _ _ _ _ sc_law.nd rfl (Or.inl rfl) (@za2 _ _ _ _ (@zi _)) (by rfl) (by first | exact .inl rfl | exact .inr rfl | assumption));have z_4:PS (cxOf CX0 P w K mg base ["_law_script","_law_names_here","_law_marks","_law_frame","_law_units","_law_ties","_law_finds","_law_lines_here","_law_end","_law_text","_law_telling"] "law" (zm (top 41)) f cdv A outer s H E).nox ((zh (top 41)).getD 4 (.Pass ⟨0,0,0,0⟩)) _:=(@zah _ _ 5 _ _ _ _ sc_law.nd rfl (Or.inl rfl) (@za2 _ _ _ _ (@zi _)) (by rfl) (by first | exact .inl rfl | exact .inr rfl | assumption));have z_5:PS (cxOf CX0 P w K mg base ["_law_script","_law_names_here","_law_marks","_law_frame","_law_units","_law_ties","_law_finds","_law_lines_here","_law_end","_law_text","_law_telling"] "law" (zm (top 41)) f cdv A outer s H E).nox ((zh (top 41)).getD 5 (.Pass ⟨0,0,0,0⟩)) _:=(@zah _ _ 6 _ _ _ _ sc_law.nd rfl (Or.inl rfl) (@za2 _ _ _ _ (@zi _)) (by rfl) (by first | exact .inl rfl | exact .inr rfl | assumption));have z_6:PS (cxOf CX0 P w K mg base ["_law_script","_law_names_here","_law_marks","_law_frame","_law_units","_law_ties","_law_finds","_law_lines_here","_law_end","_law_text","_law_telling"] "law" (zm (top 41)) f cdv A outer s H E).nox ((zh (top 41)).getD 6 (.Pass ⟨0,0,0,0⟩)) _:=(@zvg _ _ _ _ _ _ (@zar _ _ _ _ _ _ _ _ _ _ (zmq T) (hr.mono (by decide)) (by rfl) (@za _ _ _ _ _ (pv 1) (@za _ _ _ _ _ (pv 2) (@za _ _ _ _ _ (@zaq _ _ _ _ _ _ _ _ _ _ (@zba _ K rfl) (pv 0) (@zaw _ _ _ (@zn _ _ _ _)) (@zaw _ _ _ (@zn _ _ _ _))) (@za _ _ _ _ _ (@zgk _ _ _ _ _ _ _ _ (@zbv _) (@zai _ _ _ _ _ _ _ _ (@zbu _) (@zar _ _ _ _ _ _ _ _ _ _ (zaz T) (hr.mono (by decide)) (by rfl) (@za _ _ _ _ _ (pv 0) (@za _ _ _ _ _ (@zn _ _ _ _) (@zi _) (by rfl)) (by rfl)) (by decide) (by rfl) (by rfl)) (@zn _ _ _ _)) (@zn _ _ _ _) (zaf _)) (@za _ _ _ _ _ (pv 4) (@za _ _ _ _ _ (pv 5) (@za _ _ _ _ _ (pv 6) (@zi _) (by rfl)) (by rfl)) (by rfl)) (by rfl)) (by rfl)) (by rfl)) (by rfl)) (by decide) (by rfl) (by rfl)) (@zgp _ K rfl _ _ _ _ _ rfl (@zbr _ _ _ _ _ (@zas _ _ 7 _ sc_law.nd rfl (Or.inl rfl) (by first | exact .inl rfl | exact .inr rfl | assumption)) (@zbr _ _ _ _ _ (@zas _ _ 8 _ sc_law.nd rfl (Or.inl rfl) (by first | exact .inl rfl | exact .inr rfl | assumption)) (@zgj _) (by rfl)) (by rfl)) (by rfl) (by rfl)) (by rfl) (by rfl) (by rfl));have z_7:PS (cxOf CX0 P w K mg base ["_law_script","_law_names_here","_law_marks","_law_frame","_law_units","_law_ties","_law_finds","_law_lines_here","_law_end","_law_text","_law_telling"] "law" (zm (top 41)) f cdv A outer s H E).nox ((zh (top 41)).getD 7 (.Pass ⟨0,0,0,0⟩)) _:=(@zah _ _ 9 _ _ _ _ sc_law.nd rfl (Or.inl rfl) (@zbw _ K rfl _ _ _ _ _ _ _ _ _ _ _ PySem.F.plainAttrs_str PySem.F.slot_str_join PySem.F.type_str_join (@zhk _ K rfl) (@zw _ _ _ _) (@za _ _ _ _ _ (@zai _ _ _ _ _ _ _ _ (@zc7 _ K rfl) (@za2 _ _ _ _ (@za _ _ _ _ _ (@zar _ _ _ _ _ _ _ _ _ _ (zik T) (hr.mono (by decide)) (by rfl) (@za _ _ _ _ _ (@za2 _ _ _ _ (@za _ _ _ _ _ (@zw _ _ _ _) (@za _ _ _ _ _ (@zae _ _ _ _ _ _ _ (@zag _ K rfl) (pv 3) (@zn _ _ _ _) (fun _ _=>rfl)) (@za _ _ _ _ _ (@zae _ _ _ _ _ _ _ (@zag _ K rfl) (pv 3) (@zn _ _ _ _) (fun _ _=>rfl)) (@zi _) (by rfl)) (by rfl)) (by rfl))) (@za _ _ _ _ _ (@zar _ _ _ _ _ _ _ _ _ _ (zaz T) (hr.mono (by decide)) (by rfl) (@za _ _ _ _ _ (pv 0) (@za _ _ _ _ _ (@zn _ _ _ _) (@zi _) (by rfl)) (by rfl)) (by decide) (by rfl) (by rfl)) (@zi _) (by rfl)) (by rfl)) (by decide) (by rfl) (by rfl)) (@zi _) (by rfl))) (pv 7)) (@zi _) (by rfl)) (by rfl) (by rfl) (by rfl) (by rfl) (by rfl)) (by rfl) (by first | exact .inl rfl | exact .inr rfl | assumption));have z_8:PS (cxOf CX0 P w K mg base ["_law_script","_law_names_here","_law_marks","_law_frame","_law_units","_law_ties","_law_finds","_law_lines_here","_law_end","_law_text","_law_telling"] "law" (zm (top 41)) f cdv A outer s H E).nox ((zh (top 41)).getD 8 (.Pass ⟨0,0,0,0⟩)) _:=(@zal _ _ _ _ _ _ _ _ (@zy _ _ _ _ _ _ _ _ (@zru _ K rfl (hu10 hr)) (@zar _ _ _ _ _ _ _ _ _ _ (zi0 T) (hr.mono (by decide)) (by rfl) (@za _ _ _ _ _ (pv 9) (@zi _) (by rfl)) (by decide) (by rfl) (by rfl)) (pv 8) (zaf _)) (@zp _ _ _ (@zac _ _ _ _ (@zho _ _ _ _))) (@zz _));have z_9:PS (cxOf CX0 P w K mg base ["_law_script","_law_names_here","_law_marks","_law_frame","_law_units","_law_ties","_law_finds","_law_lines_here","_law_end","_law_text","_law_telling"] "law" (zm (top 41)) f cdv A outer s H E).nox ((zh (top 41)).getD 9 (.Pass ⟨0,0,0,0⟩)) _:=(@zal _ _ _ _ _ _ _ _ (@zy _ _ _ _ _ _ _ _ (@zj3 _) (@zae _ _ _ _ _ _ _ (@zag _ K rfl) (pv 8) (@zn _ _ _ _) (fun _ _=>rfl)) (@zw _ _ _ _) (zaf _)) (@zp _ _ _ (@zac _ _ _ _ (@zho _ _ _ _))) (@zz _));have z_10:PS (cxOf CX0 P w K mg base ["_law_script","_law_names_here","_law_marks","_law_frame","_law_units","_law_ties","_law_finds","_law_lines_here","_law_end","_law_text","_law_telling"] "law" (zm (top 41)) f cdv A outer s H E).nox ((zh (top 41)).getD 10 (.Pass ⟨0,0,0,0⟩)) _:=(@zah _ _ 10 _ _ _ _ sc_law.nd rfl (Or.inl rfl) (@zar _ _ _ _ _ _ _ _ _ _ (zc8 T) (hr.mono (by decide)) (by rfl) (@za _ _ _ _ _ (pv 9) (@zi _) (by rfl)) (by decide) (by rfl) (by rfl)) (by rfl) (by first | exact .inl rfl | exact .inr rfl | assumption));have z_11:PS (cxOf CX0 P w K mg base ["_law_script","_law_names_here","_law_marks","_law_frame","_law_units","_law_ties","_law_finds","_law_lines_here","_law_end","_law_text","_law_telling"] "law" (zm (top 41)) f cdv A outer s H E).nox ((zh (top 41)).getD 11 (.Pass ⟨0,0,0,0⟩)) _:=(@zal _ _ _ _ _ _ _ _ (@PW.pt _ _ _ (@zk4 _ _ _ _ _ _ _ (@zy _ _ _ _ _ _ _ _ (@zru _ K rfl (hu10 hr)) (pv 10) (@za7 _ _ _ _ _ (@za _ _ _ _ _ (pv 3) (@za _ _ _ _ _ (pv 4) (@za _ _ _ _ _ (pv 5) (@za _ _ _ _ _ (pv 6) (@zi _) (by rfl)) (by rfl)) (by rfl)) (by rfl))) (zaf _)) (@zi9 _ _ _ _ (@zez _ _ _ _ (@zdr _ _ _ (@zar _ _ _ _ _ _ _ _ _ _ (zmr T) (hr.mono (by decide)) (by rfl) (@za _ _ _ _ _ (pv 10) (@zi _) (by rfl)) (by decide) (by rfl) (by rfl)) (by intro _;rfl)))))) (@zp _ _ _ (@zac _ _ _ _ (@zho _ _ _ _))) (@zz _));have z_12:PS (cxOf CX0 P w K mg base ["_law_script","_law_names_here","_law_marks","_law_frame","_law_units","_law_ties","_law_finds","_law_lines_here","_law_end","_law_text","_law_telling"] "law" (zm (top 41)) f cdv A outer s H E).nox ((zh (top 41)).getD 12 (.Pass ⟨0,0,0,0⟩)) _:=(@zac _ _ _ _ (@zgk _ _ _ _ _ _ _ _ (@zke _ K rfl (hu10 hr)) (@zar _ _ _ _ _ _ _ _ _ _ (zc8 T) (hr.mono (by decide)) (by rfl) (@za _ _ _ _ _ (@zar _ _ _ _ _ _ _ _ _ _ (ziy T) (hr.mono (by decide)) (by rfl) (@za _ _ _ _ _ (pv 10) (@zi _) (by rfl)) (by decide) (by rfl) (by rfl)) (@zi _) (by rfl)) (by decide) (by rfl) (by rfl)) (pv 10) (zaf _)));generalize ((zh (top 41)).getD 0 (.Pass ⟨0,0,0,0⟩))=s_0 at z_0 ⊢;generalize ((zh (top 41)).getD 1 (.Pass ⟨0,0,0,0⟩))=s_1 at z_1 ⊢;generalize ((zh (top 41)).getD 2 (.Pass ⟨0,0,0,0⟩))=s_2 at z_2 ⊢;generalize ((zh (top 41)).getD 3 (.Pass ⟨0,0,0,0⟩))=s_3 at z_3 ⊢;generalize ((zh (top 41)).getD 4 (.Pass ⟨0,0,0,0⟩))=s_4 at z_4 ⊢;generalize ((zh (top 41)).getD 5 (.Pass ⟨0,0,0,0⟩))=s_5 at z_5 ⊢;generalize ((zh (top 41)).getD 6 (.Pass ⟨0,0,0,0⟩))=s_6 at z_6 ⊢;generalize ((zh (top 41)).getD 7 (.Pass ⟨0,0,0,0⟩))=s_7 at z_7 ⊢;generalize ((zh (top 41)).getD 8 (.Pass ⟨0,0,0,0⟩))=s_8 at z_8 ⊢;generalize ((zh (top 41)).getD 9 (.Pass ⟨0,0,0,0⟩))=s_9 at z_9 ⊢;generalize ((zh (top 41)).getD 10 (.Pass ⟨0,0,0,0⟩))=s_10 at z_10 ⊢;generalize ((zh (top 41)).getD 11 (.Pass ⟨0,0,0,0⟩))=s_11 at z_11 ⊢;generalize ((zh (top 41)).getD 12 (.Pass ⟨0,0,0,0⟩))=s_12 at z_12 ⊢;refine⟨_,zj z_0 (zj z_1 (zj z_2 (zj z_3 (zj z_4 (zj z_5 (zj z_6 (zj z_7 (zj z_8 (zj z_9 (zj z_10 (zj z_11 (zp z_12)))))))))))),?_⟩;clear b_all z_0 z_1 z_2 z_3 z_4 z_5 z_6 z_7 z_8 z_9 z_10 z_11 z_12 s_0 s_1 s_2 s_3 s_4 s_5 s_6 s_7 s_8 s_9 s_10 s_11 s_12;rw[show L2.start (["_law_script","_law_names_here","_law_marks","_law_frame","_law_units","_law_ties","_law_finds","_law_lines_here","_law_end","_law_text","_law_telling"]:List Str) [V.ref a] = [some (V.ref a),none,none,none,none,none,none,none,none,none,none] from rfl];refine⟨_,rfl,a,ns,_,rfl,ha,by decide,_,rfl,a,ns,_,rfl,ha,by decide,_,_,rfl,fun pn xs H1 x1 x2 x3 fn hn s1=>?_⟩
    try dsimp only [za0,List.set]
    refine⟨_,rfl,a,ns,_,rfl,s1.seq ha,by decide,_,rfl,a,ns,_,rfl,s1.seq ha,by decide,_,_,rfl,fun pm ms H2 m1 m2 m3 fm hm s2=>?_⟩
    try dsimp only [za0,List.set]
    have q2:=s1.trans s2;refine⟨_,rfl,a,ns,_,rfl,q2.seq ha,by decide,_,_,rfl,fun z1 H3 y1 w1 s3=>?_⟩;have q3:=q2.trans s3;refine⟨_,rfl,a,ns,_,rfl,q3.seq ha,by decide,_,_,rfl,fun z2 H4 y2 w2 s4=>?_⟩;have q4:=q3.trans s4;refine⟨(by show 2<=sizeLine;decide),fun p1 hp1=>?_⟩;have t1:=Same.new (o:=.lst [.int z1,.int z2]) hp1;refine⟨p1,[z1,z2],rfl,SqL.of zc,(by show 2<64;decide),fun p2 zs hp2 pm' ps=>?_⟩;obtain⟨lo,hi,rfl,o1,o2,o3⟩:=zjq pm' ps;have t2:=Same.new (o:=.lst ([lo,hi].map V.int)) hp2;have ylo:zao lo:=by rcases o2 with rfl | rfl;exact y1;exact y2
    have yhi:zao hi:=by rcases o3 with rfl | rfl;exact y1;exact y2
    refine⟨p2,[.int lo,.int hi],rfl,.inl ⟨SqL.of zc,fun pd hpd=>?_⟩⟩;have t3:=Same.new (o:=.tup [.int lo,.int hi]) hpd;have hd:upd (upd (upd H4 p1 (.lst [.int z1,.int z2])) p2 (.lst ([lo,hi].map V.int))) pd (.tup [.int lo,.int hi]) pd=some (.tup [.int lo,.int hi]):=zc;have q5:=t1.trans (t2.trans t3);have hm:=(s3.trans (s4.trans q5)) _ _ hm;have hn:=(s2.trans (s3.trans (s4.trans q5))) _ _ hn;have ha:=(q4.trans q5).seq ha;generalize upd (upd (upd H4 p1 (.lst [.int z1,.int z2])) p2 (.lst ([lo,hi].map V.int))) pd (.tup [.int lo,.int hi])=H5 at hd hm hn ha;clear q5 t3 t2 t1 q4 q3 q2 s4 s3 s2 s1 hpd hp2 hp1
    try dsimp only [za0,List.set]
    refine⟨by show 0<=sizeLine;decide,fun pu hpu=>?_⟩
    try dsimp only [za0,List.set]
    have u1:=Same.new (o:=.lst []) hpu;refine⟨by show 0<=sizeLine;decide,fun pt' hpt=>?_⟩
    try dsimp only [za0,List.set]
    have u2:=Same.new (o:=.lst []) hpt;refine⟨by show 0<=sizeLine;decide,fun pf hpf=>?_⟩
    try dsimp only [za0,List.set]
    have u3:=Same.new (o:=.lst []) hpf;have eu:upd (upd (upd H5 pu (.lst [])) pt' (.lst [])) pf (.lst []) pu=some (.lst []):=u3 _ _ (u2 _ _ zc);have et:upd (upd (upd H5 pu (.lst [])) pt' (.lst [])) pf (.lst []) pt'=some (.lst []):=u3 _ _ zc;have ef:upd (upd (upd H5 pu (.lst [])) pt' (.lst [])) pf (.lst []) pf=some (.lst []):=zc;have fpt:=u1.free hpt;have fpf:=(u1.trans u2).free hpf;have nut:pu≠pt':=zr zc hpt;have nuf:pu≠pf:=zr (u2 _ _ zc) hpf;have ntf:pt'≠pf:=zr zc hpf;have q6:=u1.trans (u2.trans u3);have hn6:=q6 _ _ hn;have hm6:=q6 _ _ hm;have hd6:=q6 _ _ hd;have ha6:=q6.seq ha;have nn:pn≠pu/\pn≠pt'/\pn≠pf:=⟨zr hn hpu,zr hn fpt,zr hn fpf⟩;have nm:pm≠pu/\pm≠pt'/\pm≠pf:=⟨zr hm hpu,zr hm fpt,zr hm fpf⟩;have nd:pd≠pu/\pd≠pt'/\pd≠pf:=⟨zr hd hpu,zr hd fpt,zr hd fpf⟩;generalize upd (upd (upd H5 pu (.lst [])) pt' (.lst [])) pf (.lst [])=H6 at eu et ef q6 hn6 hm6 hd6 ha6;clear hn hm hd u1 u2 u3 hpt hpf;refine⟨_,rfl,_,rfl,_,rfl,_,rfl,_,rfl,a,_,rfl,ha6,fun pc hpc=>?_⟩;obtain⟨cs,ec,lc⟩:=zsj ns (some 5) (some 60);have t7:=Same.new (o:=.lst (cutV (ns.map V.int) (some 5) (some 60))) hpc;have hc:upd H6 pc (.lst (cutV (ns.map V.int) (some 5) (some 60))) pc=some (.lst (cs.map V.int)):=by rw[zc,ec]
    have nc:pc≠pu/\pc≠pt'/\pc≠pf:=⟨(zr eu hpc).symm,(zr et hpc).symm,(zr ef hpc).symm⟩;refine⟨_,rfl,a,ns,_,rfl,t7.seq ha6,by decide,_,_,rfl,rfl,(show (0:Int)<3 by decide),rfl,_,rfl,_,rfl,_,rfl,pn,pm,pc,pu,pt',pf,_,xs,ms,cs,rfl,t7 _ _ hn6,t7 _ _ hm6,hc,x1,m1,x3,m3,by omega,nn,nm,nc,nut,nuf,ntf,⟨t7 _ _ eu,t7 _ _ et,.nil,t7 _ _ ef,.nil⟩,fun q pl pe ls way r H8 kp hq hpl hpe lok l126 en=>?_⟩;have hd8:=kp _ _ (t7 _ _ hd6) nd.1 nd.2.1 nd.2.2;have ha8:SqL K H8 a (ns.map V.int):=zvd ha (q6.trans t7) kp hpu fpt fpf;have r7:=(q6.trans t7);refine⟨q,_,rfl,SqT.of hq,rfl,_,_,rfl,_,_,rfl,rfl,?_⟩
    try dsimp only [za0,List.set]
    clear kp hq hc ec lc t7 hpc ha6 hm6 hn6 hd6 eu et ef;refine⟨rfl,_,rfl,pd,_,_,_,rfl,rfl,SqT.of hd8,zbx,_,rfl,pd,_,_,_,rfl,rfl,SqT.of hd8,zan (j:=1) rfl,by show 3<=sizeLine;decide,fun p9 h9=>?_⟩;have t9:=Same.new (o:=.lst [.str (Str.ofString "dig"),.int lo,.int hi]) h9;have wg:=zxs ylo yhi;refine⟨_,rfl,a,ns,_,rfl,t9.seq ha8,by decide,p9,_,_,rfl,SqL.of zc,wg.1,wg.2.1,wg.2.2.1,wg.2.2.2,fun y Ha hy y10 y9 sa=>?_⟩;refine⟨by show 1<=sizeLine;decide,fun pb hb=>?_⟩;have tb:=Same.new (o:=.lst [.str y]) hb;have qb:=t9.trans (sa.trans tb);refine⟨_,rfl,pb,pl,_,_,rfl,rfl,SqL.of zc,SqL.of (qb _ _ hpl),zaj (by rw[List.length_map];show 1+_<=1000;omega),fun pg hg=>?_⟩;have tg:=Same.new (o:=.lst ([.str y]++ls.map V.str)) hg;have hpg:upd (upd Ha pb (.lst [.str y])) pg (.lst ([.str y]++ls.map V.str)) pg=some (.lst ((y::ls).map V.str)):=zc;have lokA:LOk (y::ls):=fun l hx=>(List.mem_cons.mp hx).elim (fun z=>by rw[z];exact⟨y10,y9⟩) (lok l)
    obtain⟨g1,g2,g3,g4,g5⟩:=zzh (ls:=y::ls) (List.cons_ne_nil _ _) lokA (by rw[List.length_cons];omega);refine⟨_,pg,y::ls,rfl,rfl,SqL.of hpg,g5,?_⟩
    try dsimp only [za0,List.set]
    have qg:=qb.trans tg;generalize upd (upd Ha pb (.lst [.str y])) pg (.lst ([.str y]++ls.map V.str))=Hg at qg hpg;clear tg tb sa t9 qb hpg;have hpe:=qg _ _ hpe;have hd9:=qg _ _ hd8;have stp:StepOk ⟨none,[],[],[]⟩ [.str "dig",.int lo,.int hi] ⟨some (lo,hi),[],[],[]⟩:=.dig o1 ylo yhi;have ro:RdOr (Txt.join "\n" (y::ls)) way r:=by
      refine⟨g1,g2,g3,?_⟩;rw[g4];rcases en with ⟨us,ts,fs,rs,at2,af2,e1,e2,td,r63,J,rd⟩ | ⟨kk,e1,e2,rf⟩
      · exact .inl ⟨⟨some (lo,hi),us,ts,fs⟩,lo,hi,.row hy stp (rd (lo,hi)),rfl,e1,e2⟩
      · exact .inr ⟨kk,ls.length+1,.row hy stp (rf (lo,hi)),e1,e2⟩
    refine zeg false (fun Q' hQ=>?_) (fun Hh sh=>iteF ?_)
    · refine⟨_,rfl,_,way,r,rfl,ro,fun q1 Hi si hq1=>?_⟩;have e:=DEq.flatT (n:=7) (K:=K) (SqT.of hq1) (SqT.of (si _ _ hpe)) (by simp[zcn]) (by simp[zcn]);rw[zfs (by simp[zcn])] at e;exact⟨_,rfl,q1,pe,true,rfl,rfl,e,_,rfl,hQ _ si⟩
    try unfold zfo
    try dsimp only
    have hpe:=sh _ _ hpe;have hd9:=sh _ _ hd9;rcases en with ⟨us,ts,fs,rs,at2,af2,e1,e2,td,r63,J,rd⟩ | ⟨kk,e1,e2,rf⟩
    rotate_left
    · refine zcq true (fun Q' hQ=>⟨_,rfl,pe,_,_,_,rfl,rfl,SqT.of hpe,zbx,rfl,_,rfl,by rw[e1,zn3 kk];exact hQ⟩) (iteT ?_);exact k _
    refine zcq false (fun Q' hQ=>⟨_,rfl,pe,_,_,_,rfl,rfl,SqT.of hpe,zbx,rfl,_,rfl,by rw[e1,decide_eq_true rfl];exact hQ⟩) (iteF ?_)
    try unfold zfo
    try dsimp only
    have J:=J.same (qg.trans sh);have ok:=td.tellOk (lo:=lo) (hi:=hi) r63 ylo yhi;refine⟨_,rfl,_,⟨some (lo,hi),us,ts,fs⟩,lo,hi,rfl,g1,g2,g3,(show Reads _ (Txt.split (Txt.join "\n" (y::ls)) "\n") _ by rw[g4];exact .row hy stp (rd (lo,hi))),rfl,fun tl gm gu gt gf bt bf Hk n1 n2 n3 n4 e1' e2' e3' e4' e5' e6' e7' _ _ _ sk=>?_⟩
    try dsimp only [za0,List.set]
    have J:=J.same sk;have hd9:=sk _ _ hd9;refine zeg false (fun Q' hQ=>?_) (fun Hm sm=>iteF ?_)
    · refine⟨_,rfl,_,rfl,_,rfl,_,rfl,_,rfl,(by show 4<=sizeLine;decide),fun pz hpz=>?_⟩;have tz:=Same.new (o:=.tup [.ref pd,.ref pu,.ref pt',.ref pf]) hpz;have Jz:=J.same tz;refine⟨tl,pz,true,rfl,rfl,zpf (tz _ _ e1') zc (tz _ _ e2') (tz _ _ hd9) (tz _ _ e3') Jz.u (tz _ _ e4') Jz.t (e5'.same tz) Jz.tt (tz _ _ e6') Jz.f (e7'.same tz) Jz.ft (fun vs h=>(ok.t.2 vs h).1) (fun vs h=>(ok.f.2 vs h).1),_,rfl,iteF ?_⟩;exact⟨_,rfl,tl,gm,gu,gt,gf,us,ts,fs,rs,bt,bf,rfl,tz _ _ e1',⟨tz _ _ e3',tz _ _ e4',e5'.same tz,tz _ _ e6',e7'.same tz⟩,td,r63,fun Hn sn=>⟨_,rfl,hQ _ (tz.trans sn)⟩⟩
    try unfold zfo
    try dsimp only
    refine⟨_,rfl,tl,gm,gu,gt,gf,lo,hi,us,ts,fs,bt,bf,rfl,SqT.of (sm _ _ e1'),⟨SqT.of (sm _ _ e2'),SqL.of (sm _ _ e3'),SqL.of (sm _ _ e4'),e5'.same sm,SqL.of (sm _ _ e6'),e7'.same sm⟩,ok,fun Hn sn=>?_⟩;have qn:=sm.trans sn;refine zqo (E:=fun _ _ _=>False) td o1 ylo yhi ok fun tl2 gm2 gu2 gt2 gf2 bt2 bf2 Hp' n1' n2' n3' n4' f1' f2' f3' f4' f5' f6' f7' _ _ _ sp'=>?_
    have qp:=qn.trans sp';refine⟨_,rfl,tl2,tl,true,rfl,rfl,zpf f1' (qp _ _ e1') f2' (qp _ _ e2') f3' (qp _ _ e3') f4' (qp _ _ e4') f5' (e5'.same qp) f6' (qp _ _ e6') f7' (e7'.same qp) (fun vs h=>(ok.t.2 vs h).1) (fun vs h=>(ok.f.2 vs h).1),k _⟩
end
end LK07
open PySem PySem.W PyProof.Rows
set_option maxRecDepth 100000 in
set_option maxHeartbeats 0 in
theorem PySem.Challenge.cw_digmatrix_k07_whole_any_lines_holds : PySem.Challenge.rw_digmatrix_k07_whole_any_lines.Holds := by
  w_on;o_law;k_head;(case hw=>w_witness2)
  k_fill
  refine L2.law_walk (l:=PySem.Challenge.rw_digmatrix_k07_whole_any_lines) (k:=LK07.kLaw) (x:="_law_script") (sp:=fun K=>LK07.sp_law (K:=K)) rfl rfl ⟨rfl,by decide,by decide⟩ (fun w h Y=>PySem.W.kIn_of Y) (fun K H a ns hl hS=>⟨a,ns,rfl,hS,hl,fun _=>rfl⟩) ?F
  case F=>
    intro w mg h KX G
    have T:∃C_Reading,∃zq,∃zk,∃zo,∃ze,∃zb,∃zf,∃zd,∃zg,LK07.Tx (L2.KOf KX) mg w C_Reading zq zk zo ze zb zf zd zg:=by
      dsimp only [L2.KOf]
      refine' LK07.Tx.ex ⟨?z0,?z1,?z2,?z3,?z4,?z5,?z6,?z7,?z8,?z9,?z10,?z11,?z12,?z13,?z14,?z15,?z16,?z17,?z18,?z19,?z20,?z21,?z22,?z23,?z24,?z25,?z26,?z27,?z28,?z29,?z30,?z31,?z32,?z33,?z34,?z35,?z36,?z37,?z38,?z39,?z40,?z41,?z42,?z43,?z44,?z45,?z46,?z47,?z48,?z49,?z50,?z51,?z52,?z53,?z54,?z55,?z56,?z57,?z58,?z59,?z60,?z61,?z62,?z63,?z64,?z65,?z66,?z67,?z68,?z69,?z70,?z71,?z72,?z73,?z74,?z75,?z76,?z77,?z78,?z79,?z80,?z81,?z82,?z83,?z84,?z85,?z86,?z87,?z88,?z89,?z90,?z91,?z92,?z93,?z94,?z95,?z96,?z97,?z98,?z99,?z100,?z101,?z102,?z103,?z104,?z105,?z106,?z107,?z108,?z109,?z110,?z111,?z112,?z113,?z114,?z115,?z116,?z117,?z118,?z119,?z120,?z121,?z122⟩
      case z0=>refine' L2.const_mk KX G ?x0;(case x0=>k_is)
      case z1=>refine' ⟨?x1,?y1,?u1,?v1⟩;(case x1=>k_is);(case y1=>k_is);(case u1=>k_is);(case v1=>k_is)
      case z2=>k_is
      case z3=>k_is
      case z4=>(unfold L2.NoAttr;k_is)
      case z5=>(unfold L2.NoAttr;k_is)
      case z6=>(unfold L2.NoAttr;k_is)
      case z7=>(unfold L2.NoAttr;k_is)
      case z8=>refine' L2.dfm_mk (fun _ _ _ _ _ _=>L2.len1 fun _=>rfl) ?p8 ?q8 ?r8 ?s8 ?t8;(case p8=>k_is);(case q8=>k_is);(case r8=>k_is);(case s8=>k_is);(case t8=>k_is)
      case z9=>refine' L2.dfm_mk (fun _ _ _ _ _ _=>L2.len3 fun _ _ _=>rfl) ?p9 ?q9 ?r9 ?s9 ?t9;(case p9=>k_is);(case q9=>k_is);(case r9=>k_is);(case s9=>k_is);(case t9=>k_is)
      case z10=>refine' L2.dfm_mk (fun _ _ _ _ _ _=>L2.len3 fun _ _ _=>rfl) ?p10 ?q10 ?r10 ?s10 ?t10;(case p10=>k_is);(case q10=>k_is);(case r10=>k_is);(case s10=>k_is);(case t10=>k_is)
      case z11=>refine' L2.dfm_mk (fun _ _ _ _ _ _=>L2.len3 fun _ _ _=>rfl) ?p11 ?q11 ?r11 ?s11 ?t11;(case p11=>k_is);(case q11=>k_is);(case r11=>k_is);(case s11=>k_is);(case t11=>k_is)
      case z12=>refine' L2.dfm_mk (fun _ _ _ _ _ _=>L2.len3 fun _ _ _=>rfl) ?p12 ?q12 ?r12 ?s12 ?t12;(case p12=>k_is);(case q12=>k_is);(case r12=>k_is);(case s12=>k_is);(case t12=>k_is)
      case z13=>refine' L2.dfm_mk (fun _ _ _ _ _ _=>L2.len3 fun _ _ _=>rfl) ?p13 ?q13 ?r13 ?s13 ?t13;(case p13=>k_is);(case q13=>k_is);(case r13=>k_is);(case s13=>k_is);(case t13=>k_is)
      case z14=>refine' L2.dfm_mk (fun _ _ _ _ _ _=>L2.len3 fun _ _ _=>rfl) ?p14 ?q14 ?r14 ?s14 ?t14;(case p14=>k_is);(case q14=>k_is);(case r14=>k_is);(case s14=>k_is);(case t14=>k_is)
      case z15=>refine' L2.dfm_mk (fun _ _ _ _ _ _=>L2.len1 fun _=>rfl) ?p15 ?q15 ?r15 ?s15 ?t15;(case p15=>k_is);(case q15=>k_is);(case r15=>k_is);(case s15=>k_is);(case t15=>k_is)
      case z16=>refine' L2.const_mk KX G ?x16;(case x16=>k_is)
      case z17=>refine' ⟨?x17,?y17,?u17⟩;(case x17=>k_is);(case y17=>k_is);(case u17=>k_is)
      case z18=>refine' L2.const_mk KX G ?x18;(case x18=>k_is)
      case z19=>refine' ⟨?x19,?y19,?u19⟩;(case x19=>k_is);(case y19=>k_is);(case u19=>k_is)
      case z20=>refine' L2.const_mk KX G ?x20;(case x20=>k_is)
      case z21=>refine' ⟨?x21,?y21,?u21⟩;(case x21=>k_is);(case y21=>k_is);(case u21=>k_is)
      case z22=>refine' L2.xcls_of ?x22 ?y22 ?u22 ?v22;(case x22=>k_is);(case y22=>rfl);(case u22=>k_is);(case v22=>k_is)
      case z23=>refine' L2.xok_at ?x23 ?y23;(case x23=>k_is);(case y23=>rfl)
      case z24=>refine' ⟨?x24,?y24,?u24,?v24⟩;(case x24=>k_is);(case y24=>k_is);(case u24=>k_is);(case v24=>k_is)
      case z25=>refine' L2.dfm_mk (fun _ _ _ _ _ _=>L2.len2 fun _ _=>rfl) ?p25 ?q25 ?r25 ?s25 ?t25;(case p25=>k_is);(case q25=>k_is);(case r25=>k_is);(case s25=>k_is);(case t25=>k_is)
      case z26=>(unfold L2.NoAttr;k_is)
      case z27=>refine' L2.const_mk KX G ?x27;(case x27=>k_is)
      case z28=>refine' ⟨?x28,?y28,?u28⟩;(case x28=>k_is);(case y28=>k_is);(case u28=>k_is)
      case z29=>refine' L2.xcls_of ?x29 ?y29 ?u29 ?v29;(case x29=>k_is);(case y29=>rfl);(case u29=>k_is);(case v29=>k_is)
      case z30=>refine' L2.xok_at ?x30 ?y30;(case x30=>k_is);(case y30=>rfl)
      case z31=>refine' ⟨?x31,?y31,?u31,?v31⟩;(case x31=>k_is);(case y31=>k_is);(case u31=>k_is);(case v31=>k_is)
      case z32=>refine' L2.dfm_mk (fun _ _ _ _ _ _=>L2.len2 fun _ _=>rfl) ?p32 ?q32 ?r32 ?s32 ?t32;(case p32=>k_is);(case q32=>k_is);(case r32=>k_is);(case s32=>k_is);(case t32=>k_is)
      case z33=>(unfold L2.NoAttr;k_is)
      case z34=>refine' L2.const_mk KX G ?x34;(case x34=>k_is)
      case z35=>refine' ⟨?x35,?y35,?u35⟩;(case x35=>k_is);(case y35=>k_is);(case u35=>k_is)
      case z36=>refine' L2.xcls_of ?x36 ?y36 ?u36 ?v36;(case x36=>k_is);(case y36=>rfl);(case u36=>k_is);(case v36=>k_is)
      case z37=>refine' L2.xok_at ?x37 ?y37;(case x37=>k_is);(case y37=>rfl)
      case z38=>refine' ⟨?x38,?y38,?u38,?v38⟩;(case x38=>k_is);(case y38=>k_is);(case u38=>k_is);(case v38=>k_is)
      case z39=>refine' L2.dfm_mk (fun _ _ _ _ _ _=>L2.len2 fun _ _=>rfl) ?p39 ?q39 ?r39 ?s39 ?t39;(case p39=>k_is);(case q39=>k_is);(case r39=>k_is);(case s39=>k_is);(case t39=>k_is)
      case z40=>(unfold L2.NoAttr;k_is)
      case z41=>refine' L2.const_mk KX G ?x41;(case x41=>k_is)
      case z42=>refine' ⟨?x42,?y42,?u42⟩;(case x42=>k_is);(case y42=>k_is);(case u42=>k_is)
      case z43=>refine' L2.xcls_of ?x43 ?y43 ?u43 ?v43;(case x43=>k_is);(case y43=>rfl);(case u43=>k_is);(case v43=>k_is)
      case z44=>refine' L2.xok_at ?x44 ?y44;(case x44=>k_is);(case y44=>rfl)
      case z45=>refine' ⟨?x45,?y45,?u45,?v45⟩;(case x45=>k_is);(case y45=>k_is);(case u45=>k_is);(case v45=>k_is)
      case z46=>refine' L2.dfm_mk (fun _ _ _ _ _ _=>L2.len2 fun _ _=>rfl) ?p46 ?q46 ?r46 ?s46 ?t46;(case p46=>k_is);(case q46=>k_is);(case r46=>k_is);(case s46=>k_is);(case t46=>k_is)
      case z47=>(unfold L2.NoAttr;k_is)
      case z48=>refine' L2.const_mk KX G ?x48;(case x48=>k_is)
      case z49=>refine' ⟨?x49,?y49,?u49⟩;(case x49=>k_is);(case y49=>k_is);(case u49=>k_is)
      case z50=>refine' L2.xcls_of ?x50 ?y50 ?u50 ?v50;(case x50=>k_is);(case y50=>rfl);(case u50=>k_is);(case v50=>k_is)
      case z51=>refine' L2.xok_at ?x51 ?y51;(case x51=>k_is);(case y51=>rfl)
      case z52=>refine' ⟨?x52,?y52,?u52,?v52⟩;(case x52=>k_is);(case y52=>k_is);(case u52=>k_is);(case v52=>k_is)
      case z53=>refine' L2.dfm_mk (fun _ _ _ _ _ _=>L2.len2 fun _ _=>rfl) ?p53 ?q53 ?r53 ?s53 ?t53;(case p53=>k_is);(case q53=>k_is);(case r53=>k_is);(case s53=>k_is);(case t53=>k_is)
      case z54=>(unfold L2.NoAttr;k_is)
      case z55=>refine' L2.const_mk KX G ?x55;(case x55=>k_is)
      case z56=>refine' ⟨?x56,?y56,?u56⟩;(case x56=>k_is);(case y56=>k_is);(case u56=>k_is)
      case z57=>refine' L2.xcls_of ?x57 ?y57 ?u57 ?v57;(case x57=>k_is);(case y57=>rfl);(case u57=>k_is);(case v57=>k_is)
      case z58=>refine' L2.xok_at ?x58 ?y58;(case x58=>k_is);(case y58=>rfl)
      case z59=>refine' ⟨?x59,?y59,?u59,?v59⟩;(case x59=>k_is);(case y59=>k_is);(case u59=>k_is);(case v59=>k_is)
      case z60=>refine' L2.dfm_mk (fun _ _ _ _ _ _=>L2.len2 fun _ _=>rfl) ?p60 ?q60 ?r60 ?s60 ?t60;(case p60=>k_is);(case q60=>k_is);(case r60=>k_is);(case s60=>k_is);(case t60=>k_is)
      case z61=>(unfold L2.NoAttr;k_is)
      case z62=>k_is
      case z63=>k_is
      case z64=>k_is
      case z65=>k_is
      case z66=>k_is
      case z67=>k_is
      case z68=>k_is
      case z69=>k_is
      case z70=>k_is
      case z71=>k_is
      case z72=>k_is
      case z73=>k_is
      case z74=>k_is
      case z75=>k_is
      case z76=>k_is
      case z77=>k_is
      case z78=>k_is
      case z79=>k_is
      case z80=>k_is
      case z81=>k_is
      case z82=>k_is
      case z83=>refine' L2.df_mk KX G (fun _ _ _ _ _ _=>L2.len1 fun _=>rfl) ?p83 ?q83 ?r83 ?s83;(case p83=>k_is);(case q83=>k_is);(case r83=>k_is);(case s83=>k_is)
      case z84=>refine' L2.df_mk KX G (fun _ _ _ _ _ _=>L2.len1 fun _=>rfl) ?p84 ?q84 ?r84 ?s84;(case p84=>k_is);(case q84=>k_is);(case r84=>k_is);(case s84=>k_is)
      case z85=>refine' L2.df_mk KX G (fun _ _ _ _ _ _=>L2.len2 fun _ _=>rfl) ?p85 ?q85 ?r85 ?s85;(case p85=>k_is);(case q85=>k_is);(case r85=>k_is);(case s85=>k_is)
      case z86=>refine' L2.df_mk KX G (fun _ _ _ _ _ _=>L2.len1 fun _=>rfl) ?p86 ?q86 ?r86 ?s86;(case p86=>k_is);(case q86=>k_is);(case r86=>k_is);(case s86=>k_is)
      case z87=>refine' L2.df_mk KX G (fun _ _ _ _ _ _=>L2.len1 fun _=>rfl) ?p87 ?q87 ?r87 ?s87;(case p87=>k_is);(case q87=>k_is);(case r87=>k_is);(case s87=>k_is)
      case z88=>refine' L2.df_mk KX G (fun _ _ _ _ _ _=>L2.len1 fun _=>rfl) ?p88 ?q88 ?r88 ?s88;(case p88=>k_is);(case q88=>k_is);(case r88=>k_is);(case s88=>k_is)
      case z89=>refine' L2.df_mk KX G (fun _ _ _ _ _ _=>L2.len1 fun _=>rfl) ?p89 ?q89 ?r89 ?s89;(case p89=>k_is);(case q89=>k_is);(case r89=>k_is);(case s89=>k_is)
      case z90=>refine' L2.df_mk KX G (fun _ _ _ _ _ _=>L2.len1 fun _=>rfl) ?p90 ?q90 ?r90 ?s90;(case p90=>k_is);(case q90=>k_is);(case r90=>k_is);(case s90=>k_is)
      case z91=>refine' L2.df_mk KX G (fun _ _ _ _ _ _=>L2.len2 fun _ _=>rfl) ?p91 ?q91 ?r91 ?s91;(case p91=>k_is);(case q91=>k_is);(case r91=>k_is);(case s91=>k_is)
      case z92=>refine' L2.df_mk KX G (fun _ _ _ _ _ _=>L2.len3 fun _ _ _=>rfl) ?p92 ?q92 ?r92 ?s92;(case p92=>k_is);(case q92=>k_is);(case r92=>k_is);(case s92=>k_is)
      case z93=>refine' L2.df_mk KX G (fun _ _ _ _ _ _=>L2.len3 fun _ _ _=>rfl) ?p93 ?q93 ?r93 ?s93;(case p93=>k_is);(case q93=>k_is);(case r93=>k_is);(case s93=>k_is)
      case z94=>refine' L2.df_mk KX G (fun _ _ _ _ _ _=>L2.len1 fun _=>rfl) ?p94 ?q94 ?r94 ?s94;(case p94=>k_is);(case q94=>k_is);(case r94=>k_is);(case s94=>k_is)
      case z95=>refine' L2.df_mk KX G (fun _ _ _ _ _ _=>L2.len2 fun _ _=>rfl) ?p95 ?q95 ?r95 ?s95;(case p95=>k_is);(case q95=>k_is);(case r95=>k_is);(case s95=>k_is)
      case z96=>refine' L2.df_mk KX G (fun _ _ _ _ _ _=>L2.len3 fun _ _ _=>rfl) ?p96 ?q96 ?r96 ?s96;(case p96=>k_is);(case q96=>k_is);(case r96=>k_is);(case s96=>k_is)
      case z97=>refine' L2.df_mk KX G (fun _ _ _ _ _ _=>L2.len3 fun _ _ _=>rfl) ?p97 ?q97 ?r97 ?s97;(case p97=>k_is);(case q97=>k_is);(case r97=>k_is);(case s97=>k_is)
      case z98=>refine' L2.df_mk KX G (fun _ _ _ _ _ _=>L2.len2 fun _ _=>rfl) ?p98 ?q98 ?r98 ?s98;(case p98=>k_is);(case q98=>k_is);(case r98=>k_is);(case s98=>k_is)
      case z99=>refine' L2.df_mk KX G (fun _ _ _ _ _ _=>L2.len3 fun _ _ _=>rfl) ?p99 ?q99 ?r99 ?s99;(case p99=>k_is);(case q99=>k_is);(case r99=>k_is);(case s99=>k_is)
      case z100=>refine' L2.df_mk KX G (fun _ _ _ _ _ _=>L2.len2 fun _ _=>rfl) ?p100 ?q100 ?r100 ?s100;(case p100=>k_is);(case q100=>k_is);(case r100=>k_is);(case s100=>k_is)
      case z101=>refine' L2.df_mk KX G (fun _ _ _ _ _ _=>L2.len4 fun _ _ _ _=>rfl) ?p101 ?q101 ?r101 ?s101;(case p101=>k_is);(case q101=>k_is);(case r101=>k_is);(case s101=>k_is)
      case z102=>refine' L2.df_mk KX G (fun _ _ _ _ _ _=>L2.len2 fun _ _=>rfl) ?p102 ?q102 ?r102 ?s102;(case p102=>k_is);(case q102=>k_is);(case r102=>k_is);(case s102=>k_is)
      case z103=>refine' L2.df_mk KX G (fun _ _ _ _ _ _=>L2.len7 fun _ _ _ _ _ _ _=>rfl) ?p103 ?q103 ?r103 ?s103;(case p103=>k_is);(case q103=>k_is);(case r103=>k_is);(case s103=>k_is)
      case z104=>refine' L2.df_mk KX G (fun _ _ _ _ _ _=>L2.len1 fun _=>rfl) ?p104 ?q104 ?r104 ?s104;(case p104=>k_is);(case q104=>k_is);(case r104=>k_is);(case s104=>k_is)
      case z105=>refine' L2.df_mk KX G (fun _ _ _ _ _ _=>L2.len1 fun _=>rfl) ?p105 ?q105 ?r105 ?s105;(case p105=>k_is);(case q105=>k_is);(case r105=>k_is);(case s105=>k_is)
      case z106=>refine' L2.df_mk KX G (fun _ _ _ _ _ _=>L2.len1 fun _=>rfl) ?p106 ?q106 ?r106 ?s106;(case p106=>k_is);(case q106=>k_is);(case r106=>k_is);(case s106=>k_is)
      case z107=>refine' L2.rel_mk KX G ?x107 ?y107;(case x107=>k_is);(case y107=>exact⟨_,rfl⟩)
      case z108=>refine' L2.rel_mk KX G ?x108 ?y108;(case x108=>k_is);(case y108=>exact⟨_,rfl⟩)
      case z109=>refine' L2.rel_mk KX G ?x109 ?y109;(case x109=>k_is);(case y109=>exact⟨_,rfl⟩)
      case z110=>refine' L2.rel_mk KX G ?x110 ?y110;(case x110=>k_is);(case y110=>exact⟨_,rfl⟩)
      case z111=>
        refine' L2.kdt_mk KX G ?x111 ?y111 ?u111 ?v111 ?w111
        (case x111=>k_is)
        (case y111=>k_is)
        (case u111=>(refine' (.cons ?e111_0 ?f111_0 ?g111_0 (.cons ?e111_1 ?f111_1 ?g111_1 (.cons ?e111_2 ?f111_2 ?g111_2 (.cons ?e111_3 ?f111_3 ?g111_3 (.cons ?e111_4 ?f111_4 ?g111_4 (.cons ?e111_5 ?f111_5 ?g111_5 (.cons ?e111_6 ?f111_6 ?g111_6 (.cons ?e111_7 ?f111_7 ?g111_7 .nil))))))));(case e111_0=>k_is);(case f111_0=>decide);(case g111_0=>exact (.cons ⟨_,rfl⟩ (.cons ⟨_,rfl⟩ .nil)));(case e111_1=>k_is);(case f111_1=>decide);(case g111_1=>exact (.cons ⟨_,rfl⟩ .nil));(case e111_2=>k_is);(case f111_2=>decide);(case g111_2=>exact (.cons ⟨_,rfl⟩ (.cons ⟨_,rfl⟩ .nil)));(case e111_3=>k_is);(case f111_3=>decide);(case g111_3=>exact (.cons ⟨_,rfl⟩ (.cons ⟨_,rfl⟩ .nil)));(case e111_4=>k_is);(case f111_4=>decide);(case g111_4=>exact (.cons ⟨_,rfl⟩ (.cons ⟨_,rfl⟩ .nil)));(case e111_5=>k_is);(case f111_5=>decide);(case g111_5=>exact (.cons ⟨_,rfl⟩ (.cons ⟨_,rfl⟩ (.cons ⟨_,rfl⟩ .nil))));(case e111_6=>k_is);(case f111_6=>decide);(case g111_6=>exact (.cons ⟨_,rfl⟩ (.cons ⟨_,rfl⟩ .nil)));(case e111_7=>k_is);(case f111_7=>decide);(case g111_7=>exact (.cons ⟨_,rfl⟩ (.cons ⟨_,rfl⟩ (.cons ⟨_,rfl⟩ (.cons ⟨_,rfl⟩ .nil)))))))
        (case v111=>decide)
        (case w111=>decide +kernel)
      case z112=>refine' L2.blt_mk KX G ?_;k_is
      case z113=>refine' L2.blt_mk KX G ?_;k_is
      case z114=>refine' L2.blt_mk KX G ?_;k_is
      case z115=>refine' L2.blt_mk KX G ?_;k_is
      case z116=>refine' L2.blt_mk KX G ?_;k_is
      case z117=>refine' L2.blt_mk KX G ?_;k_is
      case z118=>refine' L2.blt_mk KX G ?_;k_is
      case z119=>refine' L2.blt_mk KX G ?_;k_is
      case z120=>refine' L2.blt_mk KX G ?_;k_is
      case z121=>refine' L2.blt_mk KX G ?_;k_is
      case z122=>refine' L2.blt_mk KX G ?_;k_is
    obtain⟨_,_,_,_,_,_,_,_,_,T⟩:=T
    exact fun base _ _=>LK07.h_law T
#print axioms PySem.Challenge.cw_digmatrix_k07_whole_any_lines_holds
