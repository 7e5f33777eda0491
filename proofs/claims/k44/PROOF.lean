import PyProof.Rows.All
import Wide.All
import OpenK.AllK
import Wide.FinOn
import Lean
import PyProof.EqAt
import PyProof.EqKinds
import PyProof.TupleCall
import PyProof.ZipIter
import PyProof.DictWalks
import PyProof.StrOps2
import KE.IntTextLaws
import PyProof.StrBlockI
import PyProof.StrLawsIn
import PyProof.AutoSeq1
import PyProof.WalkInts
import PyProof.Rows.SetFrom
import PyProof.SetKind
import PyProof.CollectWalk
import PyProof.MinMaxWalk
import PyProof.TupleKey
import PyProof.FString5
import KE.KDictOf
import PyProof.AttrMissHeap
import KE.KSortTup
import PyProof.MeetsSeq3
import PyProof.DictUpdate
import PyProof.StrLawsChain
import PyProof.StrLawsTight
import PyProof.Rows.StrItems
import PyProof.ExcInit
import PyProof.ExcClass3
import PyProof.ExcBaseAll.ValueError
import PyProof.FString
import PyProof.Rows.FStr
import PyProof.RaisesMany
import PyProof.RulesAs
import PyProof.NsDelKeeps
import PyProof.ExcAttrAll.ValueError
import PyProof.Rows.SumAny
import PySem.Challenge.RW_digmatrix_k44_datings
set_option Elab.async false
set_option linter.all false
set_option maxRecDepth 100000
def PySem.W.Fast.tw2730884738969949112:Unit:=()
def PySem.W.Fast.tw12856849267796207512:Unit:=()
def PySem.W.Fast.tw18371181442207671845:Unit:=()
def PySem.W.Fast.tw13710277978297544090:Unit:=()
def PySem.W.Fast.tw14181053664296135202:Unit:=()
def PySem.W.Fast.tw17447664259778295511:Unit:=()
def PySem.W.Fast.tw13008693773345082696:Unit:=()
def PySem.W.Fast.tw17144230854427201951:Unit:=()
def PySem.W.Fast.tw16557505291923105838:Unit:=()
def PySem.W.Fast.tw11152860800475567665:Unit:=()
def PySem.W.Fast.tw16259147604441015747:Unit:=()
def PySem.W.Fast.tw13101937806565454724:Unit:=()
def PySem.W.Fast.tw8023869085810365292:Unit:=()
def PySem.W.Fast.tw7010256310134754657:Unit:=()
def PySem.W.Fast.tw11472466558897261981:Unit:=()
def PySem.W.Fast.tw16541789535657041103:Unit:=()
namespace L2
open PySem PySem.Spec PyProof.Rows
abbrev Key:=Sum Int Str
def zjq:Key->Value->Bool
  | .inl k,v=>Value.isInt k v
  | .inr x,v=>Value.isStrOf x v
def keyH (w:World):Key->Int
  | .inl k=>hashInt k
  | .inr x=>hashStr w x
theorem zat:∀{k:Key}{v:Value},zjq k v=true->(∃i t,k=Sum.inl i/\v=Value.int i t)\/(∃x t,k=Sum.inr x/\v=Value.str x t)
  | .inl i,v,h=>by
    obtain⟨t,e⟩:=Value.isInt_shape (k:=i) (v:=v) h
    exact .inl ⟨i,t,rfl,e⟩
  | .inr x,v,h=>by
    obtain⟨t,e⟩:=Value.isStrOf_shape (x:=x) (v:=v) h
    exact .inr ⟨x,t,rfl,e⟩
theorem zng (i:Int) (t:Tok):zjq (.inl i) (.int i t)=true:=by simp[zjq,Value.isInt]
theorem znh (x:Str) (t:Tok):zjq (.inr x) (.str x t)=true:=by simp[zjq,Value.isStrOf]
theorem zu9 (a b:Int):decide ((Sum.inl a:Key)=Sum.inl b)=(a == b):=by
  by_cases e:a=b
  · subst e;simp
  · have h:¬(Sum.inl a:Key)=Sum.inl b:=fun q=>e (Sum.inl.inj q)
    rw[decide_eq_false h]
    exact (beq_eq_false_iff_ne.mpr e).symm
theorem zva (a b:Str):decide ((Sum.inr a:Key)=Sum.inr b)=decide (a=b):=by
  by_cases e:a=b
  · subst e;simp
  · have h:¬(Sum.inr a:Key)=Sum.inr b:=fun q=>e (Sum.inr.inj q)
    rw[decide_eq_false h,decide_eq_false e]
theorem zvb (a:Int) (b:Str):decide ((Sum.inl a:Key)=Sum.inr b)=false:=decide_eq_false (fun q=>nomatch q)
theorem zvc (a:Str) (b:Int):decide ((Sum.inr a:Key)=Sum.inl b)=false:=decide_eq_false (fun q=>nomatch q)
def zau (prog:Program) (w:World):PySem.KeyKind prog w Key where
  is:=zjq
  hash:=keyH w
  inj:=fun v a b ha hb=>by
    rcases zat ha with ⟨i,t,rfl,rfl⟩ | ⟨x,t,rfl,rfl⟩
    · rcases zat hb with ⟨j,u,rfl,e⟩ | ⟨y,u,rfl,e⟩
      · injection e with e1 _;rw[e1]
      · exact nomatch e
    · rcases zat hb with ⟨j,u,rfl,e⟩ | ⟨y,u,rfl,e⟩
      · exact nomatch e
      · injection e with e1 _;rw[e1]
  byValue:=fun k v h=>by
    rcases zat h with ⟨i,t,rfl,rfl⟩ | ⟨x,t,rfl,rfl⟩<;>rfl
  pyHash:=fun hv h=>by
    rcases zat hv with ⟨i,t,rfl,rfl⟩ | ⟨x,t,rfl,rfl⟩
    · exact wpAny_pyHash_int h
    · exact wpAny_pyHash_str h
  eqBool:=fun hu hv h=>by
    rcases zat hu with ⟨i,t,rfl,rfl⟩ | ⟨x,t,rfl,rfl⟩
    · rcases zat hv with ⟨j,u,rfl,rfl⟩ | ⟨y,u,rfl,rfl⟩
      · rw[zu9] at h;exact wpAny_eqBool_int h
      · rw[zvb] at h;exact SeqAt.EqAt.int_str i t y u _ _ _ _ h
    · rcases zat hv with ⟨j,u,rfl,rfl⟩ | ⟨y,u,rfl,rfl⟩
      · rw[zvc] at h;exact SeqAt.EqAt.str_int x t j u _ _ _ _ h
      · rw[zva] at h;exact wpAny_eqBool_str h
  «strs»:=fun k x t v h=>by
    rcases zat h with ⟨i,u,rfl,e⟩ | ⟨y,u,rfl,e⟩
    · exact nomatch e
    · injection e with e1 _
      subst e1
      cases v<;>rfl
theorem zjr (prog:Program) (w:World) (i:Int) (t:Tok):(zau prog w).is (.inl i) (.int i t)=true:=zng i t
theorem zjs (prog:Program) (w:World) (x:Str) (t:Tok):(zau prog w).is (.inr x) (.str x t)=true:=znh x t
inductive V where
  | non | bl (b:Bool) | int (i:Int) | str (x:Str) | byt (b:Array UInt8) | flt (b:UInt64) | ref (a:Addr) | ty (n:String)
  deriving DecidableEq
def RelV:V->Value->Prop
  | .non,u=>u=Value.none
  | .bl b,u=>u=Value.bool b
  | .int i,u=>∃t,u=Value.int i t
  | .str x,u=>∃t,u=Value.str x t
  | .byt b,u=>∃t,u=Value.bytes b t
  | .flt b,u=>∃t,u=Value.float b t
  | .ref a,u=>u=Value.ref a
  | .ty n,u=>u=Value.type n
abbrev Vals:List V->List Value->Prop:=Paired RelV
theorem Vals.length {xs:List V}{us:List Value}(r:Vals xs us):xs.length=us.length:=Paired.length r
theorem Vals.get:∀{xs:List V}{us:List Value}{i:Nat}{x:V},Vals xs us->xs[i]? = some x->∃u,us[i]? = some u/\RelV x u
  | _,_,_,_,.nil,e=>by simp at e
  | _,_,0,_,.cons r _,e=>by simp at e;subst e;exact⟨_,rfl,r⟩
  | _,_,i+1,x,.cons _ t,e=>by
    obtain⟨u,h1,h2⟩:=Vals.get (i:=i) (x:=x) t (by simpa using e)
    exact⟨u,by simpa using h1,h2⟩
theorem Vals.append:∀{xs ys:List V}{us ws:List Value},Vals xs us->Vals ys ws->Vals (xs++ys) (us++ws)
  | _,_,_,_,.nil,s=>s
  | _,_,_,_,.cons r t,s=>.cons r (Vals.append t s)
theorem Vals.take:∀{xs:List V}{us:List Value}(n:Nat),Vals xs us->Vals (xs.take n) (us.take n)
  | _,_,0,_=>.nil
  | _,_,_+1,.nil=>.nil
  | _,_,n+1,.cons r t=>.cons r (Vals.take n t)
theorem Vals.drop:∀{xs:List V}{us:List Value}(n:Nat),Vals xs us->Vals (xs.drop n) (us.drop n)
  | _,_,0,r=>r
  | _,_,_+1,.nil=>.nil
  | _,_,n+1,.cons _ t=>Vals.drop n t
def RelO:Option V->Option Value->Prop
  | some v,some u=>RelV v u
  | none,none=>True
  | _,_=>False
def KV {κ:Type}:List (κ×V)->List (κ×Value)->Prop:=Paired fun (p:κ×V) (q:κ×Value)=>p.1=q.1/\RelV p.2 q.2
def kV:Key->V
  | .inl i=>.int i
  | .inr x=>.str x
inductive HO where
    | lst (xs:List V)
    | tup (xs:List V)
    | dK (kvs:List (Key×V)) | dT (kvs:List (List Key×V))
    | set (S:Int->Bool) (n:Nat)
    | ins (C dx:Addr) (fs:List (Str×V))
    | own (x:Addr)
    | xd (fs:List (Str×V))
    | met (f x:Addr)
    | rng (lo hi:Int)
    | frz (o:Obj) (u:HO)
    | tbl (ps:Array Value)
    | ext (φ:Heap->Prop)
abbrev Hp:=Addr->Option HO
def upd (H:Hp) (a:Addr) (o:HO):Hp:=fun b=>if b=a then some o else H b
theorem zb {H:Hp}{a:Addr}{o:HO}:upd H a o a=some o:=by unfold upd;rw[if_pos rfl]
theorem zl {H:Hp}{a b:Addr}{o:HO}(h:b≠a):upd H a o b=H b:=by unfold upd;rw[if_neg h]
theorem zni {H:Hp}{a:Addr}{o u:HO}:upd (upd H a o) a u=upd H a u:=by
  funext b;unfold upd;split<;>rfl
theorem zc3 {H:Hp}{a b:Addr}{o u:HO}(h:H a=some o) (h':H b=some u) (d:o≠u):a≠b:=by
  intro e;subst e;rw[h] at h';exact d (Option.some.inj h')
theorem zp {H:Hp}{a b:Addr}{o:HO}(h:H a=some o) (h':H b=none):a≠b:=by
  intro e;subst e;rw[h] at h';cases h'
section
variable (P:Program) (w:World)
def ObjOk (H:Hp) (h:Heap) (a:Addr):HO->Prop
  | .lst xs=>xs.length<=sizeLine/\∃(its:List Value) (n:Nat),Vals xs its/\h.get? a=some { cls:=.type "list",data:=.seq its.toArray n }
  | .tup xs=>xs.length<=sizeLine/\∃its:List Value,Vals xs its/\IsTup h a its.toArray
  | .dK kvs=>kvs.length<=sizeLine/\(a == sysModules)=false/\∃vs,KV kvs vs/\h.DictOf (zau P w) a vs
  | .dT kvs=>kvs.length<=sizeLine/\(a == sysModules)=false/\∃xs:List (List Key×Addr×Value),
      Paired (fun (p:List Key×V) (q:List Key×Addr×Value)=>p.1=q.1/\H q.2.1=some (.tup (p.1.map kV))/\RelV p.2 q.2.2) kvs xs/\
      ∃o es ep,h.get? a=some o/\o.ExactDict/\o.data = .dict es ep/\es.toList=xs.map (entryOfKey (tupleKind (zau P w)))/\(xs.map (·.1)).Nodup
  | .set S n=>h.SetOf (intKind P w) a S n
  | .ins C dx fs=>H dx=some (.own a)/\fs.length<=1000/\dx≠a/\h.get? a=some (PySem.W.instObj C dx)/\
      ∃mA,h.Ns1 dx mA/\(∀f,RelO (fs.lookup f) (mA f))/\PySem.Within mA (fs.map (·.1))
  | .own _=>∃o,h.get? a=some o
  | .xd fs=>∃mA,h.Ns1 a mA/\∀f,RelO (fs.lookup f) (mA f)
  | .rng lo hi=>∃t u v,h.get? a=some { cls:=.type "range",data:=.fields #[.int lo t,.int hi u,.int 1 v] }
  | .frz o u=>h.get? a=some o/\ObjOk H h a u
  | .tbl ps=>h.get? a=some { cls:=.none,data:=.fields ps }
  | .met f x=>h.get? a=some (PySem.W.methodObj (.ref f) (.ref x))
  | .ext φ=>φ h/\(∃o,h.get? a=some o)/\∀h1 h2:Heap,φ h1->(∀o,h1.get? a=some o->h2.get? a=some o)->φ h2
def HOk (H:Hp) (h:Heap):Prop:=∀a o,H a=some o->ObjOk P w H h a o
end
section
variable {P:Program}{w:World}{H H':Hp}{h h':Heap}{a:Addr}{o:HO}
theorem ObjOk.lt (x:ObjOk P w H h a o):a<h.objs.size:=by
  cases o with
  | lst xs=>obtain⟨_,_,_,_,e⟩:=x;exact Heap.lt_size e
  | tup xs=>obtain⟨_,_,_,p⟩:=x;exact p.lt
  | dK kvs=>obtain⟨_,_,_,_,o,_,_,e,_⟩:=x;exact Heap.lt_size e
  | dT kvs=>obtain⟨_,_,_,_,o,_,_,e,_⟩:=x;exact Heap.lt_size e
  | set S n=>obtain⟨o,_,_,_,e,_⟩:=x;exact Heap.lt_size e
  | ins C dx fs=>obtain⟨_,_,_,e,_⟩:=x;exact Heap.lt_size e
  | own y=>obtain⟨_,e⟩:=x;exact Heap.lt_size e
  | xd fs=>obtain⟨_,⟨_,_,_,e,_⟩,_⟩:=x;exact Heap.lt_size e
  | rng lo hi=>obtain⟨_,_,_,e⟩:=x;exact Heap.lt_size e
  | frz ob u=>obtain⟨e,_⟩:=x;exact Heap.lt_size e
  | tbl ps=>exact Heap.lt_size (show h.get? a=some _ from x)
  | met f y=>exact Heap.lt_size (show h.get? a=some _ from x)
  | ext φ=>obtain⟨_,⟨_,e⟩,_⟩:=x;exact Heap.lt_size e
theorem Paired.mapP {α β:Type}{F G:α->β->Prop}:∀{l₁:List α}{l₂:List β},Paired F l₁ l₂->(∀a b,F a b->G a b)->Paired G l₁ l₂
  | _,_,.nil,_=>.nil
  | _,_,.cons r t,f=>.cons (f _ _ r) (Paired.mapP t f)
theorem ObjOk.stay (x:ObjOk P w H h a o) (k:∀b u,(b=a\/H b=some (.own a))->h.get? b=some u->h'.get? b=some u)
    (ho:∀b,H b=some (.own a)->H' b=some (.own a)) (ht:∀b xs,H b=some (.tup xs)->H' b=some (.tup xs)):ObjOk P w H' h' a o:=by
  induction o with
  | lst xs=>obtain⟨z,its,n,r,e⟩:=x;exact⟨z,its,n,r,k _ _ (.inl rfl) e⟩
  | tup xs=>obtain⟨z,its,r,ob,e,c⟩:=x;exact⟨z,its,r,ob,k _ _ (.inl rfl) e,c⟩
  | dK kvs=>obtain⟨z,y,vs,r,ob,es,ep,e,c⟩:=x;exact⟨z,y,vs,r,ob,es,ep,k _ _ (.inl rfl) e,c⟩
  | dT kvs=>
    obtain⟨z,y,xs,r,ob,es,ep,e,c⟩:=x
    exact⟨z,y,xs,Paired.mapP r fun p q z=>⟨z.1,ht _ _ z.2.1,z.2.2⟩,ob,es,ep,k _ _ (.inl rfl) e,c⟩
  | set S n=>obtain⟨ob,es,ep,t,e,c⟩:=x;exact⟨ob,es,ep,t,k _ _ (.inl rfl) e,c⟩
  | ins C dx fs=>
    obtain⟨d,z,ne,e,mA,⟨od,es,ep,e2,c⟩,r⟩:=x
    exact⟨ho _ d,z,ne,k _ _ (.inl rfl) e,mA,⟨od,es,ep,k _ _ (.inr d) e2,c⟩,r⟩
  | own y=>obtain⟨ob,e⟩:=x;exact⟨ob,k _ _ (.inl rfl) e⟩
  | xd fs=>obtain⟨mA,⟨od,es,ep,e,c⟩,r⟩:=x;exact⟨mA,⟨od,es,ep,k _ _ (.inl rfl) e,c⟩,r⟩
  | rng lo hi=>obtain⟨t,u,v,e⟩:=x;exact⟨t,u,v,k _ _ (.inl rfl) e⟩
  | frz ob u ih=>obtain⟨e,q⟩:=x;exact⟨k _ _ (.inl rfl) e,ih q⟩
  | tbl ps=>
    have e:h.get? a=some { cls:=.none,data:=.fields ps }:=x
    show h'.get? a=some { cls:=.none,data:=.fields ps }
    exact k a _ (.inl rfl) e
  | met f y=>
    have e:h.get? a=some (PySem.W.methodObj (.ref f) (.ref y)):=x
    show h'.get? a=some (PySem.W.methodObj (.ref f) (.ref y))
    exact k a _ (.inl rfl) e
  | ext φ=>obtain⟨p,⟨o,e⟩,st⟩:=x;exact⟨st _ _ p fun o q=>k _ _ (.inl rfl) q,⟨o,k _ _ (.inl rfl) e⟩,st⟩
theorem HOk.lt (x:HOk P w H h) (e:H a=some o):a<h.objs.size:=(x a o e).lt
theorem HOk.fresh (x:HOk P w H h) (e:h.objs.size<=a):H a=none:=by
  cases q:H a with
  | none=>rfl
  | some u=>exact absurd (Nat.lt_of_lt_of_le (x.lt q) e) (Nat.lt_irrefl _)
theorem HOk.kept (x:HOk P w H h) (k:∀b u,h.get? b=some u->h'.get? b=some u):HOk P w H h':=fun a o e=>
  (x a o e).stay (fun b u _ q=>k b u q) (fun _ q=>q) fun _ _ q=>q
theorem HOk.laid (x:HOk P w H h) (k:∀b u,h.get? b=some u->h'.get? b=some u) (hp:h.objs.size<=a) (new:ObjOk P w (upd H a o) h' a o):HOk P w (upd H a o) h':=fun b u e=>by
  have hn:=x.fresh hp
  by_cases hb:b=a
  · subst hb;rw[zb] at e;cases e;exact new
  · rw[zl hb] at e
    exact (x b u e).stay (fun c v _ q=>k c v q) (fun c q=>by rw[zl (zp q hn)];exact q) fun c xs q=>by rw[zl (zp q hn)];exact q
end
def Rd (H:Hp) (a:Addr) (u:HO):Prop:=H a=some u\/∃o,H a=some (.frz o u)
theorem Rd.ok {P:Program}{w:World}{H:Hp}{h:Heap}{a:Addr}{u:HO}(r:Rd H a u) (x:HOk P w H h):ObjOk P w H h a u:=by
  rcases r with r | ⟨o,r⟩
  · exact x a u r
  · obtain⟨_,q⟩:=x a _ r
    exact q
def Mut:Option HO->Prop
  | some (.lst _)=>True
  | some (.dK _)=>True
  | some (.dT _)=>True
  | some (.set _ _)=>True
  | some (.ins _ _ _)=>True
  | some (.ext _)=>True
  | _=>False
section
variable {P:Program}{w:World}{H:Hp}{h h':Heap}{x e:Addr}{o':HO}
theorem HOk.write (ok:HOk P w H h) (mu:Mut (H x)) (he:e=x\/H e=some (.own x)) (k:∀b u,b≠e->h.get? b=some u->h'.get? b=some u) (heo:∃u,h'.get? e=some u)
    (new:ObjOk P w (upd H x o') h' x o'):HOk P w (upd H x o') h':=fun b u q=>by
  have nown:∀c y,H c=some (.own y)->c≠x:=fun c y r z=>by subst z;rw[r] at mu;exact mu
  have ntup:∀c xs,H c=some (.tup xs)->c≠x:=fun c xs r z=>by subst z;rw[r] at mu;exact mu
  by_cases hb:b=x
  · subst hb;rw[zb] at q;cases q;exact new
  · rw[zl hb] at q
    by_cases hbe:b=e
    · have q':H b=some (.own x):=by
        rcases he with z | z
        · exact absurd (hbe.trans z) hb
        · rw[hbe];exact z
      rw[q] at q';cases q'
      obtain⟨v,hv⟩:=heo
      exact⟨v,by rw[hbe];exact hv⟩
    · refine (ok b u q).stay (fun c v hc r=>k c v ?_ r) (fun c r=>by rw[zl (nown c b r)];exact r) fun c xs r=>by rw[zl (ntup c xs r)];exact r
      rcases hc with rfl | hc
      · exact hbe
      · rintro rfl
        rcases he with z | z
        · exact nown c b hc z
        · rw[hc] at z;cases z;exact hb rfl
end
structure Un (fs ex:List Addr) (H H':Hp) (h h':Heap):Prop where
  keep:∀b o,h.get? b=some o->H b=none->b ∉ fs->b ∉ ex->h'.get? b=some o
  slot:∀b o,h.get? b=some o->H b=none->b∈fs->b ∉ ex->∃sl,h'.get? b=some { o with slots:=sl }
  free:∀b o,h.get? b=some o->H b=none->b ∉ ex->H' b=none
  there:∀b o,h.get? b=some o->b ∉ ex->∃o',h'.get? b=some o'
  tups:∀b xs,H b=some (.tup xs)->H' b=some (.tup xs)
  frzs:∀b o u,H b=some (.frz o u)->H' b=some (.frz o u)
  tbls:∀b ps,H b=some (.tbl ps)->∃more,H' b=some (.tbl (ps++more))
section
variable {fs fs' ex ex':List Addr}{H H1 H2:Hp}{h h1 h2 h':Heap}{a x e:Addr}{o:HO}
theorem Un.any (u:Un fs ex H H1 h h1) {b:Addr}{ob:Obj}(q:h.get? b=some ob) (n:H b=none) (hx:b ∉ ex):∃sl,h1.get? b=some { ob with slots:=sl }:=by
  by_cases hb:b∈fs
  · exact u.slot b ob q n hb hx
  · exact⟨ob.slots,u.keep b ob q n hb hx⟩
theorem Un.kept (k:∀b u,h.get? b=some u->h'.get? b=some u):Un fs ex H H h h':=
  ⟨fun b ob q _ _ _=>k b ob q,fun b ob q _ _ _=>⟨ob.slots,k b ob q⟩,fun _ _ _ n _=>n,fun b ob q _=>⟨ob,k b ob q⟩,fun _ _ q=>q,fun _ _ _ q=>q,fun _ ps q=>⟨#[],by rw[q];simp⟩⟩
theorem Un.refl:Un fs ex H H h h:=Un.kept fun _ _ q=>q
theorem Un.laid (k:∀b u,h.get? b=some u->h'.get? b=some u) (hp:h.objs.size<=a) (hn:H a=none):Un fs ex H (upd H a o) h h' where
  keep:=fun b u q _ _ _=>k b u q
  slot:=fun b u q _ _ _=>⟨u.slots,k b u q⟩
  free:=fun b u q n _=>by rw[zl (Nat.ne_of_lt (Nat.lt_of_lt_of_le (Heap.lt_size q) hp))];exact n
  there:=fun b u q _=>⟨u,k b u q⟩
  tups:=fun b xs q=>by rw[zl (zp q hn)];exact q
  frzs:=fun b u xs q=>by rw[zl (zp q hn)];exact q
  tbls:=fun b ps q=>⟨#[],by rw[zl (zp q hn),q];simp⟩
theorem Un.write (mu:Mut (H x)) (he:e=x\/H e=some (.own x)) (k:∀b u,b≠e->h.get? b=some u->h'.get? b=some u) (heo:∃u,h'.get? e=some u):Un fs ex H (upd H x o) h h':=by
  have hx:∀b,H b=none->b≠x:=fun b n z=>by subst z;rw[n] at mu;exact mu
  have hb:∀b,H b=none->b≠e:=fun b n z=>by
    subst z
    rcases he with r | r
    · exact hx b n r
    · rw[n] at r;cases r
  have hm:∀b u,H b=some u->¬Mut (some u)->b≠x:=fun b u q nm z=>by subst z;rw[q] at mu;exact nm mu
  refine⟨fun b u q n _ _=>k b u (hb b n) q,fun b u q n _ _=>⟨u.slots,k b u (hb b n) q⟩,fun b u q n _=>by rw[zl (hx b n)];exact n,fun b u q _=>?_,
    fun b xs q=>by rw[zl (hm b _ q fun z=>z)];exact q,fun b u xs q=>by rw[zl (hm b _ q fun z=>z)];exact q,fun b ps q=>⟨#[],by rw[zl (hm b _ q fun z=>z),q];simp⟩⟩
  by_cases hbe:b=e
  · subst hbe;exact heo
  · exact⟨u,k b u hbe q⟩
end
def trk (h:Heap) (H:Hp):List Addr:=(List.range h.objs.size).filter fun a=>(H a).isSome
def hidT (h:Heap) (H:Hp):Heap:=PySem.W.hideAll h (trk h H)
theorem znj (h:Heap) (H:Hp):(hidT h H).objs.size=h.objs.size:=PySem.W.hideAll_size _ _
theorem zqt {h:Heap}{H:Hp}{b:Addr}{o:Obj}(e:h.get? b=some o) (n:H b=none):(hidT h H).get? b=some o:=
  PySem.W.hideAll_get _ e fun hm=>by
    have q:(H b).isSome=true:=(List.mem_filter.mp hm).2
    rw[n] at q;simp at q
theorem ztg {h:Heap}{H:Hp}{b:Addr}{o:Obj}(e:(hidT h H).get? b=some o):h.get? b=some o/\H b=none:=by
  have e':h.get? b=some o:=PySem.W.of_hideAll (trk h H) e
  refine⟨e',?_⟩
  cases q:H b with
  | none=>rfl
  | some x=>
    have hm:b∈trk h H:=List.mem_filter.mpr ⟨List.mem_range.mpr (Heap.lt_size e'),by simp[q]⟩
    have z:(hidT h H).get? b=none:=PySem.W.hideAll_none (trk h H) hm
    rw[z] at e;cases e
def zth (g h:Heap) (L:Addr):List (Addr×Obj):=(List.range h.objs.size).filterMap fun a=>if a=L\/(g.get? a).isSome=true then none else (h.get? a).map fun o=>(a,o)
def rest (g h:Heap) (L d:Addr):List (Addr×Obj):=(zth g h L).filter fun p=>decide (p.1≠d)
structure Mod (K:PySem.W.Frag) (mg:Str->Option Value) (base:Heap):Prop where
  kin:K.In base
  glob:base.Ns mainGlobals mg
  blt:∃mb,base.Ns builtinsNs mb/\∀x:Str,x≠"__name__"->mb x=bootBuiltins x
  nolimit:base.NoLimit
structure Cx where
  prog:Program
  w:World
  K:PySem.W.Frag
  mg:Str->Option Value
  base:Heap
  A:Around
  N:List Str
  s₀:Shared
  H₀:Hp
  env:Env
  outer:List Env
  stack:List Env
  ex:List Addr
  fn:Str->Bool
  calm:Bool
  pn:List (Addr×Obj)
  xe:Value->Shared->Prop
def frs (l:List Env):List Addr:=l.filterMap (·.frame)
abbrev Cx.fs (X:Cx):List Addr:=frs X.outer
def Vis (sc:Scope) (x:Str):Prop:=sc.names.lookup x=some .local\/sc.names.lookup x=some .cell\/sc.names.lookup x=some .free
def Loc (sc:Scope) (x:Str):Prop:=sc.names.lookup x=some .local\/sc.names.lookup x=some .cell
def Look (env:Env) (h:Heap) (m:Str->Option Value) (x:Str) (u:Value):Prop:=
  (env.kindOf x=some .local/\m x=some u)\/((env.kindOf x=some .cell\/env.kindOf x=some .free)/\∃c,env.cells.lookup x=some c/\h.IsCell c (some u))
structure Cx.Ok (X:Cx):Prop where
  mod:Mod X.K X.mg X.base
  kind:X.env.scope.kind = .function
  glob:X.env.globals=mainGlobals
  blt:X.env.builtins=builtinsNs
  above:X.s₀.heap.objs.size<=X.env.locals
  inj:∀x y c,X.env.cells.lookup x=some c->X.env.cells.lookup y=some c->x=y
  has:∀x,(X.env.kindOf x=some .cell\/X.env.kindOf x=some .free)->∃c,X.env.cells.lookup x=some c
  cab:∀x c,X.fn x=true->X.env.cells.lookup x=some c->X.s₀.heap.objs.size<=c
  hd:X.calm=true->X.A.handled=none
  frames:X.A.frames=some X.stack
  stk:X.stack=X.outer\/(X.stack=X.env::X.outer/\X.env.frame=some X.env.locals)
  exf:∀b∈X.ex,b≠X.env.locals/\∀x c,X.env.cells.lookup x=some c->c≠b
  bs:∀b o,X.base.get? b=some o->X.s₀.heap.get? b=some o/\X.H₀ b=none
  bsz:X.base.objs.size<=X.s₀.heap.objs.size
  noex:∀b o,X.base.get? b=some o->b ∉ X.ex
  exfs:∀b∈X.ex,b ∉ X.fs
  funs:X.s₀.heap.FunFrames X.base X.outer
  frf:∀b∈X.fs,X.H₀ b=none
structure Inv (X:Cx) (pins:List (Addr×Obj)) (σ:List (Option V)) (H:Hp) (s:Shared):Prop where
  ok:X.Ok
  os:s.os=X.s₀.os
  bare:AllBare s.gens
  base:Un X.fs X.ex X.H₀ H X.s₀.heap s.heap
  loc:∃m,s.heap.Ns X.env.locals m/\∀(i:Nat) (x:Str) (v:V),X.N[i]? = some x->σ[i]? = some (some v)->Vis X.env.scope x->∃u,RelV v u/\Look X.env s.heap m x u
  cell:∀x c,X.env.cells.lookup x=some c->∃v,s.heap.IsCell c v
  free:H X.env.locals=none
  freeC:∀x c,X.env.cells.lookup x=some c->H c=none
  pin:∀p∈X.pn++pins,s.heap.get? p.1=some p.2/\H p.1=none/\p.1≠X.env.locals/\p.1 ∉ X.fs/\∀v,p.2.data≠.cell v
  hok:HOk X.prog X.w H s.heap
  len:σ.length=X.N.length
section
variable {X:Cx}{pins:List (Addr×Obj)}{σ:List (Option V)}{H H':Hp}{s:Shared}{h':Heap}
theorem Cx.Ok.nofr (ok:X.Ok) {b:Addr}{o:Obj}(e:X.base.get? b=some o):b ∉ X.fs:=fun hb=>by
  have:=(ok.funs.mem hb).1
  rw[e] at this;cases this
theorem Inv.bs (I:Inv X pins σ H s):∀b o,X.base.get? b=some o->s.heap.get? b=some o/\H b=none:=fun b o e=>
  ⟨I.base.keep b o (I.ok.bs b o e).1 (I.ok.bs b o e).2 (I.ok.nofr e) (I.ok.noex b o e),I.base.free b o (I.ok.bs b o e).1 (I.ok.bs b o e).2 (I.ok.noex b o e)⟩
theorem Inv.bk (I:Inv X pins σ H s):∀b o,X.base.get? b=some o->s.heap.get? b=some o:=fun b o e=>(I.bs b o e).1
theorem Inv.mod (I:Inv X pins σ H s):Mod X.K X.mg X.base:=I.ok.mod
theorem Inv.kIn (I:Inv X pins σ H s):X.K.In s.heap:=I.ok.mod.kin.keeps I.bk
theorem Inv.lt (I:Inv X pins σ H s):X.env.locals<s.heap.objs.size:=let ⟨_,hn,_⟩:=I.loc;hn.lt
theorem Inv.sz (I:Inv X pins σ H s):X.s₀.heap.objs.size<=s.heap.objs.size:=Nat.le_trans I.ok.above (Nat.le_of_lt I.lt)
theorem Inv.nofs (I:Inv X pins σ H s) {a:Addr}(h:s.heap.objs.size<=a):a ∉ X.fs:=fun hb=>by
  obtain⟨_,o,ho,_⟩:=I.ok.funs.mem hb
  exact absurd (Nat.lt_of_lt_of_le (Heap.lt_size ho) (Nat.le_trans I.sz h)) (Nat.lt_irrefl _)
theorem Inv.cne (I:Inv X pins σ H s):∀x c,X.env.cells.lookup x=some c->c≠X.env.locals:=fun x c e z=>by
  obtain⟨v,o,ho,hd⟩:=I.cell x c e
  obtain⟨m,⟨o',es,ep,ho',hd',_⟩,_⟩:=I.loc
  rw[z,ho'] at ho;cases ho;rw[hd'] at hd;cases hd
theorem Inv.funs (I:Inv X pins σ H s):s.heap.FunFrames X.base X.outer:=by
  have all:∀(l:List Env),(∀b∈frs l,b∈X.fs)->X.s₀.heap.FunFrames X.base l->s.heap.FunFrames X.base l:=by
    intro l
    induction l with
    | nil=>intro _ _;trivial
    | cons env r ih=>
      intro hs hl
      obtain⟨hk,⟨L,o,hf,hn,ho,hd⟩,hr⟩:=hl
      have hL:L∈X.fs:=hs L (by unfold frs;rw[List.filterMap_cons,hf];exact List.mem_cons_self)
      obtain⟨sl,e⟩:=I.base.slot L o ho (I.ok.frf L hL) hL fun z=>I.ok.exfs L z hL
      exact⟨hk,⟨L,_,hf,hn,e,hd⟩,ih (fun b hb=>hs b (by unfold frs;rw[List.filterMap_cons,hf];exact List.mem_cons_of_mem _ hb)) hr⟩
  exact all X.outer (fun _ hb=>hb) I.ok.funs
theorem Inv.stack (I:Inv X pins σ H s):s.heap.FunFrames X.base X.stack:=by
  rcases I.ok.stk with e | ⟨e,hf⟩
  · rw[e];exact I.funs
  · rw[e]
    obtain⟨m,hn,_⟩:=I.loc
    refine .cons (by rw[I.ok.kind];decide) hf hn ?_ I.funs
    exact Heap.get?_none_of_le (Nat.le_trans I.ok.bsz I.ok.above)
theorem Inv.stkSub (I:Inv X pins σ H s):∀b∈frs X.stack,b∈X.env.locals::X.fs:=fun b hb=>by
  rcases I.ok.stk with e | ⟨e,hf⟩
  · rw[e] at hb;exact List.mem_cons_of_mem _ hb
  · rw[e] at hb
    unfold frs at hb
    rw[List.filterMap_cons,hf] at hb
    exact hb
theorem Inv.stkFree (I:Inv X pins σ H s):∀b∈frs X.stack,H b=none:=fun b hb=>by
  rcases List.mem_cons.mp (I.stkSub b hb) with e | hb
  · rw[e];exact I.free
  · obtain⟨_,o,ho,_⟩:=I.ok.funs.mem hb
    exact I.base.free b o ho (I.ok.frf b hb) fun z=>I.ok.exfs b z hb
theorem Inv.step {g':Array GenState}{t':Nat}{d':Drawn}{ch:List Addr}(I:Inv X pins σ H s)
    (hch:∀b∈ch,(b∈X.ex\/X.s₀.heap.objs.size<=b)/\b≠X.env.locals/\(∀x c,X.env.cells.lookup x=some c->c≠b)/\∀p∈X.pn++pins,p.1≠b)
    (keep:∀b o,b≠X.env.locals->b ∉ X.fs->b ∉ ch->s.heap.get? b=some o->H b=none->h'.get? b=some o)
    (slot:∀b o,b≠X.env.locals->b∈X.fs->b ∉ ch->s.heap.get? b=some o->H b=none->∃sl,h'.get? b=some { o with slots:=sl }) (free:∀b o,b ∉ ch->s.heap.get? b=some o->H b=none->H' b=none)
    (there:∀b o,b ∉ ch->s.heap.get? b=some o->∃o',h'.get? b=some o')
    (tups:∀b xs,H b=some (.tup xs)->H' b=some (.tup xs)) (frzs:∀b o u,H b=some (.frz o u)->H' b=some (.frz o u)) (tbls:∀b ps,H b=some (.tbl ps)->∃more,H' b=some (.tbl (ps++more)))
    (ns:∀m,s.heap.Ns X.env.locals m->h'.Ns X.env.locals m) (hok:HOk X.prog X.w H' h') (hg:AllBare g') :
    Inv X pins σ H' { s with heap:=h',gens:=g',drawn:=d',toks:=t' }:=by
  have neL:∀b o,X.s₀.heap.get? b=some o->b≠X.env.locals:=fun b o e=>Nat.ne_of_lt (Nat.lt_of_lt_of_le (Heap.lt_size e) I.ok.above)
  have neC:∀b o,X.s₀.heap.get? b=some o->b ∉ X.ex->b ∉ ch:=fun b o e hx hb=>by
    rcases (hch b hb).1 with z | z
    · exact hx z
    · exact absurd (Nat.lt_of_lt_of_le (Heap.lt_size e) z) (Nat.lt_irrefl _)
  have cellK:∀x c,X.env.cells.lookup x=some c->∀v,s.heap.IsCell c v->h'.IsCell c v:=fun x c e v ⟨o,ho,hd⟩=>by
    have nch:c ∉ ch:=fun z=>(hch c z).2.2.1 x c e rfl
    by_cases hc:c∈X.fs
    · obtain⟨sl,q⟩:=slot c o (I.cne x c e) hc nch ho (I.freeC x c e)
      exact⟨_,q,hd⟩
    · exact⟨o,keep c o (I.cne x c e) hc nch ho (I.freeC x c e),hd⟩
  refine⟨I.ok,I.os,hg,⟨fun b o e n hb hx=>?_,fun b o e n hb hx=>?_,fun b o e n hx=>?_,fun b o e hx=>?_,fun b xs e=>tups b xs (I.base.tups b xs e),fun b o xs e=>frzs b o xs (I.base.frzs b o xs e),fun b ps e=>?_⟩,?_,fun x c e=>?_,?_,fun x c e=>?_,fun p hp=>?_,hok,I.len⟩
  · exact keep b o (neL b o e) hb (neC b o e hx) (I.base.keep b o e n hb hx) (I.base.free b o e n hx)
  · obtain⟨sl,e1⟩:=I.base.slot b o e n hb hx
    obtain⟨sl',e2⟩:=slot b _ (neL b o e) hb (neC b o e hx) e1 (I.base.free b o e n hx)
    exact⟨sl',e2⟩
  · obtain⟨o',e1⟩:=I.base.there b o e hx
    exact free b o' (neC b o e hx) e1 (I.base.free b o e n hx)
  · obtain⟨o',e1⟩:=I.base.there b o e hx
    exact there b o' (neC b o e hx) e1
  · obtain⟨m1,e1⟩:=I.base.tbls b ps e
    obtain⟨m2,e2⟩:=tbls b _ e1
    exact⟨m1++m2,by rw[e2,Array.append_assoc]⟩
  · obtain⟨m,hn,hl⟩:=I.loc
    refine⟨m,ns m hn,fun i x v e1 e2 e3=>?_⟩
    obtain⟨u,r,l⟩:=hl i x v e1 e2 e3
    refine⟨u,r,?_⟩
    rcases l with l | ⟨k,c,e,z⟩
    · exact .inl l
    · exact .inr ⟨k,c,e,cellK x c e _ z⟩
  · obtain⟨v,z⟩:=I.cell x c e
    exact⟨v,cellK x c e v z⟩
  · obtain⟨m,⟨o,_,_,ho,_⟩,_⟩:=I.loc
    exact free _ o (fun z=>(hch _ z).2.1 rfl) ho I.free
  · obtain⟨v,o,ho,hd⟩:=I.cell x c e
    exact free c o (fun z=>(hch c z).2.2.1 x c e rfl) ho (I.freeC x c e)
  · obtain⟨e,n,ne,nf,d⟩:=I.pin p hp
    have nch:p.1 ∉ ch:=fun z=>(hch p.1 z).2.2.2 p hp rfl
    exact⟨keep p.1 p.2 ne nf nch e n,free p.1 p.2 nch e n,ne,nf,d⟩
theorem Inv.un {t':Nat}(I:Inv X pins σ H s) (u:Un X.fs [] H H' s.heap h') (hok:HOk X.prog X.w H' h'):Inv X pins σ H' { s with heap:=h',toks:=t' }:=by
  obtain⟨m,⟨o,es,ep,ho,r⟩,_⟩:=id I.loc
  obtain⟨sl,hL⟩:=u.any ho I.free (by simp)
  exact I.step (g':=s.gens) (d':=s.drawn) (ch:=[]) (fun _ z=>nomatch z) (fun b o _ hb _ e n=>u.keep b o e n hb (by simp)) (fun b o _ hb _ e n=>u.slot b o e n hb (by simp)) (fun b o _ e n=>u.free b o e n (by simp)) (fun b o _ e=>u.there b o e (by simp)) u.tups u.frzs u.tbls (fun m' hm=>by
    obtain⟨o',es',ep',ho',r'⟩:=hm
    rw[ho] at ho';cases ho'
    exact⟨_,es',ep',hL,r'⟩) hok I.bare
theorem Inv.call {g':Array GenState}{t':Nat}{d':Drawn}{ch:List Addr}(I:Inv X pins σ H s) (u:Un (frs X.stack) ch H H' s.heap h') (hok:HOk X.prog X.w H' h') (hg:AllBare g')
    (hch:∀b∈ch,(b∈X.ex\/X.s₀.heap.objs.size<=b)/\b≠X.env.locals/\(∀x c,X.env.cells.lookup x=some c->c≠b)/\∀p∈X.pn++pins,p.1≠b) :
    Inv X pins σ H' { s with heap:=h',gens:=g',drawn:=d',toks:=t' }:=by
  obtain⟨m,⟨o,es,ep,ho,r⟩,_⟩:=id I.loc
  obtain⟨sl,hL⟩:=u.any ho I.free fun z=>(hch _ z).2.1 rfl
  exact I.step (ch:=ch) hch (fun b o hL hb hc e n=>u.keep b o e n (fun z=>(List.mem_cons.mp (I.stkSub b z)).elim hL hb) hc) (fun b o _ _ hc e n=>u.any e n hc) (fun b o hc e n=>u.free b o e n hc) (fun b o hc e=>u.there b o e hc) u.tups u.frzs u.tbls (fun m' hm=>by
    obtain⟨o',es',ep',ho',r'⟩:=hm
    rw[ho] at ho';cases ho'
    exact⟨_,es',ep',hL,r'⟩) hok hg
theorem Inv.turned {t':Nat}{it:Addr}(I:Inv X pins σ H s) (k:∀b o,b≠it->s.heap.get? b=some o->h'.get? b=some o) (hn:H it=none) (hL:it≠X.env.locals)
    (h1:it∈X.ex\/X.s₀.heap.objs.size<=it) (h2:∀x c,X.env.cells.lookup x=some c->c≠it) (h3:∀p∈X.pn++pins,p.1≠it):Inv X pins σ H { s with heap:=h',toks:=t' }:=by
  have nit:∀b u,H b=some u->b≠it:=fun b u e z=>by rw[z,hn] at e;cases e
  refine I.step (g':=s.gens) (d':=s.drawn) (ch:=[it]) (fun b hb=>?_) (fun b o _ _ hc e _=>k b o (fun z=>hc (by simp[z])) e) (fun b o _ _ hc e _=>⟨o.slots,k b o (fun z=>hc (by simp[z])) e⟩) (fun _ _ _ _ n=>n)
    (fun b o hc e=>⟨o,k b o (fun z=>hc (by simp[z])) e⟩) (fun _ _ e=>e) (fun _ _ _ e=>e) (fun b ps e=>⟨#[],by rw[e];simp⟩) (fun m hm=>?_) (fun b u e=>?_) I.bare
  · have e:b=it:=by simpa using hb
    subst e
    exact⟨h1,hL,h2,h3⟩
  · obtain⟨o,es,ep,ho,r⟩:=hm
    exact⟨o,es,ep,k _ o (Ne.symm hL) ho,r⟩
  · refine (I.hok b u e).stay (fun c v hc q=>k c v ?_ q) (fun _ q=>q) fun _ _ q=>q
    rcases hc with z | z
    · rw[z];exact nit b u e
    · exact nit c _ z
theorem Inv.tok (I:Inv X pins σ H s) (t:Nat):Inv X pins σ H { s with toks:=t }:=I.un (h':=s.heap) (t':=t) Un.refl I.hok
theorem Inv.kept {t':Nat}(I:Inv X pins σ H s) (k:∀b u,s.heap.get? b=some u->h'.get? b=some u):Inv X pins σ H { s with heap:=h',toks:=t' }:=I.un (Un.kept k) (I.hok.kept k)
theorem Inv.laid {a:Addr}{o:HO}{t':Nat}(I:Inv X pins σ H s) (k:∀b u,s.heap.get? b=some u->h'.get? b=some u) (hp:s.heap.objs.size<=a) (new:ObjOk X.prog X.w (upd H a o) h' a o) :
    Inv X pins σ (upd H a o) { s with heap:=h',toks:=t' }:=I.un (Un.laid k hp (I.hok.fresh hp)) (I.hok.laid k hp new)
theorem Inv.write {x e:Addr}{o:HO}{t':Nat}(I:Inv X pins σ H s) (mu:Mut (H x)) (he:e=x\/H e=some (.own x)) (k:∀b u,b≠e->s.heap.get? b=some u->h'.get? b=some u) (heo:∃u,h'.get? e=some u)
    (new:ObjOk X.prog X.w (upd H x o) h' x o):Inv X pins σ (upd H x o) { s with heap:=h',toks:=t' }:=I.un (Un.write mu he k heo) (I.hok.write mu he k heo new)
theorem Inv.pins_of {pins':List (Addr×Obj)}(I:Inv X pins σ H s) (h:∀p∈pins',s.heap.get? p.1=some p.2/\H p.1=none/\p.1≠X.env.locals/\p.1 ∉ X.fs/\∀v,p.2.data≠.cell v):Inv X pins' σ H s:=
  ⟨I.ok,I.os,I.bare,I.base,I.loc,I.cell,I.free,I.freeC,fun p hp=>(List.mem_append.mp hp).elim (fun z=>I.pin p (List.mem_append_left _ z)) (h p),I.hok,I.len⟩
theorem zgr {N:List Str}(hN:N.Nodup) {i j:Nat}{x:Str}(a:N[i]? = some x) (b:N[j]? = some x):i=j:=by
  obtain⟨h1,e1⟩:=List.getElem?_eq_some_iff.mp a
  obtain⟨h2,e2⟩:=List.getElem?_eq_some_iff.mp b
  exact (List.getElem_inj hN).mp (e1.trans e2.symm)
theorem zhi {M:Model}{A:Around}{E:Value->Shared->Prop}{i:Nat}{x:Str}{v:V}{u:Value}{Q:Unit->Shared->Prop}(I:Inv X pins σ H s) (hN:X.N.Nodup) (hi:X.N[i]? = some x) (hx:Loc X.env.scope x) (r:RelV v u)
    (h:∀s',Inv X pins (σ.set i (some v)) H s'->(∃a,Heap.SameBut a s.heap s'.heap/\(a=X.env.locals\/X.env.cells.lookup x=some a))->Q () s') (hf:X.fn x=true\/X.env.scope.names.lookup x=some .local:=by first | exact .inl rfl | exact .inr rfl | assumption):wpAny M A (storeName X.env x u) Q E s:=by
  obtain⟨m,hn,hl⟩:=id I.loc
  have hcls:(X.env.scope.kind == .class||(X.env.scope.kind == .module&&X.env.locals != X.env.globals))=false:=by rw[I.ok.kind];rfl
  have hiσ:i<σ.length:=by rw[I.len];exact (List.getElem?_eq_some_iff.mp hi).1
  have cne:=I.cne
  have tracked:∀{a:Addr}{h':Heap},(∃o,s.heap.get? a=some o/\H a=none)->Heap.SameBut a s.heap h'->HOk X.prog X.w H h':=fun {a h'} ha hs b ob e=>by
    obtain⟨_,_,hfree⟩:=ha
    refine (I.hok b ob e).stay (fun c w' hc q=>(hs.2 c ?_).trans q) (fun _ q=>q) fun _ _ q=>q
    rintro rfl
    rcases hc with rfl | hc
    · rw[hfree] at e;cases e
    · rw[hfree] at hc;cases hc
  rcases hx with hk | hk
  · refine wpAny_storeName_local hk hn (fun h' hn' hs=>?_) hcls
    obtain⟨oL,_,_,hoL,_⟩:=id hn
    refine h _ ⟨I.ok,I.os,I.bare,⟨fun b o e n hb hx=>?_,fun b o e n hb hx=>?_,I.base.free,fun b o e hx=>?_,I.base.tups,I.base.frzs,I.base.tbls⟩,⟨_,hn',fun j y v' e1 e2 e3=>?_⟩,fun y c e=>?_,I.free,I.freeC,fun p hp=>?_,tracked ⟨oL,hoL,I.free⟩ hs,by simpa using I.len⟩ ⟨_,hs,.inl rfl⟩
    · exact (hs.2 b (Nat.ne_of_lt (Nat.lt_of_lt_of_le (Heap.lt_size e) I.ok.above))).trans (I.base.keep b o e n hb hx)
    · obtain⟨sl,e1⟩:=I.base.slot b o e n hb hx
      exact⟨sl,(hs.2 b (Nat.ne_of_lt (Nat.lt_of_lt_of_le (Heap.lt_size e) I.ok.above))).trans e1⟩
    · obtain⟨o',e1⟩:=I.base.there b o e hx
      exact⟨o',(hs.2 b (Nat.ne_of_lt (Nat.lt_of_lt_of_le (Heap.lt_size e) I.ok.above))).trans e1⟩
    · by_cases hj:j=i
      · subst hj
        rw[hi] at e1;cases e1
        rw[List.getElem?_set_self hiσ] at e2
        cases e2
        exact⟨u,r,.inl ⟨hk,by simp⟩⟩
      · rw[List.getElem?_set_ne (Ne.symm hj)] at e2
        obtain⟨u',r',q⟩:=hl j y v' e1 e2 e3
        refine⟨u',r',?_⟩
        rcases q with ⟨k,e⟩ | ⟨k,c,e,z⟩
        · refine .inl ⟨k,?_⟩
          have:y≠x:=fun e=>hj (zgr hN e1 (e▸hi))
          simp[this,e]
        · exact .inr ⟨k,c,e,z.sameBut hs (cne y c e)⟩
    · obtain⟨w',z⟩:=I.cell y c e
      exact⟨w',z.sameBut hs (cne y c e)⟩
    · obtain⟨e,n,ne,nf,d⟩:=I.pin p hp
      exact⟨(hs.2 p.1 ne).trans e,n,ne,nf,d⟩
  · have hfn:X.fn x=true:=by
      rcases hf with z | z
      · exact z
      · rw[z] at hk;cases hk
    obtain⟨c,hc⟩:=I.ok.has x (.inl hk)
    obtain⟨w',z⟩:=I.cell x c hc
    refine wpAny_storeName_cell I.ok.kind hk hc z (fun h' hc' hs=>?_)
    obtain⟨oc,hoc,hocd⟩:=id z
    refine h { s with heap:=h' } ⟨I.ok,I.os,I.bare,⟨fun b o e n hb hx=>?_,fun b o e n hb hx=>?_,I.base.free,fun b o e hx=>?_,I.base.tups,I.base.frzs,I.base.tbls⟩,⟨m,hn.sameBut hs (Ne.symm (cne x c hc)),fun j y v' e1 e2 e3=>?_⟩,fun y c' e=>?_,I.free,I.freeC,fun p hp=>?_,tracked ⟨oc,hoc,I.freeC x c hc⟩ hs,by simpa using I.len⟩ ⟨c,hs,.inr hc⟩
    · exact (hs.2 b (Nat.ne_of_lt (Nat.lt_of_lt_of_le (Heap.lt_size e) (I.ok.cab x c hfn hc)))).trans (I.base.keep b o e n hb hx)
    · obtain⟨sl,e1⟩:=I.base.slot b o e n hb hx
      exact⟨sl,(hs.2 b (Nat.ne_of_lt (Nat.lt_of_lt_of_le (Heap.lt_size e) (I.ok.cab x c hfn hc)))).trans e1⟩
    · obtain⟨o',e1⟩:=I.base.there b o e hx
      exact⟨o',(hs.2 b (Nat.ne_of_lt (Nat.lt_of_lt_of_le (Heap.lt_size e) (I.ok.cab x c hfn hc)))).trans e1⟩
    · by_cases hj:j=i
      · subst hj
        rw[hi] at e1;cases e1
        rw[List.getElem?_set_self hiσ] at e2
        cases e2
        exact⟨u,r,.inr ⟨.inl hk,c,hc,hc'⟩⟩
      · rw[List.getElem?_set_ne (Ne.symm hj)] at e2
        obtain⟨u',r',q⟩:=hl j y v' e1 e2 e3
        refine⟨u',r',?_⟩
        rcases q with q | ⟨k,c',e,z'⟩
        · exact .inl q
        · refine .inr ⟨k,c',e,z'.sameBut hs ?_⟩
          rintro rfl
          exact hj (zgr hN e1 (I.ok.inj _ _ _ e hc▸hi))
    · by_cases hcc:c'=c
      · subst hcc;exact⟨_,hc'⟩
      · obtain⟨w2,z2⟩:=I.cell y c' e
        exact⟨w2,z2.sameBut hs hcc⟩
    · obtain⟨e,n,ne,nf,d⟩:=I.pin p hp
      refine⟨(hs.2 p.1 ?_).trans e,n,ne,nf,d⟩
      intro q
      rw[q,hoc] at e
      have q':oc=p.2:=Option.some.inj e
      exact d w' (by rw[←q'];exact hocd)
theorem zcy {M:Model}{A:Around}{E:Value->Shared->Prop}{i:Nat}{x:Str}{v:V}{u:Value}{Q:Unit->Shared->Prop}(I:Inv X pins σ H s) (hN:X.N.Nodup) (hi:X.N[i]? = some x) (hx:Loc X.env.scope x) (r:RelV v u)
    (h:∀s',Inv X pins (σ.set i (some v)) H s'->Q () s') (hf:X.fn x=true\/X.env.scope.names.lookup x=some .local:=by first | exact .inl rfl | exact .inr rfl | assumption):wpAny M A (storeName X.env x u) Q E s:=
  zhi I hN hi hx r (fun s' I' _=>h s' I') hf
theorem Inv.call' {s':Shared}{ch:List Addr}(I:Inv X pins σ H s) (ho:s'.os=s.os) (u:Un (frs X.stack) ch H H' s.heap s'.heap) (hok:HOk X.prog X.w H' s'.heap) (hg:AllBare s'.gens)
    (hch:∀b∈ch,(b∈X.ex\/X.s₀.heap.objs.size<=b)/\b≠X.env.locals/\(∀x c,X.env.cells.lookup x=some c->c≠b)/\∀p∈X.pn++pins,p.1≠b):Inv X pins σ H' s':=by
  obtain⟨h',g',d',t',o'⟩:=s'
  have e:o'=s.os:=ho
  subst e
  exact I.call (g':=g') (t':=t') (d':=d') u hok hg hch
end
abbrev XK:=Value->Option Addr->Hp->Prop
abbrev St:=List (Option V)
abbrev VK:=V->Hp->Prop
abbrev TE:=St->Hp->VK->Prop
abbrev TT:=St->Hp->(Bool->Hp->Prop)->Prop
abbrev TA:=St->Hp->(List V->Hp->Prop)->Prop
structure Ends where
  nx:St->Hp->Prop
  rt:VK
  bk:St->Hp->Prop:=fun _ _=>False
  ct:St->Hp->Prop:=fun _ _=>False
abbrev TS:=Ends->St->Hp->Prop
def EP (X:Cx) (pins:List (Addr×Obj)) (σ:St) (Q:VK) (u:Value) (s':Shared):Prop:=∃v H',Inv X pins σ H' s'/\RelV v u/\Q v H'
def TP (X:Cx) (pins:List (Addr×Obj)) (σ:St) (Q:Bool->Hp->Prop) (b:Bool) (s':Shared):Prop:=∃H',Inv X pins σ H' s'/\Q b H'
def AP (X:Cx) (pins:List (Addr×Obj)) (σ:St) (Q:List V->Hp->Prop) (us:List Value) (s':Shared):Prop:=∃vs H',Inv X pins σ H' s'/\Vals vs us/\Q vs H'
def SP (X:Cx) (pins:List (Addr×Obj)) (D:Ends) (f:Flow) (s':Shared):Prop:=
  match f with
  | .next=>∃σ' H',Inv X pins σ' H' s'/\D.nx σ' H'
  | .brk=>∃σ' H',Inv X pins σ' H' s'/\D.bk σ' H'
  | .cont=>∃σ' H',Inv X pins σ' H' s'/\D.ct σ' H'
  | .ret u=>∃v σ' H',Inv X pins σ' H' s'/\RelV v u/\D.rt v H'
def PE (X:Cx) (e:Expr) (t:TE):Prop:=
  ∀(pins:List (Addr×Obj)) (s:Shared) (σ:St) (H:Hp) (Q:VK),Inv X pins σ H s->t σ H Q->wpAny (model X.prog X.w) X.A (eval e X.env) (EP X pins σ Q) X.xe s
def PT (X:Cx) (e:Expr) (t:TT):Prop:=
  ∀(pins:List (Addr×Obj)) (s:Shared) (σ:St) (H:Hp) (Q:Bool->Hp->Prop),Inv X pins σ H s->t σ H Q->wpAny (model X.prog X.w) X.A (isTrue e X.env (eval e X.env)) (TP X pins σ Q) X.xe s
def PW (X:Cx) (e:Expr) (t:TT):Prop:=
  ∀(whole:Sem Value) (pins:List (Addr×Obj)) (s:Shared) (σ:St) (H:Hp) (Q:Bool->Hp->Prop),Inv X pins σ H s->t σ H Q->wpAny (model X.prog X.w) X.A (isTrue e X.env whole) (TP X pins σ Q) X.xe s
theorem PW.pt {X:Cx}{e:Expr}{t:TT}(h:PW X e t):PT X e t:=h _
def PA (X:Cx) (es:List Expr) (t:TA):Prop:=
  ∀(pos:Pos) (pins:List (Addr×Obj)) (s:Shared) (σ:St) (H:Hp) (Q:List V->Hp->Prop),Inv X pins σ H s->t σ H Q->wpAny (model X.prog X.w) X.A (spliced (backTo pos (starEach es X.env))) (AP X pins σ Q) X.xe s
def PS (X:Cx) (st:Stmt) (t:TS):Prop:=
  ∀(pins:List (Addr×Obj)) (s:Shared) (σ:St) (H:Hp) (D:Ends),Inv X pins σ H s->t D σ H->wpAny (model X.prog X.w) X.A (exec st X.env) (SP X pins D) X.xe s
def PSs (X:Cx) (st:List Stmt) (t:TS):Prop:=
  ∀(pins:List (Addr×Obj)) (s:Shared) (σ:St) (H:Hp) (D:Ends),Inv X pins σ H s->t D σ H->wpAny (model X.prog X.w) X.A (execs st X.env) (SP X pins D) X.xe s
theorem thn {α:Type}{t:Sem α}{Q Q':α->Shared->Prop}{M:Model}{A:Around}{E:Value->Shared->Prop}{s:Shared}(h:wpAny M A t Q E s) (hQ:∀a s,Q a s->Q' a s):wpAny M A t Q' E s:=wpAny_mono h hQ fun _ _ x=>x
section
variable {X:Cx}
theorem bin {a b:Expr}{ta tb:TE}(ha:PE X a ta) (hb:PE X b tb) {pins:List (Addr×Obj)}{s:Shared}{σ:St}{H:Hp}{R:V->V->Hp->Prop}(I:Inv X pins σ H s) (h:ta σ H fun x H1=>tb σ H1 fun y H2=>R x y H2)
    {α:Type}{Q:α->Shared->Prop}{f:Value->Value->Sem α}
    (hf:∀v u s2 x y H2,Inv X pins σ H2 s2->RelV x v->RelV y u->R x y H2->wpAny (model X.prog X.w) X.A (f v u) Q X.xe s2) :
    wpAny (model X.prog X.w) X.A (eval a X.env) (fun v s₁=>wpAny (model X.prog X.w) X.A (eval b X.env) (fun u s₂=>wpAny (model X.prog X.w) X.A (f v u) Q X.xe s₂) X.xe s₁) X.xe s:=by
  refine thn (ha pins s σ H _ I h) fun v s1 hq0=>?_
  obtain⟨x,H1,I1,r1,q1⟩:=hq0
  refine thn (hb pins s1 σ H1 _ I1 q1) fun u s2 hq0=>?_
  obtain⟨y,H2,I2,r2,q2⟩:=hq0
  exact hf v u s2 x y H2 I2 r1 r2 q2
def tVar (i:Nat):TE:=fun σ H Q=>∃v,σ[i]? = some (some v)/\Q v H
def tC (v:V):TE:=fun _ H Q=>Q v H
theorem zvd {i:Nat}{x:Str}{pos:Pos}(hN:X.N[i]? = some x) (hv:Vis X.env.scope x) (hd:(x == ("__debug__" : Str))=false:=by decide) (hcd:(x == ("__classdict__" : Str))=false:=by decide):PE X (.Name x pos) (tVar i):=by
  intro pins s σ H Q I h
  obtain⟨v,e,h⟩:=h
  obtain⟨m,hn,hl⟩:=I.loc
  obtain⟨u,r,l⟩:=hl i x v hN e hv
  have fin:EP X pins σ Q u s:=⟨v,H,I,r,h⟩
  rcases l with ⟨hk,hm⟩ | ⟨hk,c,hc,hcell⟩
  · exact wpAny_Name (wpAny_loadName_local I.ok.kind hk hn hm fin) hd
  · rcases hk with hk | hk
    · exact wpAny_Name (wpAny_loadName_cell I.ok.kind hk hc hcell fin) hd
    · exact wpAny_Name (wpAny_loadName_free I.ok.kind hk hc hcell fin hcd) hd
theorem ze {i j pos}:PE X (.Constant (.int i) j pos) (tC (.int i)):=fun _ _ _ H _ I h=>wpAny_Constant_int ⟨.int i,H,I.tok _,⟨_,rfl⟩,h⟩
theorem zb4 {b j pos}:PE X (.Constant (.bool b) j pos) (tC (.bl b)):=fun _ _ _ H _ I h=>Constant_bool ⟨.bl b,H,I,rfl,h⟩
theorem zve {j pos}:PE X (.Constant .none j pos) (tC .non):=fun _ _ _ H _ I h=>Constant_none ⟨.non,H,I,rfl,h⟩
theorem za0 {x j pos}:PE X (.Constant (.str x) j pos) (tC (.str x)):=fun _ _ _ H _ I h=>Calls.Constant_str ⟨.str x,H,I.tok _,⟨_,rfl⟩,h⟩
def Gl (X:Cx) (x:Str):Prop:=X.env.kindOf x=some .globalImplicit
theorem zdc {E:Value->Shared->Prop}{pins:List (Addr×Obj)}{s:Shared}{σ:St}{H:Hp}{x:Str}{u:Value}{pos:Pos}{Q:Value->Shared->Prop}(I:Inv X pins σ H s) (hg:Gl X x) (hm:X.mg x=some u) (h:Q u s)
    (hd:(x == ("__debug__" : Str))=false:=by decide):wpAny (model X.prog X.w) X.A (eval (.Name x pos) X.env) Q E s:=
  Calls.Name_function_global I.ok.kind hg (Calls.loadGlobal_global (by rw[I.ok.glob];exact I.mod.glob.keeps I.bk) hm h) hd
theorem zhj {E:Value->Shared->Prop}{pins:List (Addr×Obj)}{s:Shared}{σ:St}{H:Hp}{x:Str}{u:Value}{pos:Pos}{Q:Value->Shared->Prop}(I:Inv X pins σ H s) (hg:Gl X x) (hm:X.mg x=none) (hv:bootBuiltins x=some u) (h:Q u s)
    (hn:x≠"__name__":=by decide) (hd:(x == ("__debug__" : Str))=false:=by decide):wpAny (model X.prog X.w) X.A (eval (.Name x pos) X.env) Q E s:=by
  obtain⟨mb,h1,h2⟩:=I.mod.blt
  exact Calls.Name_function_global I.ok.kind hg (Calls.loadGlobal_builtin (by rw[I.ok.glob];exact I.mod.glob.keeps I.bk) hm (by rw[I.ok.blt];exact h1.keeps I.bk) ((h2 x hn).trans hv) h) hd
theorem zjt {x:Str}{v:V}{u:Value}{pos:Pos}(hg:Gl X x) (hm:X.mg x=some u) (r:RelV v u) (hd:(x == ("__debug__" : Str))=false:=by decide):PE X (.Name x pos) (tC v):=
  fun _ _ _ H _ I h=>zdc I hg hm ⟨v,H,I,r,h⟩ hd
theorem zju {x:Str}{v:V}{u:Value}{pos:Pos}(hg:Gl X x) (hm:X.mg x=none) (hv:bootBuiltins x=some u) (r:RelV v u) (hn:x≠"__name__":=by decide) (hd:(x == ("__debug__" : Str))=false:=by decide):PE X (.Name x pos) (tC v):=
  fun _ _ _ H _ I h=>zhj I hg hm hv ⟨v,H,I,r,h⟩ hn hd
variable {a b:Expr}{ta tb:TE}{pos:Pos}
def PC (X:Cx) (op:CmpOp) (a b:Expr) (t:TE):Prop:=
  ∀(pins:List (Addr×Obj)) (s:Shared) (σ:St) (H:Hp) (Q:VK),Inv X pins σ H s->t σ H Q->
    wpAny (model X.prog X.w) X.A (eval a X.env) (fun v s₁=>wpAny (model X.prog X.w) X.A (eval b X.env) (fun u s₂=>wpAny (model X.prog X.w) X.A (compareOp op v u) (EP X pins σ Q) X.xe s₂) X.xe s₁) X.xe s
theorem zk8 (b:Expr) {op:CmpOp}(h:op≠.In) (h2:op≠.NotIn):behindInMarks op b=false:=by
  have e1:(op == CmpOp.In)=false:=by cases op<;>first | rfl | exact absurd rfl h
  have e2:(op == CmpOp.NotIn)=false:=by cases op<;>first | rfl | exact absurd rfl h2
  cases b<;>simp[behindInMarks,e1,e2]
def zw1 (ta:TE):TE:=fun σ H Q=>ta σ H fun x H1=>Q (.bl (!decide (x = .non))) H1
theorem RelV.none_iff {x:V}{v:Value}(r:RelV x v):(v == Value.none)=decide (x = .non):=by
  cases x with
  | non=>cases r;rfl
  | bl _=>cases r;rfl
  | int _=>obtain⟨t,rfl⟩:=r;rfl
  | str _=>obtain⟨t,rfl⟩:=r;rfl
  | byt _=>obtain⟨t,rfl⟩:=r;rfl
  | flt _=>obtain⟨t,rfl⟩:=r;rfl
  | ref _=>cases r;rfl
  | ty _=>cases r;rfl
theorem zti {j pos'}(ha:PE X a ta):PC X .IsNot a (.Constant .none j pos') (zw1 ta):=by
  intro pins s σ H Q I h
  refine thn (ha pins s σ H _ I h) fun v s1 hq0=>?_
  obtain⟨x,H1,I1,r1,q1⟩:=hq0
  exact Constant_none (isnot_none_gen ⟨.bl _,H1,I1,by rw[r1.none_iff];rfl,q1⟩)
def tB (t:TE):TT:=fun σ H Q=>t σ H fun x H1=>∃c,x = .bl c/\Q c H1
theorem zvf {op:CmpOp}{t:TE}(h:PC X op a b t) (h1:behindInMarks op b=false:=by first | exact zk8 _ (by decide) (by decide) | rfl):PE X (.Compare a [op] [b] pos) t:=fun pins s σ H Q I hw=>wpAny_Compare1 (h pins s σ H Q I hw) h1
theorem zhk {op:CmpOp}{t:TE}(h:PC X op a b t) (h1:behindInMarks op b=false:=by first | exact zk8 _ (by decide) (by decide) | rfl):PT X (.Compare a [op] [b] pos) (tB t):=by
  intro pins s σ H Q I hw
  refine wpAny_isTrue_Compare1 (thn (h pins s σ H _ I hw) fun v s1 h1=>thn h1 fun u s2 h2=>thn h2 fun c s3 hq0=>?_) h1
  obtain⟨x,H1,I1,r1,q1⟩:=hq0
  obtain⟨d,rfl,q⟩:=q1
  cases r1
  exact wpAny_truthy_bool ⟨H1,I1,q⟩
theorem ze7 {e:Expr}{t:TE}(h:PE X e t) (he:∀whole,isTrue e X.env whole=(do let v ←whole;standAt e.pos;holding [v] (truthy v)):=by intro _;rfl):PT X e (tB t):=by
  intro pins s σ H Q I hw
  refine isTrue_plain (thn (h pins s σ H _ I hw) fun v s1 hq0=>?_) (he _)
  obtain⟨x,H1,I1,r1,q1⟩:=hq0
  obtain⟨d,rfl,q⟩:=q1
  cases r1
  exact wpAny_truthy_bool ⟨H1,I1,q⟩
variable {tA tB':TT}{rest:List Expr}
def tAnd (t u:TT):TT:=fun σ H Q=>t σ H fun c H1=>if c=true then u σ H1 Q else Q false H1
def tOr (t u:TT):TT:=fun σ H Q=>t σ H fun c H1=>if c=true then Q true H1 else u σ H1 Q
def tNot (t:TT):TT:=fun σ H Q=>t σ H fun c H1=>Q (!c) H1
theorem zeb (ha:PT X a tA):PW X (.BoolOp .And [a] pos) tA:=by
  intro wh pins s σ H Q I h
  refine isTrue_and (thn (ha pins s σ H Q I h) fun c s1 e=>?_)
  cases c with
  | true=>exact isTrue_and_nil e
  | false=>exact e
theorem zk9 (ha:PT X a tA):PW X (.BoolOp .Or [a] pos) tA:=by
  intro wh pins s σ H Q I h
  refine isTrue_or (thn (ha pins s σ H Q I h) fun c s1 e=>?_)
  cases c with
  | false=>exact isTrue_or_nil e
  | true=>exact e
theorem zf9 (ha:PT X a tA) (hb:PW X (.BoolOp .And (b::rest) pos) tB'):PW X (.BoolOp .And (a::b::rest) pos) (tAnd tA tB'):=by
  intro wh pins s σ H Q I h
  refine isTrue_and (thn (ha pins s σ H _ I h) fun c s1 hq0=>?_)
  obtain⟨H1,I1,q1⟩:=hq0
  cases c with
  | true=>exact hb wh pins s1 σ H1 Q I1 q1
  | false=>exact⟨H1,I1,q1⟩
theorem zqu (ha:PT X a tA) (hb:PW X (.BoolOp .Or (b::rest) pos) tB'):PW X (.BoolOp .Or (a::b::rest) pos) (tOr tA tB'):=by
  intro wh pins s σ H Q I h
  refine isTrue_or (thn (ha pins s σ H _ I h) fun c s1 hq0=>?_)
  obtain⟨H1,I1,q1⟩:=hq0
  cases c with
  | true=>exact⟨H1,I1,q1⟩
  | false=>exact hb wh pins s1 σ H1 Q I1 q1
theorem zdo (ha:PT X a tA):PT X (.UnaryOp .Not a pos) (tNot tA):=by
  intro pins s σ H Q I h
  exact isTrue_not (ha pins s σ H (fun c H1=>Q (!c) H1) I h)
def zw2 (ta tb:TE):TE:=fun σ H Q=>ta σ H fun x H1=>∃c,x = .bl c/\if c=true then tb σ H1 Q else Q (.bl false) H1
theorem znk {op}{t:TE}(h:PE X a t):PE X (.BoolOp op [a] pos) t:=fun pins s σ H Q I hw=>BoolOp_one (h pins s σ H Q I hw)
theorem znl (ha:PE X a ta) (hb:PE X (.BoolOp .And (b::rest) pos) tb):PE X (.BoolOp .And (a::b::rest) pos) (zw2 ta tb):=by
  intro pins s σ H Q I h
  refine BoolOp_and (thn (ha pins s σ H _ I h) fun v s1 hq0=>?_)
  obtain⟨x,H1,I1,r1,q1⟩:=hq0
  obtain⟨c,rfl,q1⟩:=q1
  cases r1
  refine wpAny_truthy_bool ?_
  cases c with
  | true=>exact hb pins s1 σ H1 Q I1 q1
  | false=>exact⟨.bl false,H1,I1,rfl,q1⟩
def tIf (t:TT) (ta tb:TE):TE:=fun σ H Q=>t σ H fun c H1=>if c=true then ta σ H1 Q else tb σ H1 Q
theorem zqv {c:Expr}(hc:PT X c tA) (ha:PE X a ta) (hb:PE X b tb):PE X (.IfExp c a b pos) (tIf tA ta tb):=by
  intro pins s σ H Q I h
  refine wpAny_IfExp (thn (hc pins s σ H _ I h) fun d s1 hq0=>?_)
  obtain⟨H1,I1,q1⟩:=hq0
  cases d with
  | true=>exact ha pins s1 σ H1 Q I1 q1
  | false=>exact hb pins s1 σ H1 Q I1 q1
end
def SqL (K:PySem.W.Frag) (H:Hp) (a:Addr) (xs:List V):Prop:=
  Rd H a (.lst xs)\/
    ∃(o:Obj) (its:Array Value) (n:Nat),K.lookup a=some o/\o.cls = .type "list"/\o.dict=none/\o.data = .seq its n/\its.size<=sizeLine/\Vals xs its.toList
def SqT (K:PySem.W.Frag) (H:Hp) (a:Addr) (xs:List V):Prop:=
  Rd H a (.tup xs)\/
    ∃(o:Obj) (its:Array Value) (n:Nat),K.lookup a=some o/\o.cls = .type "tuple"/\o.data = .seq its n/\its.size<=sizeLine/\Vals xs its.toList
def absV:Value->Option V
  | .none=>some .non
  | .bool b=>some (.bl b)
  | .int i _=>some (.int i)
  | .str x _=>some (.str x)
  | .bytes b _=>some (.byt b)
  | .float b _=>some (.flt b)
  | .ref a=>some (.ref a)
  | .type n=>some (.ty n)
  | _=>none
theorem RelV.abs {x:V}{u:Value}(r:RelV x u):absV u=some x:=by
  cases x with
  | non=>cases r;rfl
  | bl _=>cases r;rfl
  | int _=>obtain⟨t,rfl⟩:=r;rfl
  | str _=>obtain⟨t,rfl⟩:=r;rfl
  | byt _=>obtain⟨t,rfl⟩:=r;rfl
  | flt _=>obtain⟨t,rfl⟩:=r;rfl
  | ref _=>cases r;rfl
  | ty _=>cases r;rfl
theorem RelV.inj {x y:V}{u:Value}(r:RelV x u) (q:RelV y u):x=y:=Option.some.inj (r.abs.symm.trans q.abs)
theorem Vals.inj:∀{xs ys:List V}{us:List Value},Vals xs us->Vals ys us->xs=ys
  | _,_,_,.nil,.nil=>rfl
  | _,_,_,.cons r t,.cons r' t'=>by rw[r.inj r',Vals.inj t t']
section
variable {X:Cx}{pins:List (Addr×Obj)}{σ:St}{H:Hp}{s:Shared}{a:Addr}{xs ys:List V}
theorem SqL.of {K:PySem.W.Frag}(h:H a=some (.lst xs)):SqL K H a xs:=.inl (.inl h)
theorem SqT.of {K:PySem.W.Frag}(h:H a=some (.tup xs)):SqT K H a xs:=.inl (.inl h)
theorem Inv.list (I:Inv X pins σ H s) (h:SqL X.K H a xs):∃its:List Value,Vals xs its/\PlainL s.heap a its.toArray/\xs.length<=sizeLine:=by
  rcases h with h | ⟨o,its,n,hk,hc,hd,hs,hz,r⟩
  · obtain⟨z,its,n,r,e⟩:=h.ok I.hok
    exact⟨its,r,⟨_,n,e,rfl,rfl,rfl⟩,z⟩
  · refine⟨its.toList,r,⟨o,n,I.kIn a o hk,hc,hd,by simpa using hs⟩,?_⟩
    have e:=r.length
    simp only [Array.length_toList] at e
    omega
theorem Inv.tuple (I:Inv X pins σ H s) (h:SqT X.K H a xs):∃its:List Value,Vals xs its/\IsTup s.heap a its.toArray/\xs.length<=sizeLine:=by
  rcases h with h | ⟨o,its,n,hk,hc,hs,hz,r⟩
  · obtain⟨z,its,r,p⟩:=h.ok I.hok
    exact⟨its,r,p,z⟩
  · refine⟨its.toList,r,⟨o,I.kIn a o hk,hc,n,by simpa using hs⟩,?_⟩
    have e:=r.length
    simp only [Array.length_toList] at e
    omega
theorem Inv.list_inj (I:Inv X pins σ H s) (h:SqL X.K H a xs) (h':SqL X.K H a ys):xs=ys:=by
  obtain⟨its,r,⟨o,n,e,_,_,d⟩,_⟩:=I.list h
  obtain⟨its',r',⟨o',n',e',_,_,d'⟩,_⟩:=I.list h'
  rw[e] at e';cases e'
  rw[d] at d'
  injection d' with d1 _
  have:its=its':=by simpa using congrArg Array.toList d1
  subst this
  exact r.inj r'
theorem Inv.tuple_inj (I:Inv X pins σ H s) (h:SqT X.K H a xs) (h':SqT X.K H a ys):xs=ys:=by
  obtain⟨its,r,⟨o,e,_,n,d⟩,_⟩:=I.tuple h
  obtain⟨its',r',⟨o',e',_,n',d'⟩,_⟩:=I.tuple h'
  rw[e] at e';cases e'
  rw[d] at d'
  injection d' with d1 _
  have:its=its':=by simpa using congrArg Array.toList d1
  subst this
  exact r.inj r'
end
abbrev Cx.wish (X:Cx) (E:Value->Shared->Prop):Cx:={ X with xe:=E }
abbrev Cx.nox (X:Cx):Cx:=X.wish fun _ _=>False
theorem Cx.Ok.wish {X:Cx}(ok:X.Ok) (E:Value->Shared->Prop):(X.wish E).Ok:=
  ⟨ok.mod,ok.kind,ok.glob,ok.blt,ok.above,ok.inj,ok.has,ok.cab,ok.hd,ok.frames,ok.stk,ok.exf,ok.bs,ok.bsz,ok.noex,ok.exfs,ok.funs,ok.frf⟩
theorem Cx.Ok.unwish {X:Cx}{E:Value->Shared->Prop}(ok:(X.wish E).Ok):X.Ok:=
  ⟨ok.mod,ok.kind,ok.glob,ok.blt,ok.above,ok.inj,ok.has,ok.cab,ok.hd,ok.frames,ok.stk,ok.exf,ok.bs,ok.bsz,ok.noex,ok.exfs,ok.funs,ok.frf⟩
section
variable {X:Cx}{pins:List (Addr×Obj)}{σ:St}{H:Hp}{s:Shared}{E:Value->Shared->Prop}
theorem Inv.wish (I:Inv X pins σ H s) (E:Value->Shared->Prop):Inv (X.wish E) pins σ H s:=⟨I.ok.wish E,I.os,I.bare,I.base,I.loc,I.cell,I.free,I.freeC,I.pin,I.hok,I.len⟩
theorem Inv.unwish (I:Inv (X.wish E) pins σ H s):Inv X pins σ H s:=⟨I.ok.unwish,I.os,I.bare,I.base,I.loc,I.cell,I.free,I.freeC,I.pin,I.hok,I.len⟩
theorem SP.unwish {D:Ends}{f:Flow}{s':Shared}(h:SP (X.wish E) pins D f s'):SP X pins D f s':=by
  cases f with
  | next=>obtain⟨σ',H',I,q⟩:=h;exact⟨σ',H',I.unwish,q⟩
  | brk=>obtain⟨σ',H',I,q⟩:=h;exact⟨σ',H',I.unwish,q⟩
  | cont=>obtain⟨σ',H',I,q⟩:=h;exact⟨σ',H',I.unwish,q⟩
  | ret u=>obtain⟨v,σ',H',I,r,q⟩:=h;exact⟨v,σ',H',I.unwish,r,q⟩
theorem PSs.nox {st:List Stmt}{t:TS}(h:PSs X.nox st t):PSs X st t:=fun pins s σ H D I hw=>
  wpAny_mono (h pins s σ H D (I.wish _) hw) (fun _ _ q=>q.unwish) fun _ _ z=>False.elim z
end
section
variable {X:Cx}{st:Stmt}{rest:List Stmt}{t u:TS}{e:Expr}{te:TE}{pos:Pos}
def zl7:TS:=fun D σ H=>D.nx σ H
def tSeq (t u:TS):TS:=fun D σ H=>t { D with nx:=u D } σ H
theorem zad:PSs X [] zl7:=fun _ _ σ H _ I h=>wpAny_execs_nil ⟨σ,H,I,h⟩
theorem zd (h1:PS X st t) (h2:PSs X rest u):PSs X (st::rest) (tSeq t u):=by
  intro pins s σ H D I h
  refine wpAny_execs_cons (thn (h1 pins s σ H { D with nx:=u D } I h) fun f s1 q=>?_)
  cases f with
  | next=>
    obtain⟨σ',H',I',q⟩:=q
    exact h2 pins s1 σ' H' D I' q
  | ret v=>exact q
  | brk=>exact q
  | cont=>exact q
theorem zg (h1:PS X st t):PSs X [st] t:=by
  intro pins s σ H D I h
  refine wpAny_execs_cons (thn (h1 pins s σ H D I h) fun f s1 q=>?_)
  cases f with
  | next=>exact wpAny_execs_nil q
  | ret v=>exact q
  | brk=>exact q
  | cont=>exact q
theorem Inv.quiet {pins:List (Addr×Obj)}{σ:St}{H:Hp}{s:Shared}(I:Inv X pins σ H s):interactive X.env=false:=by simp[interactive,I.ok.kind]
def zw3 (te:TE):TS:=fun D σ H=>te σ H fun _ H1=>D.nx σ H1
theorem za8 (he:PE X e te) (hs:swapsWith e none pos.line X.env=pure false:=by rfl):PS X (.Expr e pos) (zw3 te):=by
  intro pins s σ H D I h
  exact wpAny_Expr_any (thn (he pins s σ H _ I h) fun v s1 ⟨x,H1,I1,r1,q1⟩=>⟨σ,H1,I1,q1⟩) I.quiet hs
def tRet (te:TE):TS:=fun D σ H=>te σ H D.rt
theorem zy (he:PE X e te):PS X (.Return (some e) pos) (tRet te):=by
  intro pins s σ H D I h
  exact wpAny_Return_some (thn (he pins s σ H _ I h) fun v s1 ⟨x,H1,I1,r1,q1⟩=>⟨x,σ,H1,I1,r1,q1⟩)
def tIfS (c:TT) (t u:TS):TS:=fun D σ H=>c σ H fun b H1=>if b=true then t D σ H1 else u D σ H1
theorem za6 {c:Expr}{a b:List Stmt}{tc:TT}(hc:PT X c tc) (ha:PSs X a t) (hb:PSs X b u):PS X (.If c a b pos) (tIfS tc t u):=by
  intro pins s σ H D I h
  refine wpAny_If (thn (hc pins s σ H _ I h) fun d s1 hq0=>?_)
  obtain⟨H1,I1,q1⟩:=hq0
  cases d with
  | true=>exact ha pins s1 σ H1 D I1 q1
  | false=>exact hb pins s1 σ H1 D I1 q1
def zvg:TS:=fun _ _ _=>False
theorem zqw:PS X st zvg:=fun _ _ _ _ _ _ h=>h.elim
end
abbrev TG:=V->St->Hp->(St->Hp->Prop)->Prop
abbrev TGs:=List V->St->Hp->(St->Hp->Prop)->Prop
def PG (X:Cx) (target:Expr) (t:TG):Prop:=
  ∀(pins:List (Addr×Obj)) (s:Shared) (σ:St) (H:Hp) (v:V) (u:Value) (Q:St->Hp->Prop),Inv X pins σ H s->RelV v u->t v σ H Q->
    wpAny (model X.prog X.w) X.A (assign target X.env u) (fun _ s'=>∃σ' H',Inv X pins σ' H' s'/\Q σ' H') X.xe s
def PGs (X:Cx) (ts:List Expr) (t:TGs):Prop:=
  ∀(pins:List (Addr×Obj)) (s:Shared) (σ:St) (H:Hp) (vs:List V) (us:List Value) (Q:St->Hp->Prop),Inv X pins σ H s->Vals vs us->t vs σ H Q->
    wpAny (model X.prog X.w) X.A (assignInOrder ((assignEach ts X.env).map (·.2)) us) (fun _ s'=>∃σ' H',Inv X pins σ' H' s'/\Q σ' H') X.xe s
section
variable {X:Cx}{pos:Pos}
def zr (i:Nat):TG:=fun v σ H Q=>Q (σ.set i (some v)) H
theorem zn {i:Nat}{x:Str}(hN:X.N.Nodup) (hi:X.N[i]? = some x) (hx:Loc X.env.scope x) (hf:X.fn x=true\/X.env.scope.names.lookup x=some .local:=by first | exact .inl rfl | exact .inr rfl | assumption):PG X (.Name x pos) (zr i):=by
  intro pins s σ H v u Q I r h
  exact wpAny_assign_Name (zcy I hN hi hx r (fun s' I'=>⟨_,H,I',h⟩) hf)
def gNil:TGs:=fun vs σ H Q=>vs = []/\Q σ H
def zw4 (t:TG) (u:TGs):TGs:=fun vs σ H Q=>∃v r,vs=v::r/\t v σ H fun σ' H'=>u r σ' H' Q
theorem zb9:PGs X [] gNil:=by
  intro pins s σ H vs us Q I r h
  obtain⟨e,h⟩:=h
  subst e
  cases r
  exact assignInOrder_nil ⟨σ,H,I,h⟩
theorem zan {e:Expr}{es:List Expr}{t:TG}{u:TGs}(h1:PG X e t) (h2:PGs X es u)
    (hs:(assignEach (e::es) X.env).map (·.2)=assign e X.env::(assignEach es X.env).map (·.2):=by rfl):PGs X (e::es) (zw4 t u):=by
  intro pins s σ H vs us Q I r h
  obtain⟨v,vr,e1,h⟩:=h
  subst e1
  cases r with
  | cons r rr=>
    rw[hs]
    refine assignInOrder_cons (thn (h1 pins s σ H _ _ _ I r h) fun _ s1 hq0=>?_)
    obtain⟨σ1,H1,I1,q1⟩:=hq0
    exact h2 pins s1 σ1 H1 _ _ Q I1 rr q1
def gTup (K:PySem.W.Frag) (n:Nat) (t:TGs):TG:=fun v σ H Q=>∃a xs,v = .ref a/\SqT K H a xs/\xs.length=n/\t xs σ H Q
theorem zvh {es:List Expr}{k:Nat}{t:TGs}{n:Nat}(hc:X.calm=true) (h:PGs X es t)
    (hn:(assignEach es X.env).length=n:=by rfl) (hst:(assignEach es X.env).findIdx? (·.1)=none:=by rfl):PG X (.Tuple es k pos) (gTup X.K n t):=by
  intro pins s σ H v u Q I r hw
  obtain⟨a,xs,e1,hq,hl,hw⟩:=hw
  subst e1
  cases r
  obtain⟨its,rv,ht,hz⟩:=I.tuple hq
  refine assign_Tuple_tuple (I.ok.hd hc) ht (by simp[hn,←hl,rv.length]) hst fun h' hx=>?_
  have I1:Inv X pins σ H { s with heap:=h' }:=I.kept (t':=s.toks) fun b o e=>hx b o (Nat.ne_of_lt (Heap.lt_size e)) e
  exact h pins _ σ H xs _ Q I1 (by simpa using rv) hw
def tAsg (te:TE) (g:TG):TS:=fun D σ H=>te σ H fun x H1=>g x σ H1 D.nx
theorem zso {tg e:Expr}{te:TE}{g:TG}(he:PE X e te) (hg:PG X tg g) (hs:swapsWithSole [tg] e pos.line X.env=pure false:=by rfl) (hw:swappedStores [tg] e X.env=pure none:=by rfl)
    (h1:(assignEach [tg] X.env).map (·.2) = [assign tg X.env]:=by rfl):PS X (.Assign [tg] e pos) (tAsg te g):=by
  intro pins s σ H D I h
  refine wpAny_Assign_stores (thn (he pins s σ H _ I h) fun v s1 hq0=>?_) hs hw
  obtain⟨x,H1,I1,r1,q1⟩:=hq0
  rw[h1]
  exact thn (hg pins s1 σ H1 x v _ I1 r1 q1) fun _ s2 q=>q
theorem zm {i:Nat}{x:Str}{e:Expr}{te:TE}{pos':Pos}(hN:X.N.Nodup) (hi:X.N[i]? = some x) (hx:Loc X.env.scope x) (he:PE X e te) (hs:swapsWith e (some (.Name x pos')) pos.line X.env=pure false:=by rfl) (hf:X.fn x=true\/X.env.scope.names.lookup x=some .local:=by first | exact .inl rfl | exact .inr rfl | assumption) :
    PS X (.Assign [.Name x pos'] e pos) (tAsg te (zr i)):=by
  intro pins s σ H D I h
  refine wpAny_Assign_Name (thn (he pins s σ H _ I h) fun v s1 hq0=>?_) hs
  obtain⟨y,H1,I1,r1,q1⟩:=hq0
  exact zcy I1 hN hi hx r1 (fun s2 I2=>⟨_,H1,I2,q1⟩) hf
def tPar (i j:Nat) (ta:TA):TS:=fun D σ H=>ta σ H fun vs H1=>∃v w,vs = [v,w]/\D.nx ((σ.set i (some v)).set j (some w)) H1
theorem zvi {i j:Nat}{x y:Str}{a b:Expr}{ta:TA}{px py pt:Pos} {kt k2 pt2}(hc:X.calm=true) (hN:X.N.Nodup) (hi:X.N[i]? = some x) (hj:X.N[j]? = some y) (hij:i≠j)
    (hx:X.env.scope.names.lookup x=some .local) (hy:X.env.scope.names.lookup y=some .local) (ha:PA X [a,b] ta)
    (hw:swappedStores [.Tuple [.Name x px,.Name y py] kt pt] (.Tuple [a,b] k2 pt2) X.env=pure (some [x,y]))
    (hs:swapsWithSole [.Tuple [.Name x px,.Name y py] kt pt] (.Tuple [a,b] k2 pt2) pos.line X.env=pure false:=by rfl) :
    PS X (.Assign [.Tuple [.Name x px,.Name y py] kt pt] (.Tuple [a,b] k2 pt2) pos) (tPar i j ta):=by
  intro pins s σ H D I h
  rw[exec_Assign_arm]
  refine wpAny_bind (wpAny_standAt ?_)
  rw[hs]
  refine wpAny_bind (wpAny_pure ?_)
  rw[if_neg (by decide)]
  refine wpAny_bind (Tuple_ (thn (ha _ pins s σ H _ I h) fun us s1 hq0=>?_))
  obtain⟨vs,H1,I1,r1,q1⟩:=hq0
  obtain⟨v,w,e1,q1⟩:=q1
  subst e1
  obtain⟨u1,u2,rfl,rv,rw'⟩:∃u1 u2,us = [u1,u2]/\RelV v u1/\RelV w u2:=by
    cases r1 with
    | cons p q=>
      cases q with
      | cons p' q'=>
        cases q'
        exact⟨_,_,rfl,p,p'⟩
  refine wpAny_newObj_type ?_ (by show 2<=sizeLine;decide)
  have I2:Inv X pins σ H1 { s1 with heap:=s1.heap.push { cls:=.type "tuple",data:=.seq [u1,u2].toArray } }:=I1.kept (t':=s1.toks) fun b o e=>Heap.get?_push_of_some _ e
  rw[hw]
  refine wpAny_bind (wpAny_pure ?_)
  show wpAny (model X.prog X.w) X.A (do rule "assign.swapped-stores";let items ←unpackItems (.ref s1.heap.objs.size) 2 none;assignInOrder [fun v=>bindName X.env y v,fun v=>bindName X.env x v] items.reverse;pure Flow.next) _ _ _
  refine wpAny_bind (wpAny_rule (wpAny_bind (unpackItems_tuple (items:=#[u1,u2]) (I.ok.hd hc) (IsTup.new s1.heap _) fun h' hx'=>?_)))
  have I3:=I2.kept (h':=h') (t':=s1.toks) fun b o e=>hx' b o (Nat.ne_of_lt (Heap.lt_size e)) e
  show wpAny _ _ (assignInOrder [fun v=>bindName X.env y v,fun v=>bindName X.env x v] [u2,u1] >>= fun _=>pure Flow.next) _ _ _
  refine wpAny_bind (assignInOrder_cons (wpAny_bindName (zcy I3 hN hj (.inl hy) rw' (fun s2 I4=>?_) (.inr hy))))
  refine assignInOrder_cons (wpAny_bindName (zcy I4 hN hi (.inl hx) rv (fun s3 I5=>assignInOrder_nil (wpAny_pure ?_)) (.inr hx)))
  rw[List.set_comm _ _ (Ne.symm hij)] at I5
  exact⟨_,H1,I5,q1⟩
end
section
variable {X:Cx}{pos:Pos}
def zvj (c:TT) (tb:TS):TS:=fun D σ H=>∃W:Nat->St->Hp->Prop,(∃m,W m σ H)/\∀m σ H,W m σ H->
  c σ H fun b H1=>if b=true then ∃N:St->Hp->Prop,(∀σ' H',N σ' H'->∃m',m'<m/\W m' σ' H')/\tb { D with nx:=N,ct:=N,bk:=D.nx } σ H1 else D.nx σ H1
theorem zgs {c:Expr}{body:List Stmt}{tc:TT}{tb:TS}(hp:PassesOwn (model X.prog X.w) X.A X.env X.xe) (hc:PT X c tc) (hb:PSs X body tb):PS X (.While c body [] pos) (zvj tc tb):=by
  intro pins s σ H D I h
  obtain⟨W,⟨m0,w0⟩,turn⟩:=h
  refine wpAny_While (codeAny_whileLoop (fun n s'=>∃σ' H',Inv X pins σ' H' s'/\W n σ' H') ?_ m0 ⟨σ,H,I,w0⟩)
  rintro n s1 ⟨σ1,H1,I1,w1⟩
  refine wpAny_passesOwn hp (thn (hc pins s1 σ1 H1 _ I1 (turn n σ1 H1 w1)) fun b s2 hq0=>?_)
  obtain⟨H2,I2,q2⟩:=hq0
  cases b with
  | true=>
    obtain⟨N,hN,q2⟩:=q2
    rw[if_pos rfl]
    refine wpAny_passesOwn hp (thn (hb pins s2 σ1 H2 _ I2 q2) fun f s3 q3=>?_)
    cases f with
    | next=>
      obtain⟨σ3,H3,I3,n3⟩:=q3
      obtain⟨m',hm,w3⟩:=hN σ3 H3 n3
      exact⟨m',hm,σ3,H3,I3,w3⟩
    | cont=>
      obtain⟨σ3,H3,I3,n3⟩:=q3
      obtain⟨m',hm,w3⟩:=hN σ3 H3 n3
      exact⟨m',hm,σ3,H3,I3,w3⟩
    | brk=>exact q3
    | ret v=>exact q3
  | false=>
    rw[if_neg Bool.false_ne_true]
    exact wpAny_execs_nil ⟨σ1,H2,I2,q2⟩
end
structure It where
  go:Nat->Hp->Prop
  yld:Nat->Hp->V->Hp->Prop
  stop:Nat->Hp->Prop
def FpOk (X:Cx) (pins:List (Addr×Obj)) (H:Hp) (b:Addr):Prop:=
  H b=none/\b≠X.env.locals/\b ∉ X.fs/\(b∈X.ex\/X.s₀.heap.objs.size<=b)/\(∀x c,X.env.cells.lookup x=some c->c≠b)/\∀p∈X.pn++pins,p.1≠b
theorem Inv.fpOk {X:Cx}{pins:List (Addr×Obj)}{σ:St}{H H':Hp}{s:Shared}{b:Addr}(I:Inv X pins σ H s) (hb:s.heap.objs.size<=b) (hn:H' b=none):FpOk X pins H' b:=by
  refine⟨hn,Nat.ne_of_gt (Nat.lt_of_lt_of_le I.lt hb),I.nofs hb,.inr (Nat.le_trans I.sz hb),fun x c e z=>?_,fun p hp z=>?_⟩
  · obtain⟨v,q⟩:=I.cell x c e
    exact absurd (Nat.lt_of_lt_of_le q.lt (by rw[z];exact hb)) (Nat.lt_irrefl _)
  · exact absurd (Nat.lt_of_lt_of_le (Heap.lt_size (I.pin p hp).1) (by rw[z];exact hb)) (Nat.lt_irrefl _)
structure Turn (P:Program) (w:World) (K:PySem.W.Frag) (tg:Expr) (J:It) (fp:List Addr) (it:Addr) (tn:Nat->Heap->Prop):Prop where
  mem:it∈fp
  obj:∀i h,tn i h->∀b∈fp,∃o,h.get? b=some o/\∀v,o.data≠.cell v
  keep:∀i h h',tn i h->(∀b∈fp,∀o,h.get? b=some o->h'.get? b=some o)->tn i h'
  item:∀(X:Cx),X.prog=P->X.w=w->X.K=K->X.calm=true->∀(i:Nat) (pins:List (Addr×Obj)) (s:Shared) (σ:St) (H:Hp) (E:Value->Shared->Prop),Inv X pins σ H s->(∀b∈fp,FpOk X pins H b)->tn i s.heap->J.go i H->
    wpAny (model P w) X.A (pyNext (.ref it)) (fun r s1=>∃u,r=some u/\
      wpAny (model P w) X.A (letOwnedTupleGo tg (.ref it) u) (fun _ s2=>∃x H',Inv X pins σ H' s2/\RelV x u/\J.yld i H x H'/\tn (i+1) s2.heap/\∀b∈fp,H' b=none) E s1) E s
  done:∀(X:Cx),X.prog=P->X.w=w->X.K=K->X.calm=true->∀(i:Nat) (pins:List (Addr×Obj)) (s:Shared) (σ:St) (H:Hp) (E:Value->Shared->Prop),Inv X pins σ H s->(∀b∈fp,FpOk X pins H b)->tn i s.heap->J.stop i H->
    wpAny (model P w) X.A (pyNext (.ref it)) (fun r s1=>r=none/\Inv X pins σ H s1) E s
  self:∀(A:Around) (i:Nat) (s:Shared) (Q:Value->Shared->Prop) (E:Value->Shared->Prop),tn i s.heap->Q (.ref it) s->wpAny (model P w) A (pyIter (.ref it)) Q E s
abbrev TI:=St->Hp->(It->Hp->Prop)->Prop
def PIE (X:Cx) (pins:List (Addr×Obj)) (σ:St) (tg:Expr) (R:It->Hp->Prop) (itv:Value) (s2:Shared):Prop:=
  ∃(it:Addr) (fp:List Addr) (tn:Nat->Heap->Prop) (J:It) (H':Hp),itv = .ref it/\Inv X pins σ H' s2/\Turn X.prog X.w X.K tg J fp it tn/\tn 0 s2.heap/\(∀b∈fp,FpOk X pins H' b)/\R J H'
def PI (X:Cx) (tg iter:Expr) (wi:TI):Prop:=
  ∀(pins:List (Addr×Obj)) (s:Shared) (σ:St) (H:Hp) (R:It->Hp->Prop),Inv X pins σ H s->wi σ H R->
    wpAny (model X.prog X.w) X.A (eval iter X.env) (fun v s1=>wpAny (model X.prog X.w) X.A (pyIter v) (PIE X pins σ tg R) X.xe s1) X.xe s
theorem zqx {M:Model}{A:Around}{E:Value->Shared->Prop}{s:Shared}{tg:Expr}{it:Addr}{u:Value}{o:Obj}{n:String}{vs:Array Value}{Q:Unit->Shared->Prop}(ho:s.heap.get? it=some o) (hc:o.cls = .type n) (hd:o.data = .fields vs)
    (hn : ["enumerate","zip","dict_itemiterator","dict_reverseitemiterator","odict_iterator","itertools.zip_longest","itertools.pairwise"].contains n=false) (hQ:Q () s):wpAny M A (letOwnedTupleGo tg (.ref it) u) Q E s:=by
  unfold letOwnedTupleGo
  cases tg<;>first
    | exact wpAny_pure hQ
    | (cases u<;>first
        | exact wpAny_pure hQ
        | (refine wpAny_bind (wpAny_load ho ?_)
           rw[hc,hd]
           show wpAny M A (if (["enumerate","zip","dict_itemiterator","dict_reverseitemiterator","odict_iterator","itertools.zip_longest","itertools.pairwise"].contains n&&vs[0]? == some (rawInt _))=true then _ else _) Q E s
           rw[if_neg (by intro h;rw[hn,Bool.false_and] at h;cases h)]
           exact wpAny_pure hQ))
def Itl (K:PySem.W.Frag) (a:Addr):It:=
  ⟨fun i H=>∃xs x,SqL K H a xs/\xs[i]? = some x,fun i H x H'=>H'=H/\∀xs,SqL K H a xs->xs[i]? = some x,fun i H=>∃xs,SqL K H a xs/\xs.length<=i⟩
def Itr (lo:Int) (n:Nat):It:=⟨fun i _=>i<n,fun i H x H'=>H'=H/\x = .int (lo+i),fun i _=>n<=i⟩
theorem znm {P:Program}{w:World}{K:PySem.W.Frag}{tg:Expr}(a it:Addr):Turn P w K tg (Itl K a) [it] it (fun i h=>h.IsListIter it a i) where
  mem:=by simp
  obj:=fun i h st b hb=>by
    have e:b=it:=by simpa using hb
    subst e
    obtain⟨o,e,c,d⟩:=st
    exact⟨o,e,fun v z=>by rw[d] at z;cases z⟩
  keep:=fun i h h' st k=>st.at fun o e=>k it (by simp) o e
  item:=by
    intro X hP hw hK hc i pins s σ H E I hf st hg
    subst hP hw hK
    obtain⟨xs,x,hq,hx⟩:=hg
    obtain⟨its,rv,p,hz⟩:=I.list hq
    obtain⟨u,hu,ru⟩:=rv.get hx
    obtain⟨f0,f1,f2,f3,f4,f5⟩:=hf it (by simp)
    refine wpAny_pyNext_list_item st p.isList (x:=u) (by simpa using hu) fun h' st' sb=>?_
    have I1:Inv X pins σ H { s with heap:=h' }:=I.turned (t':=s.toks) (fun b o hb e=>(sb.2 b hb).trans e) f0 f1 f3 f4 f5
    obtain⟨o,e,c,d⟩:=id st'
    exact⟨u,rfl,zqx (s:={ s with heap:=h' }) e c d (by decide) ⟨x,H,I1,ru,⟨rfl,fun ys hy=>by rw[I.list_inj hy hq];exact hx⟩,st',fun b hb=>(hf b hb).1⟩⟩
  done:=by
    intro X hP hw hK hc i pins s σ H E I hf st hg
    subst hP hw hK
    obtain⟨xs,hq,hx⟩:=hg
    obtain⟨its,rv,p,hz⟩:=I.list hq
    obtain⟨f0,f1,f2,f3,f4,f5⟩:=hf it (by simp)
    have hl:=rv.length
    exact wpAny_pyNext_list_end (I.ok.hd hc) st p.isList (by simp;omega) fun h' eb=>⟨rfl,I.turned (t':=s.toks) (fun b o hb e=>eb b o hb e) f0 f1 f3 f4 f5⟩
  self:=fun _ _ _ _ _ st h=>wpAny_pyIter_listiter st h
theorem zl8 {P:Program}{w:World}{K:PySem.W.Frag}{tg:Expr}(it:Addr) (lo:Int) (n:Nat):Turn P w K tg (Itr lo n) [it] it (fun i h=>IsRangeIter h it (lo+(i:Nat) * 1) ((n:Int)-(i:Nat)) 1) where
  mem:=by simp
  obj:=fun i h st b hb=>by
    have e:b=it:=by simpa using hb
    subst e
    exact⟨_,st,fun v z=>by
      have z':Data.fields _=Data.cell v:=z
      cases z'⟩
  keep:=fun i h h' st k=>k it (by simp) _ st
  item:=by
    intro X hP hw hK hc i pins s σ H E I hf st hg
    subst hP hw hK
    obtain⟨f0,f1,f2,f3,f4,f5⟩:=hf it (by simp)
    have W:=Walks.range (prog:=X.prog) (w:=X.w) (I.ok.hd hc) it lo 1 n
    refine W.item i s _ _ hg st fun v h' tk hv st' kk=>?_
    obtain⟨t,rfl⟩:=hv
    have I1:Inv X pins σ H { s with heap:=h',toks:=tk }:=I.turned (fun b o hb e=>kk b o (by simpa using hb) e) f0 f1 f3 f4 f5
    refine⟨_,rfl,zqx (s:={ s with heap:=h',toks:=tk }) (n:="range_iterator") st' rfl rfl (by decide) ⟨.int (lo+i),H,I1,⟨t,?_⟩,⟨rfl,rfl⟩,st',fun b hb=>(hf b hb).1⟩⟩
    rw[Int.mul_one]
  done:=by
    intro X hP hw hK hc i pins s σ H E I hf st hg
    subst hP hw hK
    obtain⟨f0,f1,f2,f3,f4,f5⟩:=hf it (by simp)
    exact wpAny_pyNext_range_end (I.ok.hd hc) st (by have:n<=i:=hg;omega) fun h' eb=>⟨rfl,I.turned (t':=s.toks) (fun b o hb e=>eb b o hb e) f0 f1 f3 f4 f5⟩
  self:=fun _ _ _ _ _ st h=>wpAny_pyIter_rangeiter st h
section
variable {X:Cx}{tg:Expr}
def zvk (K:PySem.W.Frag) (tl:TE):TI:=fun σ H R=>tl σ H fun x H1=>∃a,x = .ref a/\(∃xs,SqL K H1 a xs)/\R (Itl K a) H1
theorem ztj {l:Expr}{tl:TE}(hl:PE X l tl):PI X tg l (zvk X.K tl):=by
  intro pins s σ H R I h
  refine thn (hl pins s σ H _ I h) fun v s1 hq0=>?_
  obtain⟨x,H1,I1,r1,q1⟩:=hq0
  obtain⟨a,e,⟨xs,hq⟩,q⟩:=q1
  subst e
  cases r1
  obtain⟨its,rv,p,hz⟩:=I1.list hq
  refine wpAny_pyIter_list p.isList ?_
  refine⟨s1.heap.objs.size,[s1.heap.objs.size],_,_,H1,rfl,I1.kept (t':=s1.toks) fun b o e=>Heap.get?_push_of_some _ e,znm a _,⟨_,Heap.get?_push_size _ rfl,rfl,rfl⟩,fun b hb=>?_,q⟩
  have e:b=s1.heap.objs.size:=by simpa using hb
  subst e
  exact I1.fpOk (Nat.le_refl _) (I1.hok.fresh (Nat.le_refl _))
theorem zqy {pins:List (Addr×Obj)}{σ:St}{H:Hp}{s:Shared}{R:It->Hp->Prop}{E:Value->Shared->Prop}{lo hi:Int}{t u v:Tok}{tk:Nat}(I:Inv X pins σ H s) (h1 : -(2 ^ 62)<=lo) (h2:lo<2 ^ 62) (h3 : -(2 ^ 62)<=hi) (h4:hi<2 ^ 62)
    (q:R (Itr lo (hi-lo).toNat) H):wpAny (model X.prog X.w) X.A (pyIter (.ref s.heap.objs.size)) (PIE X pins σ tg R) E { s with heap:=s.heap.push { cls:=.type "range",data:=.fields #[.int lo t,.int hi u,.int 1 v] },toks:=tk }:=by
  refine wpAny_pyIter_range (IsRange.new ..) (small_one h1 h2 h3 h4) ?_
  have I1:Inv X pins σ H { s with heap:=s.heap.push { cls:=.type "range",data:=.fields #[.int lo t,.int hi u,.int 1 v] },toks:=tk }:=I.kept fun b o e=>Heap.get?_push_of_some _ e
  refine⟨(s.heap.push { cls:=.type "range",data:=.fields #[.int lo t,.int hi u,.int 1 v] }).objs.size,[(s.heap.push { cls:=.type "range",data:=.fields #[.int lo t,.int hi u,.int 1 v] }).objs.size],_,_,H,rfl,
    I1.kept (t':=tk) fun b o e=>Heap.get?_push_of_some _ e,zl8 _ lo (hi-lo).toNat,?_,fun b hb=>?_,q⟩
  · have e1:lo+((0:Nat):Int) * 1=lo:=by simp
    have e2:(((hi-lo).toNat:Nat):Int)-((0:Nat):Int)=Builtin.Range.rangeSize lo hi 1:=by rw[rangeSize_one];split<;>omega
    show IsRangeIter _ _ (lo+((0:Nat):Int) * 1) ((((hi-lo).toNat:Nat):Int)-((0:Nat):Int)) 1
    rw[e1,e2]
    exact Heap.get?_push_size _ rfl
  · have e:b=(s.heap.push { cls:=.type "range",data:=.fields #[.int lo t,.int hi u,.int 1 v] }).objs.size:=by simpa using hb
    subst e
    exact I1.fpOk (Nat.le_refl _) (I1.hok.fresh (Nat.le_refl _))
def zw5 (ta:TA):TI:=fun σ H R=>ta σ H fun vs H1=>∃j:Int,vs = [.int j]/\-(2 ^ 62)<=j/\j<2 ^ 62/\R (Itr 0 j.toNat) H1
theorem zb5 {a:Expr}{ta:TA}{p pos:Pos}(hg:Gl X "range") (hm:X.mg "range" = none) (ha:PA X [a] ta) (hs:starEach [a] X.env = [(false,eval a X.env)]:=by rfl):PI X tg (.Call (.Name "range" p) [a] [] pos) (zw5 ta):=by
  intro pins s σ H R I h
  refine Call_ (zhj I hg hm boot_range (PyProof.Rows.callWith_type1 (thn (ha pos pins s σ H _ I h) fun us s1 hq0=>?_) hs rfl))
  obtain⟨vs,H1,I1,r1,q1⟩:=hq0
  obtain⟨j,e,q1,q2,q⟩:=q1
  subst e
  cases r1 with
  | cons r rr=>
    cases rr
    obtain⟨t,rfl⟩:=r
    exact call_range_1 (zqy I1 (by omega) (by omega) q1 q2 (by simpa using q))
def tFor (wi:TI) (g:TG) (tb:TS):TS:=fun D σ H=>wi σ H fun J H1=>∃W:Nat->Nat->St->Hp->Prop,(∃m,W 0 m σ H1)/\∀i m σ H,W i m σ H->
  (J.stop i H/\D.nx σ H)\/(J.go i H/\∃N:St->Hp->Prop,(∀σ' H',N σ' H'->∃m',m'<m/\W (i+1) m' σ' H')/\∀x H',J.yld i H x H'->g x σ H' fun σ2 H2=>tb { D with nx:=N,ct:=N,bk:=D.nx } σ2 H2)
def zhl (fp:List Addr) (h:Heap):List (Addr×Obj):=fp.filterMap fun b=>(h.get? b).map fun o=>(b,o)
theorem zcz {fp:List Addr}{h:Heap}{b:Addr}{o:Obj}(hb:b∈fp) (e:h.get? b=some o):(b,o)∈zhl fp h:=List.mem_filterMap.mpr ⟨b,hb,by rw[e];rfl⟩
theorem znn {fp:List Addr}{h:Heap}{p:Addr×Obj}(hp:p∈zhl fp h):p.1∈fp/\h.get? p.1=some p.2:=by
  obtain⟨b,hb,e⟩:=List.mem_filterMap.mp hp
  cases q:h.get? b with
  | none=>rw[q] at e;cases e
  | some o=>
    rw[q] at e
    have e':(b,o)=p:=Option.some.inj e
    subst e'
    exact⟨hb,q⟩
theorem Inv.pinned {pins:List (Addr×Obj)}{σ:St}{H:Hp}{s:Shared}{fp:List Addr}(I:Inv X pins σ H s) (hf:∀b∈fp,FpOk X pins H b) (ho:∀b∈fp,∃o,s.heap.get? b=some o/\∀v,o.data≠.cell v):Inv X (pins++zhl fp s.heap) σ H s:=
  I.pins_of fun p hp=>(List.mem_append.mp hp).elim (fun z=>I.pin p (List.mem_append_right _ z)) fun z=>by
    obtain⟨hb,e⟩:=znn z
    obtain⟨f0,f1,f2,_⟩:=hf p.1 hb
    obtain⟨o,e',d⟩:=ho p.1 hb
    rw[e] at e';cases e'
    exact⟨e,f0,f1,f2,d⟩
theorem Inv.unpinned {pins pl:List (Addr×Obj)}{σ:St}{H:Hp}{s:Shared}(I:Inv X (pins++pl) σ H s):Inv X pins σ H s:=I.pins_of fun p hp=>I.pin p (List.mem_append_right _ (List.mem_append_left _ hp))
theorem zaj {iter:Expr}{body:List Stmt}{wi:TI}{g:TG}{tb:TS}{pos:Pos}(hp:PassesOwn (model X.prog X.w) X.A X.env X.xe) (hc:X.calm=true) (hi:PI X tg iter wi) (hg:PG X tg g) (hb:PSs X body tb)
    (hs:∀x,foldedSetIterable iter X.env x=pure x:=by intro _;rfl):PS X (.For tg iter body [] pos) (tFor wi g tb):=by
  intro pins s σ H D I h
  refine wpAny_For (thn (hi pins s σ H _ I h) fun v s1 h1=>thn h1 fun itv s2 h2=>?_) hs
  obtain⟨it,fp,tn,J,H2,e,I2,T,st2,f2,W,⟨m0,w0⟩,turn⟩:=h2
  subst e
  have stat:∀{H':Hp},(∀b∈fp,H' b=none)->∀b∈fp,FpOk X pins H' b:=fun hn b hb=>⟨hn b hb,(f2 b hb).2⟩
  refine codeAny_forLoop_any (fun n s'=>∃i σ' H',Inv X pins σ' H' s'/\tn i s'.heap/\(∀b∈fp,H' b=none)/\W i n σ' H') ?_ m0 ⟨0,σ,H2,I2,st2,fun b hb=>(f2 b hb).1,w0⟩
  rintro n s3 ⟨i,σ3,H3,I3,st3,fr3,w3⟩
  rcases turn i n σ3 H3 w3 with ⟨stop,qn⟩ | ⟨go,N,hN,step⟩
  · refine wpAny_passesOwn hp (thn (T.done X rfl rfl rfl hc i pins s3 σ3 H3 X.xe I3 (stat fr3) st3 stop) fun r s4 hq0=>?_)
    obtain⟨hr,I4⟩:=hq0
    subst hr
    exact wpAny_execs_nil ⟨σ3,H3,I4,qn⟩
  · refine wpAny_passesOwn hp (thn (T.item X rfl rfl rfl hc i pins s3 σ3 H3 X.xe I3 (stat fr3) st3 go) fun r s4 hq0=>?_)
    obtain⟨u,hr,h4⟩:=hq0
    subst hr
    refine wpAny_passesOwn hp (thn h4 fun _ s5 hq0=>?_)
    obtain⟨x,H5,I5,r5,y5,st5,fr5⟩:=hq0
    have I5':=I5.pinned (stat fr5) (T.obj _ _ st5)
    refine wpAny_passesOwn hp (thn (hg _ s5 σ3 H5 x u _ I5' r5 (step x H5 y5)) fun _ s6 hq0=>?_)
    obtain⟨σ6,H6,I6,q6⟩:=hq0
    refine wpAny_passesOwn hp (thn (hb _ s6 σ6 H6 _ I6 q6) fun f s7 q7=>?_)
    have again:∀{σ7:St}{H7:Hp},Inv X (pins++zhl fp s5.heap) σ7 H7 s7->N σ7 H7->∃m,m<n/\∃i σ' H',Inv X pins σ' H' s7/\tn i s7.heap/\(∀b∈fp,H' b=none)/\W i m σ' H':=fun {σ7 H7} I7 n7=>by
      obtain⟨m',hm,w7⟩:=hN σ7 H7 n7
      refine⟨m',hm,i+1,σ7,H7,I7.unpinned,T.keep _ _ _ st5 fun b hb o e=>(I7.pin (b,o) (List.mem_append_right _ (List.mem_append_right _ (zcz hb e)))).1,fun b hb=>?_,w7⟩
      obtain⟨o,e,d⟩:=T.obj _ _ st5 b hb
      exact (I7.pin (b,o) (List.mem_append_right _ (List.mem_append_right _ (zcz hb e)))).2.1
    cases f with
    | next=>obtain⟨σ7,H7,I7,n7⟩:=q7;exact again I7 n7
    | cont=>obtain⟨σ7,H7,I7,n7⟩:=q7;exact again I7 n7
    | brk=>obtain⟨σ7,H7,I7,q7⟩:=q7;exact⟨σ7,H7,I7.unpinned,q7⟩
    | ret v=>obtain⟨x7,σ7,H7,I7,r7,q7⟩:=q7;exact⟨x7,σ7,H7,I7.unpinned,r7,q7⟩
end
theorem zah {K:PySem.W.Frag}{a:Addr}{xs:List V}{g:TG}{tb:TS}{D:Ends}{σ:St}{H:Hp}(Pv:Nat->St->Hp->Prop) (h0:Pv 0 σ H) (hl:∀i σ H,i<=xs.length->Pv i σ H->SqL K H a xs)
    (hs:∀i x σ H,xs[i]? = some x->Pv i σ H->g x σ H fun σ2 H2=>tb { D with nx:=Pv (i+1),ct:=Pv (i+1),bk:=D.nx } σ2 H2) (hd:∀σ H,Pv xs.length σ H->D.nx σ H) :
    ∃W:Nat->Nat->St->Hp->Prop,(∃m,W 0 m σ H)/\∀i m σ H,W i m σ H->
      ((Itl K a).stop i H/\D.nx σ H)\/((Itl K a).go i H/\∃N:St->Hp->Prop,(∀σ' H',N σ' H'->∃m',m'<m/\W (i+1) m' σ' H')/\∀x H',(Itl K a).yld i H x H'->g x σ H' fun σ2 H2=>tb { D with nx:=N,ct:=N,bk:=D.nx } σ2 H2):=by
  refine⟨fun i m σ H=>m=xs.length-i/\i<=xs.length/\Pv i σ H,⟨xs.length,by simp,Nat.zero_le _,h0⟩,?_⟩
  rintro i m σ H ⟨rfl,hi,p⟩
  have q:=hl i σ H hi p
  by_cases hlt:i<xs.length
  · refine .inr ⟨⟨xs,xs[i],q,by simp[hlt]⟩,Pv (i+1),fun σ' H' p'=>⟨xs.length-(i+1),by omega,rfl,hlt,p'⟩,fun x H' y=>?_⟩
    obtain⟨e,y⟩:=y
    subst e
    exact hs i x σ _ (y xs q) p
  · have e:i=xs.length:=by omega
    subst e
    exact .inl ⟨⟨xs,q,Nat.le_refl _⟩,hd σ H p⟩
theorem zcr {lo:Int}{n:Nat}{g:TG}{tb:TS}{D:Ends}{σ:St}{H:Hp}(Pv:Nat->St->Hp->Prop) (h0:Pv 0 σ H)
    (hs:∀i σ H,i<n->Pv i σ H->g (.int (lo+i)) σ H fun σ2 H2=>tb { D with nx:=Pv (i+1),ct:=Pv (i+1),bk:=D.nx } σ2 H2) (hd:∀σ H,Pv n σ H->D.nx σ H) :
    ∃W:Nat->Nat->St->Hp->Prop,(∃m,W 0 m σ H)/\∀i m σ H,W i m σ H->
      ((Itr lo n).stop i H/\D.nx σ H)\/((Itr lo n).go i H/\∃N:St->Hp->Prop,(∀σ' H',N σ' H'->∃m',m'<m/\W (i+1) m' σ' H')/\∀x H',(Itr lo n).yld i H x H'->g x σ H' fun σ2 H2=>tb { D with nx:=N,ct:=N,bk:=D.nx } σ2 H2):=by
  refine⟨fun i m σ H=>m=n-i/\i<=n/\Pv i σ H,⟨n,by simp,Nat.zero_le _,h0⟩,?_⟩
  rintro i m σ H ⟨rfl,hi,p⟩
  by_cases hlt:i<n
  · refine .inr ⟨hlt,Pv (i+1),fun σ' H' p'=>⟨n-(i+1),by omega,rfl,hlt,p'⟩,fun x H' y=>?_⟩
    obtain⟨e,y⟩:=y
    subst e y
    exact hs i σ _ hlt p
  · have e:i=n:=by omega
    subst e
    exact .inl ⟨Nat.le_refl _,hd σ H p⟩
abbrev R2:=V->V->Hp->VK->Prop
def OpR (X:Cx) (f:Value->Value->Sem Value) (r:R2):Prop:=
  ∀(pins:List (Addr×Obj)) (s:Shared) (σ:St) (H:Hp) (x y:V) (v u:Value) (Q:VK),Inv X pins σ H s->RelV x v->RelV y u->r x y H Q->
    wpAny (model X.prog X.w) X.A (f v u) (EP X pins σ Q) X.xe s
def UnR (X:Cx) (f:Value->Sem Value) (r:V->Hp->VK->Prop):Prop:=
  ∀(pins:List (Addr×Obj)) (s:Shared) (σ:St) (H:Hp) (x:V) (v:Value) (Q:VK),Inv X pins σ H s->RelV x v->r x H Q->
    wpAny (model X.prog X.w) X.A (f v) (EP X pins σ Q) X.xe s
def zbp (X:Cx) (f:Value) (r:List V->Hp->VK->Prop):Prop:=
  ∀(pins:List (Addr×Obj)) (s:Shared) (σ:St) (H:Hp) (xs:List V) (us:List Value) (Q:VK),Inv X pins σ H s->Vals xs us->r xs H Q->
    wpAny (model X.prog X.w) X.A (call f us) (EP X pins σ Q) X.xe s
def tOp (r:R2) (ta tb:TE):TE:=fun σ H Q=>ta σ H fun x H1=>tb σ H1 fun y H2=>r x y H2 Q
def tUn (r:V->Hp->VK->Prop) (ta:TE):TE:=fun σ H Q=>ta σ H fun x H1=>r x H1 Q
def rI (C:Int->Int->Prop) (g:Int->Int->V):R2:=fun x y H Q=>∃i j,x = .int i/\y = .int j/\C i j/\Q (g i j) H
def rI0 (g:Int->Int->V):R2:=fun x y H Q=>∃i j,x = .int i/\y = .int j/\Q (g i j) H
def rU (g:Int->V):V->Hp->VK->Prop:=fun x H Q=>∃i,x = .int i/\Q (g i) H
section
variable {X:Cx}{a b c:Expr}{ta tb tc:TE}{pos:Pos}
theorem binT (ha:PE X a ta) (hb:PE X b tb) {pins:List (Addr×Obj)}{s:Shared}{σ:St}{H:Hp}{R:V->V->Hp->Prop}(I:Inv X pins σ H s)
    (h:ta σ H fun x H1=>tb σ H1 fun y H2=>R x y H2) {Q:Value->Shared->Prop}{f:Value->Value->Sem Value}
    (hf:∀v u s2 x y H2,Inv X pins σ H2 s2->RelV x v->RelV y u->R x y H2->wpAny (model X.prog X.w) X.A (f v u) Q X.xe s2) :
    wpAny (model X.prog X.w) X.A (eval a X.env) (fun v s₁=>wpAny (model X.prog X.w) X.A (eval b X.env) (fun u s₂=>wpAny (model X.prog X.w) X.A (f v u) Q X.xe s₂) X.xe s₁) X.xe s:=by
  refine thn (ha pins s σ H _ I h) fun v s1 hq0=>?_
  obtain⟨x,H1,I1,r1,q1⟩:=hq0
  refine thn (hb pins s1 σ H1 _ I1 q1) fun u s2 hq0=>?_
  obtain⟨y,H2,I2,r2,q2⟩:=hq0
  exact hf v u s2 x y H2 I2 r1 r2 q2
theorem zak {op:Operator}{r:R2}(ho:OpR X (binaryOp op) r) (ha:PE X a ta) (hb:PE X b tb):PE X (.BinOp a op b pos) (tOp r ta tb):=by
  intro pins s σ H Q I h
  exact wpAny_BinOp (binT ha hb I h fun v u s2 x y H2 I2 rx ry q=>ho pins s2 σ H2 x y v u Q I2 rx ry q)
theorem zw6 {op:UnaryOp}{r:V->Hp->VK->Prop}(ho:UnR X (unaryOp op) r) (ha:PE X a ta):PE X (.UnaryOp op a pos) (tUn r ta):=by
  intro pins s σ H Q I h
  exact UnaryOp_ (thn (ha pins s σ H _ I h) fun v s1 ⟨x,H1,I1,r1,q1⟩=>ho pins s1 σ H1 x v Q I1 r1 q1)
theorem opI {f:Value->Value->Sem Value}{C:Int->Int->Prop}{g:Int->Int->Int}
    (rule:∀(i j:Int) (t u:Tok) (s:Shared) (Q:Value->Shared->Prop) (E:Value->Shared->Prop),C i j->Q (.int (g i j) s.toks) { s with toks:=s.toks+1 }->wpAny (model X.prog X.w) X.A (f (.int i t) (.int j u)) Q E s) :
    OpR X f (rI C fun i j=>.int (g i j)):=by
  intro pins s σ H x y v u Q I rx ry h
  obtain⟨i,j,rfl,rfl,hc,q⟩:=h
  obtain⟨t,rfl⟩:=rx
  obtain⟨t',rfl⟩:=ry
  exact rule i j t t' s _ _ hc ⟨.int (g i j),H,I.tok _,⟨_,rfl⟩,q⟩
theorem opI0 {f:Value->Value->Sem Value}{g:Int->Int->Int}
    (rule:∀(i j:Int) (t u:Tok) (s:Shared) (Q:Value->Shared->Prop) (E:Value->Shared->Prop),Q (.int (g i j) s.toks) { s with toks:=s.toks+1 }->wpAny (model X.prog X.w) X.A (f (.int i t) (.int j u)) Q E s) :
    OpR X f (rI0 fun i j=>.int (g i j)):=by
  intro pins s σ H x y v u Q I rx ry h
  obtain⟨i,j,rfl,rfl,q⟩:=h
  obtain⟨t,rfl⟩:=rx
  obtain⟨t',rfl⟩:=ry
  exact rule i j t t' s _ _ ⟨.int (g i j),H,I.tok _,⟨_,rfl⟩,q⟩
theorem opB0 {f:Value->Value->Sem Value}{g:Int->Int->Bool}
    (rule:∀(i j:Int) (t u:Tok) (s:Shared) (Q:Value->Shared->Prop) (E:Value->Shared->Prop),Q (.bool (g i j)) s->wpAny (model X.prog X.w) X.A (f (.int i t) (.int j u)) Q E s) :
    OpR X f (rI0 fun i j=>.bl (g i j)):=by
  intro pins s σ H x y v u Q I rx ry h
  obtain⟨i,j,rfl,rfl,q⟩:=h
  obtain⟨t,rfl⟩:=rx
  obtain⟨t',rfl⟩:=ry
  exact rule i j t t' s _ _ ⟨.bl (g i j),H,I,rfl,q⟩
def CPow (i j:Int):Prop:=0<=j/\j<=1000000/\i.natAbs<2 ^ 64
def CMul (i j:Int):Prop:=(-(2 ^ 64)<i/\i<2 ^ 64)\/(-(2 ^ 64)<j/\j<2 ^ 64)
theorem CMul.ok {i j:Int}(h:CMul i j):IntMulOk i j:=by
  rcases h with ⟨h1,h2⟩ | ⟨h1,h2⟩
  · exact .of_left (intBits_le_64 h1 h2)
  · exact .of_right (intBits_le_64 h1 h2)
theorem zba:OpR X (binaryOp .Add) (rI0 fun i j=>.int (i+j)):=opI0 fun _ _ _ _ _ _ _ q=>add_int q
theorem zla:OpR X (binaryOp .Sub) (rI0 fun i j=>.int (i-j)):=opI0 fun _ _ _ _ _ _ _ q=>sub_int q
theorem zlb:OpR X (binaryOp .Mult) (rI CMul fun i j=>.int (i * j)):=opI fun _ _ _ _ _ _ _ hc q=>mul_int q hc.ok
theorem zc7:OpR X (binaryOp .Mod) (rI (fun _ j=>0<j) fun i j=>.int (i%j)):=opI fun i j _ _ _ _ _ hc q=>by
  have h1:(0:Int)<j:=hc
  exact mod_int' (by omega) (by rw[Int.fmod_eq_emod_of_nonneg i (by omega)];exact q)
theorem zvl:OpR X (binaryOp .Pow) (rI CPow fun i j=>.int (i ^ j.toNat)):=opI fun _ _ _ _ _ _ _ hc q=>pow_int_small hc.1 hc.2.1 hc.2.2 q
theorem unI {f:Value->Sem Value}{g:Int->Int}
    (rule:∀(i:Int) (t:Tok) (s:Shared) (Q:Value->Shared->Prop) (E:Value->Shared->Prop),Q (.int (g i) s.toks) { s with toks:=s.toks+1 }->wpAny (model X.prog X.w) X.A (f (.int i t)) Q E s) :
    UnR X f (rU fun i=>.int (g i)):=by
  intro pins s σ H x v Q I rx h
  obtain⟨i,rfl,q⟩:=h
  obtain⟨t,rfl⟩:=rx
  exact rule i t s _ _ ⟨.int (g i),H,I.tok _,⟨_,rfl⟩,q⟩
theorem zvm:UnR X (unaryOp .USub) (rU fun i=>.int (-i)):=unI fun _ _ _ _ _ q=>neg_int q
end
def scal:V->V->Bool
  | .non,.non=>true | .non,.int _=>true | .int _,.non=>true | .non,.bl _=>true | .bl _,.non=>true | .non,.str _=>true | .str _,.non=>true
  | .int _,.int _=>true | .bl _,.bl _=>true | .str _,.str _=>true | .byt _,.byt _=>true
  | .int _,.str _=>true | .str _,.int _=>true | .bl _,.str _=>true | .str _,.bl _=>true
  | _,_=>false
def rEq:R2:=fun x y H Q=>scal x y=true/\Q (.bl (decide (x=y))) H
def rNe:R2:=fun x y H Q=>scal x y=true/\Q (.bl (!decide (x=y))) H
theorem zno {i j:Int}:decide (V.int i=V.int j)=(i == j):=by
  rw[Bool.eq_iff_iff]
  simp
theorem zsp {i j:Bool}:decide (V.bl i=V.bl j)=(i == j):=by
  rw[Bool.eq_iff_iff]
  simp
theorem znp {i j:Str}:decide (V.str i=V.str j)=(i == j):=by
  rw[Bool.eq_iff_iff]
  simp
theorem znq {i j:Array UInt8}:decide (V.byt i=V.byt j)=(i.toList == j.toList):=by
  rw[Bool.eq_iff_iff]
  cases i
  cases j
  simp
section
variable {X:Cx}{a b c:Expr}{ta tb tc:TE}{pos:Pos}
theorem zas {pins:List (Addr×Obj)}{σ:St}{H:Hp}{s:Shared}{Q:VK}{k k':Bool}(I:Inv X pins σ H s) (q:Q (.bl k) H) (e:k=k'):EP X pins σ Q (.bool k') s:=by
  subst e
  exact⟨.bl k,H,I,rfl,q⟩
theorem zdp:OpR X (compareOp .Eq) rEq:=by
  intro pins s σ H x y v u Q I rx ry h
  obtain⟨hs,q⟩:=h
  cases x with
  | non=>
    cases rx
    cases y with
    | non=>cases ry;exact PySem.EqNone.eq_none_none (zas I q (by simp))
    | bl j=>cases ry;exact PySem.EqNone.eq_none_bool (zas I q (by simp))
    | int j=>obtain⟨t',rfl⟩:=ry;exact PySem.EqNone.eq_none_int (zas I q (by simp))
    | str j=>obtain⟨t',rfl⟩:=ry;exact PySem.EqNone.eq_none_str (zas I q (by simp))
    | _=>exact absurd (show false=true from hs) Bool.false_ne_true
  | bl i=>
    cases rx
    cases y with
    | non=>cases ry;exact PySem.EqNone.eq_bool_none (zas I q (by simp))
    | bl j=>cases ry;exact eq_bool (zas I q zsp)
    | str j=>obtain⟨t',rfl⟩:=ry;exact PySem.EqMixed.eq_bool_str (zas I q (by simp))
    | _=>exact absurd (show false=true from hs) Bool.false_ne_true
  | int i=>
    obtain⟨t,rfl⟩:=rx
    cases y with
    | non=>cases ry;exact PySem.EqNone.eq_int_none (zas I q (by simp))
    | int j=>obtain⟨t',rfl⟩:=ry;exact eq_int (zas I q zno)
    | str j=>obtain⟨t',rfl⟩:=ry;exact PySem.EqMixed.eq_int_str (zas I q (by simp))
    | _=>exact absurd (show false=true from hs) Bool.false_ne_true
  | str i=>
    obtain⟨t,rfl⟩:=rx
    cases y with
    | non=>cases ry;exact PySem.EqNone.eq_str_none (zas I q (by simp))
    | bl j=>cases ry;exact PySem.EqMixed.eq_str_bool (zas I q (by simp))
    | int j=>obtain⟨t',rfl⟩:=ry;exact PySem.EqMixed.eq_str_int (zas I q (by simp))
    | str j=>obtain⟨t',rfl⟩:=ry;exact eq_str (zas I q znp)
    | _=>exact absurd (show false=true from hs) Bool.false_ne_true
  | byt i=>
    obtain⟨t,rfl⟩:=rx
    cases y with
    | byt j=>obtain⟨t',rfl⟩:=ry;exact PySem.W.eq_bytes (zas I q znq)
    | _=>exact absurd (show false=true from hs) Bool.false_ne_true
  | _=>cases y<;>exact absurd (show false=true from hs) Bool.false_ne_true
theorem zvn:OpR X (compareOp .NotEq) rNe:=by
  intro pins s σ H x y v u Q I rx ry h
  obtain⟨hs,q⟩:=h
  cases x with
  | non=>
    cases rx
    cases y with
    | non=>cases ry;exact PySem.EqNone.ne_none_none (zas I q (by simp))
    | bl j=>cases ry;exact PySem.EqNone.ne_none_bool (zas I q (by simp))
    | int j=>obtain⟨t',rfl⟩:=ry;exact PySem.EqNone.ne_none_int (zas I q (by simp))
    | str j=>obtain⟨t',rfl⟩:=ry;exact PySem.EqNone.ne_none_str (zas I q (by simp))
    | _=>exact absurd (show false=true from hs) Bool.false_ne_true
  | bl i=>
    cases rx
    cases y with
    | non=>cases ry;exact PySem.EqNone.ne_bool_none (zas I q (by simp))
    | bl j=>cases ry;exact ne_bool (zas I q (congrArg not zsp))
    | str j=>obtain⟨t',rfl⟩:=ry;exact PySem.EqMixed.ne_bool_str (zas I q (by simp))
    | _=>exact absurd (show false=true from hs) Bool.false_ne_true
  | int i=>
    obtain⟨t,rfl⟩:=rx
    cases y with
    | non=>cases ry;exact PySem.EqNone.ne_int_none (zas I q (by simp))
    | int j=>obtain⟨t',rfl⟩:=ry;exact ne_int (zas I q (congrArg not zno))
    | str j=>obtain⟨t',rfl⟩:=ry;exact PySem.EqMixed.ne_int_str (zas I q (by simp))
    | _=>exact absurd (show false=true from hs) Bool.false_ne_true
  | str i=>
    obtain⟨t,rfl⟩:=rx
    cases y with
    | non=>cases ry;exact PySem.EqNone.ne_str_none (zas I q (by simp))
    | bl j=>cases ry;exact PySem.EqMixed.ne_str_bool (zas I q (by simp))
    | int j=>obtain⟨t',rfl⟩:=ry;exact PySem.EqMixed.ne_str_int (zas I q (by simp))
    | str j=>obtain⟨t',rfl⟩:=ry;exact ne_str (zas I q (congrArg not znp))
    | _=>exact absurd (show false=true from hs) Bool.false_ne_true
  | byt i=>
    obtain⟨t,rfl⟩:=rx
    cases y with
    | byt j=>obtain⟨t',rfl⟩:=ry;exact PySem.W.ne_bytes (zas I q (congrArg not znq))
    | _=>exact absurd (show false=true from hs) Bool.false_ne_true
  | _=>cases y<;>exact absurd (show false=true from hs) Bool.false_ne_true
theorem zl9:OpR X (compareOp .Lt) (rI0 fun i j=>.bl (decide (i<j))):=opB0 fun _ _ _ _ _ _ _ q=>lt_int q
theorem zhm:OpR X (compareOp .LtE) (rI0 fun i j=>.bl (decide (i<=j))):=opB0 fun _ _ _ _ _ _ _ q=>le_int q
theorem znr:OpR X (compareOp .Gt) (rI0 fun i j=>.bl (decide (j<i))):=opB0 fun _ _ _ _ _ _ _ q=>gt_int q
theorem zw7:OpR X (compareOp .GtE) (rI0 fun i j=>.bl (decide (j<=i))):=opB0 fun _ _ _ _ _ _ _ q=>ge_int q
theorem zag (b:Expr) {op:CmpOp}(h:op≠.In:=by decide) (h2:op≠.NotIn:=by decide):behindInMarks op b=false:=by
  have e1:(op == CmpOp.In)=false:=by cases op<;>first | rfl | exact absurd rfl h
  have e2:(op == CmpOp.NotIn)=false:=by cases op<;>first | rfl | exact absurd rfl h2
  cases b<;>simp[behindInMarks,e1,e2]
theorem zjv {op:CmpOp}{r:R2}(ho:OpR X (compareOp op) r) (ha:PE X a ta) (hb:PE X b tb) (hm:behindInMarks op b=false):PE X (.Compare a [op] [b] pos) (tOp r ta tb):=by
  intro pins s σ H Q I h
  exact wpAny_Compare1 (binT ha hb I h fun v u s2 x y H2 I2 rx ry q=>ho pins s2 σ H2 x y v u Q I2 rx ry q) hm
def ztk (t:TE):TT:=fun σ H Q=>t σ H fun x H'=>∃k,x = .bl k/\Q k H'
theorem zaa {op:CmpOp}{r:R2}(ho:OpR X (compareOp op) r) (ha:PE X a ta) (hb:PE X b tb) (hm:behindInMarks op b=false):PT X (.Compare a [op] [b] pos) (ztk (tOp r ta tb)):=by
  intro pins s σ H Q I h
  refine wpAny_isTrue_Compare1 (thn (ha pins s σ H _ I h) fun v s1 ⟨x,H1,I1,r1,q1⟩=>thn (hb pins s1 σ H1 _ I1 q1) fun u s2 ⟨y,H2,I2,r2,q2⟩=>
    thn (ho pins s2 σ H2 x y v u _ I2 r1 r2 q2) fun c s3 ⟨z,H3,I3,r3,k,e,q3⟩=>?_) hm
  subst e
  cases r3
  exact wpAny_truthy_bool ⟨H3,I3,q3⟩
def zsq (r r':R2) (ta tb tc:TE):TE:=fun σ H Q=>ta σ H fun x H1=>tb σ H1 fun y H2=>r x y H2 fun z H3=>∃k,z = .bl k/\
  (if k=true then tc σ H3 fun w' H4=>r' y w' H4 Q else Q (.bl false) H3)
theorem zqz {op op':CmpOp}{r r':R2}(ho:OpR X (compareOp op) r) (ho':OpR X (compareOp op') r') (ha:PE X a ta) (hb:PE X b tb) (hc:PE X c tc)
    (hm:lastMarks [op,op'] [b,c]=false:=by with_unfolding_all rfl):PE X (.Compare a [op,op'] [b,c] pos) (zsq r r' ta tb tc):=by
  intro pins s σ H Q I h
  refine Compare_chain (thn (ha pins s σ H _ I h) fun v s1 ⟨x,H1,I1,r1,q1⟩=>chain_link (thn (hb pins s1 σ H1 _ I1 q1) fun u s2 ⟨y,H2,I2,r2,q2⟩=>
    thn (ho pins s2 σ H2 x y v u _ I2 r1 r2 q2) fun d s3 ⟨z,H3,I3,r3,k,e,q3⟩=>?_)) hm
  subst e
  cases r3
  refine wpAny_truthy_bool ?_
  cases k with
  | false=>exact ite_ff ⟨.bl false,H3,I3,rfl,q3⟩
  | true=>exact ite_tt (chain_last (thn (hc pins s3 σ H3 _ I3 q3) fun w' s4 ⟨z',H4,I4,r4,q4⟩=>ho' pins s4 σ H4 y z' u w' Q I4 r2 r4 q4))
theorem zgt {op op':CmpOp}{r r':R2}(ho:OpR X (compareOp op) r) (ho':OpR X (compareOp op') r') (ha:PE X a ta) (hb:PE X b tb) (hc:PE X c tc)
    (hm:lastMarks [op,op'] [b,c]=false:=by with_unfolding_all rfl):PT X (.Compare a [op,op'] [b,c] pos) (ztk (zsq r r' ta tb tc)):=by
  intro pins s σ H Q I h
  refine isTrue_chain (thn (ha pins s σ H _ I h) fun v s1 ⟨x,H1,I1,r1,q1⟩=>test_link (thn (hb pins s1 σ H1 _ I1 q1) fun u s2 ⟨y,H2,I2,r2,q2⟩=>
    thn (ho pins s2 σ H2 x y v u _ I2 r1 r2 q2) fun d s3 ⟨z,H3,I3,r3,k,e,q3⟩=>?_)) hm
  subst e
  cases r3
  refine wpAny_truthy_bool ?_
  cases k with
  | false=>
    obtain⟨k',e',q'⟩:=q3
    cases e'
    exact ite_ff ⟨H3,I3,q'⟩
  | true=>
    refine ite_tt (test_last (thn (hc pins s3 σ H3 _ I3 q3) fun w' s4 ⟨z',H4,I4,r4,q4⟩=>thn (ho' pins s4 σ H4 y z' u w' _ I4 r2 r4 q4) fun d' s5 hq0=>?_))
    obtain⟨z2,H5,I5,r5,k2,e2,q5⟩:=hq0
    subst e2
    cases r5
    exact wpAny_truthy_bool ⟨H5,I5,q5⟩
theorem zlc:(sizeLine:Nat)<2 ^ 63:=by rw[sizeLine_eq];decide
theorem zma:OpR X (binaryOp .Add) (fun x y H Q=>∃i j,x = .str i/\y = .str j/\i.length+j.length<=sizeLine/\Q (.str (i++j)) H):=by
  intro pins s σ H x y v u Q I rx ry h
  obtain⟨i,j,rfl,rfl,hz,q⟩:=h
  obtain⟨t,rfl⟩:=rx
  obtain⟨t',rfl⟩:=ry
  exact add_str (fun t' tk=>⟨.str (i++j),H,I.tok _,⟨_,rfl⟩,q⟩) hz
theorem zdd {x:V}{us:List Value}(r:Vals [x] us):∃u,us = [u]/\RelV x u:=by
  cases r with
  | cons r1 r2=>cases r2;exact⟨_,rfl,r1⟩
theorem zhn {x y:V}{us:List Value}(r:Vals [x,y] us):∃u w',us = [u,w']/\RelV x u/\RelV y w':=by
  cases r with
  | cons r1 r2=>
    cases r2 with
    | cons r3 r4=>cases r4;exact⟨_,_,rfl,r1,r3⟩
theorem zns (hc:X.calm=true):zbp X (.builtin "min") (fun xs H Q=>∃i j,xs = [.int i,.int j]/\Q (.int (if j<i then j else i)) H):=by
  intro pins s σ H xs us Q I r h
  obtain⟨i,j,rfl,q⟩:=h
  obtain⟨u,w',rfl,⟨t,rfl⟩,⟨t',rfl⟩⟩:=zhn r
  refine min_two_ints (I.ok.hd hc) fun h' tk k=>⟨_,H,I.kept k,?_,q⟩
  by_cases hj:j<i
  · rw[if_pos hj,if_pos hj];exact⟨_,rfl⟩
  · rw[if_neg hj,if_neg hj];exact⟨_,rfl⟩
end
structure ObjM (h:Heap) (x dx C:Addr) (mA:Str->Option Value):Prop where
  obj:h.get? x=some (PySem.W.instObj C dx)
  ns:h.Ns1 dx mA
  ne:dx≠x
theorem zho {h:Heap}{dx:Addr}{mA:Str->Option Value}(n:h.Ns1 dx mA):∃od,h.get? dx=some od/\∀name,PySem.W.lookIn name od=some (mA name):=by
  obtain⟨o,es,ep,ho,hd,hk,_,hm⟩:=n
  refine⟨o,ho,fun name=>?_⟩
  have e:=hm name
  unfold nsFind findBy at e
  rw[←Array.find?_toList] at e
  unfold PySem.W.lookIn
  rw[hd]
  dsimp only
  split
  · rename_i y q
    rw[q] at e
    exact congrArg some e
  · rename_i q
    rw[q] at e
    have a:es.toList.any (·.refKey)=false:=by
      rw[List.any_eq_false]
      intro y hy
      obtain⟨z,t,hkey⟩:=hk y (Array.mem_toList_iff.mp hy)
      simp[DictEntry.refKey,hkey]
    have a':¬es.toList.any (·.refKey)=true:=by rw[a];exact Bool.false_ne_true
    rw[if_neg a']
    exact congrArg some e
theorem ObjM.look {h:Heap}{x dx C:Addr}{mA:Str->Option Value}(I:ObjM h x dx C mA):∃od,PySem.W.InstAt h x (PySem.W.instObj C dx) C (some od)/\∀name,PySem.W.lookIn name od=some (mA name):=
  let ⟨od,ho,hl⟩:=zho I.ns
  ⟨od,⟨I.obj,rfl,rfl,ho⟩,hl⟩
theorem RelO.some_of {v:V}{o:Option Value}(r:RelO (some v) o):∃u,o=some u/\RelV v u:=by
  cases o with
  | none=>exact (show False from r).elim
  | some u=>exact⟨u,rfl,r⟩
theorem RelO.none_of {o:Option Value}(r:RelO none o):o=none:=by
  cases o with
  | none=>rfl
  | some u=>exact (show False from r).elim
theorem znt {v:V}{u:Value}(r:RelV v u):PySem.W.handedIn u=true:=by
  cases v with
  | non=>cases (show u=Value.none from r);rfl
  | bl b=>cases (show u=Value.bool b from r);rfl
  | int i=>obtain⟨t,e⟩:=(show ∃t,u=Value.int i t from r);cases e;rfl
  | str x=>obtain⟨t,e⟩:=(show ∃t,u=Value.str x t from r);cases e;rfl
  | byt b=>obtain⟨t,e⟩:=(show ∃t,u=Value.bytes b t from r);cases e;rfl
  | flt b=>obtain⟨t,e⟩:=(show ∃t,u=Value.float b t from r);cases e;rfl
  | ref a=>cases (show u=Value.ref a from r);rfl
  | ty n=>cases (show u=Value.type n from r);rfl
section
variable {P:Program}{w:World}{H H':Hp}{h h':Heap}{a C dx:Addr}{fs fs':List (Str×V)}
theorem ztl (hok:HOk P w H h) (e:H a=some (.ins C dx fs)):∃mA,ObjM h a dx C mA/\(∀f,RelO (fs.lookup f) (mA f))/\PySem.Within mA (fs.map (·.1))/\fs.length<=1000/\H dx=some (.own a):=by
  obtain⟨d,z,ne,ob,mA,n,r,q⟩:=(show ObjOk P w H h a (.ins C dx fs) from hok a _ e)
  exact⟨mA,⟨ob,n,ne⟩,r,q,z,d⟩
end
structure Cls (K:PySem.W.Frag) (C:Addr):Prop where
  pg:PySem.W.plainGet K C Str.empty=true
  hd:PySem.W.hasDictIn K C=true
  po:PySem.W.plainOver K C=true
  sa:PySem.W.findIn K (.ref C) "__setattr__" = some (some (.builtin "object.__setattr__"))
theorem Cls.get {K:PySem.W.Frag}{C:Addr}(c:Cls K C) (f:Str):PySem.W.plainGet K C f=true:=c.pg
def NoAttr (K:PySem.W.Frag) (C:Addr) (f:Str):Prop:=PySem.W.findIn K (.ref C) f=some none
theorem NoAttr.taker {K:PySem.W.Frag}{C:Addr}{f:Str}(n:NoAttr K C f):PySem.W.takerIn K C f=some none:=by
  unfold PySem.W.takerIn
  rw[show PySem.W.findIn K (.ref C) f=some none from n]
  rfl
structure Meth (K:PySem.W.Frag) (C:Addr) (m:Str) (f:Addr):Prop where
  at_:PySem.W.findIn K (.ref C) m=some (some (.ref f))
  fn:PySem.W.isFn K (.ref f)=true
  kp:PySem.W.keepIn K (.ref f)=true
section
variable {X:Cx}{pins:List (Addr×Obj)}{σ:St}{H:Hp}{s:Shared}{a C dx:Addr}{fs:List (Str×V)}{f:Str}{v:V}{A:Around}{E:Value->Shared->Prop}
theorem ztm {prog:Program}{w:World}{env:Env}{e:Expr}{f:Str}{pos:Pos}{s:Shared}{Q:Value->Shared->Prop}(hb:attributeBase e f env (eval e env)=eval e env)
    (h:wpAny (model prog w) A (eval e env) (fun o s₁=>wpAny (model prog w) A (getAttr o f true) Q E s₁) E s):wpAny (model prog w) A (eval (.Attribute e f pos) env) Q E s:=
  Attribute_any_ h (by rw[arm_eval_Attribute,hb])
end
section
variable {X:Cx}{pins:List (Addr×Obj)}{σ:St}{H:Hp}{s:Shared}{A:Around}{E:Value->Shared->Prop}{Q:Value->Shared->Prop}{c:Value}{b:Bool}
inductive TyOf (K:PySem.W.Frag) (H:Hp):V->Value->Prop where
  | non:TyOf K H .non (.type "NoneType")
  | bl (x:Bool):TyOf K H (.bl x) (.type "bool")
  | int (i:Int):TyOf K H (.int i) (.type "int")
  | str (x:Str):TyOf K H (.str x) (.type "str")
  | flt (x:UInt64):TyOf K H (.flt x) (.type "float")
  | lst {a:Addr}{xs:List V}(e:H a=some (.lst xs)):TyOf K H (.ref a) (.type "list")
  | frz {a:Addr}{o:Obj}{xs:List V}(e:H a=some (.frz o (.lst xs))):TyOf K H (.ref a) (.type "list")
  | tup {a:Addr}{xs:List V}(e:H a=some (.tup xs)):TyOf K H (.ref a) (.type "tuple")
  | dK {a:Addr}{kvs:List (Key×V)}(e:H a=some (.dK kvs)):TyOf K H (.ref a) (.type "dict")
  | dT {a:Addr}{kvs:List (List Key×V)}(e:H a=some (.dT kvs)):TyOf K H (.ref a) (.type "dict")
  | ins {a C dx:Addr}{fs:List (Str×V)}(e:H a=some (.ins C dx fs)) (cl:Cls K C) (ha:PySem.W.findIn K (.ref C) "__class__" = some (some (.builtin "object.__class__")))
      (hn:PySem.W.specialIn K (.builtin "object.__class__") "__get__" = some (some (.builtin "getset_descriptor.__get__"))) (htk:PySem.W.takesIn K (.builtin "object.__class__")=some true)
      (hm:PySem.W.mroIn K C (.type "object")=some true):TyOf K H (.ref a) (.ref C)
theorem znu {x:V}{u t:Value}(I:Inv X pins σ H s) (rx:RelV x u) (ty:TyOf X.K H x t) (e:PySem.W.kitOne X.K t c=some b) (h:∀tk,Q (.bool b) { s with toks:=tk }) :
    wpAny (model X.prog X.w) A (call (.builtin "isinstance") [u,c]) Q E s:=by
  cases ty with
  | non=>cases (show u=Value.none from rx);exact PySem.W.kia_one PySem.W.kitx_none I.kIn True.intro e (fun z=>nomatch z) h
  | bl y=>cases (show u=Value.bool y from rx);exact PySem.W.kia_one PySem.W.kitx_bool I.kIn True.intro e (fun z=>nomatch z) h
  | int i=>obtain⟨t,q⟩:=(show ∃t,u=Value.int i t from rx);cases q;exact PySem.W.kia_one PySem.W.kitx_int I.kIn True.intro e (fun z=>nomatch z) h
  | str y=>obtain⟨t,q⟩:=(show ∃t,u=Value.str y t from rx);cases q;exact PySem.W.kia_one PySem.W.kitx_str I.kIn True.intro e (fun z=>nomatch z) h
  | flt y=>obtain⟨t,q⟩:=(show ∃t,u=Value.float y t from rx);cases q;exact PySem.W.kia_one PySem.W.kitx_float I.kIn True.intro e (fun z=>nomatch z) h
  | @lst a xs ea=>
    cases (show u=Value.ref a from rx)
    obtain⟨_,_,n,_,h1⟩:=(show ObjOk X.prog X.w H s.heap a (.lst xs) from I.hok a _ ea)
    exact PySem.W.kia_one PySem.W.kitx_list I.kIn ⟨_,h1,rfl⟩ e (fun z=>nomatch z) h
  | @frz a ob xs ea=>
    cases (show u=Value.ref a from rx)
    obtain⟨_,_,_,n,_,h1⟩:=(show ObjOk X.prog X.w H s.heap a (.frz ob (.lst xs)) from I.hok a _ ea)
    exact PySem.W.kia_one PySem.W.kitx_list I.kIn ⟨_,h1,rfl⟩ e (fun z=>nomatch z) h
  | @tup a xs ea=>
    cases (show u=Value.ref a from rx)
    obtain⟨_,_,_,p⟩:=(show ObjOk X.prog X.w H s.heap a (.tup xs) from I.hok a _ ea)
    obtain⟨o,h1,h2,_⟩:=p
    exact PySem.W.kia_one PySem.W.kitx_tuple I.kIn ⟨o,h1,h2⟩ e (fun z=>nomatch z) h
  | @dK a kvs ea=>
    cases (show u=Value.ref a from rx)
    obtain⟨_,_,vs,_,p⟩:=(show ObjOk X.prog X.w H s.heap a (.dK kvs) from I.hok a _ ea)
    obtain⟨o,es,ep,h1,h2,_⟩:=p
    exact PySem.W.kia_one PySem.W.kitx_dict I.kIn ⟨o,h1,h2.1⟩ e (fun z=>nomatch z) h
  | @dT a kvs ea=>
    cases (show u=Value.ref a from rx)
    obtain⟨_,_,xs,_,o,es,ep,h1,h2,_⟩:=(show ObjOk X.prog X.w H s.heap a (.dT kvs) from I.hok a _ ea)
    exact PySem.W.kia_one PySem.W.kitx_dict I.kIn ⟨o,h1,h2.1⟩ e (fun z=>nomatch z) h
  | @ins a C dx fs ea cl ha hn htk hm=>
    cases (show u=Value.ref a from rx)
    obtain⟨mA,O,_⟩:=ztl I.hok ea
    obtain⟨od,J,_⟩:=O.look
    exact PySem.W.kia_one (PySem.W.kitx_own (cl.get _) cl.hd ha hn htk hm) I.kIn J e (fun z=>nomatch z) h
end
structure Room (k:Nat) (A:Around):Prop where
  hd:A.handled=none
  dp:A.depth+3 * k+5<recursionLimit
  un:A.units+16 * k+200<cLine
theorem Room.mono {j k:Nat}{A:Around}(r:Room k A) (h:j<=k):Room j A:=⟨r.hd,by have:=r.dp;omega,by have:=r.un;omega⟩
theorem Room.deeper {k:Nat}{A:Around}(r:Room (k+1) A) (env:Env):Room k (A.deeper env):=
  ⟨r.hd,by have:=r.dp;show A.depth+1+3 * k+5<_;omega,by have:=r.un;show A.units+3+16 * k+200<_;omega⟩
theorem zmb {A:Around}{C:Addr}{us:List Value}{kw:List (Str×Value)}:(A.under (.builtin "type.__call__" ⟨.ref C::us,kw⟩)).depth=A.depth+1:=by
  first | rfl | simp[Around.under,Code.weight,Code.isCreation,Code.isGuard,Code.isCaller,Code.frames,Code.isFrame,guardIds]
theorem zmc {A:Around}{C:Addr}{us:List Value}{kw:List (Str×Value)}:(A.under (.builtin "type.__call__" ⟨.ref C::us,kw⟩)).units=A.units+1:=by
  first | rfl | simp[Around.under,Code.cUnits,Code.frames,Code.isFrame]
theorem Room.make {k:Nat}{A:Around}(r:Room (k+1) A) (C:Addr) (us:List Value) (kw:List (Str×Value)):Room k (A.under (.builtin "type.__call__" ⟨.ref C::us,kw⟩)):=
  ⟨r.hd,by have:=r.dp;rw[zmb];omega,by have:=r.un;rw[zmc];omega⟩
theorem Room.depth {k:Nat}{A:Around}(r:Room k A):A.depth<recursionLimit:=by have:=r.dp;omega
theorem Room.units {k:Nat}{A:Around}(r:Room k A):A.units+64<cLine:=by have:=r.un;omega
def tNil:TA:=fun _ H Q=>Q [] H
def zw8 (ta:TE) (tr:TA):TA:=fun σ H Q=>ta σ H fun x H1=>tr σ H1 fun xs H2=>Q (x::xs) H2
section
variable {X:Cx}{e:Expr}{es:List Expr}{te:TE}{t:TA}{pos:Pos}
theorem zc:PA X [] tNil:=fun _ _ _ _ H Q I h=>Calls.spliced_nil ⟨[],H,I,.nil,h⟩
theorem za (ha:PE X e te) (hr:PA X es t) (hs:starEach (e::es) X.env=(false,eval e X.env)::starEach es X.env:=by rfl):PA X (e::es) (zw8 te t):=by
  intro pos pins s σ H Q I h
  rw[hs]
  show wpAny _ _ (spliced ((false,eval e X.env)::backTo pos (starEach es X.env))) _ _ s
  refine Calls.spliced_cons (thn (ha pins s σ H _ I h) fun u s1 hq0=>?_)
  obtain⟨x,H1,I1,r1,q1⟩:=hq0
  exact thn (hr pos pins s1 σ H1 _ I1 q1) fun us s2 ⟨xs,H2,I2,r2,q2⟩=>⟨x::xs,H2,I2,.cons r1 r2,q2⟩
def tTup (t:TA):TE:=fun σ H Q=>t σ H fun xs H1=>xs.length<=sizeLine/\∀p,H1 p=none->Q (.ref p) (upd H1 p (.tup xs))
def tLst (t:TA):TE:=fun σ H Q=>t σ H fun xs H1=>xs.length<=sizeLine/\∀p,H1 p=none->Q (.ref p) (upd H1 p (.lst xs))
theorem zap {x1}(h:PA X es t):PE X (.Tuple es x1 pos) (tTup t):=by
  intro pins s σ H Q I hq
  refine wpAny_Tuple_spliced (thn (h pos pins s σ H _ I hq) fun us s1 ⟨xs,H1,I1,r,z,q⟩=>⟨by rw[←r.length];exact z,?_⟩)
  have hf:H1 s1.heap.objs.size=none:=I1.hok.fresh (Nat.le_refl _)
  refine⟨.ref s1.heap.objs.size,upd H1 s1.heap.objs.size (.tup xs),I1.laid (t':=s1.toks) (fun b u e=>Heap.get?_push_of_some _ e) (Nat.le_refl _) ?_,rfl,q _ hf⟩
  exact⟨z,us,r,⟨_,Heap.get?_push_size _ rfl,rfl,_,rfl⟩⟩
theorem zal (h:PA X es t):PE X (.List es pos) (tLst t):=by
  intro pins s σ H Q I hq
  refine wpAny_List_spliced (thn (h pos pins s σ H _ I hq) fun us s1 ⟨xs,H1,I1,r,z,q⟩=>⟨by rw[←r.length];exact z,?_⟩)
  have hf:H1 s1.heap.objs.size=none:=I1.hok.fresh (Nat.le_refl _)
  refine⟨.ref s1.heap.objs.size,upd H1 s1.heap.objs.size (.lst xs),I1.laid (t':=s1.toks) (fun b u e=>Heap.get?_push_of_some _ e) (Nat.le_refl _) ?_,rfl,q _ hf⟩
  exact⟨z,us,0,r,Heap.get?_push_size _ rfl⟩
end
abbrev Sp:=List V->Hp->VK->XK->Prop
abbrev CXT:=List Env->Hp->Shared->XK->Value->Shared->Prop
structure Env0 (P:Program) (w:World) (K:PySem.W.Frag) (mg:Str->Option Value) (base:Heap) (A:Around) (outer:List Env) (s:Shared) (H:Hp):Prop where
  frames:A.frames=some outer
  mod:Mod K mg base
  bs:∀b o,base.get? b=some o->s.heap.get? b=some o/\H b=none
  bsz:base.objs.size<=s.heap.objs.size
  funs:s.heap.FunFrames base outer
  frf:∀b∈frs outer,H b=none
  hok:HOk P w H s.heap
  bare:AllBare s.gens
def CE (outer:List Env) (P:Program) (w:World) (H:Hp) (s:Shared) (Q:VK) (u:Value) (s':Shared):Prop:=
  ∃v H',s'.os=s.os/\AllBare s'.gens/\Un (frs outer) [] H H' s.heap s'.heap/\HOk P w H' s'.heap/\RelV v u/\Q v H'
def CR (CX:CXT) (outer:List Env) (P:Program) (w:World) (H:Hp) (s:Shared) (Q:VK) (E:XK) (r:Result) (s':Shared):Prop:=
  match r with
  | .ok (.ret u)=>CE outer P w H s Q u s'
  | .ok _=>False
  | .error e=>CX outer H s E e s'
structure FnOk (P:Program) (w:World) (K:PySem.W.Frag) (mg:Str->Option Value) (base:Heap) (CX:CXT) (k:Nat) (f:Addr) (fd:FuncData) (ps:List Str) (sp:Sp):Prop where
  len:∀vs H Q E,sp vs H Q E->vs.length=ps.length
  run:∀(A:Around) (outer:List Env) (s:Shared) (H:Hp) (args:Args) (us:List Value) (vs:List V) (Q:VK) (E:XK),Room k A->Env0 P w K mg base A outer s H->BindsTo s fd args (ps.zip us)->Vals vs us->sp vs H Q E->
    codeAny (model P w) A (.call (.ref f) args) (CR CX outer P w H s Q E) s
theorem Env0.make {P:Program}{w:World}{K:PySem.W.Frag}{mg:Str->Option Value}{base:Heap}{A:Around}{outer:List Env}{s:Shared}{H:Hp}(e:Env0 P w K mg base A outer s H) (C:Addr) (us:List Value) (kw:List (Str×Value)) :
    Env0 P w K mg base (A.under (.builtin "type.__call__" ⟨.ref C::us,kw⟩)) outer s H:=⟨by first | exact e.frames | (simpa[Around.under,Code.envs,Code.isFrame,pushEnvs] using e.frames),e.mod,e.bs,e.bsz,e.funs,e.frf,e.hok,e.bare⟩
section
variable {X:Cx}{pins:List (Addr×Obj)}{σ:St}{H:Hp}{s s':Shared}
theorem Inv.env0 (I:Inv X pins σ H s):Env0 X.prog X.w X.K X.mg X.base X.A X.stack s H:=
  ⟨I.ok.frames,I.ok.mod,I.bs,Nat.le_trans I.ok.bsz I.sz,I.stack,I.stkFree,I.hok,I.bare⟩
theorem Inv.after {Q:VK}{u:Value}(I:Inv X pins σ H s) (h:CE X.stack X.prog X.w H s Q u s'):EP X pins σ Q u s':=by
  obtain⟨v,H',os,bare,un,hok,r,q⟩:=h
  obtain⟨hh,g,d,t,os'⟩:=s'
  obtain rfl:os'=s.os:=os
  exact⟨v,H',I.call (h':=hh) (g':=g) (d':=d) (t':=t) (ch:=[]) un hok bare (fun b z=>absurd z (by simp)),r,q⟩
end
def ztn (sp:Sp) (dvs:List V) (E:XK) (t:TA):TE:=fun σ H Q=>t σ H fun vs H1=>sp (vs++dvs) H1 Q E
def Binds (K:PySem.W.Frag) (fd:FuncData) (ps:List Str) (ds:List Value):Prop:=
  ∀(s:Shared) (us:List Value),K.In s.heap->(us++ds).length=ps.length->BindsTo s fd ⟨us,[]⟩ (ps.zip (us++ds))
theorem Binds.all {K:PySem.W.Frag}{fd:FuncData}{ps:List Str}(h:∀us:List Value,us.length=ps.length->bindArgs fd ⟨us,[]⟩=pure (ps.zip us)):Binds K fd ps []:=fun s us _ hl=>by
  rw[List.append_nil] at hl ⊢
  exact .of_eq (h us hl)
def zhp (CX:CXT) (X:Cx) (E:XK):Prop:=∀(pins:List (Addr×Obj)) (σ:St) (H:Hp) (s:Shared) (e:Value) (s':Shared),Inv X pins σ H s->CX X.stack H s E e s'->X.xe e s'
section
variable {X:Cx}{CX:CXT}{k:Nat}{f C:Addr}{fd:FuncData}{ps:List Str}{sp:Sp}{dvs:List V}{ds:List Value}{E:XK}{x m:Str}{p pos apos:Pos}{e o:Expr}{es:List Expr}{ta:TE}{t:TA}
theorem zvo {pins:List (Addr×Obj)}{σ:St}{H:Hp}{s:Shared}{Q:VK}{us:List Value}{vs:List V}(F:FnOk X.prog X.w X.K X.mg X.base CX k f fd ps sp) (hr:Room k X.A) (hb:Binds X.K fd ps ds) (hd:Vals dvs ds) (hx:zhp CX X E)
    (I:Inv X pins σ H s) (r:Vals vs us) (h:sp (vs++dvs) H Q E):wpAny (model X.prog X.w) X.A (call (.ref f) us) (EP X pins σ Q) X.xe s:=by
  have r2:Vals (vs++dvs) (us++ds):=r.append hd
  have hl:(us++ds).length=ps.length:=by rw[←r2.length];exact F.len _ _ _ _ h
  refine wpAny_call (codeAny_mono (F.run X.A X.stack s H ⟨us,[]⟩ (us++ds) (vs++dvs) Q E hr I.env0 (hb s us I.kIn hl) r2 h) fun r s' hq=>?_)
  cases r with
  | error e=>exact hx pins σ H s e s' I hq
  | ok fl=>
    cases fl with
    | ret u=>exact I.after hq
    | next=>exact False.elim hq
    | brk=>exact False.elim hq
    | cont=>exact False.elim hq
theorem znv (F:FnOk X.prog X.w X.K X.mg X.base CX k f fd ps sp) (hr:Room k X.A) (hg:Gl X x) (hm:X.mg x=some (.ref f)) (hk:PySem.W.keepIn X.K (.ref f)=true) (hb:Binds X.K fd ps ds) (hd:Vals dvs ds) (hx:zhp CX X E)
    (ha:PA X (e::es) t) (hdb:(x == ("__debug__" : Str))=false:=by decide) (he:starEach (e::es) X.env=(false,eval e X.env)::starEach es X.env:=by rfl) (hpl:(backTo pos (starEach es X.env)).any (·.1)=false:=by rfl) :
    PE X (.Call (.Name x p) (e::es) [] pos) (ztn sp dvs E t):=by
  intro pins s σ H Q I h
  refine wpAny_Call_Name_kw (zdc I hg hm ?_ hdb)
  refine PySem.W.callWith_K (h₀:=X.base) I.ok.mod.kin hk (thn (ha pos pins s σ H _ I h) fun us s1 ⟨vs,H1,I1,r,q⟩=>⟨I1.kIn,?_⟩) he hpl
  exact zvo F hr hb hd hx I1 r q
end
structure FnScope (N P:List Str) (sc:Scope):Prop where
  kind:sc.kind = .function
  co:sc.isCoroutine=false
  gen:sc.isGenerator=false
  nd:N.Nodup
  pre:N.take P.length=P
  par:∀x∈P,sc.names.lookup x=some .local\/sc.names.lookup x=some .cell
  nofree:∀y∈sc.names,y.2≠.free
theorem zhq {kindOf:Str->Option NameKind}{x:Str}:∀{binds:List (Str×Value)}{m:Str->Option Value},(∀v,(x,v) ∉ binds)->bindL kindOf binds m x=m x
  | [],_,_=>rfl
  | (n,v)::r,m,h=>by
    unfold bindL
    rw[zhq fun w hw=>h w (List.mem_cons_of_mem _ hw)]
    split
    · have:x≠n:=by rintro rfl;exact h v List.mem_cons_self
      simp[this]
    · rfl
theorem zhr {kindOf:Str->Option NameKind}{x:Str}:∀{binds:List (Str×Value)}{m:Str->Option Value},(∀v,(x,v) ∉ binds)->bindC kindOf binds m x=m x
  | [],_,_=>rfl
  | (n,v)::r,m,h=>by
    unfold bindC
    rw[zhr fun w hw=>h w (List.mem_cons_of_mem _ hw)]
    split
    · rfl
    · have:x≠n:=by rintro rfl;exact h v List.mem_cons_self
      simp[this]
theorem zhs {kindOf:Str->Option NameKind}{x:Str}{v:Value}:∀{P:List Str}{vs:List Value}{i:Nat}{m:Str->Option Value},P.Nodup->P[i]? = some x->vs[i]? = some v->kindOf x=some .local->
    bindL kindOf (P.zip vs) m x=some v
  | [],_,_,_,_,h,_,_=>by simp at h
  | _::_,[],_,_,_,_,h,_=>by simp at h
  | p::P,w::vs,0,m,nd,h1,h2,hk=>by
    simp at h1 h2;subst h1;subst h2
    show bindL kindOf ((p,w)::P.zip vs) m p=_
    unfold bindL
    rw[zhq fun v hv=>(List.nodup_cons.mp nd).1 (List.of_mem_zip hv).1,if_pos hk]
    simp
  | p::P,w::vs,i+1,m,nd,h1,h2,hk=>by
    show bindL kindOf ((p,w)::P.zip vs) m x=_
    unfold bindL
    exact zhs (i:=i) (List.nodup_cons.mp nd).2 (by simpa using h1) (by simpa using h2) hk
theorem zht {kindOf:Str->Option NameKind}{x:Str}{v:Value}:∀{P:List Str}{vs:List Value}{i:Nat}{m:Str->Option Value},P.Nodup->P[i]? = some x->vs[i]? = some v->kindOf x≠some .local->
    bindC kindOf (P.zip vs) m x=some v
  | [],_,_,_,_,h,_,_=>by simp at h
  | _::_,[],_,_,_,_,h,_=>by simp at h
  | p::P,w::vs,0,m,nd,h1,h2,hk=>by
    simp at h1 h2;subst h1;subst h2
    show bindC kindOf ((p,w)::P.zip vs) m p=_
    unfold bindC
    rw[zhr fun v hv=>(List.nodup_cons.mp nd).1 (List.of_mem_zip hv).1,if_neg hk]
    simp
  | p::P,w::vs,i+1,m,nd,h1,h2,hk=>by
    show bindC kindOf ((p,w)::P.zip vs) m x=_
    unfold bindC
    exact zht (i:=i) (List.nodup_cons.mp nd).2 (by simpa using h1) (by simpa using h2) hk
def start (N:List Str) (vs:List V):St:=vs.map some++List.replicate (N.length-vs.length) none
def cxOf (CX:CXT) (P:Program) (w:World) (K:PySem.W.Frag) (mg:Str->Option Value) (base:Heap) (N:List Str) (qual:Str) (scope:Scope) (f:Addr) (cd:Value) (A:Around) (outer:List Env) (s:Shared) (H:Hp) (E:XK):Cx where
  prog:=P
  w:=w
  K:=K
  mg:=mg
  base:=base
  A:=A.deeper (envOfC qual scope s.heap.objs.size f cd)
  N:=N
  s₀:=s
  H₀:=H
  env:=envOfC qual scope s.heap.objs.size f cd
  outer:=outer
  stack:=envOfC qual scope s.heap.objs.size f cd::outer
  ex:=[]
  calm:=true
  fn:=fun _=>true
  pn:=[]
  xe:=fun e s'=>wpAny (model P w) (A.deeper (envOfC qual scope s.heap.objs.size f cd)) (leaving (envOfC qual scope s.heap.objs.size f cd) e) (fun _ s''=>CX outer H s E e s'') (fun e' s''=>CX outer H s E e' s'') s'
theorem zld {sc:Scope}{n:Nat}{x:Str}(h:sc.names.lookup x=some .cell):∃c,(cellsFrom n sc.names []).lookup x=some c:=by
  have q:=PySem.W.cellsFrom_some sc.names n [] (.inl h)
  exact Option.isSome_iff_exists.mp q
theorem znw {CX:CXT}{P:Program}{w:World}{K:PySem.W.Frag}{mg:Str->Option Value}{base:Heap}{N ps:List Str}{qual:Str}{scope:Scope}{f:Addr}{cd:Value}{A:Around}{outer:List Env}{s s1:Shared}{H:Hp}{E:XK}{us:List Value}{vs:List V}
    (S:FnScope N ps scope) (hd:A.handled=none) (e0:Env0 P w K mg base A outer s H) (hl:vs.length=ps.length) (r:Vals vs us)
    (x:InCallC s s.heap.objs.size (bindL (envOfC qual scope s.heap.objs.size f cd).kindOf (ps.zip us) fun _=>none) (cellsFrom (s.heap.objs.size+1) scope.names []) (bindC (envOfC qual scope s.heap.objs.size f cd).kindOf (ps.zip us) fun _=>none) s1) :
    Inv (cxOf CX P w K mg base N qual scope f cd A outer s H E) [] (start N vs) H s1:=by
  have hpl:ps.length<=N.length:=by have:=congrArg List.length S.pre;rw[List.length_take] at this;omega
  obtain⟨h1,tk,rfl,hk⟩:=x.done
  have noA:∀b:Addr,b ∉ (cxOf CX P w K mg base N qual scope f cd A outer s H E).ex:=fun b z=>absurd (show b∈([]:List Addr) from z) (by simp)
  refine⟨⟨e0.mod,S.kind,rfl,rfl,Nat.le_refl _,fun y z c h1 h2=>?_,fun y hy=>?_,fun y c _ h=>?_,fun _=>hd,Around.frames_deeper e0.frames,.inr ⟨rfl,rfl⟩,fun b z=>absurd z (noA b),e0.bs,e0.bsz,fun b _ _=>noA b,fun b z=>absurd z (noA b),e0.funs,e0.frf⟩,
    rfl,e0.bare,Un.kept hk,⟨_,x.toInCall.ns,fun i y v h1 h2 h3=>?_⟩,fun y c h=>⟨_,x.cell y c h⟩,e0.hok.fresh (Nat.le_refl _),fun y c h=>?_,fun p hp=>absurd (show p∈([]:List (Addr×Obj)) from hp) (by simp),e0.hok.kept hk,?_⟩
  · exact name_of_addr x.apart (PySem.mem_of_lookup h1) (PySem.mem_of_lookup h2)
  · have hy:scope.names.lookup y=some .cell\/scope.names.lookup y=some .free:=hy
    rcases hy with hy | hy
    · exact zld hy
    · exact absurd rfl (S.nofree _ (PySem.mem_of_lookup hy))
  · exact Nat.le_of_lt (x.above y c (PySem.mem_of_lookup h))
  · have hi:i<vs.length:=by
      unfold start at h2
      by_cases hi:i<vs.length
      · exact hi
      · rw[List.getElem?_append_right (by simpa using hi)] at h2
        rw[List.getElem?_replicate] at h2
        split at h2<;>cases h2
    have ha:vs[i]? = some v:=by
      unfold start at h2
      rw[List.getElem?_append_left (by simpa using hi),List.getElem?_map] at h2
      cases e:vs[i]? with
      | none=>rw[e] at h2;cases h2
      | some a=>rw[e] at h2;cases h2;rfl
    obtain⟨u,hu,rv⟩:=r.get ha
    have hp:ps[i]? = some y:=by
      rw[←S.pre,List.getElem?_take_of_lt (by omega)];exact h1
    have ndP:ps.Nodup:=by rw[←S.pre];exact S.nd.sublist (List.take_sublist _ _)
    refine⟨u,rv,?_⟩
    rcases S.par y (List.mem_of_getElem? hp) with k | k
    · exact .inl ⟨k,zhs ndP hp hu k⟩
    · obtain⟨c,e⟩:=zld (n:=s.heap.objs.size+1) k
      refine .inr ⟨.inl k,c,e,?_⟩
      have q:=x.cell y c e
      rw[zht ndP hp hu (by show scope.names.lookup y≠_;rw[k];decide)] at q
      exact q
  · exact e0.hok.fresh (Nat.le_of_lt (x.above y c (PySem.mem_of_lookup h)))
  · unfold start
    show _=N.length
    rw[List.length_append,List.length_map,List.length_replicate]
    omega
theorem zvp {CX:CXT}{P:Program}{w:World}{K:PySem.W.Frag}{mg:Str->Option Value}{base:Heap}{k:Nat}{f:Addr}{name qual:Str}{params:Arguments}{body:List Stmt}{scope:Scope}{dV kV doc pm cdv ct oc:Value}{an od:Option Addr}
    {osl:Array (Option Value)}{N ps:List Str}{sp:Sp}(lk:K.lookup f=some ⟨oc,od,.func (PySem.W.fnOf name qual params body scope dV kV doc pm an cdv ct),osl⟩) (hcd:PySem.W.codeIn K cdv qual=true) (S:FnScope N ps scope)
    (len:∀vs H Q E,sp vs H Q E->vs.length=ps.length)
    (hbody:∀(A:Around) (outer:List Env) (s:Shared) (H:Hp) (vs:List V) (Q:VK) (E:XK),Room k (A.deeper (envOfC qual scope s.heap.objs.size f cdv))->sp vs H Q E->
      ∃t,PSs (cxOf CX P w K mg base N qual scope f cdv A outer s H E) body t/\t { nx:=fun _ H'=>Q .non H',rt:=Q } (start N vs) H) :
    FnOk P w K mg base CX (k+1) f (PySem.W.fnOf name qual params body scope dV kV doc pm an cdv ct) ps sp:=by
  refine⟨len,fun A outer s H args us vs Q E hr e0 hb r hsp=>?_⟩
  have hl:=len _ _ _ _ hsp
  have KX:K.In s.heap:=e0.mod.kin.keeps fun b o e=>(e0.bs b o e).1
  have lim:s.heap.NoLimit:=e0.mod.nolimit.keeps fun b o e=>(e0.bs b o e).1
  have hkind:∀y∈ps.zip us,scope.names.lookup y.1=some .local\/(scope.names.lookup y.1=some .cell/\((cellsFrom (s.heap.objs.size+1) scope.names []).lookup y.1).isSome=true):=fun ⟨n,v⟩ hy=>by
    rcases S.par n (List.of_mem_zip hy).1 with q | q
    · exact .inl q
    · exact .inr ⟨q,PySem.W.cellsFrom_some _ _ _ (.inl q)⟩
  refine codeAny_call_function hr.depth (KX _ _ lk) rfl S.co S.gen rfl (PySem.W.codeRec_of KX hcd) (hb _ _ _ _ ?_)
  refine wpAny_newFunctionEnv_cells S.kind hkind fun env he s1 x=>?_
  subst he
  refine⟨lim.keeps x.toInCall.keep,codeAny_func ?_⟩
  obtain⟨t,ht,hq⟩:=hbody A outer s H vs Q E (hr.deeper _) hsp
  have I:Inv (cxOf CX P w K mg base N qual scope f cdv A outer s H E) [] (start N vs) H s1:=znw S hr.hd e0 hl r x
  refine wpAny_mono (ht [] s1 (start N vs) H _ I hq) (fun fl s' hs=>?_) fun e s' hs=>hs
  have fin:∀{σ':St}{H':Hp}{v:V}{u:Value},Inv (cxOf CX P w K mg base N qual scope f cdv A outer s H E) [] σ' H' s'->RelV v u->Q v H'->CE outer P w H s Q u s':=
    fun {σ' H' v u} J rv q=>⟨v,H',J.os,J.bare,J.base,J.hok,rv,q⟩
  cases fl with
  | ret u=>
    obtain⟨v,σ',H',J,rv,q⟩:=hs
    exact fin J rv q
  | next=>
    obtain⟨σ',H',J,q⟩:=hs
    exact fin (v:=V.non) (u:=Value.none) J rfl q
  | brk=>
    obtain⟨_,_,_,q⟩:=hs
    exact False.elim q
  | cont=>
    obtain⟨_,_,_,q⟩:=hs
    exact False.elim q
section
variable {X:Cx}{x:Str}{p pos:Pos}{e:Expr}{es:List Expr}{t:TA}{id T:String}{r:List V->Hp->VK->Prop}
def tCB (r:List V->Hp->VK->Prop) (t:TA):TE:=fun σ H Q=>t σ H fun vs H1=>r vs H1 Q
theorem zac (hc:zbp X (.builtin id) r) (hg:Gl X x) (hm:X.mg x=none) (hv:bootBuiltins x=some (.builtin id)) (ha:PA X (e::es) t) (hn:x≠"__name__":=by decide) (hdb:(x == ("__debug__" : Str))=false:=by decide)
    (he:starEach (e::es) X.env=(false,eval e X.env)::starEach es X.env:=by rfl) (hpl:(backTo pos (starEach es X.env)).any (·.1)=false:=by rfl):PE X (.Call (.Name x p) (e::es) [] pos) (tCB r t):=by
  intro pins s σ H Q I h
  refine wpAny_Call_Name_kw (zhj I hg hm hv ?_ hn hdb)
  exact PyProof.Rows.callWith_builtin1 (thn (ha pos pins s σ H _ I h) fun us s1 ⟨vs,H1,I1,r1,q1⟩=>hc pins s1 σ H1 vs us Q I1 r1 q1) he hpl
theorem za2 (hc:zbp X (.type T) r) (hg:Gl X x) (hm:X.mg x=none) (hv:bootBuiltins x=some (.type T)) (ha:PA X (e::es) t) (hn:x≠"__name__":=by decide) (hdb:(x == ("__debug__" : Str))=false:=by decide)
    (he:starEach (e::es) X.env=(false,eval e X.env)::starEach es X.env:=by rfl) (hpl:(backTo pos (starEach es X.env)).any (·.1)=false:=by rfl):PE X (.Call (.Name x p) (e::es) [] pos) (tCB r t):=by
  intro pins s σ H Q I h
  refine wpAny_Call_Name_kw (zhj I hg hm hv ?_ hn hdb)
  exact PyProof.Rows.callWith_type1 (thn (ha pos pins s σ H _ I h) fun us s1 ⟨vs,H1,I1,r1,q1⟩=>hc pins s1 σ H1 vs us Q I1 r1 q1) he hpl
end
end L2
namespace HT
open PySem PyProof.Rows
section
open PySem.SeqAt
open PySem.AutoSeq1 (wpAny_loadPart')
open PySem.MeetsSeq PySem.MeetsSeq2 PySem.MeetsSeq3
end
section
variable {prog:Program}{w:World}{A:Around}{E:Value->Shared->Prop}{s:Shared}
theorem cat_tup {t b:Addr}{vs ws:List Value}{Q:Value->Shared->Prop}(ht:IsTup s.heap t vs.toArray) (hb:IsTup s.heap b ws.toArray) (hv:vs≠[])
    (h1:ws = []->Q (.ref t) s) (h2:ws≠[]->Q (.ref s.heap.objs.size) { s with heap:=s.heap.push { cls:=.type "tuple",data:=.seq (vs++ws).toArray } })
    (hsz:vs.length+ws.length<=sizeLine):wpAny (model prog w) A (binaryOp .Add (.ref t) (.ref b)) Q E s:=by
  obtain⟨⟨cls,dd,data,sl⟩,ho,hc,n,hd⟩:=id ht
  obtain⟨⟨cls2,dd2,data2,sl2⟩,ho2,hc2,n2,hd2⟩:=id hb
  simp only at hc hd hc2 hd2
  subst hc hd hc2 hd2
  have e:vs.toArray++ws.toArray=(vs++ws).toArray:=by simp
  by_cases hw:ws = []
  · exact concat_meets ⟨_,ho,rfl⟩ ⟨_,ho2,rfl⟩ noFill_tuple_add seq_tuple_add PySem.F.slot_tuple_add PySem.F.entry_tuple_add (PySem.F.args_tuple_add_2 _ _)
      (tuple_addW1 t b vs.toArray ws.toArray n n2 dd dd2 sl sl2 (by simpa using hv) (by simp[hw])) ⟨ho,ho2,h1 hw⟩
  · refine concat_meets ⟨_,ho,rfl⟩ ⟨_,ho2,rfl⟩ noFill_tuple_add seq_tuple_add PySem.F.slot_tuple_add PySem.F.entry_tuple_add (PySem.F.args_tuple_add_2 _ _)
      (tuple_addW2 t b vs.toArray ws.toArray n n2 dd dd2 sl sl2 (by simpa using hv) (by simpa using hw) (by rw[List.size_toArray,List.size_toArray];exact hsz)) ⟨ho,ho2,?_⟩
    rw[e]
    exact h2 hw
def sIx (n d:Nat):Option Int->Nat
  | none=>d
  | some v=>if v<0 then (v+(n:Int)).toNat else min v.toNat n
end
end HT
namespace L2
open PySem PySem.Spec PyProof.Rows
abbrev TO:=St->Hp->(Option Int->Hp->Prop)->Prop
def PO (X:Cx) (e:Option Expr) (t:TO):Prop:=
  ∀(pins:List (Addr×Obj)) (s:Shared) (σ:St) (H:Hp) (Q:Option Int->Hp->Prop),Inv X pins σ H s->t σ H Q->
    wpAny (model X.prog X.w) X.A (evalPart e X.env) (fun u s'=>∃o H',Inv X pins σ H' s'/\IsPart u o/\Q o H') X.xe s
def zto:TO:=fun _ H Q=>Q none H
def zw9 (t:TE):TO:=fun σ H Q=>t σ H fun x H1=>∃i,x = .int i/\Q (some i) H1
section
variable {X:Cx}{e:Expr}{te:TE}{lo hi:Option Expr}{tl th:TO}{pos p2:Pos}
theorem ze8:PO X none zto:=by
  intro pins s σ H Q I h
  rw[evalPart_none]
  exact wpAny_pure ⟨none,H,I,.none,h⟩
theorem zca (h:PE X e te):PO X (some e) (zw9 te):=by
  intro pins s σ H Q I hw
  rw[evalPart_some]
  refine thn (h pins s σ H _ I hw) fun u s1 hq0=>?_
  obtain⟨x,H1,I1,r1,q1⟩:=hq0
  obtain⟨i,rfl,q⟩:=q1
  obtain⟨t,rfl⟩:=r1
  exact⟨some i,H1,I1,.int i t,q⟩
def SlR (X:Cx) (r:V->Option Int->Option Int->Hp->VK->Prop):Prop:=
  ∀(pins:List (Addr×Obj)) (s:Shared) (σ:St) (H:Hp) (x:V) (v vl vu:Value) (lo hi:Option Int) (sl:Addr) (Q:VK),Inv X pins σ H s->RelV x v->s.heap.IsSliceOf sl vl vu .none->IsPart vl lo->IsPart vu hi->r x lo hi H Q->
    ∃T id,typeLookup (.type T) "__getitem__" = pure (some (.builtin id))/\s.TypeIs v T/\wpAny (model X.prog X.w) X.A (getItem v (.ref sl)) (EP X pins σ Q) X.xe s
def tSl (r:V->Option Int->Option Int->Hp->VK->Prop) (te:TE) (tl th:TO):TE:=fun σ H Q=>te σ H fun x H1=>tl σ H1 fun l H2=>th σ H2 fun u H3=>r x l u H3 Q
theorem zcb {r:V->Option Int->Option Int->Hp->VK->Prop}(hr:SlR X r) (he:PE X e te) (hl:PO X lo tl) (hu:PO X hi th):PE X (.Subscript e (.Slice lo hi none p2) pos) (tSl r te tl th):=by
  intro pins s σ H Q I h
  refine Subscript_ (thn (he pins s σ H _ I h) fun v s1 hq0=>?_)
  obtain⟨x,H1,I1,r1,q1⟩:=hq0
  refine wpAny_Slice (thn (hl pins s1 σ H1 _ I1 q1) fun vl s2 ⟨l,H2,I2,pl,q2⟩=>thn (hu pins s2 σ H2 _ I2 q2) fun vu s3 hq0=>?_)
  obtain⟨u,H3,I3,pu,q3⟩:=hq0
  rw[evalPart_none]
  refine wpAny_pure ?_
  have I4:Inv X pins σ H3 { s3 with heap:=s3.heap.push { cls:=.type "slice",data:=.fields #[vl,vu,.none] } }:=I3.kept (t':=s3.toks) fun b ob q=>Heap.get?_push_of_some _ q
  obtain⟨T,id,hT,ht,hg⟩:=hr pins { s3 with heap:=s3.heap.push { cls:=.type "slice",data:=.fields #[vl,vu,.none] } } σ H3 x v vl vu l u s3.heap.objs.size Q I4 r1 (Heap.IsSliceOf.new ..) pl pu q3
  show wpAny (model X.prog X.w) X.A (subscriptTail e (.Slice lo hi none p2) v (.ref s3.heap.objs.size)) (EP X pins σ Q) X.xe { s3 with heap:=s3.heap.push { cls:=.type "slice",data:=.fields #[vl,vu,.none] } }
  exact tail_any (ops:=[.ref s3.heap.objs.size,v]) ht hT hg (by with_unfolding_all rfl)
def cutV (xs:List V) (lo hi:Option Int):List V:=(xs.drop (HT.sIx xs.length 0 lo)).take (HT.sIx xs.length xs.length hi-HT.sIx xs.length 0 lo)
theorem zjw (xs:List V) (lo hi:Option Int):(cutV xs lo hi).length<=xs.length:=by
  unfold cutV
  rw[List.length_take,List.length_drop]
  omega
def zvq (K:PySem.W.Frag):R2:=fun x y H Q=>∃a b xs ys,x = .ref a/\y = .ref b/\SqT K H a xs/\SqT K H b ys/\xs≠[]/\xs.length+ys.length<=sizeLine/\
  (ys = []->Q (.ref a) H)/\(ys≠[]->∀p,H p=none->Q (.ref p) (upd H p (.tup (xs++ys))))
theorem Vals.nil_iff {xs:List V}{us:List Value}(r:Vals xs us):us = []↔xs = []:=by
  cases r with
  | nil=>simp
  | cons _ _=>simp
theorem ztp:OpR X (binaryOp .Add) (zvq X.K):=by
  intro pins s σ H x y v u Q I rx ry h
  obtain⟨a,b,xs,ys,rfl,rfl,ha,hb,hx,hz,q1,q2⟩:=h
  cases rx
  cases ry
  obtain⟨its,r1,p1,_⟩:=I.tuple ha
  obtain⟨its2,r2,p2,_⟩:=I.tuple hb
  refine HT.cat_tup p1 p2 (fun z=>hx (r1.nil_iff.mp z)) (fun z=>⟨.ref a,H,I,rfl,q1 (r2.nil_iff.mp z)⟩) (fun z=>?_) (by rw[←r1.length,←r2.length];exact hz)
  refine⟨.ref s.heap.objs.size,_,I.laid (t':=s.toks) (o:=.tup (xs++ys)) (fun b ob q=>Heap.get?_push_of_some _ q) (Nat.le_refl _) ?_,rfl,q2 (fun w=>z (r2.nil_iff.mpr w)) _ (I.hok.fresh (Nat.le_refl _))⟩
  exact⟨by rw[List.length_append];exact hz,_,r1.append r2,IsTup.new _ _⟩
end
def ixN (n:Nat) (i:Int):Option Nat:=if 0<=i then (if i<n then some i.toNat else none) else if -(n:Int)<=i then some (i+n).toNat else none
def atI {α:Type}(xs:List α) (i:Int):Option α:=(ixN xs.length i).bind fun j=>xs[j]?
theorem ztq {n:Nat}{i:Int}{j:Nat}(h:ixN n i=some j):seqIndex? i n=some j/\j<n/\-(n:Int)<=i/\i<n:=by
  unfold ixN at h
  by_cases h0:0<=i
  · rw[if_pos h0] at h
    by_cases h1:i<n
    · rw[if_pos h1] at h
      have e:i.toNat=j:=Option.some.inj h
      exact⟨by rw[seqIndex_of h0 h1,e],by omega,by omega,h1⟩
    · rw[if_neg h1] at h;cases h
  · rw[if_neg h0] at h
    by_cases h1 : -(n:Int)<=i
    · rw[if_pos h1] at h
      have e:(i+n).toNat=j:=Option.some.inj h
      exact⟨by rw[seqIndex_neg (by omega) h1,e],by omega,h1,by omega⟩
    · rw[if_neg h1] at h;cases h
theorem zjx {α:Type}{xs:List α}{i:Int}{v:α}(h:atI xs i=some v):∃j,seqIndex? i xs.length=some j/\xs[j]? = some v/\j<xs.length/\-(xs.length:Int)<=i/\i<xs.length:=by
  unfold atI at h
  cases e:ixN xs.length i with
  | none=>rw[e] at h;cases h
  | some j=>
    rw[e] at h
    obtain⟨h1,h2,h3,h4⟩:=ztq e
    exact⟨j,h1,h,h2,h3,h4⟩
theorem zb1 {α:Type}{xs:List α}{j:Nat}{v:α}(h:xs[j]? = some v):atI xs (j:Int)=some v:=by
  have hj:j<xs.length:=(List.getElem?_eq_some_iff.mp h).1
  have e:ixN xs.length (j:Int)=some j:=by
    unfold ixN
    rw[if_pos (by omega),if_pos (by omega)];simp
  unfold atI;rw[e];exact h
def ztr (b:Expr):Prop:=∀o i,subscripted b false o i=operate [o,i] (getItem o i)
def IxR (X:Cx) (r:R2):Prop:=
  ∀(value slice:Expr) (pins:List (Addr×Obj)) (s:Shared) (σ:St) (H:Hp) (x y:V) (v u:Value) (Q:VK),Inv X pins σ H s->RelV x v->RelV y u->r x y H Q->
    subscripted slice false v u=operate [v,u] (getItem v u)->wpAny (model X.prog X.w) X.A (subscriptTail value slice v u) (EP X pins σ Q) X.xe s
def MtR (X:Cx) (id:String) (r:V->List V->Hp->VK->Prop):Prop:=
  ∀(pins:List (Addr×Obj)) (s:Shared) (σ:St) (H:Hp) (x:V) (xs:List V) (v:Value) (us:List Value) (Q:VK),Inv X pins σ H s->RelV x v->Vals xs us->r x xs H Q->
    wpAny (model X.prog X.w) X.A (call (.builtin id) (v::us)) (EP X pins σ Q) X.xe s
section
variable {X:Cx}{a b:Expr}{ta tb:TE}{pos:Pos}
theorem zq {r:R2}(hr:IxR X r) (ha:PE X a ta) (hb:PE X b tb) (hs:ztr b):PE X (.Subscript a b pos) (tOp r ta tb):=by
  intro pins s σ H Q I h
  exact Subscript_ (binT ha hb I h fun v u s2 x y H2 I2 rx ry q=>hr a b pins s2 σ H2 x y v u Q I2 rx ry q (hs _ _))
def rIxL (K:PySem.W.Frag):R2:=fun x y H Q=>∃p xs i v,x = .ref p/\y = .int i/\SqL K H p xs/\atI xs i=some v/\Q v H
def rIxT (K:PySem.W.Frag):R2:=fun x y H Q=>∃p xs i v,x = .ref p/\y = .int i/\SqT K H p xs/\atI xs i=some v/\Q v H
def rIxS:R2:=fun x y H Q=>∃z i c,x = .str z/\y = .int i/\z.length<=sizeLine/\atI z.cps.toList i=some c/\Q (.str ⟨#[c]⟩) H
theorem zts:IxR X (rIxL X.K):=by
  intro value slice pins s σ H x y v u Q I rx ry h hs
  obtain⟨p,xs,i,z,rfl,rfl,hq,he,q⟩:=h
  cases rx
  obtain⟨t,rfl⟩:=ry
  obtain⟨its,r,pl,hz⟩:=I.list hq
  obtain⟨j,h1,h2,h3,h4,h5⟩:=zjx he
  obtain⟨w,ew,rw'⟩:=r.get h2
  have hl:=r.length
  have hn:=zlc
  have fin:EP X pins σ Q w s:=⟨z,H,I,rw',q⟩
  by_cases h0:0<=i
  · have hj:i.toNat=j:=by
      rw[seqIndex_of h0 h5] at h1
      exact Option.some.inj h1
    exact item_listR pl.isList h0 (by omega) (by rw[hj];simpa using ew) fin hs
  · have hj:(i+(its.toArray.size:Int)).toNat=j:=by
      rw[seqIndex_neg (by omega) h4] at h1
      rw[List.size_toArray,←hl]
      exact Option.some.inj h1
    exact subscriptTail_builtinR (x:=w) pl.isList.typeIs slot_list_getitem.lookup
      (wpAny_getItem_list_neg (Q:=fun r s'=>r=w/\EP X pins σ Q r s') pl.isList (by omega) (by rw[List.size_toArray]<;>omega) (by omega) (by rw[hj];simpa using ew) ⟨rfl,fin⟩) hs
theorem zvr:IxR X (rIxT X.K):=by
  intro value slice pins s σ H x y v u Q I rx ry h hs
  obtain⟨p,xs,i,z,rfl,rfl,hq,he,q⟩:=h
  cases rx
  obtain⟨t,rfl⟩:=ry
  obtain⟨its,r,pl,hz⟩:=I.tuple hq
  obtain⟨j,h1,h2,h3,h4,h5⟩:=zjx he
  obtain⟨w,ew,rw'⟩:=r.get h2
  have hl:=r.length
  have hn:=zlc
  have fin:EP X pins σ Q w s:=⟨z,H,I,rw',q⟩
  exact subscriptTail_builtinR (x:=w) pl.typeIs slot_tuple_getitem.lookup
    (getItem_tuple (j:=j) (Q:=fun r s'=>r=w/\EP X pins σ Q r s') pl (by omega) (by omega) (by rw[List.size_toArray,←hl];exact h1) (by simpa using ew) ⟨rfl,fin⟩) hs
theorem zvs:IxR X rIxS:=by
  intro value slice pins s σ H x y v u Q I rx ry h hs
  obtain⟨z,i,c,rfl,rfl,hz,he,q⟩:=h
  obtain⟨t,rfl⟩:=rx
  obtain⟨t',rfl⟩:=ry
  obtain⟨j,h1,h2,h3,h4,h5⟩:=zjx he
  have hl:z.cps.toList.length=z.length:=by simp[Str.length]
  rw[hl] at h1 h4 h5
  have hn:=zlc
  exact tail_any (typeIs_str s z t) slot_str_getitem.lookup (getItem_str (c:=c) (by
    have e1:decide (i < -(2 ^ 63:Int))=false:=decide_eq_false (by omega)
    have e2:decide (i≥2 ^ 63)=false:=decide_eq_false (by omega)
    rw[e1,e2,Bool.or_false]) (by rw[h1];simpa using h2) ⟨.str ⟨#[c]⟩,H,I.tok _,⟨_,rfl⟩,q⟩) hs
theorem zhu (lo hi:Option Int) (n:Nat):(sliceBounds lo hi none n).1=((HT.sIx n 0 lo:Nat):Int)/\(sliceBounds lo hi none n).2.1=((HT.sIx n n hi:Nat):Int)/\(sliceBounds lo hi none n).2.2=1:=by
  refine⟨?_,?_,rfl⟩
  · cases lo with
    | none=>simp[sliceBounds,HT.sIx]
    | some i=>
      simp only [sliceBounds,HT.sIx,Option.getD_none,show (1:Int) > 0 by decide,if_true]
      by_cases h:i<0
      · simp only [h,if_true]<;>omega
      · simp only [h,if_false]<;>omega
  · cases hi with
    | none=>simp[sliceBounds,HT.sIx]
    | some i=>
      simp only [sliceBounds,HT.sIx,Option.getD_none,show (1:Int) > 0 by decide,if_true]
      by_cases h:i<0
      · simp only [h,if_true]<;>omega
      · simp only [h,if_false]<;>omega
theorem zgu (its:List Value) (lo hi:Option Int):slicePick its.toArray lo hi none=((its.drop (HT.sIx its.length 0 lo)).take (HT.sIx its.length its.length hi-HT.sIx its.length 0 lo)).toArray:=by
  obtain⟨h1,h2,h3⟩:=zhu lo hi its.toArray.size
  unfold slicePick
  rw[h1,h2,h3]
  simp only [sliceRange_one,pick_run,List.size_toArray]<;>rfl
def rSlL (K:PySem.W.Frag):V->Option Int->Option Int->Hp->VK->Prop:=fun x lo hi H Q=>∃a xs,x = .ref a/\SqL K H a xs/\∀p,H p=none->Q (.ref p) (upd H p (.lst (cutV xs lo hi)))
theorem ztt:SlR X (rSlL X.K):=by
  intro pins s σ H x v vl vu lo hi sl Q I rx hs pl pu h
  obtain⟨a,xs,rfl,hx,q⟩:=h
  cases rx
  obtain⟨its,r,ht,hz⟩:=I.list hx
  have hlen:=r.length
  refine⟨"list",_,slot_list_getitem.lookup,ht.isList.typeIs,?_⟩
  refine wpAny_getItem_list_slice ht.isList hs pl pu .none (by simp) ?_ (by rw[List.size_toArray]<;>omega)
  rw[zgu,←hlen]
  refine⟨.ref s.heap.objs.size,_,I.laid (t':=s.toks) (o:=.lst (cutV xs lo hi)) (fun b ob q=>Heap.get?_push_of_some _ q) (Nat.le_refl _) ?_,rfl,q _ (I.hok.fresh (Nat.le_refl _))⟩
  exact⟨Nat.le_trans (zjw xs lo hi) hz,_,0,(r.drop (HT.sIx xs.length 0 lo)).take (HT.sIx xs.length xs.length hi-HT.sIx xs.length 0 lo),Heap.get?_push_size _ rfl⟩
def zb6:V->Bool
  | .non=>true
  | .bl _=>true
  | .int _=>true
  | .str _=>true
  | _=>false
def eqV:V->V->Bool
  | .non,.non=>true
  | .bl a,.bl b=>a == b
  | .bl a,.int b=>(if a then 1 else 0) == b
  | .int a,.bl b=>a == (if b then 1 else 0)
  | .int a,.int b=>a == b
  | .str a,.str b=>a == b
  | _,_=>false
theorem zsr {A:Around}{s:Shared}{y x:V}{u v:Value}(ry:RelV y u) (rx:RelV x v) (fy:zb6 y=true) (fx:zb6 x=true):SeqAt.EqAt A s u v (eqV y x):=by
  cases y with
  | non=>
    cases ry
    cases x with
    | non=>cases rx;exact SeqAt.EqAt.same _
    | bl b=>cases rx;exact SeqAt.EqAt.none_bool b
    | int b=>obtain⟨t,rfl⟩:=rx;exact SeqAt.EqAt.none_int b t
    | str b=>obtain⟨t,rfl⟩:=rx;exact SeqAt.EqAt.none_str b t
    | _=>exact absurd (show false=true from fx) Bool.false_ne_true
  | bl a=>
    cases ry
    cases x with
    | non=>cases rx;exact SeqAt.EqAt.bool_none a
    | bl b=>cases rx;exact SeqAt.EqAt.bool_bool a b
    | int b=>obtain⟨t,rfl⟩:=rx;exact SeqAt.EqAt.bool_int a b t
    | str b=>obtain⟨t,rfl⟩:=rx;exact SeqAt.EqAt.bool_str a b t
    | _=>exact absurd (show false=true from fx) Bool.false_ne_true
  | int a=>
    obtain⟨t',rfl⟩:=ry
    cases x with
    | non=>cases rx;exact SeqAt.EqAt.int_none a t'
    | bl b=>cases rx;exact SeqAt.EqAt.int_bool a t' b
    | int b=>obtain⟨t,rfl⟩:=rx;exact SeqAt.EqAt.int_int a t' b t
    | str b=>obtain⟨t,rfl⟩:=rx;exact SeqAt.EqAt.int_str a t' b t
    | _=>exact absurd (show false=true from fx) Bool.false_ne_true
  | str a=>
    obtain⟨t',rfl⟩:=ry
    cases x with
    | non=>cases rx;exact SeqAt.EqAt.str_none a t'
    | bl b=>cases rx;exact SeqAt.EqAt.str_bool a t' b
    | int b=>obtain⟨t,rfl⟩:=rx;exact SeqAt.EqAt.str_int a t' b t
    | str b=>obtain⟨t,rfl⟩:=rx;exact SeqAt.EqAt.str_str a t' b t
    | _=>exact absurd (show false=true from fx) Bool.false_ne_true
  | _=>exact absurd (show false=true from fy) Bool.false_ne_true
def eqU (x:V) (u:Value):Bool:=match u with
  | .none=>eqV .non x
  | .bool b=>eqV (.bl b) x
  | .int i _=>eqV (.int i) x
  | .str z _=>eqV (.str z) x
  | _=>false
theorem zss {x y:V}{u:Value}(r:RelV y u) (f:zb6 y=true):eqU x u=eqV y x:=by
  cases y with
  | non=>cases r;rfl
  | bl b=>cases r;rfl
  | int i=>obtain⟨t,rfl⟩:=r;rfl
  | str z=>obtain⟨t,rfl⟩:=r;rfl
  | _=>exact absurd (show false=true from f) Bool.false_ne_true
theorem zjy {x:V}:∀{xs:List V}{us:List Value},Vals xs us->xs.all zb6=true->us.any (eqU x)=xs.any fun y=>eqV y x
  | _,_,.nil,_=>rfl
  | y::xs,u::us,.cons r t,f=>by
    rw[List.all_cons,Bool.and_eq_true] at f
    rw[List.any_cons,List.any_cons,zss r f.1,zjy t f.2]
theorem zgv {A:Around}{s:Shared}{x:V}{v:Value}(rx:RelV x v) (fx:zb6 x=true):∀{xs:List V}{us:List Value},Vals xs us->xs.all zb6=true->∀u∈us,SeqAt.EqAt A s u v (eqU x u)
  | _,_,.nil,_=>fun u hu=>by cases hu
  | y::xs,u::us,.cons r t,f=>fun u' hu=>by
    rw[List.all_cons,Bool.and_eq_true] at f
    rcases List.mem_cons.mp hu with rfl | hu
    · rw[zss r f.1];exact zsr r rx f.1 fx
    · exact zgv rx fx t f.2 u' hu
def inV (x:V) (xs:List V):Bool:=xs.any fun y=>eqV y x
def rIn (K:PySem.W.Frag) (neg:Bool):R2:=fun x y H Q=>∃p xs,y = .ref p/\(SqL K H p xs\/SqT K H p xs)/\zb6 x=true/\xs.all zb6=true/\Q (.bl (if neg then !inV x xs else inV x xs)) H
theorem znx:OpR X (compareOp .In) (rIn X.K false):=by
  intro pins s σ H x y v u Q I rx ry h
  obtain⟨p,xs,rfl,hq,fx,fs,q⟩:=h
  cases ry
  rcases hq with hq | hq
  · obtain⟨its,r,pl,hz⟩:=I.list hq
    refine SeqAt.in_listAt (eqU x) pl.isList (fun w hw=>zgv rx fx r fs w (by simpa using hw)) ⟨.bl _,H,I,rfl,?_⟩
    rw[show its.toArray.any (eqU x)=its.any (eqU x) by simp,zjy r fs]
    exact q
  · obtain⟨its,r,pl,hz⟩:=I.tuple hq
    refine SeqAt.in_tupleAt (eqU x) pl (fun w hw=>zgv rx fx r fs w (by simpa using hw)) ⟨.bl _,H,I,rfl,?_⟩
    rw[show its.toArray.any (eqU x)=its.any (eqU x) by simp,zjy r fs]
    exact q
theorem zhv:zbp X (.builtin "len") (fun xs H Q=>∃p ys,xs = [.ref p]/\(SqL X.K H p ys\/SqT X.K H p ys)/\Q (.int ys.length) H):=by
  intro pins s σ H xs us Q I r h
  obtain⟨p,ys,rfl,hq,q⟩:=h
  obtain⟨u,rfl,rx⟩:=zdd r
  cases rx
  have hn:=zlc
  rcases hq with hq | hq
  · obtain⟨its,r',pl,hz⟩:=I.list hq
    have hlen:=r'.length
    exact Calls.call_len_list pl.isList (by simp only [List.size_toArray]<;>omega) ⟨.int ys.length,H,I.tok _,⟨s.toks+1,by rw[List.size_toArray,hlen]⟩,q⟩
  · obtain⟨its,r',pl,hz⟩:=I.tuple hq
    have hlen:=r'.length
    exact len_tuple pl (by simp only [List.size_toArray]<;>omega) ⟨.int ys.length,H,I.tok _,⟨s.toks+1,by rw[List.size_toArray,hlen]⟩,q⟩
theorem zhw:zbp X (.type "list") (fun xs H Q=>∃p ys,xs = [.ref p]/\(SqL X.K H p ys\/SqT X.K H p ys)/\∀l,H l=none->Q (.ref l) (upd H l (.lst ys))):=by
  intro pins s σ H xs us Q I r h
  obtain⟨p,ys,rfl,hq,q⟩:=h
  obtain⟨u,rfl,rx⟩:=zdd r
  cases rx
  have fin:∀(its:List Value),Vals ys its->ys.length<=sizeLine->∀(h':Heap) (c':Nat),(∀b o',s.heap.get? b=some o'->h'.get? b=some o')->
      h'.get? s.heap.objs.size=some { cls:=.type "list",dict:=none,data:=.seq its.toArray c',slots:=#[] }->EP X pins σ Q (.ref s.heap.objs.size) { s with heap:=h' }:=fun its r' hz h' c' kp e=>
    ⟨.ref s.heap.objs.size,_,I.laid (t':=s.toks) kp (Nat.le_refl _) (show ObjOk X.prog X.w _ h' _ (.lst ys) from ⟨hz,its,c',r',e⟩),rfl,q _ (I.hok.fresh (Nat.le_refl _))⟩
  rcases hq with hq | hq
  · obtain⟨its,r',pl,hz⟩:=I.list hq
    have hlen:=r'.length
    obtain⟨o,ho,hc,n,hd⟩:=pl.isList
    exact call_list_seq p (.inl rfl) ho hc hd (fun h' c' kp e=>fin its r' hz h' c' kp e) (by simp only [List.size_toArray]<;>omega)
  · obtain⟨its,r',pl,hz⟩:=I.tuple hq
    have hlen:=r'.length
    obtain⟨o,ho,hc,n,hd⟩:=pl
    exact call_list_seq p (.inr rfl) ho hc hd (fun h' c' kp e=>fin its r' hz h' c' kp e) (by simp only [List.size_toArray]<;>omega)
def tyV (K:PySem.W.Frag) (T:String) (x:V) (H:Hp):Prop:=match x with
  | .str _=>T = "str"
  | .int _=>T = "int"
  | .ref p=>(T = "list"/\∃xs,SqL K H p xs)\/(T = "tuple"/\∃o,K.lookup p=some o/\o.cls = .type "tuple"/\o.dict=none)\/
      (T = "dict"/\((∃kvs,H p=some (.dK kvs))\/∃kvs,H p=some (.dT kvs)))\/(T = "set"/\∃S n,H p=some (.set S n))
  | _=>False
theorem zst {pins:List (Addr×Obj)}{σ:St}{H:Hp}{s:Shared}{T:String}{x:V}{v:Value}(I:Inv X pins σ H s) (r:RelV x v) (ty:tyV X.K T x H) :
    s.TypeIs v T/\∀a,v = .ref a->∃ob,s.heap.get? a=some ob/\ob.dict=none:=by
  cases x with
  | str z=>
    obtain⟨t,rfl⟩:=r
    cases (show T = "str" from ty)
    exact⟨typeIs_str s z t,fun _ e=>nomatch e⟩
  | int i=>
    obtain⟨t,rfl⟩:=r
    cases (show T = "int" from ty)
    exact⟨typeIs_int s i t,fun _ e=>nomatch e⟩
  | ref p=>
    cases r
    rcases ty with ⟨rfl,xs,hq⟩ | ⟨rfl,o,hk,hc,hd⟩ | ⟨rfl,hk⟩ | ⟨rfl,S,n,hk⟩
    · obtain⟨its,_,pl,_⟩:=I.list hq
      refine⟨pl.isList.typeIs,fun a e=>?_⟩
      cases e
      obtain⟨o,n,e,c,hd,_⟩:=pl
      exact⟨o,e,hd⟩
    · refine⟨⟨o,I.kIn p o hk,hc⟩,fun a e=>?_⟩
      cases e
      exact⟨o,I.kIn _ o hk,hd⟩
    · have z:∃o,s.heap.get? p=some o/\o.ExactDict:=by
        rcases hk with ⟨kvs,hk⟩ | ⟨kvs,hk⟩
        · obtain⟨_,_,_,_,o,_,_,e,ex,_⟩:=I.hok p _ hk
          exact⟨o,e,ex⟩
        · obtain⟨_,_,_,_,o,_,_,e,ex,_⟩:=I.hok p _ hk
          exact⟨o,e,ex⟩
      obtain⟨o,e,ex⟩:=z
      refine⟨⟨o,e,ex.1⟩,fun a e2=>?_⟩
      cases e2
      exact⟨o,e,ex.2.1⟩
    · obtain⟨o,_,_,_,e,ex,_⟩:=I.hok p _ hk
      refine⟨⟨o,e,ex.1⟩,fun a e2=>?_⟩
      cases e2
      exact⟨o,e,ex.2.1⟩
  | _=>exact False.elim ty
def tBM0 (K:PySem.W.Frag) (T:String) (r:V->List V->Hp->VK->Prop) (to:TE):TE:=fun σ H Q=>to σ H fun x H1=>tyV K T x H1/\r x [] H1 Q
def tBM (K:PySem.W.Frag) (T:String) (r:V->List V->Hp->VK->Prop) (to:TE) (t:TA):TE:=fun σ H Q=>to σ H fun x H1=>tyV K T x H1/\t σ H1 fun xs H2=>r x xs H2 Q
variable {o e:Expr}{es:List Expr}{to:TE}{t:TA}{name:Str}{apos cpos:Pos}{T id:String}{r:V->List V->Hp->VK->Prop}
theorem zvt (pa:PlainAttrs T) (slot:Slot T name id) (hty:typeOf (.builtin id)=pure (.type "method_descriptor")) (hm:MtR X id r) (ho:PE X o to)
    (hbase:attributeBase o name X.env (eval o X.env)=eval o X.env:=by rfl) (hline:(apos.endLine == cpos.line)=true:=by rfl):PE X (.Call (.Attribute o name apos) [] [] cpos) (tBM0 X.K T r to):=by
  intro pins s σ H Q I h
  refine wpAny_Call_method0_late hbase hline (thn (ho pins s σ H _ I h) fun v s1 hq0=>?_)
  obtain⟨x,H1,I1,r1,ty,q1⟩:=hq0
  obtain⟨h1,h2⟩:=zst I1 r1 ty
  exact⟨T,id,pa,slot,hty,h1,h2,Calls.callWith_builtin rfl (PySem.evalArgs_none (hm pins s1 σ H1 x [] v [] Q I1 r1 .nil q1))⟩
theorem zxa (pa:PlainAttrs T) (slot:Slot T name id) (hty:typeOf (.builtin id)=pure (.type "method_descriptor")) (hm:MtR X id r) (ho:PE X o to) (ha:PA X (e::es) t)
    (hbase:attributeBase o name X.env (eval o X.env)=eval o X.env:=by rfl)
    (hfew:((backTo cpos (starEach (e::es) X.env)).all (fun x=>!x.1)&&(backToKw cpos (keywordEach [] X.env)).all (fun x=>x.1.isSome)
      && decide ((e::es).length+([]:List Keyword).length+(if ([]:List Keyword).isEmpty then 0 else 1)<30))=true:=by rfl)
    (hline:(apos.endLine == cpos.line)=true:=by rfl) (hs:starEach (e::es) X.env=(false,eval e X.env)::starEach es X.env:=by rfl) (hplain:(backTo cpos (starEach es X.env)).any (·.1)=false:=by rfl) :
    PE X (.Call (.Attribute o name apos) (e::es) [] cpos) (tBM X.K T r to t):=by
  intro pins s σ H Q I h
  refine wpAny_Call_method_late hbase hfew hline rfl (thn (ho pins s σ H _ I h) fun v s1 hq0=>?_)
  obtain⟨x,H1,I1,r1,ty,q1⟩:=hq0
  obtain⟨h1,h2⟩:=zst I1 r1 ty
  refine⟨T,id,pa,slot,hty,h1,h2,?_⟩
  have hA:=ha cpos pins s1 σ H1 _ I1 q1
  rw[hs] at hA ⊢
  refine Calls.callWith_builtin (by show (false||(backTo cpos (starEach es X.env)).any (·.1))=false;rw[hplain]<;>rfl) (Calls.evalArgs_plain ?_)
  exact thn hA fun us s2 ⟨vs,H2,I2,r2,q2⟩=>hm pins s2 σ H2 x vs v us Q I2 r1 r2 q2
end
def MtM (X:Cx) (id:String) (r:V->List V->Hp->VK->Prop):Prop:=
  ∀(pins:List (Addr×Obj)) (s:Shared) (σ:St) (H:Hp) (x:V) (xs:List V) (v:Value) (us:List Value) (Q:VK),Inv X pins σ H s->RelV x v->Vals xs us->r x xs H Q->
    wpAny (model X.prog X.w) X.A (call (.builtin id) (v::us)) (EP X pins σ Q) X.xe s
theorem Vals.one:∀{x:V}{us:List Value},Vals [x] us->∃u,us = [u]/\RelV x u
  | _,_,.cons r .nil=>⟨_,rfl,r⟩
section
variable {X:Cx}{pins:List (Addr×Obj)}{σ:St}{H:Hp}{s:Shared}{l b:Addr}{xs ys zs:List V}
theorem Inv.lset {its its':List Value}{n:Nat}{f:Array Value->Array Value}{t':Nat}(I:Inv X pins σ H s) (hH:H l=some (.lst xs))
    (e:s.heap.get? l=some { cls:=.type "list",data:=.seq its.toArray n }) (hf:f its.toArray=its'.toArray) (hv:Vals ys its') (hz:ys.length<=sizeLine) :
    Inv X pins σ (upd H l (.lst ys)) { s with heap:=s.heap.update l (Obj.mapSeq f),toks:=t' }:=by
  have q:=PySem.IsL.update e f
  rw[hf] at q
  refine I.write (x:=l) (e:=l) (by rw[hH];exact trivial) (.inl rfl) (fun b' u hb hu=>(Heap.get?_update_other s.heap (Obj.mapSeq f) (Ne.symm hb)).trans hu) ⟨_,q⟩ ?_
  exact⟨hz,its',_,hv,q⟩
theorem Inv.lnew {its:List Value}{t':Nat}(I:Inv X pins σ H s) (hv:Vals ys its) (hz:ys.length<=sizeLine) :
    Inv X pins σ (upd H s.heap.objs.size (.lst ys)) { s with heap:=s.heap.push { cls:=.type "list",data:=.seq its.toArray },toks:=t' }:=
  I.laid (fun _ _ q=>Heap.get?_push_of_some _ q) (Nat.le_refl _) ⟨hz,its,0,hv,Heap.get?_push_size _ rfl⟩
theorem Inv.fresh (I:Inv X pins σ H s):H s.heap.objs.size=none:=I.hok.fresh (Nat.le_refl _)
theorem Inv.lstM (I:Inv X pins σ H s) (hH:H l=some (.lst xs)):xs.length<=sizeLine/\∃(its:List Value) (n:Nat),Vals xs its/\xs.length=its.length/\s.heap.get? l=some { cls:=.type "list",data:=.seq its.toArray n }:=by
  obtain⟨z,its,n,r,e⟩:=I.hok l _ hH
  exact⟨z,its,n,r,r.length,e⟩
theorem zwy {n:Nat}(h:n<=sizeLine):Builtin.List.listTooLong n=false:=by
  unfold Builtin.List.listTooLong
  exact decide_eq_false (by omega)
end
section
variable {X:Cx}
def ztu:V->List V->Hp->VK->Prop:=fun x vs H Q=>∃l xs y,x = .ref l/\vs = [y]/\H l=some (.lst xs)/\xs.length<sizeLine/\Q .non (upd H l (.lst (xs++[y])))
theorem za9:MtM X "list.append" ztu:=by
  intro pins s σ H x vs v us Q I rx rv h
  obtain⟨l,xs,y,rfl,rfl,hH,hz,q⟩:=h
  cases rx
  obtain⟨u,rfl,ru⟩:=rv.one
  obtain⟨z,its,n,r,hl,e⟩:=I.lstM hH
  refine call_meets F.slot_list_append ⟨_,e,rfl⟩ F.entry_list_append (F.args_list_append_2 _ _) (PySem.list_append l its.toArray n u (by rw[List.size_toArray];omega)) ⟨e,?_⟩
  refine⟨.non,_,I.lset (its':=its++[u]) hH e (by simp) (r.append (.cons ru .nil)) ?_,rfl,q⟩
  rw[List.length_append,List.length_singleton]
  omega
def rCat:R2:=fun x y H Q=>∃l b xs zs,x = .ref l/\y = .ref b/\H l=some (.lst xs)/\H b=some (.lst zs)/\xs.length+zs.length<=sizeLine/\∀p,H p=none->Q (.ref p) (upd H p (.lst (xs++zs)))
theorem ze9:OpR X (binaryOp .Add) rCat:=by
  intro pins s σ H x y v u Q I rx ry h
  obtain⟨l,b,xs,zs,rfl,rfl,hH,hB,hz,q⟩:=h
  cases rx
  cases ry
  obtain⟨z,its,n,r,hl,e⟩:=I.lstM hH
  obtain⟨z2,its2,n2,r2,hl2,e2⟩:=I.lstM hB
  refine PySem.P.add_list e e2 ?_ (by rw[List.size_toArray,List.size_toArray];omega)
  have ea:its.toArray++its2.toArray=(its++its2).toArray:=by simp
  rw[ea]
  exact⟨.ref _,_,I.lnew (t':=s.toks) (r.append r2) (by rw[List.length_append];omega),rfl,q _ I.fresh⟩
end
section
variable {κ:Type} [DecidableEq κ]
def valV (kvs:List (κ×V)) (k:κ):Option V:=(kvs.find? fun kv=>decide (kv.1=k)).map (·.2)
def putK (kvs:List (κ×V)) (k:κ) (v:V):List (κ×V):=
  if (kvs.any fun kv=>decide (kv.1=k))=true then kvs.map (fun kv=>if kv.1=k then (kv.1,v) else kv) else kvs++[(k,v)]
theorem zdq {p:κ×V}{r:List (κ×V)}{k:κ}(e:p.1=k):valV (p::r) k=some p.2:=by simp[valV,List.find?_cons,e]
theorem zgw {p:κ×V}{r:List (κ×V)}{k:κ}(e:¬p.1=k):valV (p::r) k=valV r k:=by simp[valV,List.find?_cons,e]
theorem zle (k:κ):∀kvs:List (κ×V),(kvs.any fun kv=>decide (kv.1=k))=(valV kvs k).isSome
  | []=>rfl
  | p::r=>by
    rw[List.any_cons]
    by_cases e:p.1=k
    · simp only [zdq e,decide_eq_true e,Bool.true_or,Option.isSome_some]
    · rw[zgw e,decide_eq_false e,Bool.false_or];exact zle k r
theorem zde (kvs:List (κ×V)) (k:κ) (v:V):(putK kvs k v).length<=kvs.length+1:=by
  unfold putK
  split
  · rw[List.length_map];omega
  · rw[List.length_append,List.length_cons,List.length_nil];omega
theorem RelO.isSome_eq {o:Option V}{u:Option Value}(r:RelO o u):o.isSome=u.isSome:=by
  cases o with
  | none=>cases u with
    | none=>rfl
    | some _=>exact (show False from r).elim
  | some _=>cases u with
    | none=>exact (show False from r).elim
    | some _=>rfl
theorem KV.val {kvs:List (κ×V)}{vs:List (κ×Value)}(r:KV kvs vs) (k:κ):RelO (valV kvs k) (valueAt vs k):=by
  unfold KV at r
  induction r with
  | nil=>exact True.intro
  | @cons p q ps qs h t ih=>
    obtain⟨h1,h2⟩:=h
    by_cases e:p.1=k
    · have e':q.1=k:=h1.symm.trans e
      have b:valueAt (q::qs) k=some q.2:=by simp[valueAt,List.find?_cons,e']
      rw[zdq e,b];exact h2
    · have e':¬q.1=k:=fun z=>e (h1.trans z)
      have b:valueAt (q::qs) k=valueAt qs k:=by simp[valueAt,List.find?_cons,e']
      rw[zgw e,b];exact ih
theorem KV.any {kvs:List (κ×V)}{vs:List (κ×Value)}(r:KV kvs vs) (k:κ):(kvs.any fun kv=>decide (kv.1=k))=vs.any fun kv=>decide (kv.1=k):=by
  unfold KV at r
  induction r with
  | nil=>rfl
  | cons h t ih=>rw[List.any_cons,List.any_cons,ih,h.1]
theorem KV.repl {kvs:List (κ×V)}{vs:List (κ×Value)}(r:KV kvs vs) (k:κ) {y:V}{u:Value}(ry:RelV y u) :
    KV (kvs.map fun kv=>if kv.1=k then (kv.1,y) else kv) (vs.map fun kv=>if kv.1=k then (kv.1,u) else kv):=by
  unfold KV at r ⊢
  induction r with
  | nil=>exact .nil
  | @cons p q ps qs h t ih=>
    rw[List.map_cons,List.map_cons]
    refine .cons ?_ ih
    obtain⟨h1,h2⟩:=h
    by_cases e:p.1=k
    · rw[if_pos e,if_pos (h1.symm.trans e)];exact⟨h1,ry⟩
    · rw[if_neg e,if_neg (fun z=>e (h1.trans z))];exact⟨h1,h2⟩
theorem KV.put {kvs:List (κ×V)}{vs:List (κ×Value)}(r:KV kvs vs) (k:κ) {y:V}{u:Value}(ry:RelV y u):KV (putK kvs k y) (stored vs k u):=by
  unfold putK stored
  rw[r.any k]
  by_cases e:(vs.any fun kv=>decide (kv.1=k))=true
  · rw[if_pos e,if_pos e];exact r.repl k ry
  · rw[if_neg e,if_neg e];exact Paired.snoc r ⟨rfl,ry⟩
theorem KV.length {kvs:List (κ×V)}{vs:List (κ×Value)}(r:KV kvs vs):kvs.length=vs.length:=Paired.length r
end
theorem zjz {P:Program}{w:World}{k:Key}{u:Value}(r:RelV (kV k) u):(zau P w).is k u=true:=by
  cases k with
  | inl i=>obtain⟨t,e⟩:=(show ∃t,u=Value.int i t from r);subst e;exact zjr P w i t
  | inr x=>obtain⟨t,e⟩:=(show ∃t,u=Value.str x t from r);subst e;exact zjs P w x t
theorem zhx {P:Program}{w:World}:∀{ks:List Key}{us:List Value},Vals (ks.map kV) us->ItemsAre (zau P w) ks us
  | [],_,r=>by rw[List.map_nil] at r;cases r;exact .nil
  | k::ks,_,r=>by
    rw[List.map_cons] at r
    cases r with
    | cons h t=>exact .cons (zjz h) (zhx t)
abbrev KT (H:Hp):List (List Key×V)->List (List Key×Addr×Value)->Prop:=Paired fun p q=>p.1=q.1/\H q.2.1=some (.tup (p.1.map kV))/\RelV p.2 q.2.2
theorem KT.val {H:Hp}{kvs:List (List Key×V)}{xs:List (List Key×Addr×Value)}(r:KT H kvs xs) (k:List Key):RelO (valV kvs k) ((atKey xs k).map (·.2)):=by
  induction r with
  | nil=>exact True.intro
  | @cons p q ps qs h t ih=>
    obtain⟨h1,_,h2⟩:=h
    by_cases e:p.1=k
    · have e':q.1=k:=h1.symm.trans e
      have b:atKey (q::qs) k=some q.2:=by simp[atKey,List.find?_cons,e']
      rw[zdq e,b];exact h2
    · have e':¬q.1=k:=fun z=>e (h1.trans z)
      have b:atKey (q::qs) k=atKey qs k:=by simp[atKey,List.find?_cons,e']
      rw[zgw e,b];exact ih
theorem KT.repl {H:Hp}{kvs:List (List Key×V)}{xs:List (List Key×Addr×Value)}(r:KT H kvs xs) (k:List Key) {y:V}{u:Value}(ry:RelV y u) :
    KT H (kvs.map fun kv=>if kv.1=k then (kv.1,y) else kv) (xs.map (putAt k u)):=by
  induction r with
  | nil=>exact .nil
  | @cons p q ps qs h t ih=>
    rw[List.map_cons,List.map_cons]
    refine .cons ?_ ih
    obtain⟨h1,h2,h3⟩:=h
    unfold putAt
    by_cases e:p.1=k
    · rw[if_pos e,if_pos (h1.symm.trans e)];exact⟨h1,h2,ry⟩
    · rw[if_neg e,if_neg (fun z=>e (h1.trans z))];exact⟨h1,h2,h3⟩
theorem KT.put {H:Hp}{kvs:List (List Key×V)}{xs:List (List Key×Addr×Value)}(r:KT H kvs xs) (k:List Key) {b:Addr}{y:V}{u:Value}(hb:H b=some (.tup (k.map kV))) (ry:RelV y u) :
    KT H (putK kvs k y) (storedH xs k b u):=by
  have e:(kvs.any fun kv=>decide (kv.1=k))=(atKey xs k).isSome:=by
    rw[zle,(r.val k).isSome_eq,Option.isSome_map]
  unfold putK storedH
  rw[e]
  by_cases q:(atKey xs k).isSome=true
  · rw[if_pos q,if_pos q];exact r.repl k ry
  · rw[if_neg q,if_neg q];exact Paired.snoc r ⟨rfl,hb,ry⟩
theorem KT.keeps {H H':Hp}{kvs:List (List Key×V)}{xs:List (List Key×Addr×Value)}(r:KT H kvs xs) (ht:∀b ys,H b=some (.tup ys)->H' b=some (.tup ys)):KT H' kvs xs:=
  Paired.mapP r fun _ _ z=>⟨z.1,ht _ _ z.2.1,z.2.2⟩
section
variable {P:Program}{w:World}{H:Hp}{h:Heap}{a:Addr}
theorem zvu {u:HO}(ok:HOk P w H h) (e:Rd H a u):ObjOk P w H h a u:=e.ok ok
theorem zfu {kvs:List (Key×V)}(ok:HOk P w H h) (e:Rd H a (.dK kvs)):kvs.length<=sizeLine/\(a == sysModules)=false/\∃vs,KV kvs vs/\h.DictOf (zau P w) a vs:=
  show ObjOk P w H h a (.dK kvs) from zvu ok e
theorem zvv {kvs:List (Key×V)}(ok:HOk P w H h) (e:H a=some (.dK kvs)):kvs.length<=sizeLine/\(a == sysModules)=false/\∃vs,KV kvs vs/\h.DictOf (zau P w) a vs:=zfu ok (.inl e)
theorem zhy {ks:List Key}(ok:HOk P w H h) (e:H a=some (.tup (ks.map kV))):(tupleKind (zau P w)).is h ks a:=by
  obtain⟨_,its,r,o,h1,h2,n,h3⟩:=(show ObjOk P w H h a (.tup (ks.map kV)) from ok a _ e)
  exact⟨o,its.toArray,n,h1,h2,h3,by simpa using zhx r⟩
theorem zmd {kvs:List (List Key×V)}(ok:HOk P w H h) (e:Rd H a (.dT kvs)):kvs.length<=sizeLine/\(a == sysModules)=false/\
    ∃xs,KT H kvs xs/\h.DictOfH (tupleKind (zau P w)) a xs:=by
  obtain⟨z,y,xs,r,o,es,ep,h1,h2,h3,h4,h5⟩:=(show ObjOk P w H h a (.dT kvs) from zvu ok e)
  refine⟨z,y,xs,r,o,es,ep,h1,h2,h3,h4,fun x hx=>?_,h5⟩
  have all:∀{l:List (List Key×V)}{m:List (List Key×Addr×Value)},KT H l m->∀x∈m,(tupleKind (zau P w)).is h x.1 x.2.1:=by
    intro l m q
    induction q with
    | nil=>intro x hx;exact nomatch hx
    | @cons p q ps qs hq t ih=>
      intro x hx
      rcases List.mem_cons.mp hx with e | hx
      · subst e
        exact zhy ok (by rw[←hq.1];exact hq.2.1)
      · exact ih x hx
  exact all r x hx
theorem dt_of {kvs:List (List Key×V)}(ok:HOk P w H h) (e:H a=some (.dT kvs)):kvs.length<=sizeLine/\(a == sysModules)=false/\
    ∃xs,KT H kvs xs/\h.DictOfH (tupleKind (zau P w)) a xs:=zmd ok (.inl e)
end
def DGet (H:Hp) (a:Addr) (y:V) (r:Option V):Prop:=
  (∃kvs k,Rd H a (.dK kvs)/\y=kV k/\r=valV kvs k)\/∃kvs k b,Rd H a (.dT kvs)/\y = .ref b/\H b=some (.tup (k.map kV))/\r=valV kvs k
def DPut (H:Hp) (a:Addr) (y v:V) (H':Hp):Prop:=
  (∃kvs k,H a=some (.dK kvs)/\y=kV k/\kvs.length<sizeLine/\H'=upd H a (.dK (putK kvs k v)))\/
  ∃kvs k b,H a=some (.dT kvs)/\y = .ref b/\H b=some (.tup (k.map kV))/\kvs.length<sizeLine/\H'=upd H a (.dT (putK kvs k v))
theorem DGet.k {H:Hp}{a:Addr}{kvs:List (Key×V)}{k:Key}(e:H a=some (.dK kvs)):DGet H a (kV k) (valV kvs k):=.inl ⟨kvs,k,.inl e,rfl,rfl⟩
theorem DPut.k {H:Hp}{a:Addr}{kvs:List (Key×V)}{k:Key}{v:V}(e:H a=some (.dK kvs)) (hl:kvs.length<sizeLine):DPut H a (kV k) v (upd H a (.dK (putK kvs k v))):=.inl ⟨kvs,k,e,rfl,hl,rfl⟩
section
variable {X:Cx}{pins:List (Addr×Obj)}{σ:St}{H:Hp}{s:Shared}{a:Addr}{y v:V}{u r:Value}{o:Option V}{A:Around}{E:Value->Shared->Prop}
theorem Inv.big (I:Inv X pins σ H s):sysModules<s.heap.objs.size:=by
  have h:mainGlobals<s.heap.objs.size:=(I.mod.glob.keeps I.bk).lt
  exact Nat.lt_trans (by decide) h
theorem zny {Q:Value->Shared->Prop}(hu:A.units+1<cLine) (I:Inv X pins σ H s) (g:DGet H a y (some v)) (ry:RelV y u) (h:∀w' s',Inv X pins σ H s'->RelV v w'->Q w' s') :
    wpAny (model X.prog X.w) A (getItem (.ref a) u) Q E s:=by
  rcases g with ⟨kvs,k,e,ey,l⟩ | ⟨kvs,k,b,e,ey,eb,l⟩
  · subst ey
    obtain⟨z,hd,vs,rel,dd⟩:=zfu I.hok e
    obtain⟨w',hw,rw'⟩:=RelO.some_of (v:=v) (o:=valueAt vs k) (by rw[l];exact rel.val k)
    exact wpAny_getItem_of (zjz ry) dd.mapOf hw (h w' _ (I.tok _) rw')
  · subst ey
    cases (show u=Value.ref b from ry)
    obtain⟨z,hd,xs,rel,dd⟩:=zmd I.hok e
    obtain⟨w',hw,rw'⟩:=RelO.some_of (v:=v) (o:=(atKey xs k).map (·.2)) (by rw[l];exact rel.val k)
    obtain⟨p,hp,hp2⟩:=Option.map_eq_some_iff.mp hw
    refine wpAny_getItem_heap (tupleKind_room_in1 hu) (zhy I.hok eb) dd hp ?_
    rw[hp2]
    exact h w' _ (I.tok _) rw'
theorem d_in {Q:Value->Shared->Prop}(hu:A.units+1<cLine) (I:Inv X pins σ H s) (g:DGet H a y o) (ry:RelV y u) (h:∀s',Inv X pins σ H s'->Q (.bool o.isSome) s') :
    wpAny (model X.prog X.w) A (compareOp .In u (.ref a)) Q E s:=by
  rcases g with ⟨kvs,k,e,ey,l⟩ | ⟨kvs,k,b,e,ey,eb,l⟩
  · subst ey
    obtain⟨z,hd,vs,rel,dd⟩:=zfu I.hok e
    refine wpAny_in_of (zjz ry) hd dd.mapOf ?_
    rw[←(rel.val k).isSome_eq,←l]
    exact h _ (I.tok _)
  · subst ey
    cases (show u=Value.ref b from ry)
    obtain⟨z,hd,xs,rel,dd⟩:=zmd I.hok e
    refine wpAny_in_heap (tupleKind_room_in1 hu) (zhy I.hok eb) hd dd ?_
    have q:=(rel.val k).isSome_eq
    rw[Option.isSome_map] at q
    rw[←q,←l]
    exact h _ (I.tok _)
theorem ztv {Q:Value->Shared->Prop}(hu:A.units+1<cLine) (I:Inv X pins σ H s) (g:DGet H a y o) (ry:RelV y u) (h:∀s',Inv X pins σ H s'->Q (.bool (!o.isSome)) s') :
    wpAny (model X.prog X.w) A (compareOp .NotIn u (.ref a)) Q E s:=by
  rcases g with ⟨kvs,k,e,ey,l⟩ | ⟨kvs,k,b,e,ey,eb,l⟩
  · subst ey
    obtain⟨z,hd,vs,rel,dd⟩:=zfu I.hok e
    refine wpAny_notIn_of (zjz ry) hd dd.mapOf ?_
    rw[←(rel.val k).isSome_eq,←l]
    exact h _ (I.tok _)
  · subst ey
    cases (show u=Value.ref b from ry)
    obtain⟨z,hd,xs,rel,dd⟩:=zmd I.hok e
    refine wpAny_notIn_heap (tupleKind_room_in1 hu) (zhy I.hok eb) hd dd ?_
    have q:=(rel.val k).isSome_eq
    rw[Option.isSome_map] at q
    rw[←q,←l]
    exact h _ (I.tok _)
theorem zj0 {h':Heap}{t':Nat}{ob:HO}(I:Inv X pins σ H s) (mu:Mut (H a)) (hs:Heap.SameBut a s.heap h') (he:∃q,h'.get? a=some q) (new:ObjOk X.prog X.w (upd H a ob) h' a ob) :
    Inv X pins σ (upd H a ob) { s with heap:=h',toks:=t' }:=
  I.write (x:=a) (e:=a) mu (.inl rfl) (fun b q hb z=>(hs.2 b hb).trans z) he new
theorem znz {P:Program}{w:World}{H':Hp}{h':Heap}{kvs:List (Key×V)}{vs:List (Key×Value)}(z:kvs.length<=sizeLine) (hd:(a == sysModules)=false) (rel:KV kvs vs) (dd:h'.DictOf (zau P w) a vs) :
    ObjOk P w H' h' a (.dK kvs):=⟨z,hd,vs,rel,dd⟩
theorem zn0 {H':Hp}{Q:Unit->Shared->Prop}(hu:A.units+1<cLine) (I:Inv X pins σ H s) (g:DPut H a y v H') (ry:RelV y u) (rv:RelV v r) (h:∀s',Inv X pins σ H' s'->Q () s') :
    wpAny (model X.prog X.w) A (setItem (.ref a) u r) Q E s:=by
  rcases g with ⟨kvs,k,e,ey,l,eH⟩ | ⟨kvs,k,b,e,ey,eb,l,eH⟩
  · subst ey eH
    obtain⟨z,hd,vs,rel,dd⟩:=zvv I.hok e
    have hz:vs.length<=sizeLine:=by rw[←rel.length];exact z
    have hl:(putK kvs k v).length<=sizeLine:=by have:=zde kvs k v;omega
    refine wpAny_setItem_pairs (hsz:=hz) (zjz ry) dd fun h' dd' hs=>h _ ?_
    have he:∃q,h'.get? a=some q:=let ⟨q,_,_,hq,_⟩:=dd';⟨q,hq⟩
    exact zj0 I (by rw[e];exact True.intro) hs he (znz hl hd (rel.put k rv) dd')
  · subst ey eH
    cases (show u=Value.ref b from ry)
    obtain⟨z,hd,xs,rel,dd⟩:=dt_of I.hok e
    have hz:xs.length<=sizeLine:=by rw[←Paired.length rel];exact z
    have hl:(putK kvs k v).length<=sizeLine:=by have:=zde kvs k v;omega
    refine wpAny_setItem_heap (hsz:=hz) (tupleKind_room_in1 hu) (zhy I.hok eb) dd fun h' dd' hs=>h _ ?_
    obtain⟨q,es,ep,hq,h2,h3,h4,_,h5⟩:=dd'
    refine zj0 I (by rw[e];exact True.intro) hs ⟨q,hq⟩ ⟨hl,hd,_,(rel.put k eb rv).keeps fun c ys ec=>?_,q,es,ep,hq,h2,h3,h4,h5⟩
    rw[zl (zc3 ec e (fun z=>nomatch z))]
    exact ec
end
section
variable {X:Cx}{pins:List (Addr×Obj)}{σ:St}{H:Hp}{s:Shared}{a:Addr}{kvs:List (Key×V)}{k:Key}{u:Value}{A:Around}{E:Value->Shared->Prop}
theorem zvw {Q:Value->Shared->Prop}(I:Inv X pins σ H s) (e:Rd H a (.dK kvs)) (h:∀t s',Inv X pins σ H s'->Q (.int kvs.length t) s'):wpAny (model X.prog X.w) A (call (.builtin "len") [.ref a]) Q E s:=by
  obtain⟨z,hd,vs,rel,dd⟩:=zfu I.hok e
  refine call_len_dict hd dd (by rw[←rel.length];rw[sizeLine_eq] at z;omega) ?_
  rw[←rel.length]
  exact h _ _ (I.tok _)
end
def NoSl (i:Expr):Prop:=∀ov iv,subscripted i false ov iv=operate [ov,iv] (getItem ov iv)
theorem ztw {prog:Program}{w:World}{A:Around}{E:Value->Shared->Prop}{s:Shared}{env:Env}{value slice:Expr}{pos:Pos}{T id:String}{Q:Value->Shared->Prop}
    (hl:typeLookup (.type T) "__getitem__" = pure (some (.builtin id))) (hs:NoSl slice)
    (h:wpAny (model prog w) A (eval value env) (fun o s₁=>wpAny (model prog w) A (eval slice env) (fun i s₂=>s₂.TypeIs o T/\wpAny (model prog w) A (getItem o i) Q E s₂) E s₁) E s) :
    wpAny (model prog w) A (eval (.Subscript value slice pos) env) Q E s:=by
  refine Subscript_ (wpAny_mono h (fun o s₁ h₁=>wpAny_mono h₁ (fun i s₂ h₂=>?_) fun _ _ x=>x) fun _ _ x=>x)
  obtain⟨hT,h₂⟩:=h₂
  unfold subscriptTail
  refine wpAny_bind ?_
  rw[getitemInPython_of_ne hT.not_modules]
  refine wpAny_bind (wpAny_specialOf hT hl ?_)
  have fin:wpAny (model prog w) A (subscripted slice false o i) (fun r s₃=>wpAny (model prog w) A (letTemporaryGo value o r >>= fun _=>pure r) Q E s₃) E s₂:=by
    rw[hs o i]
    exact wpAny_operating (wpAny_mono h₂ (fun r s₃ h₃=>wpAny_bind (wpAny_letTemporaryGo (wpAny_pure h₃))) fun _ _ x=>x)
  first
    | exact wpAny_pure (wpAny_bind fin)
    | exact wpAny_bind (wpAny_pure (wpAny_bind fin))
    | exact wpAny_bind fin
theorem zj1 {X:Cx}{pins:List (Addr×Obj)}{σ:St}{H:Hp}{s:Shared}{a:Addr}{y:V}{o:Option V}(I:Inv X pins σ H s) (g:DGet H a y o):s.TypeIs (.ref a) "dict":=by
  rcases g with ⟨kvs,k,e,_,_⟩ | ⟨kvs,k,b,e,_,_,_⟩
  · obtain⟨_,_,vs,_,dd⟩:=zfu I.hok e
    exact dd.typeIs
  · obtain⟨_,_,xs,_,dd⟩:=zmd I.hok e
    exact dd.typeIs
def zxb (td ty:TE):TE:=fun σ H Q=>td σ H fun x H1=>ty σ H1 fun y H2=>∃a v,x = .ref a/\DGet H2 a y (some v)/\Q v H2
def tDIn (ty td:TE):TE:=fun σ H Q=>ty σ H fun y H1=>td σ H1 fun x H2=>∃a o,x = .ref a/\DGet H2 a y o/\Q (.bl o.isSome) H2
def ztx (ty td:TE):TE:=fun σ H Q=>ty σ H fun y H1=>td σ H1 fun x H2=>∃a o,x = .ref a/\DGet H2 a y o/\Q (.bl (!o.isSome)) H2
def zxc (td ty tv:TE):TS:=fun D σ H=>tv σ H fun v H1=>td σ H1 fun x H2=>ty σ H2 fun y H3=>∃a H4,x = .ref a/\DPut H3 a y v H4/\D.nx σ H4
section
variable {X:Cx}{o i e value:Expr}{pos pos' tpos:Pos}{td ty tv:TE}
theorem zv (hu:X.A.units+1<cLine) (ho:PE X o td) (hi:PE X i ty) (hs:NoSl i):PE X (.Subscript o i pos) (zxb td ty):=by
  intro pins s σ H Q I h
  refine ztw PySem.F.slot_dict_getitem.lookup hs (thn (ho pins s σ H _ I h) fun u s1 ⟨x,H1,I1,rx,q1⟩=>thn (hi pins s1 σ H1 _ I1 q1) fun iv s2 hq0=>?_)
  obtain⟨y,H2,I2,ry,a,v,ex,g,q2⟩:=hq0
  subst ex
  obtain rfl:u=Value.ref a:=rx
  exact⟨zj1 I2 g,zny hu I2 g ry fun w' s3 I3 rw'=>⟨v,H2,I3,rw',q2⟩⟩
theorem zsu (hu:X.A.units+1<cLine) (hi:PE X i ty) (ho:PE X o td):PC X .In i o (tDIn ty td):=by
  intro pins s σ H Q I h
  refine thn (hi pins s σ H _ I h) fun iv s1 ⟨y,H1,I1,ry,q1⟩=>thn (ho pins s1 σ H1 _ I1 q1) fun u s2 hq0=>?_
  obtain⟨x,H2,I2,rx,a,ov,ex,g,q2⟩:=hq0
  subst ex
  obtain rfl:u=Value.ref a:=rx
  exact d_in hu I2 g ry fun s3 I3=>⟨.bl ov.isSome,H2,I3,rfl,q2⟩
theorem zfa (hu:X.A.units+1<cLine) (hi:PE X i ty) (ho:PE X o td):PC X .NotIn i o (ztx ty td):=by
  intro pins s σ H Q I h
  refine thn (hi pins s σ H _ I h) fun iv s1 ⟨y,H1,I1,ry,q1⟩=>thn (ho pins s1 σ H1 _ I1 q1) fun u s2 hq0=>?_
  obtain⟨x,H2,I2,rx,a,ov,ex,g,q2⟩:=hq0
  subst ex
  obtain rfl:u=Value.ref a:=rx
  exact ztv hu I2 g ry fun s3 I3=>⟨.bl (!ov.isSome),H2,I3,rfl,q2⟩
theorem zbf (hu:X.A.units+1<cLine) (ho:PE X o td) (hi:PE X i ty) (hv:PE X value tv) (hs:swapsWith value (some (.Subscript o i pos')) pos.line X.env=pure false) :
    PS X (.Assign [.Subscript o i pos'] value pos) (zxc td ty tv):=by
  intro pins s σ H D I h
  refine wpAny_Assign_Subscript (thn (hv pins s σ H _ I h) fun r s1 ⟨v,H1,I1,rv,q1⟩=>thn (ho pins s1 σ H1 _ I1 q1) fun u s2 ⟨x,H2,I2,rx,q2⟩=>thn (hi pins s2 σ H2 _ I2 q2) fun iv s3 hq0=>?_) hs
  obtain⟨y,H3,I3,ry,a,H4,ex,g,q3⟩:=hq0
  subst ex
  obtain rfl:u=Value.ref a:=rx
  exact zn0 hu I3 g ry rv fun s4 I4=>⟨σ,H4,I4,q3⟩
end
theorem zq0 {P:Program}{w:World}{H:Hp}(h:Heap) (hb:sysModules<h.objs.size):ObjOk P w H (h.push { cls:=.type "dict",data:=.dict #[] }) h.objs.size (.dK []):=
  ⟨Nat.zero_le _,beq_eq_false_iff_ne.mpr (Ne.symm (Nat.ne_of_lt hb)),[],.nil,Heap.DictOf.new h⟩
def zvx:TE:=fun _ H Q=>∀p,H p=none->Q (.ref p) (upd H p (.dK []))
section
variable {X:Cx}{pos:Pos}
theorem zbd:PE X (.Dict [] [] pos) zvx:=fun pins s σ H Q I h=>
  wpAny_Dict_empty ⟨.ref s.heap.objs.size,_,I.laid (a:=s.heap.objs.size) (o:=.dK []) (t':=s.toks) (fun _ _ q=>Heap.get?_push_of_some _ q) (Nat.le_refl _) (zq0 s.heap I.big),rfl,h _ (I.hok.fresh (Nat.le_refl _))⟩
end
structure M2 (X:Cx) (o:Expr) (m:Str) (apos:Pos) (e f:Expr) (cpos:Pos):Prop where
  base:attributeBase o m X.env (eval o X.env)=eval o X.env
  few:((backTo cpos (starEach [e,f] X.env)).all (fun x=>!x.1)&&(backToKw cpos (keywordEach [] X.env)).all (fun x=>x.1.isSome)
    && decide (([e,f]:List Expr).length+([]:List Keyword).length+(if ([]:List Keyword).isEmpty then 0 else 1)<30))=true
  line:(apos.endLine == cpos.line)=true
  trees:backTo cpos (starEach [e,f] X.env) = [(false,eval e X.env),(false,eval f X.env)]
def IsD (H:Hp) (a:Addr):Prop:=(∃kvs,Rd H a (.dK kvs))\/∃kvs,Rd H a (.dT kvs)
theorem zvy {X:Cx}{pins:List (Addr×Obj)}{σ:St}{H:Hp}{s:Shared}{a:Addr}(I:Inv X pins σ H s) (d:IsD H a) :
    s.TypeIs (.ref a) "dict"/\(∀b,Value.ref a = .ref b->∃ob,s.heap.get? b=some ob/\ob.dict=none)/\(a == sysModules)=false:=by
  rcases d with ⟨kvs,e⟩ | ⟨kvs,e⟩
  · obtain⟨_,hd,vs,_,dd⟩:=zfu I.hok e
    refine⟨dd.typeIs,fun b q=>?_,hd⟩
    cases q
    obtain⟨ob,_,_,h1,h2,_⟩:=dd
    exact⟨ob,h1,h2.2.1⟩
  · obtain⟨_,hd,xs,_,dd⟩:=zmd I.hok e
    refine⟨dd.typeIs,fun b q=>?_,hd⟩
    cases q
    obtain⟨ob,_,_,h1,h2,_⟩:=dd
    exact⟨ob,h1,h2.2.1⟩
end L2
namespace Att
open PySem PySem.W PySem.Calls PyProof.Rows
theorem zfb {P:Params}{h:Heap}:∀(ns:List Int) (vs:List Value),WellAll P h vs (ns.map WData.int)->IntsAre vs ns:=by
  intro ns
  induction ns with
  | nil=>
    intro vs w
    rw[List.map_nil] at w
    cases w
    exact .nil
  | cons n ns ih=>
    intro vs w
    rw[List.map_cons] at w
    cases w with
    | cons a b=>
      cases a
      exact .cons _ _ (ih _ b)
theorem zn1 {l:OpenLaw}{n:Nat}(hn:l.most=some n) {P:Params}{h:Heap}{args:List WData}{vals:List Value}
    (hpre:l.row.toRowW.claim.pre args=true) (hwl:WellAll P h vals args) :
    ∃a vs ns,vals = [Value.ref a]/\args = [WData.list (ns.map WData.int)]/\h.get? a=some { cls:=.type "list",data:=.seq vs.toArray }/\IntsAre vs ns/\ns.length<=n:=by
  have hsh:WShape.hasAll [] args [.list .int]=true:=(pre_splitW hpre).1
  have hc:l.pre.holds [] { args:=args } = true:=(pre_splitW hpre).2
  obtain⟨d,r,rfl,h1,h2⟩:=hasAllW_cons hsh
  obtain rfl:=hasAllW_nil h2
  obtain⟨xs,rfl,h3⟩:=hasW_list h1
  obtain⟨ns,rfl⟩:=items_int h3
  have hlen:ns.length<=n:=by
    unfold OpenLaw.pre at hc
    have h4:(WTm.not (.lt (.lit (.int (n:Int))) (.len (.arg 0)))).holds [] { args:=[.list (ns.map .int)] } = true:=by
      have h4:=(holds_andW hc).1
      rw[hn] at h4
      exact h4
    have h5:=condW_of h4 (w_not (w_lt w_lit (w_len_list (w_arg rfl))))
    rw[List.length_map] at h5
    refine Nat.le_of_not_lt fun q=>?_
    have q':(n:Int)<((ns.length:Nat):Int):=by omega
    first
      | (rw[decide_eq_true q'] at h5;exact absurd h5 (by decide))
      | (simp at h5;omega)
  cases hwl with
  | cons w1 w2=>
    cases w2
    cases w1 with
    | list ho hall=>exact⟨_,_,ns,rfl,rfl,ho,zfb ns _ hall,hlen⟩
theorem zn2 (l:OpenLaw) (args:List WData):l.row.toRowW.claim.post args (.bool true) args=true:=
  postW_of (r:=l.row.toRowW) (X:=(true == true))
    (show WShape.has [] (.bool true) .bool=true by first | rfl | decide | simp[WShape.has,WShape.arms,WShape.armsAll])
    (show (WTm.eq .res (.lit (.bool true))).value [] { args:=args,res:=some (.bool true),after:=args } = some (.bool (true == true)) from w_eq_bool (w_res rfl) w_lit) rfl
theorem attach_call {l:OpenLaw}{n:Nat}{q:Program}{loose:List Str}{XP:(Str->Option Value)->Heap->Prop}{YP:World->Heap->Prop}{d:DefRec}
    (hn:l.most=some n) (hdf:d.params.defaults = [])
    (call:∀(w:World) (s₀ s₁:Shared) (mg mb:Str->Option Value) (fa:Addr) (o:Obj) (pm cd doc:Value) (a:Addr) (vs:List Value) (ns:List Int),
      Ground q loose [] XP w s₀ mg mb s₁.heap->YP w s₁.heap->
      s₁.heap.get? fa=some o->o.data = .func (docDef d.name d.params d.body d.scope pm cd doc)->s₁.heap.CodeRec cd d.name->mg d.name=some (.ref fa)->
      s₁.heap.get? a=some { cls:=.type "list",data:=.seq vs.toArray }->IntsAre vs ns->ns.length<=n->s₁.gens = #[]->
      codeAny (model l.prog w) callerA (.call (.ref fa) ⟨[.ref a],[]⟩) (fun r s'=>r = .ok (.ret (.bool true))/\OldK s₁.heap s'.heap/\s'.os=s₁.os/\AllBare s'.gens) s₁) :
    WalkO q loose XP YP l.row.toRowW d [] (fun f vs=>PySem.call f vs):=by
  intro w s₀ s₁ mg mb G Y fa o pm cd doc dV kV ho hd hcd hD hmg hg args vals as hpre hlay hrd hwl hlo
  obtain rfl:dV = .none:=Dflts.none hD hdf
  obtain rfl:kV = .none:=Dflts.noKw hD
  obtain⟨a,vs,ns,rfl,rfl,hobj,hints,hlen⟩:=zn1 hn hpre hwl
  refine enter_call (codeAny_mono (call w s₀ s₁ mg mb fa o pm cd doc a vs ns G Y ho (fd_plain hd) hcd hmg hobj hints hlen hg) fun r s' hq=>?_)
  obtain⟨rfl,h2,h3,h4⟩:=hq
  exact⟨.inl ⟨.bool true,.bool true,[],rfl,fun _=>rfl,.bool true,zn2 l _,fun _=>⟨List.Pairwise.nil,fun _ hm=>(nomatch hm)⟩⟩,h2,h3,h4⟩
end Att
namespace L2
open PySem PySem.Spec PyProof.Rows
theorem zhz:∀{vs:List Value}{ns:List Int},IntsAre vs ns->Vals (ns.map V.int) vs
  | _,_,.nil=>.nil
  | _,_,.cons n t h=>.cons ⟨t,rfl⟩ (zhz h)
def Only (H:Hp):Prop:=∀b,H b=none\/∃o xs,H b=some (.frz o (.lst xs))
theorem zq1 {P:Program}{w:World}{K:PySem.W.Frag}{mg mb:Str->Option Value}{CX:CXT}{k:Nat}{fa a:Addr}{fd:FuncData}{x:Str}{sp:Sp}{s₁:Shared}{vs:List Value}{ns:List Int}
    (KX:K.In s₁.heap) (hns:s₁.heap.Ns mainGlobals mg) (hb:s₁.heap.Ns builtinsNs mb) (hbb:∀x:Str,x≠"__name__"->mb x=bootBuiltins x) (hlim:s₁.heap.NoLimit) (hg:s₁.gens = #[])
    (ha:s₁.heap.get? a=some { cls:=.type "list",data:=.seq vs.toArray }) (hi:IntsAre vs ns) (hl:ns.length<=sizeLine) (hr:Room k callerA)
    (F:∀base:Heap,K.In base->base.Ns mainGlobals mg->FnOk P w K mg base CX k fa fd [x] sp) (hbind:∀(s:Shared) (u:Value),BindsTo s fd ⟨[u],[]⟩ [(x,u)])
    (hsp:∀H:Hp,Only H->SqL K H a (ns.map V.int)->sp [.ref a] H (fun v _=>v = .bl true) fun _ _ _=>False)
    (hCX:∀H e s',CX [] H s₁ (fun _ _ _=>False) e s'->False) :
    codeAny (model P w) callerA (.call (.ref fa) ⟨[.ref a],[]⟩) (fun r s'=>r = .ok (.ret (.bool true))/\OldK s₁.heap s'.heap/\s'.os=s₁.os/\AllBare s'.gens) s₁:=by
  have rv:=zhz hi
  have lenV:=hi.length
  have core:∀H:Hp,Only H->SqL K H a (ns.map V.int)->HOk P w H s₁.heap->(∀b,H b≠none->b=a)->(H a≠none->K.lookup a=none)->
      codeAny (model P w) callerA (.call (.ref fa) ⟨[.ref a],[]⟩) (fun r s'=>r = .ok (.ret (.bool true))/\OldK s₁.heap s'.heap/\s'.os=s₁.os/\AllBare s'.gens) s₁:=by
    intro H hO hS hok hA hK
    have base_of:∀{b:Addr}{o:Obj},s₁.heap.get? b=some o->H b=none->(hidT s₁.heap H).get? b=some o:=fun e n=>zqt e n
    have noA:∀{b:Addr}{o:Obj}{es:Array DictEntry}{ep:Nat},s₁.heap.get? b=some o->o.data = .dict es ep->H b=none:=fun {b o es ep} e d=>by
      cases q:H b with
      | none=>rfl
      | some u=>
        have e':b=a:=hA b (by rw[q];simp)
        subst e'
        rw[ha] at e;cases e
        have d':Data.seq vs.toArray _=Data.dict es ep:=d
        cases d'
    have nsK:∀{b:Addr}{m:Str->Option Value},s₁.heap.Ns b m->(hidT s₁.heap H).Ns b m:=fun {b m} ⟨o,es,ep,e,d,r⟩=>⟨o,es,ep,base_of e (noA e d),d,r⟩
    have hKb:K.In (hidT s₁.heap H):=fun b o e=>base_of (KX b o e) (by
      cases q:H b with
      | none=>rfl
      | some u=>
        have e':b=a:=hA b (by rw[q];simp)
        subst e'
        rw[hK (by rw[q];simp)] at e;cases e)
    have hM:Mod K mg (hidT s₁.heap H):=⟨hKb,nsK hns,⟨mb,nsK hb,hbb⟩,let ⟨mc,h1,h2⟩:=hlim;⟨mc,nsK h1,h2⟩⟩
    have e0:Env0 P w K mg (hidT s₁.heap H) callerA [] s₁ H:=⟨rfl,hM,fun b o e=>ztg e,Nat.le_of_eq (znj _ _),trivial,fun b hb=>absurd (show b∈([]:List Addr) from hb) (by simp),hok,.of_eq hg⟩
    refine codeAny_mono ((F _ hKb (nsK hns)).run callerA [] s₁ H ⟨[.ref a],[]⟩ [.ref a] [.ref a] _ _ hr e0 (hbind s₁ (.ref a)) (.cons rfl .nil) (hsp H hO hS)) fun r s' h=>?_
    cases r with
    | error e=>exact (hCX H e s' h).elim
    | ok fl=>
      cases fl with
      | next=>exact False.elim h
      | brk=>exact False.elim h
      | cont=>exact False.elim h
      | ret u=>
        obtain⟨v,H',os,bare,un,hok',r',q⟩:=h
        have q':v = .bl true:=q
        subst q'
        obtain rfl:u=Value.bool true:=r'
        refine⟨rfl,OldK.of_keep fun b o e=>?_,os,bare⟩
        cases q:H b with
        | none=>exact un.keep b o e q (by intro z;exact absurd (show b∈([]:List Addr) from z) (by simp)) (by simp)
        | some u=>
          rcases hO b with z | ⟨ob,xs,z⟩
          · rw[q] at z;cases z
          · have z2:=un.frzs b ob _ z
            obtain⟨e1,_⟩:=hok b _ z
            obtain⟨e2,_⟩:=hok' b _ z2
            rw[e] at e1;cases e1
            exact e2
  cases hk:K.lookup a with
  | some o=>
    have e:=KX a o hk
    rw[ha] at e
    cases e
    refine core (fun _=>none) (fun _=>.inl rfl) (.inr ⟨_,vs.toArray,_,hk,rfl,rfl,rfl,by rw[List.size_toArray,lenV];exact hl,by simpa using rv⟩) (fun b u z=>by have z':(none:Option HO)=some u:=z;cases z') (fun b z=>absurd rfl z) fun z=>absurd rfl z
  | none=>
    refine core (fun b=>if b=a then some (.frz { cls:=.type "list",data:=.seq vs.toArray } (.lst (ns.map V.int))) else none) (fun b=>?_) (.inl (.inr ⟨{ cls:=.type "list",data:=.seq vs.toArray },if_pos rfl⟩)) (fun b u z=>?_) (fun b z=>?_) fun _=>hk
    · by_cases hb:b=a
      · exact .inr ⟨_,_,if_pos hb⟩
      · exact .inl (if_neg hb)
    · by_cases hb:b=a
      · have z':=(if_pos hb).symm.trans z
        cases z'
        subst hb
        exact⟨ha,by rw[List.length_map];exact hl,vs,_,rv,ha⟩
      · have z':=(if_neg hb).symm.trans z
        cases z'
    · by_cases hb:b=a
      · exact hb
      · exact absurd (if_neg hb) z
abbrev KOf {K:PySem.W.Frag}{h:Heap}(_:K.In h):PySem.W.Frag:=K
theorem zty {l:PySem.W.OpenLaw}{n k:Nat}{q:Program}{loose:List Str}{XP:(Str->Option Value)->Heap->Prop}{YP:World->Heap->Prop}{d:DefRec}{K:Params->PySem.W.Frag}{CX:World->CXT}{sp:World->Sp}{x:Str}
    (hn:l.most=some n) (hn2:n<=sizeLine) (hdf:d.params.defaults = []) (hr:Room k callerA)
    (hY:∀(w:World) (h:Heap),YP w h->(K w.params).In h)
    (F:∀(w:World) (mg:Str->Option Value) (fa:Addr) (h:Heap),(K w.params).In h->h.Ns mainGlobals mg->mg d.name=some (.ref fa)->
      ∃fd:FuncData,(∀(s:Shared) (u:Value),BindsTo s fd ⟨[u],[]⟩ [(x,u)])/\
        ∀base:Heap,(K w.params).In base->base.Ns mainGlobals mg->FnOk l.prog w (K w.params) mg base (CX w) k fa fd [x] (sp w))
    (hsp:∀(w:World) (H:Hp) (a:Addr) (ns:List Int),ns.length<=n->Only H->SqL (K w.params) H a (ns.map V.int)->sp w [.ref a] H (fun v _=>v = .bl true) fun _ _ _=>False)
    (hCX:∀(w:World) (H:Hp) (s:Shared) (e:Value) (s':Shared),CX w [] H s (fun _ _ _=>False) e s'->False) :
    PySem.W.WalkO q loose XP YP l.row.toRowW d [] (fun f vs=>PySem.call f vs):=by
  refine Att.attach_call hn hdf fun w s₀ s₁ mg mb fa o pm cd doc a vs ns G Y ho hd hcd hmg hobj hints hlen hg=>?_
  have KX:=hY w _ Y
  obtain⟨fd,hb,hF⟩:=F w mg fa _ KX G.T.g hmg
  exact zq1 KX G.T.g G.T.b G.T.builtins G.T.nolimit hg hobj hints (Nat.le_trans hlen hn2) hr hF hb (fun H hO hS=>hsp w H a ns hlen hO hS) fun H e s'=>hCX w H s₁ e s'
theorem walk_ofK {l:PySem.W.OpenLaw}{n k:Nat}{q:Program}{loose:List Str}{XP:(Str->Option Value)->Heap->Prop}{YP:World->Heap->Prop}{d:DefRec}{K:Params->PySem.W.Frag}{CX:CXT}{sp:PySem.W.Frag->Sp}{x:Str}
    (hn:l.most=some n) (hn2:n<=sizeLine) (hdf:d.params.defaults = []) (hr:Room k callerA)
    (hY:∀(w:World) (h:Heap),YP w h->(K w.params).In h)
    (F:∀(w:World) (mg:Str->Option Value) (fa:Addr) (h:Heap),(K w.params).In h->h.Ns mainGlobals mg->mg d.name=some (.ref fa)->
      ∃fd:FuncData,(∀(s:Shared) (u:Value),BindsTo s fd ⟨[u],[]⟩ [(x,u)])/\
        ∀base:Heap,(K w.params).In base->base.Ns mainGlobals mg->FnOk l.prog w (K w.params) mg base CX k fa fd [x] (sp (K w.params)))
    (hsp:∀(K:PySem.W.Frag) (H:Hp) (a:Addr) (ns:List Int),ns.length<=n->Only H->SqL K H a (ns.map V.int)->sp K [.ref a] H (fun v _=>v = .bl true) fun _ _ _=>False)
    (hCX:∀(H:Hp) (s:Shared) (e:Value) (s':Shared),CX [] H s (fun _ _ _=>False) e s'->False) :
    PySem.W.WalkO q loose XP YP l.row.toRowW d [] (fun f vs=>PySem.call f vs):=
  zty (K:=K) (CX:=fun _=>CX) (sp:=fun w=>sp (K w.params)) hn hn2 hdf hr hY F (fun w H a ns h1 h2 h3=>hsp (K w.params) H a ns h1 h2 h3) fun _ H s e s'=>hCX H s e s'
def zj2 (s:Stmt) (j:Nat):Stmt:=match s with
  | .ClassDef _ _ _ body _ _ _ _ _ _ _=>body.getD j (.Pass ⟨0,0,0,0⟩)
  | _=>.Pass ⟨0,0,0,0⟩
def zdf (s:Stmt):Arguments:=match s with
  | .FunctionDef _ a _ _ _ _ _ _ _ _=>a
  | _=>{ posonlyargs:=[],args:=[],vararg:=none,kwonlyargs:=[],kw_defaults:=[],kwarg:=none,defaults:=[] }
def zbv (s:Stmt):List Stmt:=match s with
  | .FunctionDef _ _ b _ _ _ _ _ _ _=>b
  | _=>[]
def zi (s:Stmt):Scope:=match s with
  | .FunctionDef _ _ _ _ _ _ sc _ _ _=>sc
  | _=>{ kind:=.function,names:=[],isGenerator:=false,isCoroutine:=false }
abbrev CX0:CXT:=fun _ _ _ _ _ _=>False
abbrev E0:XK:=fun _ _ _=>False
theorem zxd {X:Cx}:zhp CX0 X E0:=fun _ _ _ _ _ _ _ h=>h.elim
structure Fun (K:PySem.W.Frag) (x qual:Str) (st:Stmt) (f:Addr) (fd:FuncData):Prop where
  ex:∃(oc:Value) (od:Option Addr) (kV doc pm:Value) (an:Option Addr) (cdv ct:Value) (osl:Array (Option Value)),
    fd=PySem.W.fnOf x qual (zdf st) (zbv st) (zi st) .none kV doc pm an cdv ct/\K.lookup f=some ⟨oc,od,.func fd,osl⟩/\PySem.W.codeIn K cdv qual=true
  kp:PySem.W.keepIn K (.ref f)=true
section
variable {P:Program}{w:World}{K:PySem.W.Frag}{mg:Str->Option Value}{base:Heap}
theorem Fun.ok {x qual:Str}{st:Stmt}{f:Addr}{fd:FuncData}{N ps:List Str}{k:Nat}{sp:Sp}(F:Fun K x qual st f fd) (S:FnScope N ps (zi st)) (len:∀vs H Q E,sp vs H Q E->vs.length=ps.length)
    (hbody:∀(cdv:Value) (A:Around) (outer:List Env) (s:Shared) (H:Hp) (vs:List V) (Q:VK) (E:XK),Room k (A.deeper (envOfC qual (zi st) s.heap.objs.size f cdv))->sp vs H Q E->
      ∃t,PSs (cxOf CX0 P w K mg base N qual (zi st) f cdv A outer s H E).nox (zbv st) t/\t { nx:=fun _ H'=>Q .non H',rt:=Q } (start N vs) H):FnOk P w K mg base CX0 (k+1) f fd ps sp:=by
  obtain⟨oc,od,kV,doc,pm,an,cdv,ct,osl,rfl,lk,hcd⟩:=F.ex
  refine zvp lk hcd S len fun A outer s H vs Q E hr hsp=>?_
  obtain⟨t,h,q⟩:=hbody cdv A outer s H vs Q E hr hsp
  exact⟨t,h.nox,q⟩
theorem zsv {x qual:Str}{st:Stmt}{f:Addr}{oc:Value}{od an:Option Addr}{osl:Array (Option Value)}{kV doc pm cdv ct:Value}(l:K.lookup f=some ⟨oc,od,.func (PySem.W.fnOf x qual (zdf st) (zbv st) (zi st) .none kV doc pm an cdv ct),osl⟩)
    (c:PySem.W.codeIn K cdv qual=true) (k:PySem.W.keepIn K (.ref f)=true):Fun K x qual st f (PySem.W.fnOf x qual (zdf st) (zbv st) (zi st) .none kV doc pm an cdv ct):=⟨⟨oc,od,kV,doc,pm,an,cdv,ct,osl,rfl,l,c⟩,k⟩
end
theorem zbq {A:Around}{k:Nat}(hr:Room k A):A.units+1<cLine:=Nat.lt_of_le_of_lt (Nat.add_le_add_left (by decide:1<=64) _) hr.units
theorem zz {n:Nat}(h:n<=1000):n<sizeLine:=Nat.lt_of_le_of_lt h (by decide)
section
variable {X:Cx}
theorem pv (i:Nat) {x:Str}{pos:Pos}(hN:X.N[i]? = some x:=by rfl) (hv:Vis X.env.scope x:=by first | exact Or.inl rfl | exact Or.inr (Or.inl rfl) | exact Or.inr (Or.inr rfl)) (hd:(x == ("__debug__" : Str))=false:=by decide)
    (hcd:(x == ("__classdict__" : Str))=false:=by decide):PE X (.Name x pos) (tVar i):=zvd hN hv hd hcd
end
theorem iteF {A B:Prop}(h:B):if false=true then A else B:=by
  rw[if_neg Bool.false_ne_true]
  exact h
theorem iteT {A B:Prop}(h:A):if true=true then A else B:=by
  rw[if_pos rfl]
  exact h
theorem ite2 {c A B:Prop} [Decidable c] (h1:c->A) (h2:¬c->B):if c then A else B:=by
  by_cases h:c
  · rw[if_pos h]
    exact h1 h
  · rw[if_neg h]
    exact h2 h
def Same (H H':Hp):Prop:=∀b o,H b=some o->H' b=some o
theorem Same.refl (H:Hp):Same H H:=fun _ _ h=>h
theorem Same.trans {H H1 H2:Hp}(a:Same H H1) (b:Same H1 H2):Same H H2:=fun c o h=>b c o (a c o h)
theorem Same.free {H H':Hp}(e:Same H H') {l:Addr}(h:H' l=Option.none):H l=Option.none:=by
  cases q:H l with
  | none=>rfl
  | some o=>
    rw[e l o q] at h
    cases h
theorem Same.seq {K:PySem.W.Frag}{H H':Hp}{a:Addr}{xs:List V}(e:Same H H') (h:SqL K H a xs):SqL K H' a xs:=by
  rcases h with (h | ⟨o,h⟩) | h
  · exact .inl (.inl (e _ _ h))
  · exact .inl (.inr ⟨o,e _ _ h⟩)
  · exact .inr h
section
variable {X:Cx}
theorem zn3:zbp X (.builtin "len") (fun xs H Q=>∃a kvs,xs = [V.ref a]/\H a=some (.dK kvs)/\Q (.int kvs.length) H):=by
  intro pins s σ H xs us Q I r h
  obtain⟨a,kvs,rfl,ha,q⟩:=h
  obtain⟨u,rfl,ru⟩:=zdd r
  cases ru
  exact zvw I (.inl ha) fun t s' I'=>⟨.int kvs.length,H,I',⟨t,rfl⟩,q⟩
end
def zb7 (cells:List (Str×Addr)):List (Str×NameKind)->List (Str×Addr)->List (Str×Addr)
  | [],cs=>cs
  | (n,k)::r,cs=>zb7 cells r (if (k == NameKind.free)=true then (match cells.lookup n with | some c=>(n,c)::cs | none=>cs) else cs)
theorem zex {scope:Scope}{env:Env}(h:∀x∈scope.names,x.2 = .free->∃c,env.cells.lookup x.1=some c):closureFor scope env=pure (zb7 env.cells scope.names []):=by
  unfold closureFor
  have go:∀(names:List (Str×NameKind)) (cs:List (Str×Addr)),(∀x∈names,x.2 = .free->∃c,env.cells.lookup x.1=some c)->
      (forIn names cs (fun (x:Str×NameKind) (r:List (Str×Addr))=>if (x.2 == NameKind.free)=true then (do let a ←cellOf env x.1;pure (ForInStep.yield ((x.1,a)::r))) else pure (ForInStep.yield r)):Sem (List (Str×Addr)))=pure (zb7 env.cells names cs):=by
    intro names
    induction names with
    | nil=>intro cs _;rfl
    | cons x r ih=>
      intro cs hc
      obtain⟨n,k⟩:=x
      have hr:∀y∈r,y.2 = .free->∃c,env.cells.lookup y.1=some c:=fun y hy=>hc y (List.mem_cons_of_mem _ hy)
      rw[List.forIn_cons]
      cases e:(k == NameKind.free) with
      | true=>
        obtain⟨c,hl⟩:=hc (n,k) List.mem_cons_self (by simpa using e)
        have hl':env.cells.lookup n=some c:=hl
        have ec:cellOf env n=pure c:=by unfold cellOf;rw[hl']
        show (_ >>= _)=pure (zb7 env.cells r (if (k == NameKind.free)=true then _ else _))
        rw[e,hl']
        simp only [if_true,ec,pure_bind]
        exact ih _ hr
      | false=>
        show (_ >>= _)=pure (zb7 env.cells r (if (k == NameKind.free)=true then _ else _))
        rw[e]
        simp only [Bool.false_eq_true,if_false,pure_bind]
        exact ih _ hr
  exact (congrArg (· >>= fun r=>pure r) (go scope.names [] h)).trans (pure_bind _ _)
theorem za3 {α:Type}{y n:Str}{c:α}{r:List (Str×α)}(h:y=n):((n,c)::r).lookup y=some c:=by
  subst h;simp
theorem zbc {α:Type}{y n:Str}{c:α}{r:List (Str×α)}(h:¬y=n):((n,c)::r).lookup y=r.lookup y:=by
  rw[List.lookup_cons,beq_eq_false_iff_ne.mpr h]
theorem zfc {cells:List (Str×Addr)}{n:Str}{k:NameKind}{cs:List (Str×Addr)}(hs:∀y d,cs.lookup y=some d->cells.lookup y=some d) :
    ∀y d,(if (k == NameKind.free)=true then (match cells.lookup n with | some c=>(n,c)::cs | none=>cs) else cs).lookup y=some d->cells.lookup y=some d:=by
  intro y d h
  split at h
  · split at h
    · rename_i c hc
      by_cases hy:y=n
      · rw[za3 hy] at h
        rw[hy,hc];exact h
      · rw[zbc hy] at h
        exact hs y d h
    · exact hs y d h
  · exact hs y d h
theorem zec (cells:List (Str×Addr)):∀(names:List (Str×NameKind)) (cs:List (Str×Addr)),(∀y d,cs.lookup y=some d->cells.lookup y=some d)->
    ∀y d,(zb7 cells names cs).lookup y=some d->cells.lookup y=some d
  | [],_,hs,y,d,h=>hs y d h
  | (n,k)::r,cs,hs,y,d,h=>zec cells r _ (zfc hs) y d h
theorem zga (cells:List (Str×Addr)) {x:Str}{c:Addr}(hc:cells.lookup x=some c):∀(names:List (Str×NameKind)) (cs:List (Str×Addr)),(∀y d,cs.lookup y=some d->cells.lookup y=some d)->
    ((x,NameKind.free)∈names\/cs.lookup x=some c)->(zb7 cells names cs).lookup x=some c
  | [],_,_,h=>by
    rcases h with h | h
    · cases h
    · exact h
  | (n,k)::r,cs,hs,h=>by
    refine zga cells hc r _ (zfc hs) ?_
    by_cases hx:(x,NameKind.free)=(n,k)
    · cases hx
      right
      rw[if_pos (by rfl),hc]
      exact za3 rfl
    · rcases h with h | h
      · rcases List.mem_cons.mp h with h | h
        · exact absurd h hx
        · exact .inl h
      · right
        split
        · split
          · rename_i c' hc'
            by_cases hn:x=n
            · rw[za3 hn]
              rw[hn,hc'] at hc
              exact hc
            · rw[zbc hn];exact h
          · exact h
        · exact h
theorem zb2 (env:Env) (x:Str):∀names:List (Str×NameKind),
    (names.map fun (n,k)=>if (k == NameKind.free&&env.scope.kind == .function&&env.kindOf n == some .cell) then (n,NameKind.cell) else (n,k)).lookup x =
      (names.lookup x).map fun k=>if (k == NameKind.free&&env.scope.kind == .function&&env.kindOf x == some .cell) then NameKind.cell else k
  | []=>rfl
  | (n,k)::r=>by
    have ih:=zb2 env x r
    rw[List.map_cons]
    by_cases hx:x=n
    · subst hx
      rw[za3 rfl]
      show List.lookup x ((if (k == NameKind.free&&env.scope.kind == .function&&env.kindOf x == some .cell)=true then (x,NameKind.cell) else (x,k))::_)=some (if (k == NameKind.free&&env.scope.kind == .function&&env.kindOf x == some .cell)=true then NameKind.cell else k)
      by_cases hc:(k == NameKind.free&&env.scope.kind == .function&&env.kindOf x == some .cell)=true
      · rw[if_pos hc,if_pos hc];exact za3 rfl
      · rw[if_neg hc,if_neg hc];exact za3 rfl
    · rw[zbc hx,←ih]
      show List.lookup x ((if (k == NameKind.free&&env.scope.kind == .function&&env.kindOf n == some .cell)=true then (n,NameKind.cell) else (n,k))::_)=_
      by_cases hc:(k == NameKind.free&&env.scope.kind == .function&&env.kindOf n == some .cell)=true
      · rw[if_pos hc];exact zbc hx
      · rw[if_neg hc];exact zbc hx
theorem zh0 {scope:Scope}{env:Env}{x:Str}(h:scope.names.lookup x=some .free):(relabel scope env).names.lookup x=some .cell\/(relabel scope env).names.lookup x=some .free:=by
  have e:=zb2 env x scope.names
  rw[h] at e
  have e':(relabel scope env).names.lookup x=some (if (NameKind.free == NameKind.free&&env.scope.kind == .function&&env.kindOf x == some .cell)=true then NameKind.cell else NameKind.free):=e
  rw[e']
  split
  · exact .inl rfl
  · exact .inr rfl
theorem zh1 {scope:Scope}{env:Env}{x:Str}(nc:∀y∈scope.names,y.2≠.cell) (h:(relabel scope env).names.lookup x=some .cell\/(relabel scope env).names.lookup x=some .free):(x,NameKind.free)∈scope.names:=by
  have e:=zb2 env x scope.names
  have e':(relabel scope env).names.lookup x=_:=e
  cases q:scope.names.lookup x with
  | none=>
    rw[q] at e'
    rw[e'] at h
    rcases h with h | h<;>cases h
  | some k=>
    rw[q] at e'
    have m:=PySem.mem_of_lookup q
    cases k with
    | free=>exact m
    | cell=>exact absurd rfl (nc _ m)
    | _=>
      rw[e'] at h
      rcases h with h | h<;>cases h
structure CompScope (scope osc:Scope) (cap:List Str):Prop where
  kind:scope.kind = .function
  nocell:∀y∈scope.names,y.2≠.cell
  loc:∀y∈scope.names,y.2 = .local->scope.names.lookup y.1=some .local
  free:∀y∈scope.names,y.2 = .free->osc.names.lookup y.1=some .cell\/osc.names.lookup y.1=some .free
  cap:∀x∈cap,scope.names.lookup x=some .free
def cxC (X:Cx) (N:List Str) (scope:Scope) (C:Addr) (s:Shared) (H:Hp) (ex:List Addr):Cx where
  prog:=X.prog
  w:=X.w
  K:=X.K
  mg:=X.mg
  base:=X.base
  A:=X.A
  N:=N
  s₀:=s
  H₀:=H
  env:=compEnvC scope (zb7 X.env.cells scope.names []) C X.env
  outer:=X.stack
  stack:=X.stack
  ex:=ex
  fn:=fun _=>false
  calm:=X.calm
  pn:=[]
  xe:=fun _ _=>False
def st0 (own:List Str) (ix:List Nat) (σ:St):St:=own.map (fun _=>none)++ix.map fun i=>(σ[i]?).join
theorem zgb {X:Cx}{pins:List (Addr×Obj)}{σ:St}{H:Hp}{s:Shared}{scope:Scope}{cap:List Str}(I:Inv X pins σ H s) (S:CompScope scope X.env.scope cap) :
    closureFor scope X.env=pure (zb7 X.env.cells scope.names []):=
  zex fun x hx hf=>I.ok.has x.1 (S.free x hx hf)
theorem zq2 {X:Cx}{pins:List (Addr×Obj)}{σ:St}{H:Hp}{s:Shared}{scope:Scope}{own cap:List Str}{ix:List Nat}{fp:List Addr}{h₁:Heap}{m:Str->Option Value}{tk:Nat}
    (I:Inv X pins σ H s) (S:CompScope scope X.env.scope cap) (hix:ix.map (fun i=>X.N[i]?)=cap.map some) (hf:∀b∈fp,FpOk X pins H b) (hlt:∀b∈fp,b<s.heap.objs.size)
    (hn:h₁.Ns s.heap.objs.size m) (hk:∀b o,s.heap.get? b=some o->h₁.get? b=some o) :
    Inv (cxC X (own++cap) scope s.heap.objs.size s H fp) [] (st0 own ix σ) H { s with heap:=h₁,toks:=tk }:=by
  have sub:∀y d,(zb7 X.env.cells scope.names []).lookup y=some d->X.env.cells.lookup y=some d:=zec _ _ _ (fun y d h=>by cases h)
  have has:∀y c,(y,NameKind.free)∈scope.names->X.env.cells.lookup y=some c->(zb7 X.env.cells scope.names []).lookup y=some c:=fun y c hy hc=>zga _ hc _ _ (fun y d h=>by cases h) (.inl hy)
  have hlen:ix.length=cap.length:=by
    have:=congrArg List.length hix
    simpa using this
  refine⟨⟨I.mod,S.kind,I.ok.glob,I.ok.blt,Nat.le_refl _,fun x y c e1 e2=>I.ok.inj x y c (sub _ _ e1) (sub _ _ e2),fun x hx=>?_,fun x c z=>(by cases z),I.ok.hd,I.ok.frames,.inl rfl,fun b hb=>⟨Nat.ne_of_lt (hlt b hb),fun x c e=>(hf b hb).2.2.2.2.1 x c (sub _ _ e)⟩,I.bs,
      Nat.le_trans I.ok.bsz I.sz,fun b o e hb=>?_,fun b hb z=>?_,I.stack,I.stkFree⟩,rfl,I.bare,Un.kept hk,⟨m,hn,fun i x v e1 e2 e3=>?_⟩,fun x c e=>?_,I.hok.fresh (Nat.le_refl _),fun x c e=>I.freeC x c (sub _ _ e),fun p hp=>absurd (show p∈([]:List (Addr×Obj)) from hp) (by simp),I.hok.kept hk,?_⟩
  · have m':=zh1 (env:=X.env) S.nocell hx
    obtain⟨c,hc⟩:=I.ok.has x (S.free _ m' rfl)
    exact⟨c,has x c m' hc⟩
  · obtain⟨f0,f1,f2,f3,f4,f5⟩:=hf b hb
    rcases f3 with z | z
    · exact I.ok.noex b o e z
    · exact absurd (Nat.lt_of_lt_of_le (Nat.lt_of_lt_of_le (Heap.lt_size e) I.ok.bsz) z) (Nat.lt_irrefl _)
  · obtain⟨f0,f1,f2,f3,f4,f5⟩:=hf b hb
    rcases List.mem_cons.mp (I.stkSub b z) with z | z
    · exact f1 z
    · exact f2 z
  · have e1:(own++cap)[i]? = some x:=e1
    unfold st0 at e2
    by_cases hi:i<own.length
    · rw[List.getElem?_append_left (by simpa using hi),List.getElem?_map] at e2
      cases q:own[i]? with
      | none=>rw[q] at e2;cases e2
      | some y=>rw[q] at e2;cases e2
    · rw[List.getElem?_append_right (by simpa using hi)] at e1
      rw[List.getElem?_append_right (by simpa using hi),List.length_map,List.getElem?_map] at e2
      generalize i-own.length=j at e1 e2
      cases q:ix[j]? with
      | none=>rw[q] at e2;cases e2
      | some k=>
        rw[q] at e2
        have e2:(σ[k]?).join=some v:=Option.some.inj e2
        have eσ:σ[k]? = some (some v):=by
          cases q2:σ[k]? with
          | none=>rw[q2] at e2;cases e2
          | some o=>rw[q2] at e2;exact congrArg some e2
        have eN:X.N[k]? = some x:=by
          have:=congrArg (fun l=>l[j]?) hix
          simp only [List.getElem?_map,q,e1,Option.map_some] at this
          exact Option.some.inj this
        have hfr:=S.cap x (List.mem_of_getElem? e1)
        have hmem:=PySem.mem_of_lookup hfr
        have hout:=S.free _ hmem rfl
        obtain⟨m0,hn0,hl⟩:=I.loc
        obtain⟨u,r,l⟩:=hl k x v eN eσ (.inr hout)
        rcases l with ⟨kd,_⟩ | ⟨kd,c,e,z⟩
        · have kd:X.env.scope.names.lookup x=some .local:=kd
          rcases hout with ho | ho<;>(have ho:X.env.scope.names.lookup x=_:=ho;rw[kd] at ho;cases ho)
        · exact⟨u,r,.inr ⟨zh0 hfr,c,has x c hmem e,z.keeps hk⟩⟩
  · obtain⟨v,q⟩:=I.cell x c (sub _ _ e)
    exact⟨v,q.keeps hk⟩
  · show (st0 own ix σ).length=(own++cap).length
    unfold st0
    simp[hlen]
theorem zq3 {X:Cx}{pins:List (Addr×Obj)}{σ σ':St}{H H':Hp}{s s':Shared}{scope:Scope}{N:List Str}{fp:List Addr}{h':Heap}
    (I:Inv X pins σ H s) (hf:∀b∈fp,FpOk X pins H b) (J:Inv (cxC X N scope s.heap.objs.size s H fp) [] σ' H' s') (hs:Heap.SameBut s.heap.objs.size s'.heap h'):Inv X pins σ H' { s' with heap:=h' }:=by
  have ne:∀b o,s.heap.get? b=some o->b≠s.heap.objs.size:=fun b o e=>Nat.ne_of_lt (Heap.lt_size e)
  have B:Un (frs X.stack) fp H H' s.heap s'.heap:=J.base
  refine I.call' (s':={ s' with heap:=h' }) (ch:=fp) J.os ⟨fun b o e n hb hx=>?_,fun b o e n hb hx=>?_,B.free,fun b o e hx=>?_,B.tups,B.frzs,B.tbls⟩ (fun b ob e=>?_) J.bare fun b hb=>?_
  · exact (hs.2 b (ne b o e)).trans (B.keep b o e n hb hx)
  · obtain⟨sl,e1⟩:=B.slot b o e n hb hx
    exact⟨sl,(hs.2 b (ne b o e)).trans e1⟩
  · obtain⟨o',e1⟩:=B.there b o e hx
    exact⟨o',(hs.2 b (ne b o e)).trans e1⟩
  · have fr:H' s.heap.objs.size=none:=J.free
    refine (J.hok b ob e).stay (fun c w' hc q=>(hs.2 c ?_).trans q) (fun _ q=>q) fun _ _ q=>q
    rintro rfl
    rcases hc with hc | hc
    · rw[←hc,fr] at e;cases e
    · rw[fr] at hc;cases hc
  · obtain⟨f0,f1,f2,f3,f4,f5⟩:=hf b hb
    exact⟨f3,f1,f4,f5⟩
def PIf (X:Cx) (ifs:List Expr) (t:TT):Prop:=
  ∀(pins:List (Addr×Obj)) (s:Shared) (σ:St) (H:Hp) (Q:Bool->Hp->Prop),Inv X pins σ H s->t σ H Q->
    wpAny (model X.prog X.w) X.A (forIn ifs true fun c r=>if r=true then do let ok ←isTrue c X.env (eval c X.env);pure (ForInStep.yield ok) else pure (ForInStep.yield r)) (TP X pins σ Q) X.xe s
def tYes:TT:=fun _ H Q=>Q true H
theorem zbr {X:Cx}:PIf X [] tYes:=fun _ s σ H Q I h=>wpAny_tests_nil ⟨H,I,h⟩
theorem zj3 {X:Cx}{c:Expr}{t:TT}(h:PT X c t):PIf X [c] t:=fun pins s σ H Q I hw=>wpAny_tests_one (h pins s σ H Q I hw)
theorem zc4 {prog:Program}{w:World}{A:Around}{R:Result->Shared->Prop}{s:Shared}{elt target iter:Expr}{ifs:List Expr}{scope:Scope}{pos:Pos}{it acc:Value}{env:Env}(I:Nat->Shared->Prop)
    (turn:∀n s,I n s->wpAny (model prog w) A (pyNext it) (fun r s₁=>match r with
      | none=>R (.ok .next) s₁
      | some v=>wpAny (model prog w) A (letOwnedTupleGo target it v) (fun _ s₁'=>wpAny (model prog w) A (assign target env v) (fun _ s₂=>
          wpAny (model prog w) A (forIn ifs true fun c r=>if r=true then do let ok ←isTrue c env (eval c env);pure (ForInStep.yield ok) else pure (ForInStep.yield r)) (fun ok s₃=>
            if ok=true then wpAny (model prog w) A (eval elt env) (fun x s₄=>
              wpAny (model prog w) A (call (.builtin "list.append") [acc,x]) (fun _ s₅=>∃m,m<n/\I m s₅) (notedBy (model prog w) A env fun e s'=>R (.error e) s') s₄) (notedBy (model prog w) A env fun e s'=>R (.error e) s') s₃
            else ∃m,m<n/\I m s₃) (notedBy (model prog w) A env fun e s'=>R (.error e) s') s₂) (notedBy (model prog w) A env fun e s'=>R (.error e) s') s₁') (notedBy (model prog w) A env fun e s'=>R (.error e) s') s₁) (notedBy (model prog w) A env fun e s'=>R (.error e) s') s)
    (n:Nat) (h:I n s):codeAny (model prog w) A (.compLoop (.ListComp elt [⟨target,iter,ifs,0⟩] scope pos) 0 it acc env) R s:=by
  refine codeAny_loop rfl I (fun n s hI=>?_) n h
  show wpAny _ A ((compTurn (.ListComp elt [⟨target,iter,ifs,0⟩] scope pos) 0 it acc env).onRaise (fun x=>do noteFrame x env;theTreesLotGoes x)) _ _ s
  refine wpAny_noted ?_
  rw[compTurn_list]
  refine wpAny_bind (wpAny_standAt (wpAny_bind (wpAny_mono (turn n s hI) (fun r s₁ h₁=>?_) fun _ _ h'=>h')))
  cases r with
  | none=>exact wpAny_pure h₁
  | some v=>
    refine wpAny_bind (wpAny_mono h₁ (fun _ s₁' h₁'=>?_) fun _ _ h'=>h')
    refine wpAny_bind (wpAny_mono h₁' (fun _ s₂ h₂=>wpAny_bind (wpAny_mono h₂ (fun ok s₃ h₃=>?_) fun _ _ h'=>h')) fun _ _ h'=>h')
    cases ok with
    | false=>exact wpAny_pure ⟨rfl,h₃⟩
    | true=>
      exact wpAny_bind (wpAny_bind (wpAny_mono h₃ (fun x s₄ h₄=>wpAny_bind (wpAny_mono h₄ (fun _ s₅ h₅=>wpAny_pure (wpAny_pure ⟨rfl,h₅⟩)) fun _ _ h'=>h')) fun _ _ h'=>h'))
def zq4 (own:List Str) (ix:List Nat) (J:It) (g:TG) (tc:TT) (te:TE) (σ:St) (H1:Hp) (D:Addr) (Q:VK):Prop:=
  ∃W:Nat->Nat->St->List V->Hp->Prop,(∃m,W 0 m (st0 own ix σ) [] (upd H1 D (.lst [])))/\∀i m σ' ys H',W i m σ' ys H'->H' D=some (.lst ys)/\
    ((J.stop i H'/\Q (.ref D) H')\/(J.go i H'/\ys.length<sizeLine/\∀x H2,J.yld i H' x H2->g x σ' H2 fun σ3 H3=>tc σ3 H3 fun b H4=>
      if b=true then te σ3 H4 fun y H5=>H5 D=some (.lst ys)/\∃m',m'<m/\W (i+1) m' σ3 (ys++[y]) (upd H5 D (.lst (ys++[y]))) else H4 D=some (.lst ys)/\∃m',m'<m/\W (i+1) m' σ3 ys H4))
def zvz (own:List Str) (ix:List Nat) (wi:TI) (g:TG) (tc:TT) (te:TE):TE:=fun σ H Q=>wi σ H fun J H1=>∀D,H1 D=none->zq4 own ix J g tc te σ H1 D Q
section
variable {X:Cx}{tg iter elt:Expr}{ifs:List Expr}{scope:Scope}{pos:Pos}{own cap:List Str}{ix:List Nat}{wi:TI}{g:TG}{tc:TT}{te:TE}
theorem zlf {pins:List (Addr×Obj)}{σ:St}{s:Shared}{E:Value->Shared->Prop}{RR:Value->Addr->Result->Shared->Prop}{Q:VK}
    (hc:X.calm=true) (S:CompScope scope X.env.scope cap) (hix:ix.map (fun i=>X.N[i]?)=cap.map some)
    (hg:∀C s H ex,PG (cxC X (own++cap) scope C s H ex) tg g) (ht:∀C s H ex,PIf (cxC X (own++cap) scope C s H ex) ifs tc) (he:∀C s H ex,PE (cxC X (own++cap) scope C s H ex) elt te)
    {itv:Value}(h:PIE X pins σ tg (fun J H1=>∀D,H1 D=none->zq4 own ix J g tc te σ H1 D Q) itv s)
    (hR:∀(D C:Addr) (s':Shared) (H':Hp) (m:Str->Option Value),s'.heap.Ns C m->FpOk X pins H' C->(∀h',Heap.SameBut C s'.heap h'->Inv X pins σ H' { s' with heap:=h' })->Q (.ref D) H'->RR (.ref D) C (.ok .next) s') :
    wpAny (model X.prog X.w) X.A (newList []) (fun acc s₃=>wpAny (model X.prog X.w) X.A (newFunctionEnv scope X.env.globals (zb7 X.env.cells scope.names []) [] X.env.qual none .none (some X.env)) (fun cenv s₄=>
      codeAny (model X.prog X.w) X.A (.compStart (.ListComp elt [⟨tg,iter,ifs,0⟩] scope pos) 0 itv acc { cenv with scope:=relabel scope X.env }) (RR acc cenv.locals) s₄) E s₃) E s:=by
  obtain⟨it,fp,tn,J,H2,rfl,I2,T,st2,f2,q2⟩:=h
  refine wpAny_newObj_type (wpAny_newFunctionEnv S.nocell (by intro y hy;simp at hy) (fun h₁ hns₁ hsb₁=>?_) S.kind)
  dsimp only at hns₁ hsb₁ ⊢
  have hD:H2 s.heap.objs.size=none:=I2.hok.fresh (Nat.le_refl _)
  obtain⟨W,⟨m0,w0⟩,turn⟩:=q2 s.heap.objs.size hD
  have I3:Inv X pins σ (upd H2 s.heap.objs.size (.lst [])) { s with heap:=s.heap.push { cls:=.type "list",data:=.seq ([]:List Value).toArray } }:=I2.lnew (t':=s.toks) (its:=[]) .nil (Nat.zero_le _)
  have ltD:∀b∈fp,b<s.heap.objs.size:=fun b hb=>by
    obtain⟨o,e,_⟩:=T.obj 0 _ st2 b hb
    exact Heap.lt_size e
  have f3:∀b∈fp,FpOk X pins (upd H2 s.heap.objs.size (.lst [])) b:=fun b hb=>⟨by rw[zl (Nat.ne_of_lt (ltD b hb))];exact (f2 b hb).1,(f2 b hb).2⟩
  generalize hH:s.heap.push { cls:=.type "list",data:=.seq ([]:List Value).toArray } = H3 at I3 hns₁ hsb₁ ⊢
  have sz:H3.objs.size=s.heap.objs.size+1:=by rw[←hH,Heap.size_push]
  have up:∀b o,H3.get? b=some o->h₁.get? b=some o:=fun b o e=>hsb₁.extBut b o (Nat.ne_of_lt (Heap.lt_size e)) (Heap.get?_push_of_some _ e)
  have old:∀b o,s.heap.get? b=some o->h₁.get? b=some o:=fun b o e=>up b o (by rw[←hH];exact Heap.get?_push_of_some _ e)
  have lt3:∀b∈fp,b<({ s with heap:=H3 }:Shared).heap.objs.size:=fun b hb=>by show b<H3.objs.size;rw[sz];exact Nat.lt_succ_of_lt (ltD b hb)
  have st4:tn 0 h₁:=T.keep _ _ _ st2 fun b _ o e=>old b o e
  have stat:∀{H':Hp},(∀b∈fp,H' b=none)->∀b∈fp,FpOk (cxC X (own++cap) scope H3.objs.size { s with heap:=H3 } (upd H2 s.heap.objs.size (.lst [])) fp) [] H' b:=fun hn b hb=>
    ⟨hn b hb,Nat.ne_of_lt (lt3 b hb),fun z=>(List.mem_cons.mp (I3.stkSub b z)).elim (f2 b hb).2.1 (f2 b hb).2.2.1,.inl hb,fun x c e=>(f2 b hb).2.2.2.2.1 x c (zec _ _ _ (fun y d h=>by cases h) _ _ e),fun p hp=>absurd (show p∈([]:List (Addr×Obj)) from hp) (by simp)⟩
  have loop:∀s₄:Shared,s₄ = { s with heap:=h₁,toks:=s.toks+([]:List (Str×Value)).length }->
      codeAny (model X.prog X.w) X.A (.compLoop (.ListComp elt [⟨tg,iter,ifs,0⟩] scope pos) 0 (.ref it) (.ref s.heap.objs.size) (compEnvC scope (zb7 X.env.cells scope.names []) H3.objs.size X.env))
        (RR (.ref s.heap.objs.size) H3.objs.size) s₄:=by
    rintro s₄ rfl
    have I4:=zq2 (own:=own) (fp:=fp) (tk:=s.toks+([]:List (Str×Value)).length) I3 S hix f3 lt3 hns₁ up
    refine zc4 (fun n s'=>∃i σ' ys H',Inv (cxC X (own++cap) scope H3.objs.size { s with heap:=H3 } (upd H2 s.heap.objs.size (.lst [])) fp) [] σ' H' s'/\tn i s'.heap/\(∀b∈fp,H' b=none)/\W i n σ' ys H') ?_ m0
      ⟨0,_,[],_,I4,st4,fun b hb=>(f3 b hb).1,w0⟩
    rintro n s5 ⟨i,σ5,ys,H5,I5,st5,fr5,w5⟩
    obtain⟨hD5,turn5⟩:=turn i n σ5 ys H5 w5
    rcases turn5 with ⟨stop,q⟩ | ⟨go,hz,step⟩
    · refine thn (T.done (cxC X (own++cap) scope H3.objs.size { s with heap:=H3 } (upd H2 s.heap.objs.size (.lst [])) fp) rfl rfl rfl hc i [] s5 σ5 H5 _ I5 (stat fr5) st5 stop) fun r s6 hq0=>?_
      obtain⟨hr,I6⟩:=hq0
      subst hr
      obtain⟨m6,hn6,_⟩:=I6.loc
      exact hR _ _ s6 H5 m6 hn6 (I3.fpOk (Nat.le_refl _) I6.free) (fun h' hs=>zq3 I3 f3 I6 hs) q
    · refine thn (T.item (cxC X (own++cap) scope H3.objs.size { s with heap:=H3 } (upd H2 s.heap.objs.size (.lst [])) fp) rfl rfl rfl hc i [] s5 σ5 H5 _ I5 (stat fr5) st5 go) fun r s6 hq0=>?_
      obtain⟨u,hr,h6⟩:=hq0
      subst hr
      refine thn h6 fun _ s7 hq0=>?_
      obtain⟨x,H7,I7,r7,y7,st7,fr7⟩:=hq0
      have I7':=I7.pinned (stat fr7) (T.obj _ _ st7)
      refine wpAny_mono (hg _ _ _ _ _ s7 σ5 H7 x u _ I7' r7 (step x H7 y7)) (fun _ s8 hq0=>?_) fun _ _ z=>False.elim z
      obtain⟨σ8,H8,I8,q8⟩:=hq0
      refine wpAny_mono (ht _ _ _ _ _ s8 σ8 H8 _ I8 q8) (fun ok s9 hq0=>?_) fun _ _ z=>False.elim z
      obtain⟨H9,I9,q9⟩:=hq0
      have again:∀{s':Shared}{σ':St}{H':Hp}{ys':List V}{m':Nat},Inv (cxC X (own++cap) scope H3.objs.size { s with heap:=H3 } (upd H2 s.heap.objs.size (.lst [])) fp) ([]++zhl fp s7.heap) σ' H' s'->m'<n->W (i+1) m' σ' ys' H'->
          ∃m,m<n/\∃i σ' ys H',Inv (cxC X (own++cap) scope H3.objs.size { s with heap:=H3 } (upd H2 s.heap.objs.size (.lst [])) fp) [] σ' H' s'/\tn i s'.heap/\(∀b∈fp,H' b=none)/\W i m σ' ys H':=fun {s' σ' H' ys' m'} I' hm w'=>by
        refine⟨m',hm,i+1,σ',ys',H',I'.unpinned,T.keep _ _ _ st7 fun b hb o e=>(I'.pin (b,o) (List.mem_append_right _ (List.mem_append_right _ (zcz hb e)))).1,fun b hb=>?_,w'⟩
        obtain⟨o,e,d⟩:=T.obj _ _ st7 b hb
        exact (I'.pin (b,o) (List.mem_append_right _ (List.mem_append_right _ (zcz hb e)))).2.1
      cases ok with
      | false=>
        rw[if_neg Bool.false_ne_true] at q9 ⊢
        obtain⟨_,m',hm,w'⟩:=q9
        exact again I9 hm w'
      | true=>
        rw[if_pos rfl] at q9 ⊢
        refine wpAny_mono (he _ _ _ _ _ s9 σ8 H9 _ I9 q9) (fun v s10 hq0=>?_) fun _ _ z=>False.elim z
        obtain⟨y,H10,I10,r10,hD10,m',hm,w'⟩:=hq0
        refine wpAny_mono (za9 (X:=cxC X (own++cap) scope H3.objs.size { s with heap:=H3 } (upd H2 s.heap.objs.size (.lst [])) fp) _ s10 σ8 H10 (.ref s.heap.objs.size) [y] (.ref s.heap.objs.size) [v] (fun _ H'=>H'=upd H10 s.heap.objs.size (.lst (ys++[y]))) I10 rfl (.cons r10 .nil) ⟨_,ys,y,rfl,rfl,hD10,hz,rfl⟩)
          (fun _ s11 ⟨_,H11,I11,_,e11⟩=>?_) fun _ _ z=>False.elim z
        subst e11
        exact again I11 hm w'
  exact codeAny_compStart_list (loop _ rfl) (T.self _ 0 _ _ _ st4 (loop _ rfl))
theorem zbw {osc:Scope}(hc:X.calm=true) (S':CompScope scope osc cap) (hix:ix.map (fun i=>X.N[i]?)=cap.map some) (hi:PI X tg iter wi)
    (hg:∀C s H ex,PG (cxC X (own++cap) scope C s H ex) tg g) (ht:∀C s H ex,PIf (cxC X (own++cap) scope C s H ex) ifs tc) (he:∀C s H ex,PE (cxC X (own++cap) scope C s H ex) elt te)
    (hs:∀x,foldedSetIterable iter X.env x=pure x:=by intro _;rfl) (ho:X.env.scope=osc:=by rfl):PE X (.ListComp elt [⟨tg,iter,ifs,0⟩] scope pos) (zvz own ix wi g tc te):=by
  have S:CompScope scope X.env.scope cap:=ho▸S'
  intro pins s σ H Q I h
  rw[eval_ListComp]
  refine wpAny_comprehension_free (use:=none) rfl hs (zgb I S) S.kind S.loc (thn (hi pins s σ H _ I h) fun xv s₁ h₁=>thn h₁ fun itv s₂ h₂=>?_)
  refine zlf (RR:=fun acc C=>compPost (model X.prog X.w) X.A X.xe none (EP X pins σ Q) acc C) hc S hix hg ht he h₂ fun D C s' H' m hn _ hI q=>?_
  exact⟨m,hn,fun h' hs'=>⟨.ref D,H',hI h' hs',rfl,q⟩⟩
theorem zgx {osc:Scope}{i:Nat}{y:Str}{py spos:Pos}(hc:X.calm=true) (hN:X.N.Nodup) (hi':X.N[i]? = some y) (hy:X.env.scope.names.lookup y=some .local)
    (hsw:swapsWith (.ListComp elt [⟨tg,iter,ifs,0⟩] scope pos) (some (.Name y py)) spos.line X.env=pure true) (S':CompScope scope osc cap) (hix:ix.map (fun i=>X.N[i]?)=cap.map some) (hi:PI X tg iter wi)
    (hg:∀C s H ex,PG (cxC X (own++cap) scope C s H ex) tg g) (ht:∀C s H ex,PIf (cxC X (own++cap) scope C s H ex) ifs tc) (he:∀C s H ex,PE (cxC X (own++cap) scope C s H ex) elt te)
    (hs:∀x,foldedSetIterable iter X.env x=pure x:=by intro _;rfl) (ho:X.env.scope=osc:=by rfl):PS X (.Assign [.Name y py] (.ListComp elt [⟨tg,iter,ifs,0⟩] scope pos) spos) (tAsg (zvz own ix wi g tc te) (zr i)):=by
  have S:CompScope scope X.env.scope cap:=ho▸S'
  intro pins s σ H D I h
  rw[exec_Assign_Name_used _ _ _ _ hsw]
  refine wpAny_bind (wpAny_standAt (wpAny_bind ?_))
  show wpAny _ X.A (do let _ ←comprehension (.ListComp elt [⟨tg,iter,ifs,0⟩] scope pos) scope X.env _ (newList []) false (eval iter X.env) (some (assign (.Name y py) X.env))) _ _ s
  refine wpAny_bind (wpAny_mono (wpAny_comprehension_free (use:=some (assign (.Name y py) X.env)) (Q:=fun _ s'=>SP X pins D .next s') rfl hs (zgb I S) S.kind S.loc
    (thn (hi pins s σ H _ I h) fun xv s₁ h₁=>thn h₁ fun itv s₂ h₂=>?_)) (fun _ s' hq=>wpAny_pure (wpAny_pure hq)) fun _ _ e=>e)
  refine zlf (RR:=fun acc C=>compPost (model X.prog X.w) X.A X.xe (some (assign (.Name y py) X.env)) (fun _ s'=>SP X pins D .next s') acc C) hc S hix hg ht he h₂ fun D' C s' H' m hn hF hI q=>?_
  show wpAny _ X.A (assign (.Name y py) X.env (.ref D')) _ _ _
  have I':Inv X pins σ H' s':=hI s'.heap (Heap.SameBut.refl ..)
  refine wpAny_assign_Name (zhi I' hN hi' (.inl hy) (v:=.ref D') rfl (fun s'' I'' hq0=>?_) (.inr hy))
  obtain⟨a,hs'',ha⟩:=hq0
  obtain⟨f0,f1,f2,f3,f4,f5⟩:=hF
  have hCa:C≠a:=by
    rcases ha with ha | ha
    · rw[ha];exact f1
    · exact fun z=>f4 _ _ ha z.symm
  exact⟨m,hn.sameBut hs'' hCa,fun h' hs'=>⟨_,H',I''.turned (t':=s''.toks) (fun b o hb e=>(hs'.2 b hb).trans e) f0 f1 f3 f4 f5,q⟩⟩
end
structure Fix (J:It) (xs:List V) (P:Hp->Prop):Prop where
  go:∀i H,P H->i<xs.length->J.go i H
  yld:∀i H x H',P H->J.yld i H x H'->H'=H/\(i<xs.length->xs[i]? = some x)
  stop:∀i H,P H->xs.length<=i->J.stop i H
theorem zbt {K:PySem.W.Frag}{a:Addr}{xs:List V}:Fix (Itl K a) xs (fun H=>SqL K H a xs):=
  ⟨fun i H h hi=>⟨xs,xs[i],h,by simp[hi]⟩,fun i H x H' h y=>⟨y.1,fun _=>y.2 xs h⟩,fun i H h hi=>⟨xs,h,hi⟩⟩
theorem ztz {lo:Int}{n:Nat}:Fix (Itr lo n) ((List.range n).map fun i=>V.int (lo+(i:Nat))) (fun _=>True):=
  ⟨fun i H h hi=>by show i<n;simpa using hi,fun i H x H' h y=>⟨y.1,fun hi=>by
    have hi':i<n:=by simpa using hi
    rw[List.getElem?_map,List.getElem?_range hi',y.2];rfl⟩,fun i H h hi=>by show n<=i;simpa using hi⟩
theorem zn4 {J:It}{xs:List V}{P:Hp->Prop}{own:List Str}{ix:List Nat}{tc:TT}{te:TE}{σ:St}{H1:Hp}{D:Addr}{Q:VK}(F:Fix J xs P) (p:V->Bool) (f:V->V)
    (hP:∀ys,P (upd H1 D (.lst ys))) (hz:xs.length<=sizeLine)
    (ht:∀x∈xs,∀ys (Q':Bool->Hp->Prop),Q' (p x) (upd H1 D (.lst ys))->tc ((st0 own ix σ).set 0 (some x)) (upd H1 D (.lst ys)) Q')
    (he:∀x∈xs,p x=true->∀ys (Q':VK),Q' (f x) (upd H1 D (.lst ys))->te ((st0 own ix σ).set 0 (some x)) (upd H1 D (.lst ys)) Q')
    (hQ:Q (.ref D) (upd H1 D (.lst ((xs.filter p).map f)))):zq4 own ix J (zr 0) tc te σ H1 D Q:=by
  refine⟨fun i m σ' ys H'=>m=xs.length-i/\i<=xs.length/\(∀z,σ'.set 0 z=(st0 own ix σ).set 0 z)/\ys=((xs.take i).filter p).map f/\H'=upd H1 D (.lst ys),
    ⟨xs.length,by simp,Nat.zero_le _,fun _=>rfl,by simp,rfl⟩,?_⟩
  rintro i m σ' ys H' ⟨rfl,hi,hσ,rfl,rfl⟩
  refine⟨zb,?_⟩
  by_cases hlt:i<xs.length
  · refine .inr ⟨F.go i _ (hP _) hlt,?_,fun x H2 y=>?_⟩
    · rw[List.length_map]
      have h1:((xs.take i).filter p).length<=(xs.take i).length:=List.length_filter_le _ _
      rw[List.length_take] at h1
      omega
    · obtain⟨e,y'⟩:=F.yld i _ x H2 (hP _) y
      subst e
      have hx:=y' hlt
      have hm:x∈xs:=List.mem_of_getElem? hx
      have tk:=take_succ_filter p xs i x hx
      show tc (σ'.set 0 (some x)) _ _
      rw[hσ]
      refine ht x hm _ _ ?_
      have σσ:∀z,((st0 own ix σ).set 0 (some x)).set 0 z=(st0 own ix σ).set 0 z:=fun z=>List.set_set ..
      cases hp:p x with
      | true=>
        rw[if_pos rfl]
        refine he x hm hp _ _ ⟨zb,xs.length-(i+1),by omega,rfl,hlt,σσ,?_,?_⟩
        · rw[tk,hp];simp
        · rw[zni]
      | false=>
        rw[if_neg Bool.false_ne_true]
        refine⟨zb,xs.length-(i+1),by omega,rfl,hlt,σσ,?_,?_⟩
        · rw[tk,hp];simp
        · rfl
  · have e:i=xs.length:=by omega
    subst e
    refine .inl ⟨F.stop _ _ (hP _) (Nat.le_refl _),?_⟩
    rw[List.take_length]
    exact hQ
def sg (c:Nat):V:=.str ⟨#[c]⟩
section
variable {X:Cx}
theorem zfd:∀{bs:List Bool}{us:List Value},Vals (bs.map V.bl) us->us=bs.map Value.bool
  | [],_,r=>by cases r;rfl
  | b::bs,_,r=>by
    cases r with
    | cons r1 r2=>rw[show _=Value.bool b from r1,zfd r2];rfl
theorem zn5 (bs:List Bool):((List.range bs.length).all fun i=>(bs[i]?).getD true)=bs.all id:=by
  rw[Bool.eq_iff_iff,List.all_eq_true,List.all_eq_true]
  constructor
  · intro h b hb
    obtain⟨i,hi,e⟩:=List.mem_iff_getElem.mp hb
    have:=h i (List.mem_range.mpr hi)
    rw[List.getElem?_eq_getElem hi,Option.getD_some,e] at this
    exact this
  · intro h i hi
    have hi':=List.mem_range.mp hi
    rw[List.getElem?_eq_getElem hi',Option.getD_some]
    exact h _ (List.getElem_mem hi')
theorem zn6 (hc:X.calm=true):zbp X (.builtin "all") (fun xs H Q=>∃(a:Addr) (bs:List Bool),xs = [V.ref a]/\SqL X.K H a (bs.map V.bl)/\Q (.bl (bs.all id)) H):=by
  intro pins s σ H xs us Q I r h
  obtain⟨a,bs,rfl,ha,q⟩:=h
  obtain⟨u,rfl,ru⟩:=zdd r
  cases ru
  obtain⟨its,rv,pl,hz⟩:=I.list ha
  have e:its=bs.map Value.bool:=zfd rv
  subst e
  have hl:=pl.isList
  have hlt:a<s.heap.objs.size:=by obtain⟨_,e,_⟩:=hl;exact Heap.lt_size e
  refine call_all_walk (wpAny_pyIter_list hl ?_)
  refine⟨s.heap.objs.size,[s.heap.objs.size,a],[s.heap.objs.size],(bs.map Value.bool).toArray.size,_,_,fun i=>(bs[i]?).getD true,rfl,Walks.list (A:=X.A.in1) (I.ok.hd hc) _ a (Nat.ne_of_lt hlt) (bs.map Value.bool).toArray,
    ⟨⟨_,Heap.get?_push_size _ rfl,rfl,rfl⟩,hl.push _⟩,fun i v s' Q' E' hP hQ=>?_,fun h' tk hk=>?_⟩
  · have hP':(bs.map Value.bool)[i]? = some v:=by simpa using hP
    rw[List.getElem?_map] at hP'
    cases e:bs[i]? with
    | none=>rw[e] at hP';cases hP'
    | some b=>
      rw[e] at hP'
      cases hP'
      simp only [e,Option.getD_some] at hQ
      exact wpAny_truthy_bool hQ
  · have e:((List.range (bs.map Value.bool).toArray.size).all fun i=>(bs[i]?).getD true)=bs.all id:=by
      rw[List.size_toArray,List.length_map];exact zn5 bs
    rw[e]
    refine⟨.bl (bs.all id),H,?_,rfl,q⟩
    exact I.kept fun b o eb=>hk b o (fun z=>by rw[List.mem_singleton.mp z] at eb;exact absurd (Heap.lt_size eb) (Nat.lt_irrefl _)) (Heap.get?_push_of_some _ eb)
theorem zgc:∀{ys:List Str}{us:List Value},Vals (ys.map V.str) us->StrsAre us ys
  | [],_,r=>by cases r;exact .nil
  | y::ys,_,r=>by
    cases r with
    | cons r1 r2=>
      obtain⟨t,rfl⟩:=r1
      exact .cons y t (zgc r2)
def rSlS:V->Option Int->Option Int->Hp->VK->Prop:=fun x lo hi H Q=>∃z,x = .str z/\z.length<=sizeLine/\Q (.str (Txt.slice z lo hi)) H
theorem zsw:SlR X rSlS:=by
  intro pins s σ H x v vl vu lo hi sl Q I rx hs pl pu h
  obtain⟨z,rfl,hz,q⟩:=h
  obtain⟨t,rfl⟩:=rx
  refine⟨"str",_,F.slot_str_getitem.lookup,typeIs_str _ _ _,?_⟩
  have fin:∀(t':Tok) (k:Nat),EP X pins σ Q (.str (Txt.slice z lo hi) t') { s with toks:=k }:=fun t' k=>⟨.str _,H,I.tok k,⟨_,rfl⟩,q⟩
  obtain⟨o,ho,hcl,hd⟩:=hs
  cases pl<;>cases pu
  · exact wpAny_getItem_str_slice (l:=none) (u:=none) (st:=none) ⟨o,ho,hcl,hd⟩ rfl (post_val_or_str ⟨Nat.le_trans (Txt.slice_le z _ _) hz,fin⟩)
  · exact wpAny_getItem_str_slice (l:=none) (u:=some (_,_)) (st:=none) ⟨o,ho,hcl,hd⟩ rfl (post_val_or_str ⟨Nat.le_trans (Txt.slice_le z _ _) hz,fin⟩)
  · exact wpAny_getItem_str_slice (l:=some (_,_)) (u:=none) (st:=none) ⟨o,ho,hcl,hd⟩ rfl (post_val_or_str ⟨Nat.le_trans (Txt.slice_le z _ _) hz,fin⟩)
  · exact wpAny_getItem_str_slice (l:=some (_,_)) (u:=some (_,_)) (st:=none) ⟨o,ho,hcl,hd⟩ rfl (post_val_or_str ⟨Nat.le_trans (Txt.slice_le z _ _) hz,fin⟩)
theorem zq5:zbp X (.builtin "isinstance") (fun xs H Q=>∃x t n b,xs = [x,V.ty n]/\TyOf X.K H x t/\PySem.W.kitOne X.K t (.type n)=some b/\Q (.bl b) H):=by
  intro pins s σ H xs us Q I r h
  obtain⟨x,t,n,b,rfl,ty,e,q⟩:=h
  obtain⟨u,w',rfl,ru,rw'⟩:=zhn r
  cases rw'
  exact znu I ru ty e fun tk=>⟨.bl b,H,I.tok tk,rfl,q⟩
end
theorem len1 {Pl:List Value->Prop}(h:∀a,Pl [a]):∀us:List Value,us.length=1->Pl us
  | [a],_=>h a
theorem len2 {Pl:List Value->Prop}(h:∀a b,Pl [a,b]):∀us:List Value,us.length=2->Pl us
  | [a,b],_=>h a b
theorem len3 {Pl:List Value->Prop}(h:∀a b c,Pl [a,b,c]):∀us:List Value,us.length=3->Pl us
  | [a,b,c],_=>h a b c
theorem len4 {Pl:List Value->Prop}(h:∀a b c d,Pl [a,b,c,d]):∀us:List Value,us.length=4->Pl us
  | [a,b,c,d],_=>h a b c d
theorem len5 {Pl:List Value->Prop}(h:∀a b c d e,Pl [a,b,c,d,e]):∀us:List Value,us.length=5->Pl us
  | [a,b,c,d,e],_=>h a b c d e
def Df (K:PySem.W.Frag) (mg:Str->Option Value) (x:Str) (st:Stmt) (ps:List Str):Prop:=
  ∃(f:Addr) (fd:FuncData),Fun K x x st f fd/\mg x=some (.ref f)/\∀us:List Value,us.length=ps.length->bindArgs fd ⟨us,[]⟩=pure (ps.zip us)
theorem df_mk {K:PySem.W.Frag}{h:Heap}{mg:Str->Option Value}(X:K.In h) (G:h.Ns mainGlobals mg) {x:Str}{st:Stmt}{ps:List Str}{f:Addr}{oc kV dc pm cd ct:Value}{od an:Option Addr}{sl:Array (Option Value)}
    (hb:∀(kV doc pm:Value) (an:Option Addr) (cdv ct:Value) (us:List Value),us.length=ps.length->bindArgs (PySem.W.fnOf x x (zdf st) (zbv st) (zi st) .none kV doc pm an cdv ct) ⟨us,[]⟩=pure (ps.zip us))
    (a:PySem.W.nsIn K mainGlobals x=some (some (.ref f))) (l:K.lookup f=some ⟨oc,od,.func (PySem.W.fnOf x x (zdf st) (zbv st) (zi st) .none kV dc pm an cd ct),sl⟩) (c:PySem.W.codeIn K cd x=true) (k:PySem.W.keepIn K (.ref f)=true):Df K mg x st ps:=
  ⟨f,_,zsv l c k,PySem.W.mg_of X G a,fun us hl=>hb kV dc pm an cd ct us hl⟩
theorem const_mk {K:PySem.W.Frag}{h:Heap}{mg:Str->Option Value}(X:K.In h) (G:h.Ns mainGlobals mg) {x:Str}{u:Value}(a:PySem.W.nsIn K mainGlobals x=some (some u)):mg x=some u:=PySem.W.mg_of X G a
theorem blt_mk {K:PySem.W.Frag}{h:Heap}{mg:Str->Option Value}(X:K.In h) (G:h.Ns mainGlobals mg) {x:Str}(a:PySem.W.nsIn K mainGlobals x=some none):mg x=none:=PySem.W.mg_none_of X G a
def Has (P:Program) (w:World) (K:PySem.W.Frag) (mg:Str->Option Value) (base:Heap) (x:Str) (ps:List Str) (k:Nat) (sp:Sp):Prop:=
  ∃(f:Addr) (fd:FuncData),mg x=some (.ref f)/\PySem.W.keepIn K (.ref f)=true/\(∃oc od osl,K.lookup f=some ⟨oc,od,.func fd,osl⟩)/\(∀us:List Value,us.length=ps.length->bindArgs fd ⟨us,[]⟩=pure (ps.zip us))/\FnOk P w K mg base CX0 k f fd ps sp
section
variable {P:Program}{w:World}{K:PySem.W.Frag}{mg:Str->Option Value}{base:Heap}
theorem Df.has {x:Str}{st:Stmt}{N ps:List Str}{k:Nat}{sp:Sp}(D:Df K mg x st ps) (S:FnScope N ps (zi st)) (len:∀vs H Q E,sp vs H Q E->vs.length=ps.length)
    (hbody:∀(f:Addr) (cdv:Value) (A:Around) (outer:List Env) (s:Shared) (H:Hp) (vs:List V) (Q:VK) (E:XK),Room k (A.deeper (envOfC x (zi st) s.heap.objs.size f cdv))->sp vs H Q E->
      ∃t,PSs (cxOf CX0 P w K mg base N x (zi st) f cdv A outer s H E).nox (zbv st) t/\t { nx:=fun _ H'=>Q .non H',rt:=Q } (start N vs) H):Has P w K mg base x ps (k+1) sp:=by
  obtain⟨f,fd,F,a,b⟩:=D
  obtain⟨oc,od,kV,doc,pm,an,cdv,ct,osl,e,lk,hcd⟩:=id F.ex
  exact⟨f,fd,a,F.kp,⟨oc,od,osl,lk⟩,b,F.ok S len (hbody f)⟩
end
section
variable {X:Cx}{k:Nat}{ps:List Str}{sp:Sp}{x:Str}{p pos:Pos}{e:Expr}{es:List Expr}{t:TA}
theorem zw (F:Has X.prog X.w X.K X.mg X.base x ps k sp) (hr:Room k X.A) (hg:Gl X x) (ha:PA X (e::es) t) (hdb:(x == ("__debug__" : Str))=false:=by decide)
    (he:starEach (e::es) X.env=(false,eval e X.env)::starEach es X.env:=by rfl) (hpl:(backTo pos (starEach es X.env)).any (·.1)=false:=by rfl):PE X (.Call (.Name x p) (e::es) [] pos) (ztn sp [] E0 t):=by
  obtain⟨f,fd,a,kp,lk,b,G⟩:=F
  exact znv G hr hg a kp (.all b) .nil zxd ha hdb he hpl
end
theorem law_walk {l:PySem.W.OpenLaw}{q:Program}{loose:List Str}{XP:(Str->Option Value)->Heap->Prop}{YP:World->Heap->Prop}{d:DefRec}{K:Params->PySem.W.Frag}{k:Nat}{x:Str}{sp:PySem.W.Frag->Sp}
    (hn:l.most=some 63) (hdf:d.params.defaults = []) (hr:Room k callerA) (hY:∀(w:World) (h:Heap),YP w h->(K w.params).In h)
    (hsp:∀(K:PySem.W.Frag) (H:Hp) (a:Addr) (ns:List Int),ns.length<=63->SqL K H a (ns.map V.int)->sp K [.ref a] H (fun v _=>v = .bl true) fun _ _ _=>False)
    (F:∀(w:World) (mg:Str->Option Value) (h:Heap),(K w.params).In h->h.Ns mainGlobals mg->∀base:Heap,(K w.params).In base->base.Ns mainGlobals mg->Has l.prog w (K w.params) mg base d.name [x] k (sp (K w.params))) :
    PySem.W.WalkO q loose XP YP l.row.toRowW d [] (fun f vs=>PySem.call f vs):=by
  refine L2.walk_ofK (n:=63) (k:=k) (x:=x) (CX:=CX0) (sp:=sp) hn (by decide) hdf hr hY (fun w mg fa h KX G hmg=>?_) (fun K H a ns hl _ hS=>hsp K H a ns hl hS) fun _ _ _ _ z=>z
  obtain⟨f,fd,a,kp,⟨oc,od,osl,lk⟩,b,_⟩:=F w mg h KX G h KX G
  have ef:fa=f:=by
    rw[hmg] at a
    cases a;rfl
  subst ef
  refine⟨fd,fun s u=>.of_eq (b [u] rfl),fun base kb nb=>?_⟩
  obtain⟨f',fd',a',kp',⟨oc',od',osl',lk'⟩,b',G'⟩:=F w mg h KX G base kb nb
  have ef:f'=fa:=by
    rw[hmg] at a'
    cases a';rfl
  subst ef
  rw[lk] at lk'
  cases lk'
  exact G'
inductive DEq (K:PySem.W.Frag) (H:Hp):Nat->V->V->Bool->Prop where
  | flat {n:Nat}{x y:V}(fx:zb6 x=true) (fy:zb6 y=true):DEq K H n x y (eqV x y)
  | lst {n:Nat}{a b:Addr}{xs ys:List V}(e:Nat->Bool) (hx:SqL K H a xs) (hy:SqL K H b ys) (hl:xs.length=ys.length) (he:∀(i:Nat) x y,xs[i]? = some x->ys[i]? = some y->DEq K H n x y (e i)) :
      DEq K H (n+1) (.ref a) (.ref b) ((List.range xs.length).all e)
  | lstN {n:Nat}{a b:Addr}{xs ys:List V}(hx:SqL K H a xs) (hy:SqL K H b ys) (hl:xs.length≠ys.length):DEq K H (n+1) (.ref a) (.ref b) false
  | tup {n:Nat}{a b:Addr}{xs ys:List V}(e:Nat->Bool) (hx:SqT K H a xs) (hy:SqT K H b ys) (he:∀(i:Nat) x y,xs[i]? = some x->ys[i]? = some y->DEq K H n x y (e i)) :
      DEq K H (n+1) (.ref a) (.ref b) ((List.range (min xs.length ys.length)).all e&&xs.length == ys.length)
  | lt {n:Nat}{a b:Addr}{xs ys:List V}(hx:SqL K H a xs) (hy:SqT K H b ys):DEq K H (n+1) (.ref a) (.ref b) false
  | tl {n:Nat}{a b:Addr}{xs ys:List V}(hx:SqT K H a xs) (hy:SqL K H b ys):DEq K H (n+1) (.ref a) (.ref b) false
theorem zlg {x:V}(h:zb6 x=true):eqV x x=true:=by
  cases x<;>first | rfl | (simp[zb6] at h;done) | (simp[eqV];done)
section
variable {X:Cx}{pins:List (Addr×Obj)}{σ:St}{H:Hp}{s:Shared}
theorem zn7 (I:Inv X pins σ H s) {a:Addr}{xs ys:List V}(hx:SqL X.K H a xs) (hy:SqT X.K H a ys):False:=by
  obtain⟨its,_,⟨o,n,e,c,_,_⟩,_⟩:=I.list hx
  obtain⟨its',_,⟨o',e',c',_⟩,_⟩:=I.tuple hy
  rw[e] at e'
  cases e'
  rw[c] at c'
  injection c' with c'
  exact absurd c' (by decide)
theorem DEq.refl (I:Inv X pins σ H s) {n:Nat}{x y:V}{b:Bool}(h:DEq X.K H n x y b):x=y->b=true:=by
  induction h with
  | flat fx fy=>intro e;subst e;exact zlg fx
  | lst e hx hy hl he ih=>
    intro q
    cases q
    have:=I.list_inj hx hy
    subst this
    rw[List.all_eq_true]
    intro i hi
    have hi:=List.mem_range.mp hi
    exact ih i _ _ (List.getElem?_eq_getElem hi) (List.getElem?_eq_getElem hi) rfl
  | lstN hx hy hl=>
    intro q
    cases q
    exact absurd (congrArg List.length (I.list_inj hx hy)) hl
  | tup e hx hy he ih=>
    intro q
    cases q
    have:=I.tuple_inj hx hy
    subst this
    rw[Nat.min_self,beq_self_eq_true,Bool.and_true,List.all_eq_true]
    intro i hi
    have hi:=List.mem_range.mp hi
    exact ih i _ _ (List.getElem?_eq_getElem hi) (List.getElem?_eq_getElem hi) rfl
  | lt hx hy=>intro q;cases q;exact (zn7 I hx hy).elim
  | tl hx hy=>intro q;cases q;exact (zn7 I hy hx).elim
theorem zdr (A:Around):A.in1.units<=A.units+1:=by
  first
    | exact Nat.le_refl _
    | exact Nat.le_succ _
    | (unfold Around.in1;simp)
theorem DEq.at (I:Inv X pins σ H s) {n:Nat}{x y:V}{b:Bool}(h:DEq X.K H n x y b):∀{u v:Value}{A:Around},RelV x u->RelV y v->A.units+n<cLine->
    SeqAt.EqAt A s u v b/\((∃p q,x = .ref p/\y = .ref q)->SeqAt.RcAt A s u v b):=by
  induction h with
  | flat fx fy=>
    intro u v A ru rv hu
    refine⟨zsr ru rv fx fy,fun hq0=>?_⟩
    obtain⟨p,q,e,_⟩:=hq0
    subst e
    cases fx
  | @lst n a b xs ys e hx hy hl he ih=>
    intro u v A ru rv hu
    cases ru
    cases rv
    obtain⟨its,r1,p1,_⟩:=I.list hx
    obtain⟨its2,r2,p2,_⟩:=I.list hy
    have l1:=r1.length
    have l2:=r2.length
    have h1:=zdr A
    have rc:SeqAt.RcAt A s (.ref a) (.ref b) ((List.range xs.length).all e):=by
      have:=SeqAt.RcAt.lists (A:=A) (e:=e) p1.isList p2.isList (by simp;omega) (by omega) (fun j j1 j2=>by
        have g1:xs[j]? = some (xs[j]'(by simp at j1;omega)):=List.getElem?_eq_getElem _
        have g2:ys[j]? = some (ys[j]'(by simp at j2;omega)):=List.getElem?_eq_getElem _
        obtain⟨w1,q1,t1⟩:=r1.get g1
        obtain⟨w2,q2,t2⟩:=r2.get g2
        have:=(ih j _ _ g1 g2 t1 t2 (A:=A.in1) (by omega)).1
        have z1:its.toArray[j]=w1:=by
          have:=List.getElem?_eq_some_iff.mp q1
          obtain⟨_,z⟩:=this
          simpa using z
        have z2:its2.toArray[j]=w2:=by
          have:=List.getElem?_eq_some_iff.mp q2
          obtain⟨_,z⟩:=this
          simpa using z
        rw[z1,z2]
        exact this)
      have es:its.toArray.size=xs.length:=by simp;omega
      rw[es] at this
      exact this
    refine⟨?_,fun _=>rc⟩
    by_cases hab:a=b
    · subst hab
      have:=(DEq.lst e hx hy hl he).refl I rfl
      rw[this]
      exact .same _
    · exact .of_refs hab rc
  | @lstN n a b xs ys hx hy hl=>
    intro u v A ru rv hu
    cases ru
    cases rv
    obtain⟨its,r1,p1,_⟩:=I.list hx
    obtain⟨its2,r2,p2,_⟩:=I.list hy
    have l1:=r1.length
    have l2:=r2.length
    have rc:SeqAt.RcAt A s (.ref a) (.ref b) false:=SeqAt.RcAt.lists_lengths p1.isList p2.isList (by simp;omega) (by omega)
    refine⟨?_,fun _=>rc⟩
    by_cases hab:a=b
    · subst hab
      exact absurd (congrArg List.length (I.list_inj hx hy)) hl
    · exact .of_refs hab rc
  | @tup n a b xs ys e hx hy he ih=>
    intro u v A ru rv hu
    cases ru
    cases rv
    obtain⟨its,r1,p1,_⟩:=I.tuple hx
    obtain⟨its2,r2,p2,_⟩:=I.tuple hy
    have l1:=r1.length
    have l2:=r2.length
    have h1:=zdr A
    have rc:SeqAt.RcAt A s (.ref a) (.ref b) ((List.range (min xs.length ys.length)).all e&&xs.length == ys.length):=by
      have:=SeqAt.RcAt.tuples (A:=A) (e:=e) (show s.heap.IsTuple a its.toArray from p1) (show s.heap.IsTuple b its2.toArray from p2) (by omega) (fun j j1 j2=>by
        have g1:xs[j]? = some (xs[j]'(by simp at j1;omega)):=List.getElem?_eq_getElem _
        have g2:ys[j]? = some (ys[j]'(by simp at j2;omega)):=List.getElem?_eq_getElem _
        obtain⟨w1,q1,t1⟩:=r1.get g1
        obtain⟨w2,q2,t2⟩:=r2.get g2
        have:=(ih j _ _ g1 g2 t1 t2 (A:=A.in1) (by omega)).1
        have z1:its.toArray[j]=w1:=by
          have:=List.getElem?_eq_some_iff.mp q1
          obtain⟨_,z⟩:=this
          simpa using z
        have z2:its2.toArray[j]=w2:=by
          have:=List.getElem?_eq_some_iff.mp q2
          obtain⟨_,z⟩:=this
          simpa using z
        rw[z1,z2]
        exact this)
      have es:its.toArray.size=xs.length:=by simp;omega
      have es2:its2.toArray.size=ys.length:=by simp;omega
      rw[es,es2] at this
      exact this
    refine⟨?_,fun _=>rc⟩
    by_cases hab:a=b
    · subst hab
      have:=(DEq.tup e hx hy he).refl I rfl
      rw[this]
      exact .same _
    · exact .of_refs hab rc
  | @lt n a b xs ys hx hy=>
    intro u v A ru rv hu
    cases ru
    cases rv
    obtain⟨its,r1,p1,_⟩:=I.list hx
    obtain⟨its2,r2,p2,_⟩:=I.tuple hy
    exact⟨SeqAt.EqAt.list_tuple p1.isList (show s.heap.IsTuple b its2.toArray from p2) (by omega),fun _=>SeqAt.RcAt.list_tuple p1.isList (show s.heap.IsTuple b its2.toArray from p2) (by omega)⟩
  | @tl n a b xs ys hx hy=>
    intro u v A ru rv hu
    cases ru
    cases rv
    obtain⟨its,r1,p1,_⟩:=I.tuple hx
    obtain⟨its2,r2,p2,_⟩:=I.list hy
    exact⟨SeqAt.EqAt.tuple_list (show s.heap.IsTuple a its.toArray from p1) p2.isList (by omega),fun _=>SeqAt.RcAt.tuple_list (show s.heap.IsTuple a its.toArray from p1) p2.isList (by omega)⟩
end
section
variable {X:Cx}{pins:List (Addr×Obj)}{σ:St}{H:Hp}{s:Shared}
theorem zlh (I:Inv X pins σ H s) {n:Nat}{xs ys:List V}{its its2:List Value}{e:Nat->Bool}(r1:Vals xs its) (r2:Vals ys its2) (he:∀(i:Nat) x y,xs[i]? = some x->ys[i]? = some y->DEq X.K H n x y (e i)) {A:Around}(hu:A.units+n<cLine) :
    ∀(j:Nat) (h1:j<its.toArray.size) (h2:j<its2.toArray.size),SeqAt.EqAt A s its.toArray[j] its2.toArray[j] (e j):=fun j j1 j2=>by
  have l1:=r1.length
  have l2:=r2.length
  have g1:xs[j]? = some (xs[j]'(by simp at j1;omega)):=List.getElem?_eq_getElem _
  have g2:ys[j]? = some (ys[j]'(by simp at j2;omega)):=List.getElem?_eq_getElem _
  obtain⟨w1,q1,t1⟩:=r1.get g1
  obtain⟨w2,q2,t2⟩:=r2.get g2
  have:=((he j _ _ g1 g2).at I t1 t2 (A:=A) hu).1
  have z1:its.toArray[j]=w1:=by
    obtain⟨_,z⟩:=List.getElem?_eq_some_iff.mp q1
    simpa using z
  have z2:its2.toArray[j]=w2:=by
    obtain⟨_,z⟩:=List.getElem?_eq_some_iff.mp q2
    simpa using z
  rw[z1,z2]
  exact this
theorem DEq.ne (I:Inv X pins σ H s) {n:Nat}{p q:Addr}{b:Bool}(h:DEq X.K H n (.ref p) (.ref q) b) {A:Around}(hu:A.units+n<cLine):SeqAt.RcNeAt A s (.ref p) (.ref q) (!b):=by
  have h1:=zdr A
  cases h with
  | flat fx fy=>cases fx
  | lst e hx hy hl he=>
    obtain⟨its,r1,p1,_⟩:=I.list hx
    obtain⟨its2,r2,p2,_⟩:=I.list hy
    have l1:=r1.length
    have l2:=r2.length
    have:=SeqAt.RcNeAt.lists (A:=A) (e:=e) p1.isList p2.isList (by simp;omega) (by omega) (zlh I r1 r2 he (A:=A.in1) (by omega))
    rw[List.size_toArray,←l1] at this
    exact this
  | lstN hx hy hl=>
    obtain⟨its,r1,p1,_⟩:=I.list hx
    obtain⟨its2,r2,p2,_⟩:=I.list hy
    have l1:=r1.length
    have l2:=r2.length
    exact SeqAt.RcNeAt.lists_lengths p1.isList p2.isList (by simp;omega) (by omega)
  | tup e hx hy he=>
    obtain⟨its,r1,p1,_⟩:=I.tuple hx
    obtain⟨its2,r2,p2,_⟩:=I.tuple hy
    have l1:=r1.length
    have l2:=r2.length
    have:=SeqAt.RcNeAt.tuples (A:=A) (e:=e) (show s.heap.IsTuple p its.toArray from p1) (show s.heap.IsTuple q its2.toArray from p2) (by omega) (zlh I r1 r2 he (A:=A.in1) (by omega))
    rw[List.size_toArray,List.size_toArray,←l1,←l2] at this
    exact this
  | lt hx hy=>
    obtain⟨its,r1,p1,_⟩:=I.list hx
    obtain⟨its2,r2,p2,_⟩:=I.tuple hy
    exact SeqAt.RcNeAt.list_tuple p1.isList (show s.heap.IsTuple q its2.toArray from p2) (by omega)
  | tl hx hy=>
    obtain⟨its,r1,p1,_⟩:=I.tuple hx
    obtain⟨its2,r2,p2,_⟩:=I.list hy
    exact SeqAt.RcNeAt.tuple_list (show s.heap.IsTuple p its.toArray from p1) p2.isList (by omega)
end
section
variable {X:Cx}
def rEqD (K:PySem.W.Frag):R2:=fun x y H Q=>∃p q b,x = .ref p/\y = .ref q/\DEq K H 8 x y b/\Q (.bl b) H
theorem zv0 (hu:X.A.units+9<cLine):OpR X (compareOp .Eq) (rEqD X.K):=by
  intro pins s σ H x y v u Q I rx ry h
  obtain⟨p,q,b,rfl,rfl,d,hq⟩:=h
  exact (d.at I rx ry (A:=X.A) (by omega)).2 ⟨p,q,rfl,rfl⟩ X.prog X.w _ _ ⟨.bl b,H,I,rfl,hq⟩
def rNeD (K:PySem.W.Frag):R2:=fun x y H Q=>∃p q b,x = .ref p/\y = .ref q/\DEq K H 8 x y b/\Q (.bl (!b)) H
theorem zv1 (hu:X.A.units+9<cLine):OpR X (compareOp .NotEq) (rNeD X.K):=by
  intro pins s σ H x y v u Q I rx ry h
  obtain⟨p,q,b,rfl,rfl,d,hq⟩:=h
  cases rx
  cases ry
  exact d.ne I (A:=X.A) (by omega) X.prog X.w _ _ ⟨.bl (!b),H,I,rfl,hq⟩
def rInD (K:PySem.W.Frag) (neg:Bool):R2:=fun x y H Q=>∃(p:Addr) (xs:List V) (e:V->Bool),y = .ref p/\(SqL K H p xs\/SqT K H p xs)/\(∀z∈xs,DEq K H 8 z x (e z))/\Q (.bl (if neg then !xs.any e else xs.any e)) H
theorem zn8:∀{xs:List V}{us:List Value}{u:Value},Vals xs us->u∈us->∃x∈xs,RelV x u
  | _,_,_,.cons r t,h=>by
    rcases List.mem_cons.mp h with h | h
    · subst h;exact⟨_,List.mem_cons_self ..,r⟩
    · obtain⟨x,hx,q⟩:=zn8 t h
      exact⟨x,List.mem_cons_of_mem _ hx,q⟩
def absE (e:V->Bool) (u:Value):Bool:=match absV u with
  | some x=>e x
  | none=>false
theorem zn9 {e:V->Bool}{x:V}{u:Value}(r:RelV x u):absE e u=e x:=by unfold absE;rw[r.abs]
theorem zj4 {e:V->Bool}:∀{xs:List V}{us:List Value},Vals xs us->us.any (absE e)=xs.any e
  | _,_,.nil=>rfl
  | _,_,.cons r t=>by rw[List.any_cons,List.any_cons,zn9 r,zj4 t]
theorem zoa (hu:X.A.units+10<cLine):OpR X (compareOp .NotIn) (rInD X.K true):=by
  intro pins s σ H x y v u Q I rx ry h
  obtain⟨p,xs,e,rfl,hq,hd,q⟩:=h
  cases ry
  have h1:=zdr X.A
  have items:∀{its:List Value},Vals xs its->∀z,z∈its.toArray->SeqAt.EqAt X.A.in1 s z v (absE e z):=fun {its} r z hz=>by
    obtain⟨x',hx',rz⟩:=zn8 r (by simpa using hz)
    rw[zn9 rz]
    exact ((hd x' hx').at I rz rx (A:=X.A.in1) (by omega)).1
  rcases hq with hq | hq
  · obtain⟨its,r,pl,hz⟩:=I.list hq
    refine SeqAt.notIn_listAt (absE e) pl.isList (items r) ⟨.bl _,H,I,rfl,?_⟩
    rw[show its.toArray.any (absE e)=its.any (absE e) by simp,zj4 r]
    exact q
  · obtain⟨its,r,pl,hz⟩:=I.tuple hq
    refine SeqAt.notIn_tupleAt (absE e) pl (items r) ⟨.bl _,H,I,rfl,?_⟩
    rw[show its.toArray.any (absE e)=its.any (absE e) by simp,zj4 r]
    exact q
end
def Wd (v:V):Prop:=(∃x,v = .str x/\x.length<=100)\/∃i:Int,v = .int i/\i.natAbs<10 ^ 60
theorem Wd.flat {v:V}(h:Wd v):zb6 v=true:=by
  rcases h with ⟨x,rfl,_⟩ | ⟨i,rfl,_⟩<;>rfl
def eqL (xs ys:List V):Bool:=(List.range (min xs.length ys.length)).all (fun i=>match xs[i]?,ys[i]? with | some x,some y=>eqV x y | _,_=>true)&&xs.length == ys.length
theorem DEq.flatT {K:PySem.W.Frag}{H:Hp}{n:Nat}{a b:Addr}{xs ys:List V}(hx:SqT K H a xs) (hy:SqT K H b ys) (fx:∀x∈xs,zb6 x=true) (fy:∀x∈ys,zb6 x=true):DEq K H (n+1) (.ref a) (.ref b) (eqL xs ys):=by
  refine DEq.tup _ hx hy fun i x y e1 e2=>?_
  rw[e1,e2]
  exact DEq.flat (fx x (List.mem_of_getElem? e1)) (fy y (List.mem_of_getElem? e2))
theorem zds {xs:List V}(h:∀x∈xs,zb6 x=true):eqL xs xs=true:=by
  unfold eqL
  rw[beq_self_eq_true,Bool.and_true,List.all_eq_true]
  intro i hi
  rw[Nat.min_self] at hi
  have hi:=List.mem_range.mp hi
  rw[List.getElem?_eq_getElem hi]
  exact zlg (h _ (List.getElem_mem hi))
theorem DEq.sameL {K:PySem.W.Frag}{H:Hp}{n:Nat}{a b:Addr}{xs:List V}(hx:SqL K H a xs) (hy:SqL K H b xs) (h:∀x∈xs,DEq K H n x x true):DEq K H (n+1) (.ref a) (.ref b) true:=by
  have:=DEq.lst (n:=n) (fun _=>true) hx hy rfl fun i x y e1 e2=>by
    rw[e1] at e2;cases e2
    exact h x (List.mem_of_getElem? e1)
  rw[show (List.range xs.length).all (fun _=>true)=true from List.all_eq_true.mpr fun _ _=>rfl] at this
  exact this
theorem DEq.sameT {K:PySem.W.Frag}{H:Hp}{n:Nat}{a b:Addr}{xs ys:List V}(hx:SqT K H a xs) (hy:SqT K H b ys) (hl:xs.length=ys.length) (h:∀(i:Nat) x y,xs[i]? = some x->ys[i]? = some y->DEq K H n x y true):DEq K H (n+1) (.ref a) (.ref b) true:=by
  have:=DEq.tup (n:=n) (fun _=>true) hx hy h
  rw[show (List.range (min xs.length ys.length)).all (fun _=>true)=true from List.all_eq_true.mpr fun _ _=>rfl,hl,beq_self_eq_true] at this
  exact this
theorem Same.tup {K:PySem.W.Frag}{H H':Hp}{a:Addr}{xs:List V}(e:Same H H') (h:SqT K H a xs):SqT K H' a xs:=by
  rcases h with (h | ⟨o,h⟩) | h
  · exact .inl (.inl (e _ _ h))
  · exact .inl (.inr ⟨o,e _ _ h⟩)
  · exact .inr h
theorem Same.new {H:Hp}{D:Addr}{o:HO}(h:H D=none):Same H (upd H D o):=fun b u e=>by rw[zl (zp e h)];exact e
theorem Same.upd {H H':Hp}{D:Addr}{o:HO}(e:Same H H') (h:H D=none):Same H (upd H' D o):=fun b u q=>by
  rw[zl (zp q h)];exact e b u q
section
variable {X:Cx}(K:PySem.W.Frag) (h:X.K=K)
include h
theorem zaf:IxR X (rIxL K):=h▸zts
theorem zk:IxR X (rIxT K):=h▸zvr
theorem zdt:SlR X (rSlL K):=h▸ztt
theorem zq6:OpR X (binaryOp .Add) (zvq K):=h▸ztp
theorem zed:OpR X (compareOp .In) (rIn K false):=h▸znx
theorem zob (hu:X.A.units+9<cLine):OpR X (compareOp .Eq) (rEqD K):=h▸zv0 hu
theorem zee (hu:X.A.units+9<cLine):OpR X (compareOp .NotEq) (rNeD K):=h▸zv1 hu
theorem zgd (hu:X.A.units+10<cLine):OpR X (compareOp .NotIn) (rInD K true):=h▸zoa hu
theorem zai:zbp X (.builtin "len") (fun xs H Q=>∃p ys,xs = [.ref p]/\(SqL K H p ys\/SqT K H p ys)/\Q (.int ys.length) H):=h▸zhv
theorem zbu:zbp X (.type "list") (fun xs H Q=>∃p ys,xs = [.ref p]/\(SqL K H p ys\/SqT K H p ys)/\∀l,H l=none->Q (.ref l) (upd H l (.lst ys))):=h▸zhw
theorem zh2:zbp X (.builtin "isinstance") (fun xs H Q=>∃x t n b,xs = [x,V.ty n]/\TyOf K H x t/\PySem.W.kitOne K t (.type n)=some b/\Q (.bl b) H):=h▸zq5
theorem zc0 (hc:X.calm=true):zbp X (.builtin "all") (fun xs H Q=>∃(a:Addr) (bs:List Bool),xs = [V.ref a]/\SqL K H a (bs.map V.bl)/\Q (.bl (bs.all id)) H):=h▸zn6 hc
variable {o e:Expr}{es:List Expr}{to:TE}{t:TA}{name:Str}{apos cpos:Pos}{T id:String}{r:V->List V->Hp->VK->Prop}
theorem zoc (pa:PlainAttrs T) (slot:Slot T name id) (hty:typeOf (.builtin id)=pure (.type "method_descriptor")) (hm:MtR X id r) (ho:PE X o to)
    (hbase:attributeBase o name X.env (eval o X.env)=eval o X.env:=by rfl) (hline:(apos.endLine == cpos.line)=true:=by rfl):PE X (.Call (.Attribute o name apos) [] [] cpos) (tBM0 K T r to):=h▸zvt pa slot hty hm ho hbase hline
theorem zc8 (pa:PlainAttrs T) (slot:Slot T name id) (hty:typeOf (.builtin id)=pure (.type "method_descriptor")) (hm:MtR X id r) (ho:PE X o to) (ha:PA X (e::es) t)
    (hbase:attributeBase o name X.env (eval o X.env)=eval o X.env:=by rfl)
    (hfew:((backTo cpos (starEach (e::es) X.env)).all (fun x=>!x.1)&&(backToKw cpos (keywordEach [] X.env)).all (fun x=>x.1.isSome)
      && decide ((e::es).length+([]:List Keyword).length+(if ([]:List Keyword).isEmpty then 0 else 1)<30))=true:=by rfl)
    (hline:(apos.endLine == cpos.line)=true:=by rfl) (hs:starEach (e::es) X.env=(false,eval e X.env)::starEach es X.env:=by rfl) (hplain:(backTo cpos (starEach es X.env)).any (·.1)=false:=by rfl) :
    PE X (.Call (.Attribute o name apos) (e::es) [] cpos) (tBM K T r to t):=h▸zxa pa slot hty hm ho ha hbase hfew hline hs hplain
end
section
variable {X:Cx}{tg:Expr}(K:PySem.W.Frag) (h:X.K=K)
include h
theorem zab {l:Expr}{tl:TE}(hl:PE X l tl):PI X tg l (zvk K tl):=h▸ztj hl
theorem zcc {es:List Expr}{k:Nat}{t:TGs}{n:Nat}{pos:Pos}(hc:X.calm=true) (h':PGs X es t)
    (hn:(assignEach es X.env).length=n:=by rfl) (hst:(assignEach es X.env).findIdx? (·.1)=none:=by rfl):PG X (.Tuple es k pos) (gTup K n t):=h▸zvh hc h' hn hst
end
theorem hu10 {A:Around}{k:Nat}(hr:Room k A):A.units+9<cLine:=Nat.lt_of_le_of_lt (Nat.add_le_add_left (by decide:9<=64) _) hr.units
theorem hu11 {A:Around}{k:Nat}(hr:Room k A):A.units+10<cLine:=Nat.lt_of_le_of_lt (Nat.add_le_add_left (by decide:10<=64) _) hr.units
theorem zby {c:TT}{t u:TS}{D:Ends}{σ:St}{H:Hp}(b:Bool) (ht:∀Q':Bool->Hp->Prop,(∀H',Same H H'->Q' b H')->c σ H Q') (hs:∀H',Same H H'->if b=true then t D σ H' else u D σ H'):tIfS c t u D σ H:=ht _ hs
theorem zdu {c:TT}{t u:TS}{D:Ends}{σ:St}{H:Hp}(b:Bool) (ht:∀Q':Bool->Hp->Prop,Q' b H->c σ H Q') (hs:if b=true then t D σ H else u D σ H):tIfS c t u D σ H:=ht _ hs
theorem DEq.nilL {K:PySem.W.Frag}{H:Hp}{n:Nat}{a b:Addr}{xs:List V}(hx:SqL K H a xs) (hy:SqL K H b []):DEq K H (n+1) (.ref a) (.ref b) (decide (xs = [])):=by
  by_cases h:xs = []
  · subst h
    exact DEq.lst (fun _=>true) hx hy rfl fun i x y e _=>by simp at e
  · rw[decide_eq_false h]
    exact DEq.lstN hx hy fun z=>h (List.length_eq_zero_iff.mp z)
theorem zod {α:Type}{x:α}{xs:List α}:atI (x::xs) 0=some x:=by
  have:=zb1 (xs:=x::xs) (j:=0) (v:=x) rfl
  exact this
theorem zav {n:Nat}(h:n<=1000):n<=sizeLine:=Nat.le_of_lt (zz h)
open Builtin Builtin.Str
section
variable {X:Cx}{pins:List (Addr×Obj)}{σ:St}{H:Hp}{s:Shared}{h':Heap}
theorem Inv.turnedL {t':Nat}{ch:List Addr}(I:Inv X pins σ H s) (k:∀b o,b ∉ ch->s.heap.get? b=some o->h'.get? b=some o) (hf:∀b∈ch,FpOk X pins H b):Inv X pins σ H { s with heap:=h',toks:=t' }:=by
  have nit:∀b u,H b=some u->b ∉ ch:=fun b u e z=>by rw[(hf b z).1] at e;cases e
  refine I.step (g':=s.gens) (d':=s.drawn) (ch:=ch) (fun b hb=>⟨(hf b hb).2.2.2.1,(hf b hb).2.1,(hf b hb).2.2.2.2.1,(hf b hb).2.2.2.2.2⟩) (fun b o _ _ hc e _=>k b o hc e) (fun b o _ _ hc e _=>⟨o.slots,k b o hc e⟩) (fun _ _ _ _ n=>n)
    (fun b o hc e=>⟨o,k b o hc e⟩) (fun _ _ e=>e) (fun _ _ _ e=>e) (fun b ps e=>⟨#[],by rw[e];simp⟩) (fun m hm=>?_) (fun b u e=>?_) I.bare
  · obtain⟨o,es,ep,ho,r⟩:=hm
    exact⟨o,es,ep,k _ o (fun z=>(hf _ z).2.1 rfl) ho,r⟩
  · refine (I.hok b u e).stay (fun c v hc q=>k c v ?_ q) (fun _ q=>q) fun _ _ q=>q
    rcases hc with z | z
    · rw[z];exact nit b u e
    · exact nit c _ z
end
open Sem (wp)
open Sem (wp)
def RawD (h:Heap) (d:Addr) (es:Array DictEntry) (ep:Nat):Prop:=∃o,h.get? d=some o/\o.ExactDict/\o.data = .dict es ep
theorem RawD.at {h h':Heap}{d:Addr}{es:Array DictEntry}{ep:Nat}(q:RawD h d es ep) (k:∀o,h.get? d=some o->h'.get? d=some o):RawD h' d es ep:=let ⟨o,ho,r⟩:=q;⟨o,k o ho,r⟩
theorem RawD.typeIs {s:Shared}{d:Addr}{es:Array DictEntry}{ep:Nat}(q:RawD s.heap d es ep):s.TypeIs (.ref d) "dict":=let ⟨o,ho,c,_⟩:=q;⟨o,ho,c.1⟩
section
variable {prog:Program}{w:World}{A:Around}{E:Value->Shared->Prop}{s:Shared}
theorem zli {d:Addr}{es:Array DictEntry}{ep:Nat}{Q:Value->Shared->Prop}(hd:(d == sysModules)=false) (hm:RawD s.heap d es ep)
    (hQ:Q (.ref s.heap.objs.size) { s with heap:=s.heap.push { cls:=.type "dict_keyiterator",data:=.fields #[.ref d,.int 0 0,.int es.size 0,.int ep 0] } }):wpAny (model prog w) A (pyIter (.ref d)) Q E s:=by
  obtain⟨o,ho,hc,hdat⟩:=id hm
  have T:s.TypeIs (.ref d) "dict":=hm.typeIs
  refine wpAny_pyIter_slot T F.slot_dict_iter (wpAny_call_entry F.slot_dict_iter T F.entry_dict_iter ?_ (F.args_dict_iter_1 _))
  unfold Builtin.«dict.__iter__»
  refine wpAny_bind ?_
  unfold Builtin.Dict.dictSlotNone
  refine wpAny_bind (wpAny_notOrdered_dict T ?_)
  show wpAny (model prog w) _ (pure (Value.ref d)) _ _ s
  refine wpAny_pure ?_
  show wpAny (model prog w) _ (Builtin.Dict.showsAll d >>= _) _ _ s
  unfold Builtin.Dict.showsAll
  rw[if_neg (by rw[hd];exact Bool.false_ne_true)]
  refine wpAny_bind (wpAny_pure (wpAny_bind (wpAny_dictEntries ho hdat (wpAny_bind (wpAny_dictEpoch ho hdat ?_)))))
  exact wpAny_bind (wpAny_newObj_type (wpAny_pure ⟨_,rfl,"dict_keyiterator",_,⟨_,Heap.get?_push_size _ rfl,rfl⟩,F.slot_dict_keyiterator_next.lookup,hQ⟩))
theorem zlj {it d:Addr}{i ep:Nat}{es:Array DictEntry}{e:DictEntry}{Q:Option Value->Shared->Prop}(hit:s.heap.IsKeyIter it d i es.size ep) (hm:RawD s.heap d es ep) (hx:es[i]? = some e)
    (hQ:∀h1,h1.IsKeyIter it d (i+1) es.size ep->Heap.SameBut it s.heap h1->Q (some e.key) { s with heap:=h1 }):wpAny (model prog w) A (pyNext (.ref it)) Q E s:=by
  obtain⟨o,ho,hc,hd⟩:=id hit
  obtain⟨od,hod,hcd,hdd⟩:=id hm
  obtain⟨hlt,he⟩:=Array.getElem?_eq_some_iff.mp hx
  subst he
  unfold pyNext
  refine wpAny_bind (wpAny_attempt (wpAny_callSpecial?_slot (name:=Str.ofString "__next__") hit.typeIs F.slot_dict_keyiterator_next (wpAny_call_entry F.slot_dict_keyiterator_next hit.typeIs F.entry_dict_keyiterator_next ?_ (F.args_dict_keyiterator_next_1 _))))
  refine wpAny_bind (wpAny_pure (wpAny_bind (wpAny_bind ?_)))
  refine wpAny_bind (wpAny_typeNameOfWhole_keyiter hit.typeIs (wpAny_pure (wpAny_bind (wpAny_fieldsOf ho hd ?_))))
  have own:Builtin.Dict_items.ownsTuple "dict_keyiterator" = false:=by decide
  simp only [own,Bool.false_eq_true,if_false]
  show wpAny (model prog w) _ (if (Value.ref d == Value.none)=true then _ else _) _ _ s
  rw[if_neg (show ¬((Value.ref d == Value.none)=true) from Bool.false_ne_true)]
  refine wpAny_bind (wpAny_pure (wpAny_bind (wpAny_dictEntries hod hdd ?_)))
  rw[if_neg (by simp)]
  refine wpAny_bind (wpAny_pure (wpAny_bind (wpAny_dictEpoch hod hdd ?_)))
  rw[if_neg (by simp)]
  refine wpAny_pure ?_
  simp only [show ¬((i:Int)<0) from by omega,if_false,Int.toNat_natCast,Array.getElem?_eq_getElem hlt]
  refine wpAny_bind (wpAny_bind (wpAny_typeNameOfWhole_keyiter hit.typeIs (wpAny_pure (wpAny_bind (wpAny_isOneOf_keyiter hit.typeIs ?_)))))
  show wpAny (model prog w) _ (setField (.ref it) 1 (rawInt ((i:Int)+1)) >>= _) _ _ s
  refine wpAny_bind (wpAny_setField ho hd (by simp) ?_)
  have nx:(s.heap.update it (Obj.mapFields (·.setIfInBounds 1 (rawInt ((i:Int)+1))))).IsKeyIter it d (i+1) es.size ep:=
    ⟨_,Heap.get?_update_self _ ho (Obj.isFreed_of_fields (Obj.data_mapFields hd _)),(Obj.cls_mapFields ..).trans hc,by rw[Obj.data_mapFields hd];simp[rawInt]⟩
  refine wpAny_bind (wpAny_holding (wpAny_bind (wpAny_isOneOf_keyiter (s:={ s with heap:=s.heap.update it (Obj.mapFields (·.setIfInBounds 1 (rawInt ((i:Int)+1)))) }) nx.typeIs ?_)))
  show wpAny (model prog w) _ (pure es[i].key) _ _ _
  exact wpAny_pure (wpAny_pure ⟨_,rfl,wpAny_pure (hQ _ nx (Heap.SameBut.update ..))⟩)
theorem zoe {it d:Addr}{i ep:Nat}{es:Array DictEntry}{Q:Option Value->Shared->Prop}(hh:A.handled=none) (hit:s.heap.IsKeyIter it d i es.size ep) (hm:RawD s.heap d es ep) (hx:es.size<=i)
    (hQ:∀h1,Heap.ExtBut it s.heap h1->Q none { s with heap:=h1 }):wpAny (model prog w) A (pyNext (.ref it)) Q E s:=by
  obtain⟨o,ho,hc,hd⟩:=id hit
  obtain⟨od,hod,hcd,hdd⟩:=id hm
  unfold pyNext
  refine wpAny_bind (wpAny_attempt (wpAny_callSpecial?_slot (name:=Str.ofString "__next__") hit.typeIs F.slot_dict_keyiterator_next (wpAny_call_entry F.slot_dict_keyiterator_next hit.typeIs F.entry_dict_keyiterator_next ?_ (F.args_dict_keyiterator_next_1 _))))
  refine wpAny_bind (wpAny_pure (wpAny_bind (wpAny_bind ?_)))
  refine wpAny_bind (wpAny_typeNameOfWhole_keyiter hit.typeIs (wpAny_pure (wpAny_bind (wpAny_fieldsOf ho hd ?_))))
  have own:Builtin.Dict_items.ownsTuple "dict_keyiterator" = false:=by decide
  simp only [own,Bool.false_eq_true,if_false]
  show wpAny (model prog w) _ (if (Value.ref d == Value.none)=true then _ else _) _ _ s
  rw[if_neg (show ¬((Value.ref d == Value.none)=true) from Bool.false_ne_true)]
  refine wpAny_bind (wpAny_pure (wpAny_bind (wpAny_dictEntries hod hdd ?_)))
  rw[if_neg (by simp)]
  refine wpAny_bind (wpAny_pure (wpAny_bind (wpAny_dictEpoch hod hdd ?_)))
  rw[if_neg (by simp)]
  refine wpAny_pure ?_
  simp only [show ¬((i:Int)<0) from by omega,if_false,Int.toNat_natCast,Array.getElem?_eq_none hx]
  refine wpAny_bind (wpAny_bind (wpAny_typeNameOfWhole_keyiter hit.typeIs (wpAny_pure ?_)))
  show wpAny (model prog w) _ (setField (.ref it) 0 .none >>= _) _ _ s
  refine wpAny_bind (wpAny_setField ho hd (by simp) ?_)
  show wpAny (model prog w) _ (newExc (.type "StopIteration") [] >>= _) _ _ _
  refine wpAny_bind ?_
  simp only [newExc,newTuple]
  refine wpAny_bind (wpAny_newObj_type (wpAny_bind (m:=firstArgMember _ _) (wpAny_of_eq (a:=Value.none) (by first | rfl | (simp only [firstArgMember];rfl)) (wpAny_newObj_type ?_ (by size_fits)))) (by size_fits))
  simp only [raiseNew]
  refine wpAny_bind (wpAny_handled ?_)
  rw[show A.in1.handled=none from hh]
  refine wpAny_bind (wpAny_pure (wpAny_throw ?_))
  exact wpAny_bind (wpAny_isInstance (T:="StopIteration") (b:=true) ⟨_,Heap.get?_push_size _ rfl,rfl⟩ isSubtype_stop (wpAny_pure (hQ _ (((Heap.SameBut.update ..).extBut.push _).push _))))
theorem zof (hh:A.handled=none) (I d:Addr) (hne:d≠I) (es:Array DictEntry) (ep:Nat) :
    Walks prog w A I [I,d] [I] es.size (fun i v=>∃e,es[i]? = some e/\v=e.key) (fun i h=>h.IsKeyIter I d i es.size ep/\RawD h d es ep) where
  sub:=fun b hb=>by simp at hb;simp[hb]
  frame:=fun _ _ _ st hk=>⟨st.1.at fun o e=>hk I (by simp) o e,st.2.at fun o e=>hk d (by simp) o e⟩
  item:=fun i s Q E hi st hQ=>by
    have hx:es[i]? = some es[i]:=Array.getElem?_eq_getElem hi
    exact zlj st.1 st.2 hx fun h1 it' hs=>hQ _ h1 s.toks ⟨_,hx,rfl⟩ ⟨it',st.2.at fun o e=>(hs.2 d hne).trans e⟩ fun b o hb e=>(hs.2 b (fun h=>hb (by simp[h]))).trans e
  done:=fun s Q E st hQ=>zoe hh st.1 st.2 (Nat.le_refl _) fun h1 he=>hQ h1 s.toks fun b o hb e=>he b o (fun h=>hb (by simp[h])) e
  self:=fun _ _ _ _ st hQ=>wpAny_pyIter_keyiter st.1 hQ
theorem zog {d:Addr}{Q:Bool->Shared->Prop}(T:s.TypeIs (.ref d) "dict") (hq:Q false s):wpAny (model prog w) A (Builtin.List.listLengthHint (.ref d)) Q E s:=by
  unfold Builtin.List.listLengthHint
  refine wpAny_bind (wpAny_specialOf T F.slot_dict_len.lookup ?_)
  have e:splitId "dict.__len__" = some ("dict","__len__"):=by kernel_rfl
  simp only [e]
  have sub:isSubtype (.type "dict") (.type "dict")=pure true:=by rw[isSubtype_type];kernel_rfl
  exact wpAny_bind (wpAny_isInstance (T:="dict") (b:=true) T sub (wpAny_bind (wpAny_typeOf T (wpAny_pure hq))))
theorem zoh {d:Addr}{Q:Bool->Shared->Prop}(T:s.TypeIs (.ref d) "dict_values") (hq:Q false s):wpAny (model prog w) A (Builtin.List.listLengthHint (.ref d)) Q E s:=by
  unfold Builtin.List.listLengthHint
  refine wpAny_bind (wpAny_specialOf T F.slot_dict_values_len.lookup ?_)
  have e:splitId "dict_values.__len__" = some ("dict_values","__len__"):=by kernel_rfl
  simp only [e]
  have sub:isSubtype (.type "dict_values") (.type "dict_values")=pure true:=by rw[isSubtype_type];kernel_rfl
  exact wpAny_bind (wpAny_isInstance (T:="dict_values") (b:=true) T sub (wpAny_bind (wpAny_typeOf T (wpAny_pure hq))))
end
section
variable {prog:Program}{w:World}{A:Around}{s:Shared}{R:Result->Shared->Prop}{I:Addr}{fp wr:List Addr}{n:Nat}{P:Nat->Value->Prop}{St:Nat->Heap->Prop}
theorem zh3 (W:Walks prog w A.in1 I fp wr n P St) (hn:n<=sizeLine) (S:Addr) (c:Nat) (hst:St 0 s.heap) (hS:S ∉ fp) (hl:s.heap.get? S=some { cls:=.type "list",data:=.seq #[] c })
    (hR:∀s1 acc c1,Moved (S::wr) (fun a b=>b=a) s s1->s1.heap.get? S=some { cls:=.type "list",dict:=none,data:=.seq acc c1,slots:=#[] }->ItemsOf P acc n->R (.ok (.ret .none)) s1) :
    wpAny (model prog w) A.in1 (rule "list.extend.makes-room" >>= fun _=>Builtin.List.listTouch (.ref S) >>= fun _=>again (.builtin "list.extend.loop" ⟨[.ref S,.ref I,.none],[]⟩))
      (fun fin s1=>match fin with | .done f=>R (.ok f) s1 | .again c1=>c1.quiet=true/\codeAny (model prog w) A c1 R s1) (fun e s1=>R (.error e) s1) s:=by
  refine wpAny_bind (wpAny_rule (wpAny_bind ?_))
  show wpAny (model prog w) A.in1 (updateSeq S (·.push .none) >>= fun _=>updateSeq S (·.pop)) _ _ _
  refine wpAny_bind (wpAny_updateSeq hl rfl ?_)
  have l2:=Heap.get?_update_self (Obj.mapSeq (·.push Value.none)) hl rfl
  refine wpAny_updateSeq (hz:=by seq_fits) l2 rfl ?_
  have l3:=Heap.get?_update_self (Obj.mapSeq (·.pop)) l2 rfl
  have oth:∀b o,b≠S->s.heap.get? b=some o->((s.heap.update S (Obj.mapSeq (·.push Value.none))).update S (Obj.mapSeq (·.pop))).get? b=some o:=fun b o hb e=>(Heap.get?_update_other _ _ (Ne.symm hb)).trans ((Heap.get?_update_other _ _ (Ne.symm hb)).trans e)
  refine wpAny_pure ⟨plainId_quiet F.plain_extend_loop _,codeAny_extend_loopS W.toS hn _ hS _ n 0 _ _ _ rfl (Nat.zero_le _) (W.toS.frame 0 s _ s.toks hst (Nat.le_refl _) fun b hb o e=>oth b o (fun h=>hS (h▸hb)) e) l3 (ItemsOf.nil P) fun s1 acc c1 hm h1 h2=>?_⟩
  have m0:Moved (S::wr) (fun (a b:Array GenState)=>b=a) s { s with heap:=(s.heap.update S (Obj.mapSeq (·.push Value.none))).update S (Obj.mapSeq (·.pop)) }:=⟨fun b o hb e=>oth b o (fun h=>hb (by simp[h])) e,rfl,rfl,rfl,Nat.le_refl _⟩
  exact hR s1 acc c1 (Moved.trans (fun _ _ _ h1 h2=>h2.trans h1) m0 hm) h1 h2
end
section
variable {prog:Program}{w:World}{A:Around}{s:Shared}{R:Result->Shared->Prop}
theorem zh4 {S:Addr}{x:Value}(hl:s.heap.get? S=some { cls:=.type "list",data:=.seq #[] })
    (h:wpAny (model prog w) A.in1 (Builtin.List.listExtendWith (.ref S) x .none) (fun fin s1=>match fin with | .done f=>R (.ok f) s1 | .again c1=>c1.quiet=true/\codeAny (model prog w) A c1 R s1) (fun e s1=>R (.error e) s1)
      { s with heap:=s.heap.update S (Obj.mapSeq (fun _=>(#[]:Array Value))) }) :
    wpAny (model prog w) A.in1 (Builtin.«list.__init__» ⟨[.ref S,x],[]⟩) (fun fin s1=>match fin with | .done f=>R (.ok f) s1 | .again c1=>c1.quiet=true/\codeAny (model prog w) A c1 R s1) (fun e s1=>R (.error e) s1) s:=by
  show wpAny (model prog w) A.in1 (do let was ←Builtin.List.listItems (.ref S);Builtin.List.listUpdate (.ref S) (fun _=>#[]);letGo was.toList.reverse;Builtin.List.listExtendWith (.ref S) x .none) _ _ s
  refine wpAny_bind ?_
  unfold Builtin.List.listItems
  refine wpAny_bind (wpAny_seqItems hl rfl (wpAny_pure ?_))
  show wpAny (model prog w) A.in1 (updateSeq S (fun _=>#[]) >>= fun _=>letGo (#[]:Array Value).toList.reverse >>= fun _=>Builtin.List.listExtendWith (.ref S) x .none) _ _ s
  exact wpAny_bind (wpAny_updateSeq hl rfl (wpAny_bind (wpAny_letGo h)))
end
section
variable {prog:Program}{w:World}{A:Around}{E:Value->Shared->Prop}{s:Shared}
theorem zer {d:Addr}{es:Array DictEntry}{ep:Nat}{Q:Value->Shared->Prop}(hh:A.handled=none) (hd:(d == sysModules)=false) (hm:RawD s.heap d es ep) (hn:es.size<=sizeLine)
    (hQ:∀h1 acc c tk,(∀b o,s.heap.get? b=some o->h1.get? b=some o)->h1.get? s.heap.objs.size=some { cls:=.type "list",dict:=none,data:=.seq acc c,slots:=#[] }->ItemsOf (fun i v=>∃e,es[i]? = some e/\v=e.key) acc es.size->
      Q (.ref s.heap.objs.size) { s with heap:=h1,toks:=tk }):wpAny (model prog w) A (call (.type "list") [.ref d]) Q E s:=by
  have dl:d<s.heap.objs.size:=by obtain⟨o,ho,_⟩:=hm;exact Heap.lt_size ho
  refine callType_codes (Q₁:=fun obj s1=>obj = .ref s.heap.objs.size/\s1 = { s with heap:=s.heap.push { cls:=.type "list",data:=.seq #[] } }) F.called_list (F.typeCall_list_1 _) F.entry_list_init (code_list_new _ ⟨rfl,rfl⟩) fun obj s1 h1=>?_
  obtain⟨rfl,rfl⟩:=h1
  have hS:(s.heap.push { cls:=.type "list",data:=.seq #[] }).get? s.heap.objs.size=some { cls:=.type "list",data:=.seq #[] }:=Heap.get?_push_size _ rfl
  refine⟨⟨_,hS,rfl⟩,F.args_list_init_2 _ _,zh4 hS ?_⟩
  have l2:=Heap.get?_update_self (Obj.mapSeq (fun _=>(#[]:Array Value))) hS rfl
  have old:∀b o,s.heap.get? b=some o->((s.heap.push { cls:=.type "list",data:=.seq #[] }).update s.heap.objs.size (Obj.mapSeq (fun _=>(#[]:Array Value)))).get? b=some o:=fun b o e=>
    (Heap.get?_update_other _ _ (fun z=>Nat.lt_irrefl _ (z▸Heap.lt_size e))).trans (Heap.get?_push_of_some _ e)
  have hm2:=hm.at (h':=(s.heap.push { cls:=.type "list",data:=.seq #[] }).update s.heap.objs.size (Obj.mapSeq (fun _=>(#[]:Array Value)))) fun o e=>old d o e
  have zu:((s.heap.push { cls:=.type "list",data:=.seq #[] }).update s.heap.objs.size (Obj.mapSeq (fun _=>(#[]:Array Value)))).objs.size=s.heap.objs.size+1:=by rw[Heap.size_update,Heap.size_push]
  generalize (s.heap.push { cls:=.type "list",data:=.seq #[] }).update s.heap.objs.size (Obj.mapSeq (fun _=>(#[]:Array Value)))=g at l2 old hm2 zu
  have T:({ s with heap:=g }:Shared).TypeIs (.ref d) "dict":=hm2.typeIs
  unfold Builtin.List.listExtendWith
  refine wpAny_bind (wpAny_typeOf T ?_)
  have sr:Builtin.List.listSameRef (.ref s.heap.objs.size) (.ref d)=false:=by
    have:s.heap.objs.size≠d:=Ne.symm (Nat.ne_of_lt dl)
    simp[Builtin.List.listSameRef,this]
  have t1:(Value.type "dict" == Value.type "list")=false:=by decide
  have t2:(Value.type "dict" == Value.type "tuple")=false:=by decide
  simp only [sr,t1,t2,Bool.or_false,Bool.false_eq_true,if_false]
  refine wpAny_bind (zli (s:={ s with heap:=g }) hd hm2 ?_)
  have hm3:=hm2.at (h':=g.push { cls:=.type "dict_keyiterator",data:=.fields #[.ref d,.int 0 0,.int es.size 0,.int ep 0] }) fun o e=>Heap.get?_push_of_some _ e
  refine wpAny_bind (wpAny_holding (zog (s:={ s with heap:=g.push { cls:=.type "dict_keyiterator",data:=.fields #[.ref d,.int 0 0,.int es.size 0,.int ep 0] } }) hm3.typeIs ?_))
  have dI:d≠g.objs.size:=by rw[zu];exact Nat.ne_of_lt (Nat.lt_succ_of_lt dl)
  have SI:s.heap.objs.size ∉ [g.objs.size,d]:=by
    rw[zu]
    intro z
    simp only [List.mem_cons,List.not_mem_nil,or_false] at z
    rcases z with z | z
    · exact absurd z (Nat.ne_of_lt (Nat.lt_succ_self _))
    · exact absurd z (Ne.symm (Nat.ne_of_lt dl))
  refine zh3 (A:=A.in1) (s:={ s with heap:=g.push { cls:=.type "dict_keyiterator",data:=.fields #[.ref d,.int 0 0,.int es.size 0,.int ep 0] } }) (zof (A:=A.in1.in1) hh g.objs.size d dI es ep) hn _ _ ⟨⟨_,Heap.get?_push_size _ rfl,rfl,rfl⟩,hm3⟩ SI (Heap.get?_push_of_some _ l2) fun s2 acc c hmv h2 h3=>?_
  obtain⟨hp,ge,dr,tk,os⟩:=s2
  obtain⟨m1,m2,m3,m4,m5⟩:=hmv
  obtain rfl:ge=s.gens:=m2
  obtain rfl:dr=s.drawn:=m3
  obtain rfl:os=s.os:=m4
  refine⟨rfl,hQ hp acc c tk (fun b o e=>m1 b o ?_ (Heap.get?_push_of_some _ (old b o e))) h2 h3⟩
  intro z
  have bl:=Heap.lt_size e
  simp only [List.mem_cons,List.not_mem_nil,or_false] at z
  rcases z with z | z
  · exact absurd bl (by rw[z];exact Nat.lt_irrefl _)
  · have z:b=g.objs.size:=z
    rw[z,zu] at bl
    exact absurd bl (Nat.not_lt_of_le (Nat.le_succ _))
theorem zh5 {κ:Type} [DecidableEq κ] {knd:KeyKind prog w κ}{d v:Addr}{kvs:List (κ×Value)}{Q:Value->Shared->Prop}(hh:A.handled=none) (hv:s.heap.IsValuesView v d) (hm:s.heap.DictOf knd d kvs) (hn:kvs.length<=sizeLine)
    (hQ:∀h1 acc c tk,(∀b o,s.heap.get? b=some o->h1.get? b=some o)->h1.get? s.heap.objs.size=some { cls:=.type "list",dict:=none,data:=.seq acc c,slots:=#[] }->ItemsOf (fun i v=>∃k,kvs[i]? = some (k,v)) acc kvs.length->
      Q (.ref s.heap.objs.size) { s with heap:=h1,toks:=tk }):wpAny (model prog w) A (call (.type "list") [.ref v]) Q E s:=by
  obtain⟨ep,hm⟩:=hm.dictAt
  have dl:d<s.heap.objs.size:=hm.lt_size
  have vl:v<s.heap.objs.size:=by obtain⟨o,ho,_⟩:=hv;exact Heap.lt_size ho
  refine callType_codes (Q₁:=fun obj s1=>obj = .ref s.heap.objs.size/\s1 = { s with heap:=s.heap.push { cls:=.type "list",data:=.seq #[] } }) F.called_list (F.typeCall_list_1 _) F.entry_list_init (code_list_new _ ⟨rfl,rfl⟩) fun obj s1 h1=>?_
  obtain⟨rfl,rfl⟩:=h1
  have hS:(s.heap.push { cls:=.type "list",data:=.seq #[] }).get? s.heap.objs.size=some { cls:=.type "list",data:=.seq #[] }:=Heap.get?_push_size _ rfl
  refine⟨⟨_,hS,rfl⟩,F.args_list_init_2 _ _,zh4 hS ?_⟩
  have l2:=Heap.get?_update_self (Obj.mapSeq (fun _=>(#[]:Array Value))) hS rfl
  have old:∀b o,s.heap.get? b=some o->((s.heap.push { cls:=.type "list",data:=.seq #[] }).update s.heap.objs.size (Obj.mapSeq (fun _=>(#[]:Array Value)))).get? b=some o:=fun b o e=>
    (Heap.get?_update_other _ _ (fun z=>Nat.lt_irrefl _ (z▸Heap.lt_size e))).trans (Heap.get?_push_of_some _ e)
  have hm2:=hm.keep old
  have hv2:((s.heap.push { cls:=.type "list",data:=.seq #[] }).update s.heap.objs.size (Obj.mapSeq (fun _=>(#[]:Array Value)))).IsValuesView v d:=let ⟨o,ho,r⟩:=hv;⟨o,old v o ho,r⟩
  have zu:((s.heap.push { cls:=.type "list",data:=.seq #[] }).update s.heap.objs.size (Obj.mapSeq (fun _=>(#[]:Array Value)))).objs.size=s.heap.objs.size+1:=by rw[Heap.size_update,Heap.size_push]
  generalize (s.heap.push { cls:=.type "list",data:=.seq #[] }).update s.heap.objs.size (Obj.mapSeq (fun _=>(#[]:Array Value)))=g at l2 old hm2 hv2 zu
  have T:({ s with heap:=g }:Shared).TypeIs (.ref v) "dict_values":=hv2.typeIs
  unfold Builtin.List.listExtendWith
  refine wpAny_bind (wpAny_typeOf T ?_)
  have sr:Builtin.List.listSameRef (.ref s.heap.objs.size) (.ref v)=false:=by
    have:s.heap.objs.size≠v:=Ne.symm (Nat.ne_of_lt vl)
    simp[Builtin.List.listSameRef,this]
  have t1:(Value.type "dict_values" == Value.type "list")=false:=by decide
  have t2:(Value.type "dict_values" == Value.type "tuple")=false:=by decide
  simp only [sr,t1,t2,Bool.or_false,Bool.false_eq_true,if_false]
  refine wpAny_bind (wpAny_pyIter_values (s:={ s with heap:=g }) hv2 hm2 ?_)
  have hm3:=hm2.push { cls:=.type "dict_valueiterator",data:=.fields #[.ref d,.int 0 0,.int kvs.length 0,.int ep 0] }
  have hv3:(g.push { cls:=.type "dict_valueiterator",data:=.fields #[.ref d,.int 0 0,.int kvs.length 0,.int ep 0] }).IsValuesView v d:=let ⟨o,ho,r⟩:=hv2;⟨o,Heap.get?_push_of_some _ ho,r⟩
  refine wpAny_bind (wpAny_holding (zoh (s:={ s with heap:=g.push { cls:=.type "dict_valueiterator",data:=.fields #[.ref d,.int 0 0,.int kvs.length 0,.int ep 0] } }) hv3.typeIs ?_))
  have dI:d≠g.objs.size:=by rw[zu];exact Nat.ne_of_lt (Nat.lt_succ_of_lt dl)
  have SI:s.heap.objs.size ∉ [g.objs.size,d]:=by
    rw[zu]
    intro z
    simp only [List.mem_cons,List.not_mem_nil,or_false] at z
    rcases z with z | z
    · exact absurd z (Nat.ne_of_lt (Nat.lt_succ_self _))
    · exact absurd z (Ne.symm (Nat.ne_of_lt dl))
  refine zh3 (A:=A.in1) (s:={ s with heap:=g.push { cls:=.type "dict_valueiterator",data:=.fields #[.ref d,.int 0 0,.int kvs.length 0,.int ep 0] } }) (Walks.dictValues (A:=A.in1.in1) hh g.objs.size d dI kvs ep) hn _ _ ⟨⟨_,Heap.get?_push_size _ rfl,rfl,rfl⟩,hm3⟩ SI (Heap.get?_push_of_some _ l2) fun s2 acc c hmv h2 h3=>?_
  obtain⟨hp,ge,dr,tk,os⟩:=s2
  obtain⟨m1,m2,m3,m4,m5⟩:=hmv
  obtain rfl:ge=s.gens:=m2
  obtain rfl:dr=s.drawn:=m3
  obtain rfl:os=s.os:=m4
  refine⟨rfl,hQ hp acc c tk (fun b o e=>m1 b o ?_ (Heap.get?_push_of_some _ (old b o e))) h2 h3⟩
  intro z
  have bl:=Heap.lt_size e
  simp only [List.mem_cons,List.not_mem_nil,or_false] at z
  rcases z with z | z
  · exact absurd bl (by rw[z];exact Nat.lt_irrefl _)
  · have z:b=g.objs.size:=z
    rw[z,zu] at bl
    exact absurd bl (Nat.not_lt_of_le (Nat.le_succ _))
end
theorem Vals.of_get:∀{xs:List V}{us:List Value},xs.length=us.length->(∀(i:Nat) x u,xs[i]? = some x->us[i]? = some u->RelV x u)->Vals xs us
  | [],[],_,_=>.nil
  | x::xs,u::us,hl,h=>.cons (h 0 x u rfl rfl) (Vals.of_get (by simpa using hl) fun i y v e1 e2=>h (i+1) y v (by simpa using e1) (by simpa using e2))
  | [],_::_,hl,_=>by simp at hl
  | _::_,[],hl,_=>by simp at hl
theorem zj5 {k:Key}{v:Value}(h:zjq k v=true):RelV (kV k) v:=by
  rcases zat h with ⟨i,t,rfl,rfl⟩ | ⟨x,t,rfl,rfl⟩
  · exact⟨t,rfl⟩
  · exact⟨t,rfl⟩
theorem Paired.get' {α β:Type}{F:α->β->Prop}:∀{l₁:List α}{l₂:List β}{i:Nat}{a:α},Paired F l₁ l₂->l₁[i]? = some a->∃b,l₂[i]? = some b/\F a b
  | _,_,_,_,.nil,e=>by simp at e
  | _,_,0,_,.cons r _,e=>by simp at e;subst e;exact⟨_,rfl,r⟩
  | _,_,i+1,a,.cons _ t,e=>by
    obtain⟨u,h1,h2⟩:=Paired.get' (i:=i) (a:=a) t (by simpa using e)
    exact⟨u,by simpa using h1,h2⟩
section
variable {X:Cx}
theorem zgy {pins:List (Addr×Obj)}{σ:St}{H:Hp}{s:Shared}{Q:VK}{ys:List V}{h1:Heap}{acc:Array Value}{c tk:Nat}(I:Inv X pins σ H s) (kp:∀b o,s.heap.get? b=some o->h1.get? b=some o)
    (e:h1.get? s.heap.objs.size=some { cls:=.type "list",dict:=none,data:=.seq acc c,slots:=#[] }) (r:Vals ys acc.toList) (hz:ys.length<=sizeLine) (q:∀l,H l=none->Q (.ref l) (upd H l (.lst ys))):EP X pins σ Q (.ref s.heap.objs.size) { s with heap:=h1,toks:=tk }:=
  ⟨.ref s.heap.objs.size,_,I.laid (t':=tk) (o:=.lst ys) kp (Nat.le_refl _) ⟨hz,acc.toList,c,r,by simpa using e⟩,rfl,q _ (I.hok.fresh (Nat.le_refl _))⟩
theorem zes (hc:X.calm=true):zbp X (.type "list") (fun xs H Q=>∃p kvs,xs = [V.ref p]/\H p=some (.dK kvs)/\∀l,H l=none->Q (.ref l) (upd H l (.lst (kvs.map fun kv=>kV kv.1)))):=by
  intro pins s σ H xs us Q I r h
  obtain⟨p,kvs,rfl,hp,q⟩:=h
  obtain⟨u,rfl,ru⟩:=zdd r
  cases ru
  obtain⟨z,hd,vs,rel,o,es,ep,e,ex,dt,kk,pr,nd⟩:=I.hok p _ hp
  have l1:kvs.length=vs.length:=Paired.length rel
  have l2:es.size=vs.length:=by rw[←pr.length];simp
  refine zer (I.ok.hd hc) hd ⟨o,e,ex,dt⟩ (by omega) fun h1 acc c tk kp el it=>zgy I kp el (Vals.of_get ?_ fun i x v ex ev=>?_) (by rw[List.length_map];exact z) q
  · have:=it.1
    simp only [List.length_map,Array.length_toList]
    omega
  · rw[List.getElem?_map] at ex
    cases ek:kvs[i]? with
    | none=>rw[ek] at ex;cases ex
    | some kv=>
      rw[ek] at ex
      cases ex
      obtain⟨en,hen,rfl⟩:=it.2 i v (by simpa using ev)
      obtain⟨w',hw,rw'⟩:=Paired.get' rel ek
      have:=(pr.get? (e:=en) (k:=w'.1) (v:=w'.2) (by simpa using hen) (by rw[hw])).1
      have e1:kv.1=w'.1:=rw'.1
      show RelV (kV kv.1) en.key
      rw[e1]
      exact zj5 this
def vwO (p d:Addr):HO:=.ext fun h=>h.IsValuesView p d
theorem zh6:MtR X "dict.values" (fun x xs H Q=>∃d kvs,x=V.ref d/\xs = []/\H d=some (.dK kvs)/\∀p,H p=none->Q (.ref p) (upd H p (vwO p d))):=by
  intro pins s σ H x xs v us Q I rx rs h
  obtain⟨d,kvs,rfl,rfl,hd,q⟩:=h
  cases rx
  cases rs
  obtain⟨z,hs,vs,rel,dd⟩:=I.hok d _ hd
  refine call_meetsIn PySem.F.slot_dict_values dd.typeIs PySem.F.entry_dict_values (PySem.F.args_dict_values_1 _) (meets_dict_values (zau X.prog X.w) d hs) ⟨⟨vs,dd⟩,?_⟩
  refine⟨.ref s.heap.objs.size,_,I.laid (t':=s.toks) (a:=s.heap.objs.size) (o:=vwO s.heap.objs.size d) (fun b u e=>Heap.get?_push_of_some _ e) (Nat.le_refl _) ⟨⟨_,Heap.get?_push_size _ rfl,rfl,rfl⟩,⟨_,Heap.get?_push_size _ rfl⟩,fun h1 h2 ⟨o,ho,r⟩ k=>⟨o,k o ho,r⟩⟩,rfl,q _ (I.hok.fresh (Nat.le_refl _))⟩
theorem zet (hc:X.calm=true):zbp X (.type "list") (fun xs H Q=>∃p d kvs,xs = [V.ref p]/\H p=some (vwO p d)/\H d=some (.dK kvs)/\∀l,H l=none->Q (.ref l) (upd H l (.lst (kvs.map (·.2))))):=by
  intro pins s σ H xs us Q I r h
  obtain⟨p,d,kvs,rfl,hp,hd,q⟩:=h
  obtain⟨u,rfl,ru⟩:=zdd r
  cases ru
  obtain⟨z,hs,vs,rel,dd⟩:=I.hok d _ hd
  obtain⟨hv,_,_⟩:=I.hok p _ hp
  have l1:kvs.length=vs.length:=Paired.length rel
  refine zh5 (I.ok.hd hc) hv dd (by omega) fun h1 acc c tk kp el it=>zgy I kp el (Vals.of_get ?_ fun i x v ex ev=>?_) (by rw[List.length_map];exact z) q
  · have:=it.1
    simp only [List.length_map,Array.length_toList]
    omega
  · rw[List.getElem?_map] at ex
    cases ek:kvs[i]? with
    | none=>rw[ek] at ex;cases ex
    | some kv=>
      rw[ek] at ex
      cases ex
      obtain⟨k,hk⟩:=it.2 i v (by simpa using ev)
      obtain⟨w',hw,rw'⟩:=Paired.get' rel ek
      rw[hk] at hw
      cases hw
      exact rw'.2
end
def DfM (K:PySem.W.Frag) (C:Addr) (qual m:Str) (st:Stmt) (ps:List Str):Prop:=
  ∃(f:Addr) (fd:FuncData),Fun K m qual st f fd/\Meth K C m f/\∀us:List Value,us.length=ps.length->bindArgs fd ⟨us,[]⟩=pure (ps.zip us)
theorem dfm_mk {K:PySem.W.Frag}{C:Addr}{qual m:Str}{st:Stmt}{ps:List Str}{f:Addr}{oc kV dc pm cd ct:Value}{od an:Option Addr}{sl:Array (Option Value)}
    (hb:∀(kV doc pm:Value) (an:Option Addr) (cdv ct:Value) (us:List Value),us.length=ps.length->bindArgs (PySem.W.fnOf m qual (zdf st) (zbv st) (zi st) .none kV doc pm an cdv ct) ⟨us,[]⟩=pure (ps.zip us))
    (a:PySem.W.findIn K (.ref C) m=some (some (.ref f))) (l:K.lookup f=some ⟨oc,od,.func (PySem.W.fnOf m qual (zdf st) (zbv st) (zi st) .none kV dc pm an cd ct),sl⟩) (c:PySem.W.codeIn K cd qual=true) (k:PySem.W.keepIn K (.ref f)=true)
    (i:PySem.W.isFn K (.ref f)=true):DfM K C qual m st ps:=⟨f,_,zsv l c k,⟨a,i,k⟩,fun us hl=>hb kV dc pm an cd ct us hl⟩
def HasM (P:Program) (w:World) (K:PySem.W.Frag) (mg:Str->Option Value) (base:Heap) (C:Addr) (m:Str) (ps:List Str) (k:Nat) (sp:Sp):Prop:=
  ∃(f:Addr) (fd:FuncData),Meth K C m f/\(∀us:List Value,us.length=ps.length->bindArgs fd ⟨us,[]⟩=pure (ps.zip us))/\FnOk P w K mg base CX0 k f fd ps sp
section
variable {P:Program}{w:World}{K:PySem.W.Frag}{mg:Str->Option Value}{base:Heap}
theorem DfM.has {C:Addr}{qual m:Str}{st:Stmt}{N ps:List Str}{k:Nat}{sp:Sp}(D:DfM K C qual m st ps) (S:FnScope N ps (zi st)) (len:∀vs H Q E,sp vs H Q E->vs.length=ps.length)
    (hbody:∀(f:Addr) (cdv:Value) (A:Around) (outer:List Env) (s:Shared) (H:Hp) (vs:List V) (Q:VK) (E:XK),Room k (A.deeper (envOfC qual (zi st) s.heap.objs.size f cdv))->sp vs H Q E->
      ∃t,PSs (cxOf CX0 P w K mg base N qual (zi st) f cdv A outer s H E).nox (zbv st) t/\t { nx:=fun _ H'=>Q .non H',rt:=Q } (start N vs) H):HasM P w K mg base C m ps (k+1) sp:=by
  obtain⟨f,fd,F,a,b⟩:=D
  obtain⟨oc,od,kV,doc,pm,an,cdv,ct,osl,e,lk,hcd⟩:=id F.ex
  exact⟨f,fd,a,b,F.ok S len (hbody f)⟩
end
section
variable {X:Cx}(K:PySem.W.Frag) (h:X.K=K)
include h
end
def zt0 (n i:Nat) (p:Prop):Prop:=∃m',m'<n-i/\m'=n-(i+1)/\i+1<=n/\p
theorem zcd {n i:Nat}{p:Prop}(h:i<n) (q:p):zt0 n i p:=⟨n-(i+1),by omega,rfl,h,q⟩
theorem zam {α:Type}{xs:List α}{i:Nat}{x:α}(h:xs[i]? = some x):i<xs.length:=(List.getElem?_eq_some_iff.mp h).1
theorem za7 {J:It}{xs:List V}{P:Hp->Prop}{own:List Str}{ix:List Nat}{g:TG}{tc:TT}{te:TE}{σ:St}{H1:Hp}{D:Addr}{Q:VK}(F:Fix J xs P)
    (R:Nat->St->List V->Hp->Prop) (h0:R 0 (st0 own ix σ) [] (upd H1 D (.lst [])))
    (hP:∀i σ' ys H',R i σ' ys H'->P H'/\H' D=some (.lst ys)/\ys.length<=i) (hz:xs.length<=sizeLine)
    (hs:∀i x σ' ys H',xs[i]? = some x->R i σ' ys H'->g x σ' H' fun σ3 H3=>tc σ3 H3 fun b H4=>
      if b=true then te σ3 H4 fun y H5=>H5 D=some (.lst ys)/\zt0 xs.length i (R (i+1) σ3 (ys++[y]) (upd H5 D (.lst (ys++[y])))) else H4 D=some (.lst ys)/\zt0 xs.length i (R (i+1) σ3 ys H4))
    (hQ:∀σ' ys H',R xs.length σ' ys H'->Q (.ref D) H'):zq4 own ix J g tc te σ H1 D Q:=by
  refine⟨fun i m σ' ys H'=>m=xs.length-i/\i<=xs.length/\R i σ' ys H',⟨xs.length,by simp,Nat.zero_le _,h0⟩,?_⟩
  rintro i m σ' ys H' ⟨rfl,hi,r⟩
  obtain⟨p1,p2,p3⟩:=hP i σ' ys H' r
  refine⟨p2,?_⟩
  by_cases hlt:i<xs.length
  · refine .inr ⟨F.go i _ p1 hlt,by omega,fun x H2 y=>?_⟩
    obtain⟨e,y'⟩:=F.yld i _ x H2 p1 y
    subst e
    exact hs i x σ' ys _ (y' hlt) r
  · have e:i=xs.length:=by omega
    subst e
    exact .inl ⟨F.stop _ _ p1 (Nat.le_refl _),hQ σ' ys H' r⟩
end L2
namespace Dm
open PySem PySem.NumText
abbrev co (x:Str):List Nat:=x.cps.toList
theorem zsx (x:Str):(co x).length=x.length:=by simp[Str.length]
theorem zoi {x y:Str}(h:co x=co y):x=y:=by
  cases x with
  | mk a=>cases y with
    | mk b=>
      have:a=b:=by
        have h:a.toList=b.toList:=h
        exact Array.toList_inj.mp h
      rw[this]
theorem zv2 (l:List Nat):co ⟨l.toArray⟩=l:=by simp[co]
def sIx' (n d:Nat):Option Int->Nat
  | none=>d
  | some i=>if i<0 then (max (i+(n:Int)) 0).toNat else min i.toNat n
theorem zxe (l:List Nat) (i k:Nat):((List.range k).map fun m=>i+m).filterMap (fun j=>l[j]?)=(l.drop i).take k:=by
  induction k generalizing i with
  | zero=>simp
  | succ k ih=>
    rw[List.range_succ_eq_map,List.map_cons,List.map_map]
    have e:((List.range k).map ((fun m=>i+m) ∘ Nat.succ))=(List.range k).map fun m=>(i+1)+m:=by
      apply List.map_congr_left
      intro a _
      simp only [Function.comp,Nat.succ_eq_add_one];omega
    rw[e,List.filterMap_cons]
    simp only [Nat.add_zero]
    rw[ih (i+1)]
    cases h:l[i]? with
    | none=>
      have hl:l.length<=i:=List.getElem?_eq_none_iff.mp h
      rw[List.drop_eq_nil_of_le hl,List.drop_eq_nil_of_le (by omega)];simp
    | some v=>
      obtain⟨hi,e⟩:=List.getElem?_eq_some_iff.mp h
      rw[List.drop_eq_getElem_cons hi,List.take_succ_cons,e]
def zq7 (n:Nat) (d:Int):Option Int->Int
  | none=>d
  | some i=>max 0 (min (if i<0 then i+(n:Int) else i) n)
theorem zlk (n d:Nat) (hd:d<=n) (o:Option Int):zq7 n d o=((sIx' n d o:Nat):Int):=by
  cases o with
  | none=>rfl
  | some i=>simp only [sIx',zq7];split<;>omega
theorem zt1 (n d:Nat) (hd:d<=n) (o:Option Int):sIx' n d o<=n:=by
  cases o with
  | none=>exact hd
  | some i=>simp only [sIx'];split<;>omega
theorem zge (lo hi:Option Int) (n:Nat):Builtin.Str.strSliceIndices lo hi 1 n=(List.range (sIx' n n hi-sIx' n 0 lo)).map fun m=>sIx' n 0 lo+m:=by
  have:Builtin.Str.strSliceIndices lo hi 1 n=sliceRange (zq7 n 0 lo) (zq7 n n hi) 1:=by
    cases lo<;>cases hi<;>rfl
  rw[this,show (0:Int)=((0:Nat):Int) from rfl,zlk n 0 (Nat.zero_le _),zlk n n (Nat.le_refl _)]
  unfold sliceRange
  simp only [show (1:Int) > 0 by decide,if_true,Int.one_mul,Int.ediv_one]
  have ec:(if ((sIx' n 0 lo:Nat):Int)<((sIx' n n hi:Nat):Int) then ((sIx' n n hi:Nat):Int)-((sIx' n 0 lo:Nat):Int)+1-1 else 0).toNat=sIx' n n hi-sIx' n 0 lo:=by
    split<;>omega
  rw[ec]
  apply List.map_congr_left
  intro a _
  omega
theorem zq8 (x:Str) (lo hi:Option Int):co (Txt.slice x lo hi)=((co x).drop (sIx' x.length 0 lo)).take (sIx' x.length x.length hi-sIx' x.length 0 lo):=by
  have key:(Builtin.Str.strSliceIndices lo hi 1 x.length).filterMap (x.cps[·]?)=((co x).drop (sIx' x.length 0 lo)).take (sIx' x.length x.length hi-sIx' x.length 0 lo):=by
    rw[zge,←zxe (co x)]
    congr 1
    funext j
    simp[co]
  unfold Txt.slice
  split
  · rename_i h
    have hl:(Builtin.Str.strSliceIndices lo hi 1 x.length).length=x.length:=by
      simpa using h
    rw[zge,List.length_map,List.length_range] at hl
    have h1:=zt1 x.length x.length (Nat.le_refl _) hi
    have h2:sIx' x.length 0 lo=0\/x.length=0:=by omega
    have h3:=zsx x
    rcases h2 with h2 | h2
    · rw[hl,h2,List.drop_zero,List.take_of_length_le (by omega)]
    · have:co x = []:=List.length_eq_zero_iff.mp (by omega)
      rw[this];simp
  · rw[zv2];exact key
def NAMES:Str:="abcdefghijklmnopqrstuvwxyz0123456789-"
def zv3 (l:List Nat) (sg:Str):Bool:=l.all fun c=>decide (c∈co sg)
def zef (x:Str):Bool:=decide (1<=x.length)&&decide (x.length<=12)&&zv3 (co x) NAMES
def zbl (ns:List Int) (i:Int):Int:=ns.getD i.toNat 0
def pt (c k m:Int):Int:=(c%99991+17) * (48271+7919 * k)%65537 * (k+3)%8191%m
theorem zbb (c k m:Int) (h:0<m):0<=pt c k m/\pt c k m<m:=⟨Int.emod_nonneg _ (by omega),Int.emod_lt_of_pos _ h⟩
def nmI (one at':Int) (k j:Nat):Int:=if (j:Int)=at' then pt one ((j:Int)+2) 37+k else pt one ((j:Int)+2) 37
def nmN (one at':Int) (k j:Nat):Nat:=(co NAMES).getD (nmI one at' k j%37).toNat 0
def nmC (one at':Int) (k size:Nat):List Nat:=(List.range size).map (nmN one at' k)
theorem zoj:(co NAMES).length=37:=by decide +kernel
theorem zq9:(co NAMES).Nodup:=by decide +kernel
theorem ix37 (z:Int):0<=z%37/\(z%37).toNat<(co NAMES).length:=by
  have h1:=Int.emod_nonneg z (show (37:Int)≠0 by decide)
  have h2:=Int.emod_lt_of_pos z (show (0:Int)<37 by decide)
  rw[zoj]
  omega
theorem zt2 (one at':Int) (k j:Nat):nmN one at' k j∈co NAMES:=by
  unfold nmN
  have h:=(ix37 (nmI one at' k j)).2
  rw[List.getD_eq_getElem?_getD,List.getElem?_eq_getElem h]
  exact List.getElem_mem h
theorem zok {i j:Nat}(hi:i<(co NAMES).length) (hj:j<(co NAMES).length) (h:(co NAMES).getD i 0=(co NAMES).getD j 0):i=j:=by
  rw[List.getD_eq_getElem?_getD,List.getD_eq_getElem?_getD,List.getElem?_eq_getElem hi,List.getElem?_eq_getElem hj] at h
  have h:(co NAMES)[i]=(co NAMES)[j]:=h
  exact (List.getElem_inj zq9).mp h
theorem zeg (one at':Int) (k size:Nat):(nmC one at' k size).length=size:=by unfold nmC;simp
theorem zol {one at':Int}{k size j:Nat}(h:j<size):(nmC one at' k size)[j]? = some (nmN one at' k j):=by
  unfold nmC
  rw[List.getElem?_map,List.getElem?_range h];rfl
theorem zt3 {one at':Int}{k k' size:Nat}(h0:0<=at') (h1:at'<size) (hk:k<9) (hk':k'<9) (h:nmC one at' k size=nmC one at' k' size):k=k':=by
  have hj:at'.toNat<size:=by omega
  have e1:=zol (one:=one) (at':=at') (k:=k) hj
  have e2:=zol (one:=one) (at':=at') (k:=k') hj
  rw[h,e2] at e1
  have e:nmN one at' k' at'.toNat=nmN one at' k at'.toNat:=Option.some.inj e1
  unfold nmN at e
  have q:=zok (ix37 _).2 (ix37 _).2 e
  have a1:=(ix37 (nmI one at' k' at'.toNat)).1
  have a2:=(ix37 (nmI one at' k at'.toNat)).1
  have q2:nmI one at' k' at'.toNat%37=nmI one at' k at'.toNat%37:=by omega
  unfold nmI at q2
  rw[if_pos (Int.toNat_of_nonneg h0),if_pos (Int.toNat_of_nonneg h0)] at q2
  omega
def zce (l:List Nat):Str:=⟨l.toArray⟩
theorem zcf (l:List Nat):co (zce l)=l:=zv2 l
theorem zh7 {l m:List Nat}(h:zce l=zce m):l=m:=by
  have:=congrArg co h
  rwa [zcf,zcf] at this
theorem zra {x:Str}(h1:1<=(co x).length) (h2:(co x).length<=12) (h3:∀c∈co x,c∈co NAMES):zef x=true:=by
  rw[zsx] at h1 h2
  unfold zef
  rw[decide_eq_true h1,decide_eq_true h2]
  show zv3 (co x) NAMES=true
  exact List.all_eq_true.mpr fun c hc=>decide_eq_true (h3 c hc)
theorem zt4 {one at':Int}{k size c:Nat}(h:c∈nmC one at' k size):c∈co NAMES:=by
  obtain⟨j,_,rfl⟩:=List.mem_map.mp h
  exact zt2 ..
theorem zbx {f:Nat->Str}{n:Nat}(h:∀i j,i<n->j<n->f i=f j->i=j):((List.range n).map f).Nodup:=by
  unfold List.Nodup
  rw[List.pairwise_map]
  refine List.Pairwise.imp_of_mem (R:=(·≠·)) (fun {a b} ha hb hab e=>?_) List.nodup_range
  exact hab (h a b (List.mem_range.mp ha) (List.mem_range.mp hb) e)
theorem zv4:(Str.ofString "" : Str)=zce []:=by decide +kernel
theorem zh8 (l m:List Nat):zce l++zce m=zce (l++m):=by
  apply zoi
  show (l.toArray++m.toArray).toList=(l++m).toArray.toList
  simp
theorem zdv (l:List Nat):(zce l).length=l.length:=by show l.toArray.size=_;simp
theorem zgf (l:List Nat) (z:Int) (h0:0<=z) (h1:z<=l.length):Txt.slice (zce l) none (some z)=zce (l.take z.toNat):=by
  apply zoi
  rw[zq8,zcf,zcf,zdv]
  simp only [sIx']
  rw[if_neg (by omega),List.drop_zero,Nat.sub_zero]
  congr 1
  omega
end Dm
namespace Dm
open PySem PySem.NumText L2
def zme:List Str:=["over","cuts","fills","same"]
def zcs (z:Int):Prop:=z.natAbs<10 ^ 60
inductive TieOk (us:List Str):List V->Prop where
  | plain {kd x y:Str}(hk:kd∈zme) (hx:x∈us) (hy:y∈us):TieOk us [.str kd,.str x,.str y]
  | after {x y:Str}{n:Int}(hx:x∈us) (hy:y∈us) (h0:0<=n) (h1:zcs n):TieOk us [.str "after",.str x,.str y,.int n]
theorem TieOk.mono {us us':List Str}{ws:List V}(h:TieOk us ws) (s:∀x∈us,x∈us'):TieOk us' ws:=by
  cases h with
  | plain hk hx hy=>exact .plain hk (s _ hx) (s _ hy)
  | after hx hy h0 h1=>exact .after (s _ hx) (s _ hy) h0 h1
theorem zj6 {x:Str}(h:zef x=true):x.length<=12:=by
  unfold zef at h
  simp only [Bool.and_eq_true,decide_eq_true_eq] at h
  exact h.1.2
theorem zrb:∀k∈zme,k.length<=100:=by decide +kernel
theorem TieOk.words {us:List Str}{ws:List V}(h:TieOk us ws) (hu:∀x∈us,zef x=true):(∀v∈ws,Wd v)/\ws.length<=5/\∃x r,ws = .str x::r:=by
  have nm:∀x∈us,Wd (.str x):=fun x hx=>.inl ⟨x,rfl,Nat.le_trans (zj6 (hu x hx)) (by decide)⟩
  cases h with
  | plain hk hx hy=>
    refine⟨fun v hv=>?_,by simp,_,_,rfl⟩
    simp only [List.mem_cons,List.not_mem_nil,or_false] at hv
    rcases hv with rfl | rfl | rfl
    · exact .inl ⟨_,rfl,zrb _ hk⟩
    · exact nm _ hx
    · exact nm _ hy
  | after hx hy h0 h1=>
    refine⟨fun v hv=>?_,by simp,_,_,rfl⟩
    simp only [List.mem_cons,List.not_mem_nil,or_false] at hv
    rcases hv with rfl | rfl | rfl | rfl
    · exact .inl ⟨_,rfl,by decide +kernel⟩
    · exact nm _ hx
    · exact nm _ hy
    · exact .inr ⟨_,rfl,h1⟩
abbrev Tups (H:Hp):List Addr->List (List V)->Prop:=Paired fun a ws=>H a=some (.tup ws)
theorem Tups.same {H H':Hp}(s:Same H H'):∀{as:List Addr}{wss:List (List V)},Tups H as wss->Tups H' as wss
  | _,_,.nil=>.nil
  | _,_,.cons h t=>.cons (s _ _ h) (Tups.same s t)
theorem Tups.get {H:Hp}:∀{as:List Addr}{wss:List (List V)}{a:Addr},Tups H as wss->a∈as->∃ws∈wss,H a=some (.tup ws)
  | _,_,_,.cons h t,ha=>by
    rcases List.mem_cons.mp ha with ha | ha
    · subst ha;exact⟨_,List.mem_cons_self ..,h⟩
    · obtain⟨ws,hw,e⟩:=Tups.get t ha
      exact⟨ws,List.mem_cons_of_mem _ hw,e⟩
theorem Tups.snoc {H:Hp}{a:Addr}{ws:List V}{as:List Addr}{wss:List (List V)}(t:Tups H as wss) (h:H a=some (.tup ws)):Tups H (as++[a]) (wss++[ws]):=Paired.snoc t h
theorem Tups.stay {H H':Hp}(s:∀b xs,H b=some (.tup xs)->H' b=some (.tup xs)):∀{as:List Addr}{wss:List (List V)},Tups H as wss->Tups H' as wss
  | _,_,.nil=>.nil
  | _,_,.cons h t=>.cons (s _ _ h) (Tups.stay s t)
theorem zaw {H:Hp}{p:Addr}{xs ys:List V}(h:H p=some (.lst xs)):∀b zs,H b=some (.tup zs)->upd H p (.lst ys) b=some (.tup zs):=fun b zs e=>by
  rw[zl (zc3 e h (by intro z;cases z))];exact e
theorem za4 {xs:List Str}(nd:xs.Nodup) (k:Nat) (h:k<xs.length):xs[k] ∉ xs.take k:=by
  intro z
  obtain⟨j,hj,e⟩:=List.mem_iff_getElem.mp z
  rw[List.getElem_take] at e
  rw[List.length_take] at hj
  have:=(List.getElem_inj nd).mp e
  omega
theorem zv5 {x y:V}(hx:Wd x) (hy:Wd y):eqV x y=decide (x=y):=by
  rcases hx with ⟨a,rfl,_⟩ | ⟨a,rfl,_⟩<;>rcases hy with ⟨b,rfl,_⟩ | ⟨b,rfl,_⟩
  · show (a == b)=_
    by_cases h:a=b
    · subst h;simp
    · rw[decide_eq_false (fun z=>h (V.str.inj z))]
      exact beq_eq_false_iff_ne.mpr h
  · exact (decide_eq_false (fun z=>nomatch z)).symm
  · exact (decide_eq_false (fun z=>nomatch z)).symm
  · show (a == b)=_
    by_cases h:a=b
    · subst h;simp
    · rw[decide_eq_false (fun z=>h (V.int.inj z))]
      exact beq_eq_false_iff_ne.mpr h
theorem zv6 {xs ys:List V}(hx:∀v∈xs,Wd v) (hy:∀v∈ys,Wd v):eqL xs ys=decide (xs=ys):=by
  by_cases h:xs=ys
  · subst h
    rw[zds fun x q=>(hx x q).flat,decide_eq_true rfl]
  · rw[decide_eq_false h]
    rw[←Bool.not_eq_true]
    intro q
    unfold eqL at q
    rw[Bool.and_eq_true] at q
    obtain⟨q1,q2⟩:=q
    have q2:xs.length=ys.length:=by simpa using q2
    apply h
    apply List.ext_getElem q2
    intro i h1 h2
    have:=List.all_eq_true.mp q1 i (List.mem_range.mpr (by omega))
    rw[List.getElem?_eq_getElem h1,List.getElem?_eq_getElem h2] at this
    have e:eqV xs[i] ys[i]=true:=this
    rw[zv5 (hx _ (List.getElem_mem h1)) (hy _ (List.getElem_mem h2))] at e
    exact of_decide_eq_true e
theorem Tups.len {H:Hp}{as:List Addr}{wss:List (List V)}(t:Tups H as wss):as.length=wss.length:=Paired.length t
theorem Tups.any {H:Hp}{as:List Addr}{wss:List (List V)}{ws:List V}(t:Tups H as wss):∀(e:V->Bool),(∀a vs,vs∈wss->H a=some (.tup vs)->e (.ref a)=decide (vs=ws))->(as.map V.ref).any e=decide (ws∈wss):=by
  intro e he
  induction t with
  | nil=>simp
  | @cons a vs as wss h t ih=>
    rw[List.map_cons,List.any_cons,he a vs (List.mem_cons_self ..) h,ih fun b us q r=>he b us (List.mem_cons_of_mem _ q) r]
    by_cases q:vs=ws
    · subst q;simp
    · rw[decide_eq_false q,Bool.false_or]
      have:ws∈vs::wss↔ws∈wss:=by
        rw[List.mem_cons]
        constructor
        · rintro (z | z)
          · exact absurd z.symm q
          · exact z
        · exact .inr
      exact decide_eq_decide.mpr this.symm
def tupE (H:Hp) (ws:List V):V->Bool
  | .ref a=>match H a with
    | some (.tup vs)=>decide (vs=ws)
    | _=>false
  | _=>false
theorem zom {H:Hp}{ws vs:List V}{a:Addr}(h:H a=some (.tup vs)):tupE H ws (.ref a)=decide (vs=ws):=by
  show (match H a with | some (.tup vs)=>decide (vs=ws) | _=>false)=_
  rw[h]
theorem Tups.anyE {H:Hp}{as:List Addr}{wss:List (List V)}{ws:List V}(t:Tups H as wss):(as.map V.ref).any (tupE H ws)=decide (ws∈wss):=t.any _ fun _ _ _ h=>zom h
theorem Tups.deq {K:PySem.W.Frag}{H:Hp}{n:Nat}{as:List Addr}{wss:List (List V)}{ws:List V}{p:Addr}(t:Tups H as wss) (hw:∀vs∈wss,∀v∈vs,Wd v) (hp:H p=some (.tup ws)) (hv:∀v∈ws,Wd v) :
    ∀z∈as.map V.ref,DEq K H (n+1) z (.ref p) (tupE H ws z):=by
  intro z hz
  obtain⟨a,ha,rfl⟩:=List.mem_map.mp hz
  obtain⟨vs,hvs,e⟩:=t.get ha
  rw[zom e,←zv6 (hw vs hvs) hv]
  exact DEq.flatT (SqT.of e) (SqT.of hp) (fun x q=>(hw vs hvs x q).flat) fun x q=>(hv x q).flat
theorem zh9 (ns:List Int) (lo hi:Option Int):∃cs:List Int,cutV (ns.map V.int) lo hi=cs.map V.int/\cs.length<=ns.length:=by
  refine⟨(ns.drop (HT.sIx (ns.map V.int).length 0 lo)).take (HT.sIx (ns.map V.int).length (ns.map V.int).length hi-HT.sIx (ns.map V.int).length 0 lo),?_,?_⟩
  · unfold cutV
    rw[List.map_take,List.map_drop]
  · rw[List.length_take,List.length_drop]
    omega
structure TellAt (K:PySem.W.Frag) (H:Hp) (pm pu pt pf:Addr) (lo hi:Int) (us:List Str) (ts fs:List (List V)) (at' af:List Addr):Prop where
  m:SqT K H pm [.int lo,.int hi]
  u:SqL K H pu (us.map V.str)
  t:SqL K H pt (at'.map V.ref)
  tt:Tups H at' ts
  f:SqL K H pf (af.map V.ref)
  ft:Tups H af fs
theorem TellAt.same {K:PySem.W.Frag}{H H':Hp}{pm pu pt pf:Addr}{lo hi:Int}{us:List Str}{ts fs:List (List V)}{at' af:List Addr}(t:TellAt K H pm pu pt pf lo hi us ts fs at' af) (s:Same H H'):TellAt K H' pm pu pt pf lo hi us ts fs at' af:=
  ⟨s.tup t.m,s.seq t.u,s.seq t.t,t.tt.same s,s.seq t.f,t.ft.same s⟩
theorem zdg {α:Type}{H:Hp}{g:α->List V}{ads:List Addr}{ps:List α}{i:Nat}{x:V}(t:Tups H ads (ps.map g)) (hx:(ads.map V.ref)[i]? = some x) :
    ∃q p,x = .ref q/\ps[i]? = some p/\ads[i]? = some q/\H q=some (.tup (g p)):=by
  rw[List.getElem?_map] at hx
  cases e:ads[i]? with
  | none=>rw[e] at hx;cases hx
  | some q=>
    rw[e] at hx
    cases hx
    obtain⟨ws,h1,h2⟩:=Paired.get' t e
    rw[List.getElem?_map] at h1
    cases e':ps[i]? with
    | none=>rw[e'] at h1;cases h1
    | some p=>
      rw[e'] at h1
      cases h1
      exact⟨q,p,rfl,rfl,rfl,h2⟩
theorem zll {α:Type}{p:α->Prop}{xs:List α}{i:Nat}{x:α}(hx:xs[i]? = some x) (h:∀y∈xs.take i,p y) (hp:p x):∀y∈xs.take (i+1),p y:=by
  intro y hy
  rw[List.take_add_one,hx,List.mem_append] at hy
  rcases hy with hy | hy
  · exact h y hy
  · simp at hy;subst hy;exact hp
theorem zia {u v:V}{i:Int}(h0:0<=i) (h1:i<2):∃z,atI [u,v] i=some z/\(z=u\/z=v):=by
  have h:i=0\/i=1:=by omega
  rcases h with rfl | rfl
  · exact⟨u,rfl,.inl rfl⟩
  · exact⟨v,rfl,.inr rfl⟩
structure Tie where
  k:Str
  a:Str
  b:Str
  g:Option Int
def tieV (t:Tie):List V:=.str t.k :: .str t.a :: .str t.b::(match t.g with
  | some n=>[V.int n]
  | none=>[])
def SAME:Str:="same"
structure TOk (us:List Str) (t:Tie):Prop where
  ok:TieOk us (tieV t)
  a:t.a∈us
  b:t.b∈us
theorem zgg (t:Tie):atI (tieV t) 0=some (.str t.k):=zod
theorem zgh (t:Tie):atI (tieV t) 1=some (.str t.a):=zb1 (xs:=tieV t) (j:=1) rfl
theorem zgi (t:Tie):atI (tieV t) 2=some (.str t.b):=zb1 (xs:=tieV t) (j:=2) rfl
theorem zon {xs:List V}{z:Int}(h0:0<=z) (h1:z<=xs.length):cutV xs none (some z)=xs.take z.toNat:=by
  unfold cutV HT.sIx
  simp
  split
  · omega
  · congr 1
    omega
theorem zfe {x y:Str}(h1:¬co x<co y) (h2:¬co y<co x):x=y:=by
  rw[List.not_lt] at h1 h2
  exact zoi (List.le_antisymm h2 h1)
theorem zdw {x y:Str}(h1:co x<co y) (h2:co y<co x):False:=List.lt_irrefl _ (List.lt_trans h1 h2)
theorem zt5 {y m f:List Nat}(h1:y<m) (h2:¬f<m):y<f:=by
  exact Decidable.byContradiction fun z=>h2 (List.lt_of_le_of_lt (List.not_lt.mp z) h1)
def minS (x y:Str):Str:=if co y<co x then y else x
theorem zj7 (x y:Str):minS x y=x\/minS x y=y:=by unfold minS;split<;>simp
theorem zoo (x y:Str):¬co x<co (minS x y):=by
  unfold minS
  split
  · next h=>exact fun z=>zdw h z
  · exact List.lt_irrefl _
theorem zop (x y:Str):¬co y<co (minS x y):=by
  unfold minS
  split
  · exact List.lt_irrefl _
  · next h=>exact h
def Nb (ts:List Tie) (y z:Str):Prop:=∃t∈ts,t.k=SAME/\((t.a=y/\t.b=z)\/(t.b=y/\t.a=z))
inductive Cn (ts:List Tie):Str->Str->Prop where
  | refl (x:Str):Cn ts x x
  | step {x y z:Str}(h:Cn ts x y) (n:Nb ts y z):Cn ts x z
theorem Nb.symm {ts:List Tie}{y z:Str}(h:Nb ts y z):Nb ts z y:=by
  obtain⟨t,ht,hk,h⟩:=h
  exact⟨t,ht,hk,h.elim (fun q=>.inr ⟨q.2,q.1⟩) fun q=>.inl ⟨q.2,q.1⟩⟩
theorem Cn.trans {ts:List Tie}{x y z:Str}(h:Cn ts x y) (h2:Cn ts y z):Cn ts x z:=by
  induction h2 with
  | refl=>exact h
  | step _ n ih=>exact ih.step n
theorem Cn.one {ts:List Tie}{y z:Str}(n:Nb ts y z):Cn ts y z:=(Cn.refl y).step n
theorem Cn.symm {ts:List Tie}{x y:Str}(h:Cn ts x y):Cn ts y x:=by
  induction h with
  | refl=>exact .refl _
  | step _ n ih=>exact (Cn.one n.symm).trans ih
theorem Nb.mono {ts ts':List Tie}{y z:Str}(h:Nb ts y z) (s:∀t∈ts,t∈ts'):Nb ts' y z:=by
  obtain⟨t,ht,r⟩:=h
  exact⟨t,s t ht,r⟩
theorem Cn.mono {ts ts':List Tie}{y z:Str}(h:Cn ts y z) (s:∀t∈ts,t∈ts'):Cn ts' y z:=by
  induction h with
  | refl=>exact .refl _
  | step _ n ih=>exact ih.step (n.mono s)
theorem Nb.mem {us:List Str}{ts:List Tie}{y z:Str}(h:Nb ts y z) (ht:∀t∈ts,t.a∈us/\t.b∈us):z∈us:=by
  obtain⟨t,h1,_,h2⟩:=h
  rcases h2 with ⟨_,rfl⟩ | ⟨_,rfl⟩
  · exact (ht t h1).2
  · exact (ht t h1).1
theorem Cn.mem {us:List Str}{ts:List Tie}{y z:Str}(h:Cn ts y z) (hy:y∈us) (ht:∀t∈ts,t.a∈us/\t.b∈us):z∈us:=by
  cases h with
  | refl=>exact hy
  | step _ n=>exact n.mem ht
def jn (lab:Str->Str) (f s:Str):Str->Str:=fun x=>if lab x=f\/lab x=s then minS f s else lab x
def stp (lab:Str->Str) (t:Tie):Str->Str:=if t.k=SAME then jn lab (lab t.a) (lab t.b) else lab
def labs (ts:List Tie):Str->Str:=ts.foldl stp id
structure Good (ts:List Tie) (lab:Str->Str):Prop where
  to:∀x,Cn ts x (lab x)
  eq:∀x y,Cn ts x y->lab x=lab y
  le:∀x y,Cn ts x y->¬co y<co (lab x)
theorem zrc:Good [] id:=by
  have h:∀x y,Cn [] x y->x=y:=by
    intro x y c
    induction c with
    | refl=>rfl
    | step _ n _=>obtain⟨t,ht,_⟩:=n;cases ht
  exact⟨fun x=>.refl x,h,fun x y c=>by rw[h x y c];exact List.lt_irrefl _⟩
theorem zoq {ts:List Tie}{lab:Str->Str}{t:Tie}(g:Good ts lab):Good (ts++[t]) (stp lab t):=by
  have sub:∀u∈ts,u∈ts++[t]:=fun u hu=>List.mem_append_left _ hu
  by_cases hk:t.k=SAME
  · unfold stp
    rw[if_pos hk]
    have nt:Nb (ts++[t]) t.a t.b:=⟨t,by simp,hk,.inl ⟨rfl,rfl⟩⟩
    have ca:∀x,lab x=lab t.a->Cn (ts++[t]) x t.a:=fun x e=>by
      have h1:=(g.to x).mono sub
      have h2:=(g.to t.a).mono sub
      rw[e] at h1
      exact h1.trans h2.symm
    have cb:∀x,lab x=lab t.b->Cn (ts++[t]) x t.b:=fun x e=>by
      have h1:=(g.to x).mono sub
      have h2:=(g.to t.b).mono sub
      rw[e] at h1
      exact h1.trans h2.symm
    have la:Cn (ts++[t]) t.a (lab t.a):=(g.to t.a).mono sub
    have lb:Cn (ts++[t]) t.b (lab t.b):=(g.to t.b).mono sub
    have to:∀x,Cn (ts++[t]) x (jn lab (lab t.a) (lab t.b) x):=by
      intro x
      unfold jn
      split
      · next h=>
        have hx:Cn (ts++[t]) x t.a:=h.elim (ca x) fun e=>(cb x e).trans (Cn.one nt.symm)
        rcases zj7 (lab t.a) (lab t.b) with e | e
        · rw[e];exact hx.trans la
        · rw[e];exact (hx.trans (Cn.one nt)).trans lb
      · exact (g.to x).mono sub
    have ja:jn lab (lab t.a) (lab t.b) t.a=minS (lab t.a) (lab t.b):=if_pos (.inl rfl)
    have jb:jn lab (lab t.a) (lab t.b) t.b=minS (lab t.a) (lab t.b):=if_pos (.inr rfl)
    have eq:∀x y,Cn (ts++[t]) x y->jn lab (lab t.a) (lab t.b) x=jn lab (lab t.a) (lab t.b) y:=by
      intro x y c
      induction c with
      | refl=>rfl
      | @step y z _ n ih=>
        rw[ih]
        obtain⟨u,hu,hku,h⟩:=n
        rcases List.mem_append.mp hu with hu | hu
        · have:lab y=lab z:=g.eq y z (Cn.one ⟨u,hu,hku,h⟩)
          unfold jn
          rw[this]
        · have hu:u=t:=by simpa using hu
          subst hu
          rcases h with ⟨rfl,rfl⟩ | ⟨rfl,rfl⟩
          · rw[ja,jb]
          · rw[ja,jb]
    refine⟨to,eq,fun x y c=>?_⟩
    rw[eq x y c]
    have old:=g.le y y (.refl y)
    unfold jn
    split
    · next h=>
      rcases h with e | e
      · intro z
        rw[e] at old
        exact old (zt5 z (zoo _ _))
      · intro z
        rw[e] at old
        exact old (zt5 z (zop _ _))
    · exact old
  · unfold stp
    rw[if_neg hk]
    have back:∀x y,Cn (ts++[t]) x y->Cn ts x y:=by
      intro x y c
      induction c with
      | refl=>exact .refl _
      | step _ n ih=>
        obtain⟨u,hu,hku,h⟩:=n
        rcases List.mem_append.mp hu with hu | hu
        · exact ih.step ⟨u,hu,hku,h⟩
        · have hu:u=t:=by simpa using hu
          subst hu
          exact absurd hku hk
    exact⟨fun x=>(g.to x).mono sub,fun x y c=>g.eq x y (back x y c),fun x y c=>g.le x y (back x y c)⟩
theorem zlm:∀(ts2 ts:List Tie) (lab:Str->Str),Good ts lab->Good (ts++ts2) (ts2.foldl stp lab)
  | [],ts,lab,g=>by rw[List.append_nil];exact g
  | t::r,ts,lab,g=>by
    have:=zlm r (ts++[t]) (stp lab t) (zoq g)
    rw[List.append_assoc] at this
    exact this
theorem zbh (ts:List Tie):Good ts (labs ts):=zlm ts [] id zrc
theorem zib {ts:List Tie}{i:Nat}{t:Tie}(h:ts[i]? = some t):labs (ts.take (i+1))=stp (labs (ts.take i)) t:=by
  unfold labs
  rw[List.take_add_one,h,List.foldl_append]
  rfl
theorem zgz {us:List Str}{ts:List Tie}{x:Str}(hx:x∈us) (ht:∀t∈ts,t.a∈us/\t.b∈us):labs ts x∈us:=((zbh ts).to x).mem hx ht
def dN (us:List Str) (lab:Str->Str):List (Key×V):=us.map fun x=>(Sum.inr x,V.str (lab x))
theorem zbz {us:List Str}{lab:Str->Str}{x:Str}(h:x∈us):valV (dN us lab) (Sum.inr x)=some (.str (lab x)):=by
  induction us with
  | nil=>cases h
  | cons y r ih=>
    unfold dN
    rw[List.map_cons]
    by_cases e:y=x
    · subst e
      exact zdq rfl
    · have hx:x∈r:=by
        rcases List.mem_cons.mp h with h | h
        · exact absurd h.symm e
        · exact h
      have:=ih hx
      unfold valV at this ⊢
      rw[List.find?_cons_of_neg (by simpa using e)]
      exact this
theorem zor {us:List Str}{lab:Str->Str}{x y:Str}(h:x∈us):putK (dN us lab) (Sum.inr x) (.str y)=dN us (fun z=>if z=x then y else lab z):=by
  have ha:((dN us lab).any fun kv=>decide (kv.1=(Sum.inr x:Key)))=true:=by
    rw[List.any_eq_true]
    exact⟨(Sum.inr x,V.str (lab x)),List.mem_map.mpr ⟨x,h,rfl⟩,decide_eq_true rfl⟩
  unfold putK
  rw[if_pos ha]
  unfold dN
  rw[List.map_map]
  apply List.map_congr_left
  intro z _
  show (if (Sum.inr z:Key)=Sum.inr x then (Sum.inr z,V.str y) else (Sum.inr z,V.str (lab z)))=_
  by_cases e:z=x
  · subst e;simp
  · rw[if_neg (fun q=>e (Sum.inr.inj q))]
    show _=(Sum.inr z,V.str (if z=x then y else lab z))
    rw[if_neg e]
theorem zsy {us:List Str}{x:Str}(h:x ∉ us):putK (dN us id) (Sum.inr x) (.str x)=dN (us++[x]) id:=by
  have ha:¬((dN us id).any fun kv=>decide (kv.1=(Sum.inr x:Key)))=true:=by
    rw[List.any_eq_true]
    rintro ⟨kv,h1,h2⟩
    obtain⟨z,hz,rfl⟩:=List.mem_map.mp h1
    have h2:z=x:=Sum.inr.inj (of_decide_eq_true h2)
    subst h2
    exact h hz
  unfold putK
  rw[if_neg ha]
  unfold dN
  rw[List.map_append]
  rfl
theorem zc1 {us:List Str}{f g:Str->Str}(h:∀x∈us,f x=g x):dN us f=dN us g:=by
  unfold dN
  apply List.map_congr_left
  intro x hx
  rw[h x hx]
theorem zic (us:List Str) (f:Str->Str):(dN us f).length=us.length:=List.length_map _
theorem zt6 (us:List Str) (f:Str->Str):((dN us f).map fun kv=>kV kv.1)=us.map V.str:=by
  unfold dN
  rw[List.map_map]
  rfl
theorem zbm {us rs:List Str}(hn:rs.Nodup) (hs:∀x∈rs,x∈us):rs.length<=us.length:=by
  induction rs generalizing us with
  | nil=>simp
  | cons a r ih=>
    rw[List.nodup_cons] at hn
    have ha:=hs a (by simp)
    have h2:∀x∈r,x∈us.erase a:=fun x hx=>by
      refine (List.mem_erase_of_ne (fun z=>by subst z;exact hn.1 hx)).mpr (hs x (List.mem_cons_of_mem _ hx))
    have:=ih hn.2 h2
    rw[List.length_erase_of_mem ha] at this
    have hp:0<us.length:=List.length_pos_of_mem ha
    rw[List.length_cons]
    omega
def zid (l:List Str):Prop:=l.Pairwise (fun a b=>¬co b<co a)
theorem zeu:∀{a b:List Str},a.Perm b->zid a->zid b->a=b
  | [],b,p,_,_=>by rw[List.nil_perm.mp p]
  | x::r,[],p,_,_=>by have:=p.length_eq;cases this
  | x::r,y::r',p,ha,hb=>by
    have hx:x∈y::r':=p.mem_iff.mp (by simp)
    have hy:y∈x::r:=p.mem_iff.mpr (by simp)
    have e:x=y:=by
      rcases List.mem_cons.mp hx with h | h
      · exact h
      · rcases List.mem_cons.mp hy with h2 | h2
        · exact h2.symm
        · exact zfe ((List.pairwise_cons.mp hb).1 x h) ((List.pairwise_cons.mp ha).1 y h2)
    subst e
    rw[zeu (List.Perm.cons_inv p) (List.pairwise_cons.mp ha).2 (List.pairwise_cons.mp hb).2]
def insS (x:Str):List Str->List Str
  | []=>[x]
  | y::r=>if co y<co x then y::insS x r else x::y::r
def srt:List Str->List Str
  | []=>[]
  | x::r=>insS x (srt r)
theorem zff (x:Str):∀l,(insS x l).Perm (x::l)
  | []=>.refl _
  | y::r=>by
    unfold insS
    split
    · exact ((zff x r).cons y).trans (.swap x y r)
    · exact .refl _
theorem zc2:∀l,(srt l).Perm l
  | []=>.refl _
  | x::r=>(zff x (srt r)).trans ((zc2 r).cons x)
theorem zgj (x:Str):∀l,zid l->zid (insS x l)
  | [],_=>List.pairwise_singleton ..
  | y::r,h=>by
    unfold insS
    obtain⟨h1,h2⟩:=List.pairwise_cons.mp h
    split
    · next c=>
      refine List.pairwise_cons.mpr ⟨fun z hz=>?_,zgj x r h2⟩
      rcases List.mem_cons.mp ((zff x r).mem_iff.mp hz) with e | hz
      · subst e;exact fun q=>zdw q c
      · exact h1 z hz
    · next c=>
      refine List.pairwise_cons.mpr ⟨fun z hz=>?_,h⟩
      rcases List.mem_cons.mp hz with e | hz
      · subst e;exact c
      · intro q
        exact h1 z hz (zt5 q c)
theorem zdx:∀l,zid (srt l)
  | []=>.nil
  | x::r=>zgj x (srt r) (zdx r)
theorem zln {ms us:List Str}(p:ms.Perm us) (h:zid ms):ms=srt us:=zeu (p.trans (zc2 us).symm) h (zdx us)
theorem zos {us vs:List Str}(p:us.Perm vs):srt us=srt vs:=zln ((zc2 us).trans p) (zdx us)
theorem zfg {us:List Str}(h:us.Nodup):(srt us).Nodup:=(zc2 us).nodup_iff.mpr h
theorem srt_mem {us:List Str}{x:Str}:x∈srt us↔x∈us:=(zc2 us).mem_iff
theorem zj8 (us:List Str):(srt us).length=us.length:=(zc2 us).length_eq
theorem zlo {us:List Str}(h:us.Nodup):(srt us).Pairwise (fun a b=>co a<co b):=by
  have h1:=zdx us
  have h2:=zfg h
  refine (h1.and h2).imp fun {a b} hq0=>?_
  obtain⟨p,q⟩:=hq0
  exact Decidable.byContradiction fun k=>q (zfe k p)
theorem zrd {ss:List Str}(h:ss.Pairwise (fun a b=>co a<co b)) {i j:Nat}{x y:Str}(hx:ss[i]? = some x) (hy:ss[j]? = some y) (hl:co x<co y):i<j:=by
  obtain⟨hi,ex⟩:=List.getElem?_eq_some_iff.mp hx
  obtain⟨hj,ey⟩:=List.getElem?_eq_some_iff.mp hy
  rcases Nat.lt_trichotomy i j with c | c | c
  · exact c
  · subst c
    rw[ex] at ey
    subst ey
    exact absurd hl (List.lt_irrefl _)
  · have:=(List.pairwise_iff_getElem.mp h) j i hj hi c
    rw[ex,ey] at this
    exact (zdw hl this).elim
def dV (ks:List Str) (f:Str->V):List (Key×V):=ks.map fun x=>(Sum.inr x,f x)
theorem zb0 {ks:List Str}{f:Str->V}{x:Str}(h:x∈ks):valV (dV ks f) (Sum.inr x)=some (f x):=by
  induction ks with
  | nil=>cases h
  | cons y r ih=>
    unfold dV
    rw[List.map_cons]
    by_cases e:y=x
    · subst e
      exact zdq rfl
    · have hx:x∈r:=by
        rcases List.mem_cons.mp h with h | h
        · exact absurd h.symm e
        · exact h
      have:=ih hx
      unfold valV at this ⊢
      rw[List.find?_cons_of_neg (by simpa using e)]
      exact this
theorem zeh {ks:List Str}{f:Str->V}{x:Str}(h:x ∉ ks):valV (dV ks f) (Sum.inr x)=none:=by
  unfold valV
  rw[List.find?_eq_none.mpr]
  · rfl
  · intro kv hkv
    obtain⟨z,hz,rfl⟩:=List.mem_map.mp hkv
    intro e
    have e:z=x:=Sum.inr.inj (of_decide_eq_true e)
    subst e
    exact h hz
theorem zot {ks:List Str}{f:Str->V}{x:Str}{v:V}(h:x∈ks):putK (dV ks f) (Sum.inr x) v=dV ks (fun z=>if z=x then v else f z):=by
  have ha:((dV ks f).any fun kv=>decide (kv.1=(Sum.inr x:Key)))=true:=by
    rw[List.any_eq_true]
    exact⟨(Sum.inr x,f x),List.mem_map.mpr ⟨x,h,rfl⟩,decide_eq_true rfl⟩
  unfold putK
  rw[if_pos ha]
  unfold dV
  rw[List.map_map]
  apply List.map_congr_left
  intro z _
  show (if (Sum.inr z:Key)=Sum.inr x then (Sum.inr z,v) else (Sum.inr z,f z))=(Sum.inr z,if z=x then v else f z)
  by_cases e:z=x
  · subst e;simp
  · rw[if_neg (fun q=>e (Sum.inr.inj q)),if_neg e]
theorem zdy {ks:List Str}{f:Str->V}{x:Str}{v:V}(h:x ∉ ks):putK (dV ks f) (Sum.inr x) v=dV (ks++[x]) (fun z=>if z=x then v else f z):=by
  have ha:¬((dV ks f).any fun kv=>decide (kv.1=(Sum.inr x:Key)))=true:=by
    rw[List.any_eq_true]
    rintro ⟨kv,h1,h2⟩
    obtain⟨z,hz,rfl⟩:=List.mem_map.mp h1
    have h2:z=x:=Sum.inr.inj (of_decide_eq_true h2)
    subst h2
    exact h hz
  unfold putK
  rw[if_neg ha]
  unfold dV
  rw[List.map_append]
  congr 1
  · apply List.map_congr_left
    intro z hz
    have:¬z=x:=fun e=>h (e▸hz)
    show _=(Sum.inr z,if z=x then v else f z)
    rw[if_neg this]
  · show [(Sum.inr x,v)] = [(Sum.inr x,if x=x then v else f x)]
    rw[if_pos rfl]
theorem zbi {ks:List Str}{f g:Str->V}(h:∀x∈ks,f x=g x):dV ks f=dV ks g:=by
  unfold dV
  apply List.map_congr_left
  intro x hx
  rw[h x hx]
theorem zaq (ks:List Str) (f:Str->V):(dV ks f).length=ks.length:=List.length_map _
theorem zdh (ks:List Str) (f:Str->V):((dV ks f).map fun kv=>kV kv.1)=ks.map V.str:=by
  unfold dV
  rw[List.map_map]
  rfl
theorem zt7 (ks:List Str) (f:Str->V):((dV ks f).map (·.2))=ks.map f:=by
  unfold dV
  rw[List.map_map]
  rfl
def keysOf (ts:List Tie) (ss:List Str):List Str:=ss.filter fun x=>decide (labs ts x=x)
def zcq (ts:List Tie) (ss:List Str) (k:Str):List Str:=ss.filter fun x=>decide (labs ts x=k)
def zcm (us:List Str) (ts:List Tie):List (List Str):=(keysOf ts (srt us)).map (zcq ts (srt us))
theorem zie {ts:List Tie}{ss:List Str}{i:Nat}{u:Str}(h:ss[i]? = some u):keysOf ts (ss.take (i+1))=keysOf ts (ss.take i)++(if labs ts u=u then [u] else []):=by
  unfold keysOf
  rw[List.take_add_one,h,List.filter_append]
  by_cases c:labs ts u=u
  · rw[if_pos c];simp[c]
  · rw[if_neg c];simp[c]
theorem zg0 {ts:List Tie}{ss:List Str}{i:Nat}{u k:Str}(h:ss[i]? = some u):zcq ts (ss.take (i+1)) k=zcq ts (ss.take i) k++(if labs ts u=k then [u] else []):=by
  unfold zcq
  rw[List.take_add_one,h,List.filter_append]
  by_cases c:labs ts u=k
  · rw[if_pos c];simp[c]
  · rw[if_neg c];simp[c]
theorem zdz (ts:List Tie) (x:Str):labs ts (labs ts x)=labs ts x:=((zbh ts).eq x _ ((zbh ts).to x)).symm
theorem zj9 (ts:List Tie) (x:Str):¬co x<co (labs ts x):=(zbh ts).le x x (.refl x)
theorem zt8 {us:List Str}{ts:List Tie}(nd:us.Nodup) (ht:∀t∈ts,t.a∈us/\t.b∈us) {i:Nat}{u:Str}(h:(srt us)[i]? = some u) (hne:labs ts u≠u):labs ts u∈keysOf ts ((srt us).take i):=by
  have hu:u∈us:=srt_mem.mp (List.mem_of_getElem? h)
  have hl:labs ts u∈srt us:=srt_mem.mpr (zgz hu ht)
  obtain⟨j,hj,ej⟩:=List.mem_iff_getElem.mp hl
  have ej':(srt us)[j]? = some (labs ts u):=by rw[List.getElem?_eq_getElem hj,ej]
  have hlt:co (labs ts u)<co u:=Decidable.byContradiction fun k=>hne (zfe k (zj9 ts u))
  have hij:=zrd (zlo nd) ej' h hlt
  unfold keysOf
  rw[List.mem_filter]
  refine⟨?_,decide_eq_true (zdz ts u)⟩
  rw[List.mem_take_iff_getElem]
  exact⟨j,by omega,ej⟩
theorem zt9 {us:List Str}{ts:List Tie}(nd:us.Nodup) {i:Nat}{u:Str}(h:(srt us)[i]? = some u):u ∉ keysOf ts ((srt us).take i)/\(labs ts u=u->zcq ts ((srt us).take i) u = []):=by
  have hi:=(List.getElem?_eq_some_iff.mp h).1
  have eu:=(List.getElem?_eq_some_iff.mp h).2
  have hlt:∀x∈(srt us).take i,co x<co u:=by
    intro x hx
    obtain⟨j,hj,ej⟩:=List.mem_take_iff_getElem.mp hx
    have:=(List.pairwise_iff_getElem.mp (zlo nd)) j i (by omega) hi (by omega)
    rw[ej,eu] at this
    exact this
  refine⟨fun z=>?_,fun e=>?_⟩
  · have:=hlt u (List.mem_filter.mp z).1
    exact List.lt_irrefl _ this
  · unfold zcq
    rw[List.filter_eq_nil_iff]
    intro x hx c
    have c:labs ts x=u:=of_decide_eq_true c
    have:=zj9 ts x
    rw[c] at this
    exact this (hlt x hx)
section
variable {us:List Str}{ts:List Tie}
theorem keys_mem {k:Str}:k∈keysOf ts (srt us)↔k∈us/\labs ts k=k:=by
  unfold keysOf
  rw[List.mem_filter,srt_mem,decide_eq_true_iff]
theorem zay (nd:us.Nodup):(keysOf ts (srt us)).Nodup:=(zfg nd).sublist (List.filter_sublist ..)
theorem zou (nd:us.Nodup):(keysOf ts (srt us)).Pairwise (fun a b=>co a<co b):=(zlo nd).sublist (List.filter_sublist ..)
theorem zv7 (nd:us.Nodup) (k:Str):(zcq ts (srt us) k).Pairwise (fun a b=>co a<co b):=(zlo nd).sublist (List.filter_sublist ..)
theorem grp_mem {k y:Str}:y∈zcq ts (srt us) k↔y∈us/\labs ts y=k:=by
  unfold zcq
  rw[List.mem_filter,srt_mem,decide_eq_true_iff]
theorem zbn (ht:∀t∈ts,t.a∈us/\t.b∈us) {x:Str}(hx:x∈us):labs ts x∈keysOf ts (srt us):=keys_mem.mpr ⟨zgz hx ht,zdz ts x⟩
theorem zlp (nd:us.Nodup) {k:Str}(hk:k∈keysOf ts (srt us)):∃r,zcq ts (srt us) k=k::r:=by
  obtain⟨h1,h2⟩:=keys_mem.mp hk
  have hm:k∈zcq ts (srt us) k:=grp_mem.mpr ⟨h1,h2⟩
  have hp:=zv7 (ts:=ts) nd k
  cases e:zcq ts (srt us) k with
  | nil=>rw[e] at hm;cases hm
  | cons x r=>
    rw[e] at hm hp
    rcases List.mem_cons.mp hm with z | z
    · rw[z];exact⟨r,rfl⟩
    · have h3:=(List.pairwise_cons.mp hp).1 k z
      have hx:x∈zcq ts (srt us) k:=by rw[e];simp
      have h4:=zj9 ts x
      rw[(grp_mem.mp hx).2] at h4
      exact absurd h3 h4
theorem zg1 (nd:us.Nodup):(zcm us ts).length<=us.length:=by
  unfold zcm
  rw[List.length_map]
  have:=List.length_filter_le (fun x=>decide (labs ts x=x)) (srt us)
  rw[zj8] at this
  exact this
end
theorem zre {xs ys:List Str}(h1:xs.Nodup) (h2:ys.Nodup) (h:∀x,x∈xs↔x∈ys):srt xs=srt ys:=
  zos ((List.perm_ext_iff_of_nodup h1 h2).mpr h)
theorem zlq {one at':Int}{k size:Nat}(h:size<=12):(nmC one at' k 12).take size=nmC one at' k size:=by
  unfold nmC
  rw[←List.map_take,List.take_range,Nat.min_eq_left h]
def nf8 (one at':Int) (tu:Bool) (size k:Nat):Str:=zce ((nmC one at' (if tu then k else 0) 12).take (if tu then size else 1+(size+k)%12))
def zgk (one at':Int) (tu:Bool) (size:Nat):List Str:=(List.range 8).map (nf8 one at' tu size)
theorem zov {one at':Int}{tu:Bool}{size:Nat}(h0:0<=at') (h1:at'<size) (h2:1<=size) (h3:size<=12):(zgk one at' tu size).Nodup/\(∀x∈zgk one at' tu size,zef x=true)/\(zgk one at' tu size).length=8:=by
  refine⟨?_,?_,by unfold zgk;simp⟩
  · unfold zgk
    refine zbx fun i j hi hj e=>?_
    unfold nf8 at e
    cases tu with
    | true=>
      rw[if_pos rfl,if_pos rfl,if_pos rfl,zlq h3,zlq h3] at e
      exact zt3 h0 h1 (by omega) (by omega) (zh7 e)
    | false=>
      rw[if_neg Bool.false_ne_true,if_neg Bool.false_ne_true,if_neg Bool.false_ne_true] at e
      have:=congrArg List.length (zh7 e)
      simp only [List.length_take,zeg] at this
      omega
  · intro x hx
    unfold zgk at hx
    obtain⟨k,hk,rfl⟩:=List.mem_map.mp hx
    unfold nf8
    refine zra ?_ ?_ ?_
    · rw[zcf,List.length_take,zeg]
      split<;>omega
    · rw[zcf,List.length_take,zeg]
      split<;>omega
    · intro c hc
      rw[zcf] at hc
      exact zt4 (List.mem_of_mem_take hc)
def plc (xs:List Str) (ps:List Int) (x:Str):Int:=ps.getD (xs.idxOf x) 0
theorem zsz {xs:List Str}{ps:List Int}(nd:xs.Nodup) {i:Nat}{x:Str}{p:Int}(hx:xs[i]? = some x) (hp:ps[i]? = some p):plc xs ps x=p:=by
  unfold plc
  have hi:=(List.getElem?_eq_some_iff.mp hx).1
  have ex:=(List.getElem?_eq_some_iff.mp hx).2
  have:xs.idxOf x=i:=by
    rw[←ex]
    exact nd.idxOf_getElem i hi
  rw[this,List.getD_eq_getElem?_getD,hp]
  rfl
structure Fnd where
  n:Str
  u:Str
  lo:Int
  hi:Int
def fndV (f:Fnd):List V:=[.str f.n,.str f.u,.int f.lo,.int f.hi]
structure FOk (us:List Str) (f:Fnd):Prop where
  n:zef f.n=true
  u:f.u∈us
  le:f.lo<=f.hi
  lo:zcs f.lo
  hi:zcs f.hi
theorem TOk.mono {us us':List Str}{t:Tie}(h:TOk us t) (s:∀x∈us,x∈us'):TOk us' t:=⟨h.ok.mono s,s _ h.a,s _ h.b⟩
theorem FOk.mono {us us':List Str}{f:Fnd}(h:FOk us f) (s:∀x∈us,x∈us'):FOk us' f:=⟨h.n,s _ h.u,h.le,h.lo,h.hi⟩
theorem FOk.words {us:List Str}{f:Fnd}(h:FOk us f) (hu:∀x∈us,zef x=true):∀v∈fndV f,Wd v:=by
  intro v hv
  simp[fndV] at hv
  rcases hv with rfl | rfl | rfl | rfl
  · exact .inl ⟨_,rfl,Nat.le_trans (zj6 h.n) (by decide)⟩
  · exact .inl ⟨_,rfl,Nat.le_trans (zj6 (hu _ h.u)) (by decide)⟩
  · exact .inr ⟨_,rfl,h.lo⟩
  · exact .inr ⟨_,rfl,h.hi⟩
structure Tll (lo hi:Int) (us:List Str) (ts:List Tie) (fs:List Fnd):Prop where
  fr:lo<=hi
  ylo:zcs lo
  yhi:zcs hi
  nd:us.Nodup
  nm:∀x∈us,zef x=true
  ul:us.length<=8
  tok:∀t∈ts,TOk us t
  tnd:ts.Nodup
  tl:ts.length<=16
  fok:∀f∈fs,FOk us f
  fnd:(fs.map Fnd.n).Nodup
  fl:fs.length<=6
theorem Tll.ends {lo hi:Int}{us:List Str}{ts:List Tie}{fs:List Fnd}(h:Tll lo hi us ts fs):∀t∈ts,t.a∈us/\t.b∈us:=fun t ht=>⟨(h.tok t ht).a,(h.tok t ht).b⟩
theorem Tll.tw {lo hi:Int}{us:List Str}{ts:List Tie}{fs:List Fnd}(h:Tll lo hi us ts fs):∀vs∈ts.map tieV,∀v∈vs,Wd v:=fun vs hv=>by
  obtain⟨u,hu,rfl⟩:=List.mem_map.mp hv
  exact ((h.tok u hu).ok.words h.nm).1
theorem Tll.fw {lo hi:Int}{us:List Str}{ts:List Tie}{fs:List Fnd}(h:Tll lo hi us ts fs):∀vs∈fs.map fndV,∀v∈vs,Wd v:=fun vs hv=>by
  obtain⟨u,hu,rfl⟩:=List.mem_map.mp hv
  exact (h.fok u hu).words h.nm
structure TlAt (K:PySem.W.Frag) (H:Hp) (p pm pu pt pf:Addr) (lo hi:Int) (us:List Str) (ts:List Tie) (fs:List Fnd) (at' af:List Addr):Prop where
  p:SqT K H p [.ref pm,.ref pu,.ref pt,.ref pf]
  at':TellAt K H pm pu pt pf lo hi us (ts.map tieV) (fs.map fndV) at' af
theorem TlAt.same {K:PySem.W.Frag}{H H':Hp}{p pm pu pt pf:Addr}{lo hi:Int}{us:List Str}{ts:List Tie}{fs:List Fnd}{at' af:List Addr}(h:TlAt K H p pm pu pt pf lo hi us ts fs at' af) (s:Same H H'):TlAt K H' p pm pu pt pf lo hi us ts fs at' af:=
  ⟨s.tup h.p,h.at'.same s⟩
theorem zmf {xs:List Str}(nd:xs.Nodup) (t m:Nat):((xs.drop t++xs.take t).filter fun x=>decide (x∈xs.take m)).Nodup/\∀x,x∈(xs.drop t++xs.take t).filter (fun x=>decide (x∈xs.take m))↔x∈xs.take m:=by
  have pm:(xs.drop t++xs.take t).Perm xs:=by
    have:=List.perm_append_comm (l₁:=xs.drop t) (l₂:=xs.take t)
    rwa [List.take_append_drop] at this
  refine⟨(pm.nodup_iff.mpr nd).sublist (List.filter_sublist ..),fun x=>?_⟩
  rw[List.mem_filter,decide_eq_true_iff,pm.mem_iff]
  exact⟨fun h=>h.2,fun h=>⟨List.mem_of_mem_take h,h⟩⟩
theorem zow {xs:List V}{z:Int}(h0:0<=z) (h1:z<=xs.length):cutV xs (some z) none=xs.drop z.toNat:=by
  unfold cutV HT.sIx
  simp
  split
  · omega
  · rw[Nat.min_eq_left (by omega)]
    apply List.take_of_length_le
    rw[List.length_drop]
    omega
abbrev Ln:=Str->List (Str×Addr)
def za1 (ts:List Tie) (z:List (Tie×Addr)):Ln:=fun k=>(z.filter fun p=>decide (p.1.k≠SAME/\labs ts p.1.a=k)).map fun p=>(labs ts p.1.b,p.2)
theorem zlr {ts:List Tie}{z:List (Tie×Addr)}{i:Nat}{t:Tie}{r:Addr}{k:Str}(h:z[i]? = some (t,r)):za1 ts (z.take (i+1)) k=za1 ts (z.take i) k++(if t.k≠SAME/\labs ts t.a=k then [(labs ts t.b,r)] else []):=by
  unfold za1
  rw[List.take_add_one,h,List.filter_append,List.map_append]
  by_cases c:t.k≠SAME/\labs ts t.a=k
  · rw[if_pos c]
    simp[c.1,c.2]
  · rw[if_neg c]
    congr 1
    have:((some (t,r)).toList.filter fun p=>decide (p.1.k≠SAME/\labs ts p.1.a=k)) = []:=by
      rw[List.filter_eq_nil_iff]
      intro p hp
      have:p=(t,r):=by simpa using hp
      subst this
      intro e
      exact c (of_decide_eq_true e)
    rw[this];rfl
theorem lnk_mem {ts:List Tie}{z:List (Tie×Addr)}{k l:Str}{r:Addr}:(l,r)∈za1 ts z k↔∃t,(t,r)∈z/\t.k≠SAME/\labs ts t.a=k/\labs ts t.b=l:=by
  unfold za1
  rw[List.mem_map]
  constructor
  · rintro ⟨⟨t,r'⟩,h,e⟩
    rw[List.mem_filter,decide_eq_true_iff] at h
    simp only [Prod.mk.injEq] at e
    obtain⟨e1,e2⟩:=e
    subst e2
    exact⟨t,h.1,h.2.1,h.2.2,e1⟩
  · rintro ⟨t,h1,h2,h3,h4⟩
    refine⟨(t,r),?_,by simp[h4]⟩
    rw[List.mem_filter,decide_eq_true_iff]
    exact⟨h1,h2,h3⟩
theorem zka {ts:List Tie}{z:List (Tie×Addr)}{k:Str}:(za1 ts z k).length<=z.length:=by
  unfold za1
  rw[List.length_map]
  exact List.length_filter_le _ _
inductive Wk (ln:Ln) (s:Str):List Addr->Str->Prop
  | nil:Wk ln s [] s
  | snoc {rs:List Addr}{m l:Str}{r:Addr}(w:Wk ln s rs m) (h:(l,r)∈ln m):Wk ln s (rs++[r]) l
def Rc (ln:Ln) (s:Str) (n:Nat) (v:Str):Prop:=∃rs,Wk ln s rs v/\rs.length=n
theorem Rc.zero {ln:Ln}{s v:Str}(h:Rc ln s 0 v):v=s:=by
  obtain⟨rs,w,e⟩:=h
  cases w with
  | nil=>rfl
  | snoc w h=>simp at e
theorem Rc.succ {ln:Ln}{s v:Str}{n:Nat}(h:Rc ln s (n+1) v):∃u r,Rc ln s n u/\(v,r)∈ln u:=by
  obtain⟨rs,w,e⟩:=h
  cases w with
  | nil=>simp at e
  | snoc w h=>exact⟨_,_,⟨_,w,by simpa using e⟩,h⟩
theorem Rc.step {ln:Ln}{s v u:Str}{n:Nat}{r:Addr}(h:Rc ln s n u) (e:(v,r)∈ln u):Rc ln s (n+1) v:=by
  obtain⟨rs,w,q⟩:=h
  exact⟨_,w.snoc e,by simp[q]⟩
structure Bf (ln:Ln) (s:Str) (d:Nat) (M ns:List Str):Prop where
  met:∀v∈M,∃j,1<=j/\j<=d/\Rc ln s j v
  no:∀j,1<=j->j<=d->¬Rc ln s j s
  all:∀v,Rc ln s d v->(∀j,1<=j->j<d->¬Rc ln s j v)->v∈ns
theorem Bf.zero {ln:Ln}{s:Str}:Bf ln s 0 [] [s]:=
  ⟨fun v h=>(List.not_mem_nil h).elim,fun j h1 h2=>by omega,fun v h _=>by rw[h.zero];simp⟩
theorem Bf.succ {ln:Ln}{s:Str}{d:Nat}{M ns ms:List Str}(b:Bf ln s d M ns) (hm:∀v∈ms,Rc ln s (d+1) v) (hs:∀u∈ns,∀v r,(v,r)∈ln u->v≠s/\v∈M++ms):Bf ln s (d+1) (M++ms) ms:=by
  refine⟨fun v h=>?_,fun j h1 h2 q=>?_,fun v h hj=>?_⟩
  · rcases List.mem_append.mp h with h | h
    · obtain⟨j,a,c,e⟩:=b.met v h
      exact⟨j,a,by omega,e⟩
    · exact⟨d+1,by omega,by omega,hm v h⟩
  · by_cases c:j<=d
    · exact b.no j h1 c q
    · have e:j=d+1:=by omega
      subst e
      obtain⟨u,r,hu,he⟩:=q.succ
      by_cases c2:∃j,1<=j/\j<d/\Rc ln s j u
      · obtain⟨j,a1,a2,a3⟩:=c2
        exact b.no (j+1) (by omega) (by omega) (a3.step he)
      · exact (hs u (b.all u hu fun j a1 a2 a3=>c2 ⟨j,a1,a2,a3⟩) s r he).1 rfl
  · obtain⟨u,r,hu,he⟩:=h.succ
    have hu':u∈ns:=b.all u hu fun j a1 a2 a3=>hj (j+1) (by omega) (by omega) (a3.step he)
    rcases List.mem_append.mp (hs u hu' v r he).2 with h | h
    · obtain⟨j,a1,a2,a3⟩:=b.met v h
      exact absurd a3 (hj j a1 (by omega))
    · exact h
theorem Bf.done {ln:Ln}{s:Str}{d:Nat}{M:List Str}(b:Bf ln s d M []):∀j,1<=j->¬Rc ln s j s:=by
  have low:∀j v,1<=j->Rc ln s j v->∃j',1<=j'/\j'<=d/\Rc ln s j' v/\j'<max d 1:=by
    intro j
    induction j with
    | zero=>intro v h;omega
    | succ j ih=>
      intro v _ h
      have at_d:Rc ln s d v->∃j',1<=j'/\j'<=d/\Rc ln s j' v/\j'<max d 1:=fun q=>by
        by_cases c:∃j,1<=j/\j<d/\Rc ln s j v
        · obtain⟨i,a1,a2,a3⟩:=c
          exact⟨i,a1,by omega,a3,by omega⟩
        · exact nomatch b.all v q fun i a1 a2 a3=>c ⟨i,a1,a2,a3⟩
      by_cases c1:j+1<d
      · exact⟨j+1,by omega,by omega,h,by omega⟩
      · by_cases c2:j+1=d
        · exact at_d (c2▸h)
        · obtain⟨u,r,hu,he⟩:=h.succ
          by_cases c3:j=0
          · have:d=0:=by omega
            subst this
            subst c3
            exact (nomatch b.all s ⟨[],.nil,rfl⟩ fun i a1 a2 a3=>by omega)
          · obtain⟨j',a1,a2,a3,a4⟩:=ih u (by omega) hu
            by_cases c4:j'+1=d
            · exact at_d (c4▸a3.step he)
            · exact⟨j'+1,by omega,by omega,a3.step he,by omega⟩
  intro j h q
  obtain⟨j',a1,a2,a3,_⟩:=low j s h q
  exact b.no j' a1 a2 a3
structure Bn (H:Hp) (pd:Addr) (ob:Obj) (keys:List Str) (ln:Ln) (ad:Str->Addr) (bs:Str->List Addr):Prop where
  d:H pd=some (.frz ob (.dK (dV keys fun k=>.ref (ad k))))
  l:∀k∈keys,H (ad k)=some (.lst ((bs k).map V.ref))
  e:∀k∈keys,Paired (fun b (p:Str×Addr)=>H b=some (.tup [.str p.1,.ref p.2])) (bs k) (ln k)
theorem Bn.same {H H':Hp}{pd:Addr}{ob:Obj}{keys:List Str}{ln:Ln}{ad:Str->Addr}{bs:Str->List Addr}(b:Bn H pd ob keys ln ad bs) (s:Same H H'):Bn H' pd ob keys ln ad bs:=
  ⟨s _ _ b.d,fun k hk=>s _ _ (b.l k hk),fun k hk=>Paired.mapP (b.e k hk) fun _ _ h=>s _ _ h⟩
theorem zbe {α:Type}{F:Addr->α->Prop}{as:List Addr}{ps:List α}{i:Nat}{x:V}(t:Paired F as ps) (hx:(as.map V.ref)[i]? = some x):∃q p,x = .ref q/\ps[i]? = some p/\as[i]? = some q/\F q p:=by
  rw[List.getElem?_map] at hx
  cases e:as[i]? with
  | none=>rw[e] at hx;cases hx
  | some q=>
    rw[e] at hx
    cases hx
    obtain⟨p,h1,h2⟩:=Paired.get' t e
    exact⟨q,p,rfl,h1,rfl,h2⟩
def zv8 (H:Hp) (b:Addr) (e:Str×List Addr):Prop:=∃q,H b=some (.tup [.str e.1,.ref q])/\H q=some (.lst (e.2.map V.ref))
def WayN (pl:Addr) (H:Hp) (b:Addr) (e:Str×List Addr):Prop:=∃q,q≠pl/\H b=some (.tup [.str e.1,.ref q])/\H q=some (.lst (e.2.map V.ref))
def tru:Str->V:=fun _=>.bl true
theorem zs0 {M:List Str}{v:Str}(h:v ∉ M):putK (dV M tru) (Sum.inr v) (.bl true)=dV (M++[v]) tru:=by
  rw[zdy h]
  refine zbi fun z _=>?_
  unfold tru
  split<;>rfl
structure Grow (Hw H':Hp) (pm pl:Addr) (ln:Ln) (s:Str) (keys M:List Str) (d:Nat) (ml:List Addr) (fs:List (Str×List Addr)):Prop where
  kp:∀b o,b≠pm->Hw b=some o->H' b=some o
  m:H' pm=some (.dK (dV (M++fs.map Prod.fst) tru))
  l:H' pl=some (.lst (ml.map V.ref))
  w:Paired (WayN pl H') ml fs
  ok:∀e∈fs,Wk ln s e.2 e.1/\e.2.length=d+1/\e.1∈keys
  nd:(M++fs.map Prod.fst).Nodup
section
variable {Hw H':Hp}{pm pl:Addr}{ln:Ln}{s:Str}{keys M:List Str}{d:Nat}{ml:List Addr}{fs:List (Str×List Addr)}
theorem Grow.add (g:Grow Hw H' pm pl ln s keys M d ml fs) (hw:Hw pl=none) (npl:pl≠pm) {v:Str}{rs:List Addr}(hv:v ∉ M++fs.map Prod.fst) {H2:Hp}(s2:Same (upd H' pm (.dK (dV (M++fs.map Prod.fst++[v]) tru))) H2) {q b:Addr}
    (hq:H2 q=some (.lst (rs.map V.ref))) (nq:q≠pl) (hb:H2 b=some (.tup [.str v,.ref q])) (ok:Wk ln s rs v/\rs.length=d+1/\v∈keys) :
    Grow Hw (upd H2 pl (.lst (ml.map V.ref++[.ref b]))) pm pl ln s keys M d (ml++[b]) (fs++[(v,rs)]):=by
  have l2:H2 pl=some (.lst (ml.map V.ref)):=s2 _ _ (by rw[zl npl];exact g.l)
  have ntup:∀b vs,H2 b=some (.tup vs)->b≠pl:=fun b vs e z=>by rw[z,l2] at e;cases e
  refine⟨fun c o n e=>?_,?_,?_,?_,fun e he=>?_,?_⟩
  · rw[zl (zp e hw)]
    exact s2 _ _ (by rw[zl n];exact g.kp c o n e)
  · rw[zl (Ne.symm npl),List.map_append,←List.append_assoc]
    exact s2 _ _ zb
  · rw[zb,List.map_append];rfl
  · refine Paired.snoc (Paired.mapP g.w fun c e h=>?_) ?_
    · obtain⟨q',n',h1,h2⟩:=h
      have h1':=s2 _ _ (show upd H' pm (.dK (dV (M++fs.map Prod.fst++[v]) tru)) c=_ by rw[zl (fun z=>by rw[z,g.m] at h1;cases h1)];exact h1)
      have h2':=s2 _ _ (show upd H' pm (.dK (dV (M++fs.map Prod.fst++[v]) tru)) q'=_ by rw[zl (fun z=>by rw[z,g.m] at h2;cases h2)];exact h2)
      exact⟨q',n',by rw[zl (ntup _ _ h1')];exact h1',by rw[zl n'];exact h2'⟩
    · exact⟨q,nq,by rw[zl (ntup _ _ hb)];exact hb,by rw[zl nq];exact hq⟩
  · rcases List.mem_append.mp he with he | he
    · exact g.ok e he
    · have:e=(v,rs):=by simpa using he
      subst this
      exact ok
  · rw[List.map_append,←List.append_assoc]
    rw[List.nodup_append]
    refine⟨g.nd,by simp,fun a ha c hc e=>?_⟩
    have hc:c=v:=by simpa using hc
    subst hc
    subst e
    exact hv ha
end
theorem Bn.get {H:Hp}{pd:Addr}{ob:Obj}{keys:List Str}{ln:Ln}{ad:Str->Addr}{bs:Str->List Addr}(b:Bn H pd ob keys ln ad bs) {k:Str}(hk:k∈keys):DGet H pd (.str k) (some (.ref (ad k))):=by
  have:DGet H pd (kV (Sum.inr k)) (valV (dV keys fun k=>.ref (ad k)) (Sum.inr k)):=.inl ⟨_,_,.inr ⟨ob,b.d⟩,rfl,rfl⟩
  rwa [zb0 hk] at this
def Shr (ln:Ln) (s:Str) (rs:List Addr):Prop:=(rs = []/\∀j,1<=j->¬Rc ln s j s)\/(rs≠[]/\Wk ln s rs s/\∀j,1<=j->j<rs.length->¬Rc ln s j s)
def Rnd (ln:Ln) (keys:List Str) (rs:List Addr):Prop:=(rs = []/\∀s∈keys,∀j,1<=j->¬Rc ln s j s)\/(rs≠[]/\(∃s∈keys,Wk ln s rs s)/\∀s∈keys,∀j,1<=j->j<rs.length->¬Rc ln s j s)
theorem Rnd.nil {ln:Ln}:Rnd ln [] []:=.inl ⟨rfl,fun s h=>(List.not_mem_nil h).elim⟩
theorem Rnd.step {ln:Ln}{keys:List Str}{u:Str}{rs xs:List Addr}(h:Rnd ln keys rs) (g:Shr ln u xs):Rnd ln (keys++[u]) (if xs≠[]/\(rs = []\/xs.length<rs.length) then xs else rs):=by
  have mem:∀{s:Str},s∈keys++[u]->s∈keys\/s=u:=fun h=>by simpa using h
  have low:∀{n:Nat},n<=xs.length\/xs = []->∀j,1<=j->j<n->¬Rc ln u j u:=fun hn j h1 h2=>by
    rcases g with ⟨e,g⟩ | ⟨e,_,g⟩
    · exact g j h1
    · exact g j h1 (by rcases hn with hn | hn;omega;exact absurd hn e)
  by_cases c:xs≠[]/\(rs = []\/xs.length<rs.length)
  · rw[if_pos c]
    rcases g with ⟨e,_⟩ | ⟨_,g1,g2⟩
    · exact absurd e c.1
    · refine .inr ⟨c.1,⟨u,by simp,g1⟩,fun s hs j h1 h2=>?_⟩
      rcases mem hs with hs | rfl
      · rcases h with ⟨_,h⟩ | ⟨hn,_,h⟩
        · exact h s hs j h1
        · rcases c.2 with z | z
          · exact absurd z hn
          · exact h s hs j h1 (by omega)
      · exact g2 j h1 h2
  · rw[if_neg c]
    rcases h with ⟨e,h⟩ | ⟨hn,⟨s,hs,hw⟩,h⟩
    · have ex:xs = []:=Decidable.byContradiction fun z=>c ⟨z,.inl e⟩
      refine .inl ⟨e,fun s hs j h1=>?_⟩
      rcases mem hs with hs | rfl
      · exact h s hs j h1
      · rcases g with ⟨_,g⟩ | ⟨z,_⟩
        · exact g j h1
        · exact absurd ex z
    · refine .inr ⟨hn,⟨s,List.mem_append_left _ hs,hw⟩,fun s hs j h1 h2=>?_⟩
      rcases mem hs with hs | rfl
      · exact h s hs j h1 h2
      · refine low (n:=rs.length) ?_ j h1 h2
        by_cases z:xs = []
        · exact .inr z
        · exact .inl (Nat.le_of_not_lt fun q=>c ⟨z,.inr q⟩)
theorem zei {us:List Str}{ts:List Tie}{ads:List Addr}(ht:∀t∈ts,t.a∈us/\t.b∈us):∀k∈keysOf ts (srt us),∀l r,(l,r)∈za1 ts (ts.zip ads) k->l∈keysOf ts (srt us):=by
  intro k _ l r h
  obtain⟨t,h1,_,_,rfl⟩:=lnk_mem.mp h
  exact zbn ht (ht t (List.of_mem_zip h1).1).2
theorem zkb {ks:List Str}{f:Str->V}{i:Nat}{k:Key}{v:V}(h:(dV ks f)[i]? = some (k,v)):∃u,ks[i]? = some u/\k=Sum.inr u/\v=f u:=by
  unfold dV at h
  rw[List.getElem?_map] at h
  cases e:ks[i]? with
  | none=>rw[e] at h;cases h
  | some u=>
    rw[e] at h
    cases h
    exact⟨u,rfl,rfl,rfl⟩
theorem grown {us:List Str}(P:Nat->Str->Bool) (mono:∀k x,P k x=true->P (k+1) x=true) (prog:∀k,(∃x∈us,P k x=false)->∃z∈us,P k z=false/\P (k+1) z=true):∀x∈us,P us.length x=true:=by
  intro x hx
  refine Decidable.byContradiction fun hn=>?_
  have hn:P us.length x=false:=by simpa using hn
  have back:∀k,k<=us.length->P k x=false:=by
    intro k hk
    cases e:P k x with
    | false=>rfl
    | true=>
      have:∀j,P (k+j) x=true:=by
        intro j
        induction j with
        | zero=>exact e
        | succ j ih=>exact mono _ _ ih
      have:=this (us.length-k)
      rw[show k+(us.length-k)=us.length by omega,hn] at this
      cases this
  have cnt:∀k,k<=us.length->k<=us.countP (P k):=by
    intro k
    induction k with
    | zero=>intro _;exact Nat.zero_le _
    | succ k ih=>
      intro hk
      have h1:=ih (by omega)
      obtain⟨z,hz,z1,z2⟩:=prog k ⟨x,hx,back k (by omega)⟩
      have h2:us.countP (P k)<us.countP (P (k+1)):=by
        have gen:∀(l:List Str),us.Sublist us->(∀y∈l,P k y=true->P (k+1) y=true)->z∈l->l.countP (P k)<l.countP (P (k+1)):=by
          intro l _ hm hz
          induction l with
          | nil=>cases hz
          | cons y r ihr=>
            rw[List.countP_cons,List.countP_cons]
            have le:r.countP (P k)<=r.countP (P (k+1)):=List.countP_mono_left fun y hy e=>hm y (List.mem_cons_of_mem _ hy) e
            rcases List.mem_cons.mp hz with e | hz
            · subst e
              rw[z1,z2]
              simp
              omega
            · have:=ihr (fun y hy=>hm y (List.mem_cons_of_mem _ hy)) hz
              have h3:(if P k y=true then 1 else 0)<=(if P (k+1) y=true then 1 else 0):=by
                by_cases c:P k y=true
                · rw[if_pos c,if_pos (hm y (by simp) c)];exact Nat.le_refl _
                · rw[if_neg c];exact Nat.zero_le _
              omega
        exact gen us (List.Sublist.refl _) (fun y _=>mono k y) hz
      omega
  have h1:=cnt us.length (Nat.le_refl _)
  have h2:us.countP (P us.length)<us.length:=by
    have:=List.countP_le_length (p:=P us.length) (l:=us)
    rcases Nat.lt_or_ge (us.countP (P us.length)) us.length with h | h
    · exact h
    · have e:us.countP (P us.length)=us.length:=by omega
      rw[List.countP_eq_length] at e
      have:=e x hx
      rw[hn] at this
      cases this
  omega
def lst1 (lab:Str->Str) (t:Tie):Str->Str:=if t.k=SAME then fun x=>if x=t.a\/x=t.b then minS (lab t.a) (lab t.b) else lab x else lab
def zcg (ts:List Tie) (lab:Str->Str):Str->Str:=ts.foldl lst1 lab
def litr (ts:List Tie):Nat->Str->Str
  | 0=>id
  | n+1=>zcg ts (litr ts n)
theorem zgl {ts:List Tie}{lab:Str->Str}{i:Nat}{t:Tie}(h:ts[i]? = some t):zcg (ts.take (i+1)) lab=lst1 (zcg (ts.take i) lab) t:=by
  unfold zcg
  rw[List.take_add_one,h,List.foldl_append]
  rfl
def Lto (ts:List Tie) (lab:Str->Str):Prop:=∀x,Cn ts x (lab x)
theorem zua {ts:List Tie}{lab:Str->Str}{t:Tie}(ht:t∈ts) (h:Lto ts lab):Lto ts (lst1 lab t):=by
  intro x
  unfold lst1
  split
  · next hk=>
    have n:Nb ts t.a t.b:=⟨t,ht,hk,.inl ⟨rfl,rfl⟩⟩
    dsimp only
    split
    · next hx=>
      rcases hx with rfl | rfl
      · rcases zj7 (lab t.a) (lab t.b) with e | e
        · rw[e];exact h _
        · rw[e];exact (Cn.one n).trans (h _)
      · rcases zj7 (lab t.a) (lab t.b) with e | e
        · rw[e];exact (Cn.one n.symm).trans (h _)
        · rw[e];exact h _
    · exact h x
  · exact h x
theorem zrf {x y z:Str}(h1:¬co x<co y) (h2:¬co y<co z):¬co x<co z:=by
  rw[List.not_lt] at *
  exact List.le_trans h2 h1
theorem zub (lab:Str->Str) (t:Tie) (x:Str):¬co (lab x)<co (lst1 lab t x):=by
  unfold lst1
  split
  · dsimp only
    split
    · next hx=>
      rcases hx with rfl | rfl
      · exact zoo _ _
      · exact zop _ _
    · exact List.lt_irrefl _
  · exact List.lt_irrefl _
theorem zls {ts:List Tie}:∀(us:List Tie) (lab:Str->Str),(∀t∈us,t∈ts)->Lto ts lab->Lto ts (zcg us lab)
  | [],lab,_,h=>h
  | t::r,lab,hs,h=>zls r (lst1 lab t) (fun u hu=>hs u (List.mem_cons_of_mem _ hu)) (zua (hs t (by simp)) h)
theorem zd0:∀(us:List Tie) (lab:Str->Str) (x:Str),¬co (lab x)<co (zcg us lab x)
  | [],lab,x=>List.lt_irrefl _
  | t::r,lab,x=>zrf (zub lab t x) (zd0 r (lst1 lab t) x)
theorem zrg {ts:List Tie}(lab:Str->Str) {y z:Str}(n:Nb ts y z):¬co (lab y)<co (zcg ts lab z):=by
  obtain⟨t,ht,hk,h⟩:=n
  obtain⟨A,B,e⟩:=List.append_of_mem ht
  subst e
  have e:zcg (A++t::B) lab=zcg B (lst1 (zcg A lab) t):=by unfold zcg;rw[List.foldl_append];rfl
  rw[e]
  refine zrf ?_ (zd0 B _ z)
  unfold lst1
  rw[if_pos hk]
  try dsimp only
  rcases h with ⟨rfl,rfl⟩ | ⟨rfl,rfl⟩
  · rw[if_pos (.inr rfl)]
    exact zrf (zd0 A lab _) (zoo _ _)
  · rw[if_pos (.inl rfl)]
    exact zrf (zd0 A lab _) (zop _ _)
theorem zox (ts:List Tie):∀n,Lto ts (litr ts n)
  | 0=>fun x=>.refl x
  | n+1=>zls ts _ (fun _ h=>h) (zox ts n)
theorem zoy (ts:List Tie) (n:Nat) (x:Str):¬co (litr ts n x)<co (labs ts x):=(zbh ts).le x _ (zox ts n x)
theorem zrh {us:List Str}{ts:List Tie}(ht:∀t∈ts,t.a∈us/\t.b∈us):∀x∈us,litr ts us.length x=labs ts x:=by
  intro x hx
  have mono:∀k x,litr ts k x=labs ts x->litr ts (k+1) x=labs ts x:=fun k x e=>by
    have h1:=zd0 ts (litr ts k) x
    rw[e] at h1
    exact zfe (zoy ts (k+1) x) h1
  have:=grown (us:=us) (fun k x=>decide (litr ts k x=labs ts x)) (fun k x e=>decide_eq_true (mono k x (of_decide_eq_true e))) ?_ x hx
  · exact of_decide_eq_true this
  · rintro k ⟨x,hx,e⟩
    have e:¬litr ts k x=labs ts x:=of_decide_eq_false e
    have top:litr ts k (labs ts x)=labs ts (labs ts x):=by
      clear e
      rename_i e
      clear e
      induction k with
      | zero=>rw[zdz];rfl
      | succ k ih=>exact mono k _ ih
    have c:Cn ts (labs ts x) x:=((zbh ts).to x).symm
    have walk:∀y,Cn ts (labs ts x) y->litr ts k y≠labs ts y->∃a b,Nb ts a b/\litr ts k a=labs ts a/\litr ts k b≠labs ts b:=by
      intro y c
      induction c with
      | refl=>intro h;exact absurd top h
      | @step y z c n ih=>
        intro h
        by_cases q:litr ts k y=labs ts y
        · exact⟨y,z,n,q,h⟩
        · exact ih q
    obtain⟨a,b,n,ha,hb⟩:=walk x c e
    refine⟨b,n.mem ht,decide_eq_false hb,decide_eq_true ?_⟩
    have h1:=zrg (ts:=ts) (litr ts k) n
    rw[ha,(zbh ts).eq a b (Cn.one n)] at h1
    exact zfe (zoy ts (k+1) b) h1
theorem Wk.seq {ln:Ln}{s t:Str}{rs:List Addr}(w:Wk ln s rs t):∃vs:Nat->Str,vs 0=s/\vs rs.length=t/\∀i,i<rs.length->∃r,rs[i]? = some r/\(vs (i+1),r)∈ln (vs i):=by
  induction w with
  | nil=>exact⟨fun _=>s,rfl,rfl,fun i h=>by simp at h⟩
  | @snoc rs m l r w h ih=>
    obtain⟨vs,h0,h1,h2⟩:=ih
    refine⟨fun i=>if i=rs.length+1 then l else vs i,?_,?_,fun i hi=>?_⟩
    · dsimp only
      rw[if_neg (by omega)];exact h0
    · dsimp only
      rw[if_pos (by simp)]
    · dsimp only
      rw[List.length_append] at hi
      have hi:i<rs.length+1:=hi
      by_cases c:i=rs.length
      · subst c
        rw[if_pos rfl,if_neg (by omega),h1]
        exact⟨r,by simp,h⟩
      · obtain⟨r',e,q⟩:=h2 i (by omega)
        rw[if_neg (by omega),if_neg (by omega)]
        exact⟨r',by rw[List.getElem?_append_left (by omega)];exact e,q⟩
theorem zif {ln:Ln}{F:List Str}(hn:F≠[]) (h:∀x∈F,∃y∈F,∃r,(y,r)∈ln x):∃s∈F,∃j,1<=j/\Rc ln s j s:=by
  obtain⟨x0,h0⟩:=List.exists_mem_of_ne_nil F hn
  have hf:∃f:Str->Str,∀x∈F,f x∈F/\∃r,(f x,r)∈ln x:=by
    refine⟨fun x=>if c:x∈F then (h x c).choose else x,fun x hx=>?_⟩
    dsimp only
    rw[dif_pos hx]
    exact (h x hx).choose_spec
  obtain⟨f,hf⟩:=hf
  let x:Nat->Str:=fun n=>Nat.rec x0 (fun _ y=>f y) n
  have hx:∀n,x n∈F:=by
    intro n
    induction n with
    | zero=>exact h0
    | succ n ih=>exact (hf _ ih).1
  have go:∀i d,Rc ln (x i) d (x (i+d)):=by
    intro i d
    induction d with
    | zero=>exact⟨[],.nil,rfl⟩
    | succ d ih=>
      obtain⟨r,e⟩:=(hf _ (hx (i+d))).2
      exact ih.step e
  have rep:∃i j,i<j/\x i=x j:=by
    refine Classical.byContradiction fun hn=>?_
    have nd:((List.range (F.length+1)).map x).Nodup:=zbx fun i j _ _ e=>by
      rcases Nat.lt_trichotomy i j with c | c | c
      · exact absurd ⟨i,j,c,e⟩ hn
      · exact c
      · exact absurd ⟨j,i,c,e.symm⟩ hn
    have:=zbm nd (us:=F) fun y hy=>by
      obtain⟨i,_,rfl⟩:=List.mem_map.mp hy
      exact hx i
    simp at this
    omega
  obtain⟨i,j,hij,e⟩:=rep
  refine⟨x i,hx i,j-i,by omega,?_⟩
  have:=go i (j-i)
  rwa [show i+(j-i)=j by omega,←e] at this
structure Tel (K:PySem.W.Frag) (H:Hp) (p pu pt:Addr) (x y:V) (us:List Str) (ads:List Addr) (ts:List Tie):Prop where
  p:SqT K H p [x,.ref pu,.ref pt,y]
  u:SqL K H pu (us.map V.str)
  t:SqL K H pt (ads.map V.ref)
  tt:Tups H ads (ts.map tieV)
  nd:us.Nodup
  ul:us.length<64
  tl:ts.length<=900
  ok:∀t∈ts,TOk us t
section
variable {K:PySem.W.Frag}{H H':Hp}{p pu pt:Addr}{x y:V}{us:List Str}{ads:List Addr}{ts:List Tie}
theorem Tel.same (h:Tel K H p pu pt x y us ads ts) (s:Same H H'):Tel K H' p pu pt x y us ads ts:=⟨s.tup h.p,s.seq h.u,s.seq h.t,h.tt.same s,h.nd,h.ul,h.tl,h.ok⟩
theorem Tel.ends (h:Tel K H p pu pt x y us ads ts):∀t∈ts,t.a∈us/\t.b∈us:=fun t ht=>⟨(h.ok t ht).a,(h.ok t ht).b⟩
theorem Tel.len (h:Tel K H p pu pt x y us ads ts):ads.length=ts.length:=by have:=h.tt.len;rw[List.length_map] at this;exact this
theorem Tel.klen (h:Tel K H p pu pt x y us ads ts):(keysOf ts (srt us)).length<=63:=by
  have:=zg1 (us:=us) (ts:=ts) h.nd
  have:=h.ul
  unfold zcm at *
  rw[List.length_map] at *
  omega
theorem TlAt.tel {pm pf:Addr}{lo hi:Int}{fs:List Fnd}{af:List Addr}(h:TlAt K H p pm pu pt pf lo hi us ts fs ads af) (d:Tll lo hi us ts fs):Tel K H p pu pt (.ref pm) (.ref pf) us ads ts:=
  ⟨h.p,h.at'.u,h.at'.t,h.at'.tt,d.nd,by have:=d.ul;omega,by have:=d.tl;omega,d.tok⟩
end
def zmg:Str:="after"
def zae (t:Tie):Int:=t.g.getD 0
theorem TOk.after {us:List Str}{t:Tie}(h:TOk us t) (e:t.k=zmg):atI (tieV t) 3=some (.int (zae t)):=by
  have h:=h.ok
  obtain⟨k,a,b,g⟩:=t
  cases g with
  | some n=>exact zb1 (xs:=tieV ⟨k,a,b,some n⟩) (j:=3) rfl
  | none=>
    exfalso
    unfold tieV at h
    simp only at h e
    subst e
    cases h with
    | plain hk hx hy=>revert hk;decide
theorem TOk.plain {us:List Str}{t:Tie}(h:TOk us t) (e:t.k≠zmg):zae t=0:=by
  have h:=h.ok
  obtain⟨k,a,b,g⟩:=t
  cases g with
  | none=>rfl
  | some n=>
    exfalso
    unfold tieV at h
    simp only at h e
    generalize ew:([V.str k,V.str a,V.str b,V.int n]:List V)=ws at h
    cases h with
    | plain hk hx hy=>simp at ew
    | after hx hy h0 h1=>
      simp only [List.cons.injEq,V.str.injEq] at ew
      exact e ew.1
def lnkR (ts:List Tie) (z:List (Tie×Addr)):List (List V):=(z.filter fun p=>decide (p.1.k≠SAME)).map fun p=>[.str (labs ts p.1.a),.str (labs ts p.1.b),.int (zae p.1),.ref p.2]
theorem zig {ts:List Tie}{z:List (Tie×Addr)}{i:Nat}{t:Tie}{r:Addr}(h:z[i]? = some (t,r)):lnkR ts (z.take (i+1))=lnkR ts (z.take i)++(if t.k≠SAME then [[.str (labs ts t.a),.str (labs ts t.b),.int (zae t),.ref r]] else []):=by
  unfold lnkR
  rw[List.take_add_one,h,List.filter_append,List.map_append]
  by_cases c:t.k≠SAME
  · rw[if_pos c]
    simp[c]
  · rw[if_neg c]
    simp[c]
theorem zri {ts:List Tie}{z:List (Tie×Addr)}:(lnkR ts z).length<=z.length:=by
  unfold lnkR
  rw[List.length_map]
  exact List.length_filter_le _ _
abbrev Lrow:=Str×Str×Int×Addr
def lrV (q:Lrow):List V:=[.str q.1,.str q.2.1,.int q.2.2.1,.ref q.2.2.2]
def lnkL (ts:List Tie) (z:List (Tie×Addr)):List Lrow:=(z.filter fun p=>decide (p.1.k≠SAME)).map fun p=>(labs ts p.1.a,labs ts p.1.b,zae p.1,p.2)
theorem zuc (ts:List Tie) (z:List (Tie×Addr)):lnkR ts z=(lnkL ts z).map lrV:=by
  unfold lnkR lnkL
  rw[List.map_map]
  rfl
section
variable {K:PySem.W.Frag}{H:Hp}{n:Nat}
theorem zih {as:List Addr}{wss:List (List V)}(t:Tups H as wss) (hw:∀vs∈wss,∀v∈vs,Wd v):∀x∈as.map V.ref,DEq K H (n+1) x x true:=by
  intro x hx
  obtain⟨a,ha,rfl⟩:=List.mem_map.mp hx
  obtain⟨ws,hws,e⟩:=t.get ha
  have fl:∀v∈ws,zb6 v=true:=fun v hv=>(hw ws hws v hv).flat
  have:=DEq.flatT (n:=n) (SqT.of (K:=K) e) (SqT.of e) fl fl
  rwa [zds fl] at this
theorem TlAt.deq {p pm pu pt pf p' pu' pt' pf':Addr}{lo hi:Int}{us:List Str}{ts:List Tie}{fs:List Fnd}{at' af:List Addr}(h:TlAt K H p pm pu pt pf lo hi us ts fs at' af) (h':TlAt K H p' pm pu' pt' pf' lo hi us ts fs at' af) (d:Tll lo hi us ts fs) :
    DEq K H (n+3) (.ref p) (.ref p') true:=by
  refine DEq.sameT h.p h'.p rfl fun i x y e1 e2=>?_
  match i,e1,e2 with
  | 0,e1,e2=>
    cases e1
    cases e2
    have fl:∀v∈[V.int lo,V.int hi],zb6 v=true:=fun v hv=>by
      simp at hv
      rcases hv with rfl | rfl<;>rfl
    have:=DEq.flatT (n:=n+1) h.at'.m h.at'.m fl fl
    rwa [zds fl] at this
  | 1,e1,e2=>
    cases e1
    cases e2
    exact DEq.sameL h.at'.u h'.at'.u fun x hx=>by
      obtain⟨z,_,rfl⟩:=List.mem_map.mp hx
      have:=DEq.flat (K:=K) (H:=H) (n:=n+1) (x:=.str z) (y:=.str z) rfl rfl
      rwa [show eqV (.str z) (.str z)=true from by simp[eqV]] at this
  | 2,e1,e2=>
    cases e1
    cases e2
    exact DEq.sameL h.at'.t h'.at'.t (zih h.at'.tt d.tw)
  | 3,e1,e2=>
    cases e1
    cases e2
    exact DEq.sameL h.at'.f h'.at'.f (zih h.at'.ft d.fw)
  | i+4,e1,e2=>cases e1
end
theorem Rnd.nil_iff {ln:Ln}{keys:List Str}{rs:List Addr}(h:Rnd ln keys rs):rs≠[]↔∃s∈keys,∃j,1<=j/\Rc ln s j s:=by
  rcases h with ⟨e,h⟩ | ⟨e,⟨s,hs,w⟩,_⟩
  · exact⟨fun z=>absurd e z,fun ⟨s,hs,j,hj,r⟩=>absurd r (h s hs j hj)⟩
  · exact⟨fun _=>⟨s,hs,_,List.length_pos_iff.mpr e,_,w,rfl⟩,fun _=>e⟩
def NoR (ln:Ln) (keys:List Str):Prop:=∀s∈keys,∀j,1<=j->¬Rc ln s j s
def zey (M:List Str) (L:List (Str×Addr)):Bool:=L.all fun p=>decide (p.1∈M)
def zej (ln:Ln) (keys M:List Str):List Str:=keys.filter fun x=>decide (x ∉ M)&&zey M (ln x)
theorem zoz {M:List Str}{L:List (Str×Addr)}:zey M L=true↔∀l r,(l,r)∈L->l∈M:=by
  unfold zey
  rw[List.all_eq_true]
  constructor
  · intro h l r hm
    exact of_decide_eq_true (h (l,r) hm)
  · intro h p hp
    exact decide_eq_true (h p.1 p.2 hp)
theorem frees_mem {ln:Ln}{keys M:List Str}{x:Str}:x∈zej ln keys M↔x∈keys/\x ∉ M/\∀l r,(l,r)∈ln x->l∈M:=by
  unfold zej
  rw[List.mem_filter,Bool.and_eq_true,decide_eq_true_iff,zoz]
theorem zrj {ln:Ln}{keys M:List Str}(cl:∀k∈keys,∀l r,(l,r)∈ln k->l∈keys) (nr:NoR ln keys) (hx:∃x∈keys,x ∉ M):zej ln keys M≠[]:=by
  intro z
  obtain⟨x,h1,h2⟩:=hx
  obtain⟨s,hs,j,hj,r⟩:=zif (ln:=ln) (F:=keys.filter fun x=>decide (x ∉ M)) (List.ne_nil_of_mem (List.mem_filter.mpr ⟨h1,decide_eq_true h2⟩)) fun y hy=>by
    rw[List.mem_filter,decide_eq_true_iff] at hy
    refine Classical.byContradiction fun hn=>?_
    have:y∈zej ln keys M:=frees_mem.mpr ⟨hy.1,hy.2,fun l r hl=>Decidable.byContradiction fun q=>hn ⟨l,List.mem_filter.mpr ⟨cl y hy.1 l r hl,decide_eq_true q⟩,r,hl⟩⟩
    rw[z] at this
    cases this
  exact nr s (List.mem_filter.mp hs).1 j hj r
structure Ord (ln:Ln) (keys os:List Str):Prop where
  nd:os.Nodup
  sub:∀x∈os,x∈keys
  low:∀(i:Nat) o,os[i]? = some o->∀l r,(l,r)∈ln o->l∈os.take i
  least:∀(i:Nat) o,os[i]? = some o->∀x∈keys,x ∉ os.take i->(∀l r,(l,r)∈ln x->l∈os.take i)->¬co x<co o
theorem Ord.nil {ln:Ln}{keys:List Str}:Ord ln keys []:=⟨by simp,by simp,by simp,by simp⟩
theorem Ord.snoc {ln:Ln}{keys os:List Str}{u:Str}{r:List Str}(h:Ord ln keys os) (kl:keys.Pairwise (fun a b=>co a<co b)) (hu:zej ln keys os=u::r):Ord ln keys (os++[u]):=by
  have hm:u∈zej ln keys os:=by rw[hu];simp
  obtain⟨m1,m2,m3⟩:=frees_mem.mp hm
  have at':∀(i:Nat) o,(os++[u])[i]? = some o->(i<os.length/\os[i]? = some o/\(os++[u]).take i=os.take i)\/(i=os.length/\o=u/\(os++[u]).take i=os):=by
    intro i o e
    by_cases c:i<os.length
    · rw[List.getElem?_append_left c] at e
      exact .inl ⟨c,e,by rw[List.take_append_of_le_length (by omega)]⟩
    · have hi:=(List.getElem?_eq_some_iff.mp e).1
      rw[List.length_append] at hi
      have hi:i<os.length+1:=hi
      have:i=os.length:=by omega
      subst this
      simp at e
      exact .inr ⟨rfl,e.symm,by simp⟩
  refine⟨?_,fun x hx=>?_,fun i o e l r' hl=>?_,fun i o e x hx hn hl=>?_⟩
  · rw[List.nodup_append]
    refine⟨h.nd,by simp,fun a ha b hb e=>?_⟩
    have hb:b=u:=by simpa using hb
    subst hb
    subst e
    exact m2 ha
  · rcases List.mem_append.mp hx with hx | hx
    · exact h.sub x hx
    · have:x=u:=by simpa using hx
      rw[this];exact m1
  · rcases at' i o e with ⟨c,e',et⟩ | ⟨c,rfl,et⟩
    · rw[et];exact h.low i o e' l r' hl
    · rw[et];exact m3 l r' hl
  · rcases at' i o e with ⟨c,e',et⟩ | ⟨c,rfl,et⟩
    · rw[et] at hn hl
      exact h.least i o e' x hx hn hl
    · rw[et] at hn hl
      have hxf:x∈zej ln keys os:=frees_mem.mpr ⟨hx,hn,hl⟩
      have pw:(zej ln keys os).Pairwise (fun a b=>co a<co b):=kl.sublist (List.filter_sublist ..)
      rw[hu] at hxf pw
      rcases List.mem_cons.mp hxf with rfl | hxf
      · exact List.lt_irrefl _
      · exact fun z=>zdw z ((List.pairwise_cons.mp pw).1 x hxf)
theorem Ord.perm {ln:Ln}{keys os:List Str}(h:Ord ln keys os) (kn:keys.Nodup) (hl:os.length=keys.length):os.Perm keys:=by
  rw[List.perm_ext_iff_of_nodup h.nd kn]
  intro x
  refine⟨h.sub x,fun hx=>?_⟩
  refine Decidable.byContradiction fun hn=>?_
  have:=zbm (us:=keys) (rs:=x::os) (List.nodup_cons.mpr ⟨hn,h.nd⟩) fun y hy=>by
    rcases List.mem_cons.mp hy with rfl | hy
    · exact hx
    · exact h.sub y hy
  rw[List.length_cons] at this
  omega
theorem zii {K:PySem.W.Frag}{H:Hp}{n:Nat}{xs:List Str}:∀x∈xs.map V.str,DEq K H n x x true:=fun x hx=>by
  obtain⟨z,_,rfl⟩:=List.mem_map.mp hx
  have:=DEq.flat (K:=K) (H:=H) (n:=n) (x:=.str z) (y:=.str z) rfl rfl
  rwa [show eqV (.str z) (.str z)=true from by simp[eqV]] at this
theorem zo0 {ts:List Tie}{pl:Str->Int}(h:∀t∈ts,(t.k=SAME->pl t.a=pl t.b)/\(¬t.k=SAME->pl t.b<pl t.a)) {x y:Str}(c:Cn ts x y):pl x=pl y:=by
  induction c with
  | refl=>rfl
  | step _ n ih=>
    obtain⟨t,ht,hk,h2⟩:=n
    have:=(h t ht).1 hk
    rcases h2 with ⟨rfl,rfl⟩ | ⟨rfl,rfl⟩
    · rw[ih,this]
    · rw[ih,this]
theorem zrk {us:List Str}{ts:List Tie}{ads:List Addr}{pl:Str->Int}(h:∀t∈ts,(t.k=SAME->pl t.a=pl t.b)/\(¬t.k=SAME->pl t.b<pl t.a)):NoR (za1 ts (ts.zip ads)) (keysOf ts (srt us)):=by
  have step:∀(n:Nat) s v,Rc (za1 ts (ts.zip ads)) s n v->pl v+n<=pl s:=by
    intro n
    induction n with
    | zero=>intro s v q;rw[q.zero];simp
    | succ n ih=>
      intro s v q
      obtain⟨u,r,hu,he⟩:=q.succ
      have h1:=ih s u hu
      obtain⟨t,hz,hk,ha,hb⟩:=lnk_mem.mp he
      have h2:=(h t (List.of_mem_zip hz).1).2 hk
      have h3:=zo0 h ((zbh ts).to t.a)
      have h4:=zo0 h ((zbh ts).to t.b)
      rw[ha] at h3
      rw[hb] at h4
      omega
  intro s _ j hj q
  have:=step j s s q
  omega
end Dm
namespace L2
open PySem PySem.Spec PyProof.Rows
theorem zrl {prog:Program}{w:World}{A:Around}{P:Nat->Value->Prop}(val:Nat->Str) (hval:∀i v,P i v->∃t,v=Value.str (val i) t) :
    CmpOf prog w A .Lt P (fun i j=>decide ((val i).cps.toList<(val j).cps.toList)):=fun i j vi vj s Q E hi hj h=>by
  obtain⟨t,rfl⟩:=hval i vi hi
  obtain⟨u,rfl⟩:=hval j vj hj
  exact richCompare_gives (op:=.Lt) (typeIs_str s _ t) (typeIs_str s _ u) PySem.F.slot_str_lt PySem.F.entry_str_lt (PySem.F.args_str_lt_2 _ _) (gives_str_lt _ _ t u) (fun x=>nomatch x) h
theorem zij {prog:Program}{w:World}{A:Around}{E:Value->Shared->Prop}{s:Shared}{a b:Str}{t u:Tok}{Q:Value->Shared->Prop}(hh:A.handled=none)
    (h:∀h' tk,(∀c o,s.heap.get? c=some o->h'.get? c=some o)->Q (if b.cps.toList<a.cps.toList then .str b u else .str a t) { s with heap:=h',toks:=tk }) :
    wpAny (model prog w) A (call (.builtin "min") [.str a t,.str b u]) Q E s:=by
  have hT:(s.heap.push { cls:=.type "tuple",data:=.seq #[.str a t,.str b u] }).IsTuple s.heap.objs.size #[.str a t,.str b u]:=⟨_,Heap.get?_push_size _ rfl,rfl,0,rfl⟩
  refine call_min_two (wpAny_pyIter_tuple hT ?_)
  have hsz:(s.heap.push { cls:=.type "tuple",data:=.seq #[.str a t,.str b u] }).objs.size=s.heap.objs.size+1:=Heap.size_push ..
  refine⟨_,[_,s.heap.objs.size],[_],_,_,_,_,rfl,Walks.tuple (A:=A.in1) hh _ s.heap.objs.size (by rw[hsz];exact Nat.ne_of_lt (Nat.lt_succ_self _)) #[.str a t,.str b u],
    ⟨⟨_,Heap.get?_push_size _ rfl,rfl,rfl⟩,hT.push _⟩,fun c hc=>?_,(by show 0<2;decide),zrl (fun i=>if i=0 then a else b) (fun i v e=>?_),fun v h' tk hP hk=>?_⟩
  · show c<((s.heap.push _).push _).objs.size
    rw[Heap.size_push,hsz]
    rcases List.mem_cons.mp hc with rfl | hc
    · rw[hsz];exact Nat.lt_succ_self _
    · rcases List.mem_cons.mp hc with rfl | hc
      · exact Nat.lt_succ_of_lt (Nat.lt_succ_self _)
      · cases hc
  · match i,e with
    | 0,e=>cases e;exact⟨t,rfl⟩
    | 1,e=>cases e;exact⟨u,rfl⟩
    | i+2,e=>simp at e
  · have hold:∀c o,s.heap.get? c=some o->h'.get? c=some o:=fun c o e=>by
      refine hk c o (fun hm=>?_) (Heap.get?_push_of_some _ (Heap.get?_push_of_some _ e))
      rcases List.mem_cons.mp hm with e1 | hm
      · have:=Heap.lt_size e;rw[e1,hsz] at this;exact Nat.lt_irrefl _ (Nat.lt_of_succ_lt this)
      · cases hm
    have:=h h' tk hold
    have hv:v=if b.cps.toList<a.cps.toList then Value.str b u else Value.str a t:=by
      have hP':(#[Value.str a t,Value.str b u])[argBest (fun i j=>decide ((if i=0 then a else b).cps.toList<(if j=0 then a else b).cps.toList)) 1]? = some v:=hP
      by_cases hba:b.cps.toList<a.cps.toList
      · have e:argBest (fun i j=>decide ((if i=0 then a else b).cps.toList<(if j=0 then a else b).cps.toList)) 1=1:=by simp[argBest,hba]
        rw[e] at hP'
        rw[if_pos hba]
        exact (Option.some.inj hP').symm
      · have e:argBest (fun i j=>decide ((if i=0 then a else b).cps.toList<(if j=0 then a else b).cps.toList)) 1=0:=by simp[argBest,hba]
        rw[e] at hP'
        rw[if_neg hba]
        exact (Option.some.inj hP').symm
    rw[hv];exact this
theorem zcn:∀(r:List Str) (x:Str),risingS x r=true->(x::r).Pairwise (fun a b=>¬b.cps.toList<a.cps.toList)
  | [],x,_=>List.pairwise_singleton ..
  | y::r,x,h=>by
    unfold risingS at h
    rw[Bool.and_eq_true] at h
    have ih:=zcn r y h.2
    have h1:¬y.cps.toList<x.cps.toList:=by
      intro z
      have:ltCps y.cps.toList x.cps.toList=true:=by rw[ltCps_eq];exact decide_eq_true z
      rw[this] at h
      simp at h
    refine List.pairwise_cons.mpr ⟨fun b hb=>?_,ih⟩
    rcases List.mem_cons.mp hb with rfl | hb
    · exact h1
    · intro z
      have h2:=(List.pairwise_cons.mp ih).1 b hb
      rw[List.not_lt] at h1 h2
      exact absurd z (List.not_lt.mpr (List.le_trans h1 h2))
theorem zco {ss:List Str}(h:sortedS ss=true):ss.Pairwise (fun a b=>¬b.cps.toList<a.cps.toList):=by
  cases ss with
  | nil=>exact .nil
  | cons x r=>exact zcn r x h
section
variable {X:Cx}
theorem zgm (hc:X.calm=true):zbp X (.builtin "min") (fun xs H Q=>∃i j,xs = [.str i,.str j]/\Q (.str (if j.cps.toList<i.cps.toList then j else i)) H):=by
  intro pins s σ H xs us Q I r h
  obtain⟨i,j,rfl,q⟩:=h
  obtain⟨u,w',rfl,⟨t,rfl⟩,⟨t',rfl⟩⟩:=zhn r
  refine zij (I.ok.hd hc) fun h' tk k=>⟨_,H,I.kept k,?_,q⟩
  by_cases hj:j.cps.toList<i.cps.toList
  · rw[if_pos hj,if_pos hj];exact⟨_,rfl⟩
  · rw[if_neg hj,if_neg hj];exact⟨_,rfl⟩
theorem zik {K:PySem.W.Frag}(h:X.K=K):zbp X (.builtin "sorted") (fun xs H Q=>∃(a:Addr) (ns:List Str),xs = [V.ref a]/\SqL K H a (ns.map V.str)/\ns.length<64/\
    ∀(p:Addr) (ms:List Str),H p=none->ms.Perm ns->ms.Pairwise (fun a b=>¬b.cps.toList<a.cps.toList)->Q (.ref p) (upd H p (.lst (ms.map V.str)))):=by
  subst h
  intro pins s σ H xs us Q I r h
  obtain⟨a,ns,rfl,ha,hn,q⟩:=h
  obtain⟨u,rfl,ru⟩:=zdd r
  cases ru
  obtain⟨its,rv,pl,hz⟩:=I.list ha
  have hl:=rv.length
  rw[List.length_map] at hl
  refine PyProof.Rows.sorted_strs pl.isList (zgc rv) (by omega) fun out ms a1 a2 a3=>?_
  obtain⟨e,he⟩:=PyProof.Rows.sortedAll_at s.heap its out
  have hn':H (s.heap.objs.size+1)=none:=I.hok.fresh (Nat.le_succ _)
  have hm:ms.length=ns.length:=a2.length_eq
  have hs:sizeLine=16777216:=sizeLine_eq
  have vs:∀{us:List Value}{ys:List Str},StrsAre us ys->Vals (ys.map V.str) us:=by
    intro us ys h
    induction h with
    | nil=>exact .nil
    | cons x t _ ih=>exact .cons ⟨t,rfl⟩ ih
  refine⟨.ref (s.heap.objs.size+1),_,I.laid (t':=s.toks) (a:=s.heap.objs.size+1) (o:=.lst (ms.map V.str)) (fun b o eb=>PyProof.Rows.sortedAll_old eb) (Nat.le_succ _) ⟨?_,out.toList,e,vs a1,?_⟩,rfl,q _ ms hn' a2 (zco a3)⟩
  · rw[List.length_map];omega
  · rw[he]
end
end L2
namespace HT
open PySem PySem.Spec PyProof.Rows PySem.Calls
end HT
namespace L2
open PySem PySem.Spec PyProof.Rows
section
variable {X:Cx}{pins:List (Addr×Obj)}{σ:St}{H:Hp}{s:Shared}{a:Addr}{u r:Value}{A:Around}{E:Value->Shared->Prop}
theorem zil {kvs:List (Key×V)}{k:Key}{z:V}{Q:Value->Shared->Prop}(I:Inv X pins σ H s) (e:H a=some (.dK kvs)) (ry:RelV (kV k) u) (rz:RelV z r) (hl:kvs.length<sizeLine)
    (h1:∀v,valV kvs k=some v->∀w' s',Inv X pins σ H s'->RelV v w'->Q w' s') (h2:valV kvs k=none->∀s',Inv X pins σ (upd H a (.dK (putK kvs k z))) s'->Q r s') :
    wpAny (model X.prog X.w) A (call (.builtin "dict.setdefault") [.ref a,u,r]) Q E s:=by
  obtain⟨hz,hd,vs,rel,dd⟩:=zvv I.hok e
  refine call_meetsIn PySem.F.slot_dict_setdefault dd.typeIs PySem.F.entry_dict_setdefault (PySem.F.args_dict_setdefault_3 _ _ _) (kt_meets_setdefault (zau X.prog X.w) a (zjz ry) hd r)
    ⟨vs,dd,by rw[←rel.length];exact hz,fun v hv=>?_,fun hn h' dd' hs=>?_⟩
  · cases l:valV kvs k with
    | some v0=>
      obtain⟨w',hw,rw'⟩:=RelO.some_of (v:=v0) (o:=valueAt vs k) (by rw[←l];exact rel.val k)
      rw[hw] at hv
      cases hv
      exact h1 v0 l _ _ (I.tok _) rw'
    | none=>
      have hn:valueAt vs k=none:=RelO.none_of (by have:=rel.val k;rw[l] at this;exact this)
      rw[hn] at hv
      cases hv
  · cases l:valV kvs k with
    | some v0=>
      obtain⟨w',hw,rw'⟩:=RelO.some_of (v:=v0) (o:=valueAt vs k) (by rw[←l];exact rel.val k)
      rw[hw] at hn
      cases hn
    | none=>
      have hl2:(putK kvs k z).length<=sizeLine:=by have:=zde kvs k z;omega
      have he:∃q,h'.get? a=some q:=let ⟨q,_,_,hq,_⟩:=dd';⟨q,hq⟩
      exact h2 l _ (zj0 I (by rw[e];exact True.intro) hs he (znz hl2 hd (rel.put k rz) dd'))
end
def zxf (td ty tx:TE):TE:=fun σ H Q=>td σ H fun x H1=>∃a,x = .ref a/\IsD H1 a/\ty σ H1 fun y H2=>tx σ H2 fun z H3=>∃kvs k,H3 a=some (.dK kvs)/\y=kV k/\kvs.length<sizeLine/\
  (∀v,valV kvs k=some v->Q v H3)/\(valV kvs k=none->Q z (upd H3 a (.dK (putK kvs k z))))
theorem zmh {X:Cx}{o e f:Expr}{apos cpos:Pos}{td ty tx:TE}(ho:PE X o td) (he:PE X e ty) (hf:PE X f tx) (m:M2 X o "setdefault" apos e f cpos):PE X (.Call (.Attribute o "setdefault" apos) [e,f] [] cpos) (zxf td ty tx):=by
  intro pins s σ H Q I h
  refine wpAny_Call_method m.base m.few m.line PySem.F.plainAttrs_dict PySem.F.slot_dict_setdefault PySem.F.type_dict_setdefault (thn (ho pins s σ H _ I h) fun u s1 hq0=>?_)
  obtain⟨x,H1,I1,rx,a,ex,d,q1⟩:=hq0
  subst ex
  obtain rfl:u=Value.ref a:=rx
  obtain⟨t1,t2,_⟩:=zvy I1 d
  refine⟨t1,t2,?_⟩
  rw[m.trees]
  refine Calls.callWith_builtin rfl (Calls.evalArgs_plain (Calls.spliced_cons (thn (he pins s1 σ H1 _ I1 q1) fun iv s2 ⟨y,H2,I2,ry,q2⟩=>
    Calls.spliced_cons (thn (hf pins s2 σ H2 _ I2 q2) fun fv s3 ⟨z,H3,I3,rz,kvs,k,ea,ey,hl,q3,q4⟩=>Calls.spliced_nil ?_))))
  subst ey
  exact zil I3 ea ry rz hl (fun v l w' s4 I4 rw'=>⟨v,H3,I4,rw',q3 v l⟩) fun l s4 I4=>⟨z,_,I4,rz,q4 l⟩
theorem zmi (t:SetTable) (es:Array (Int×Value)) (h:Int) (x:Value):(layNew t es h x).2.1.led=t.led:=by
  unfold layNew
  split
  · show (SetTable.orStandIn _ _).led=_
    unfold SetTable.orStandIn
    split<;>rfl
  · rfl
theorem zim (t:SetTable) (es:Array (Int×Value)) (n:Nat):(relayAll t es n).2.1.led=t.led:=by
  unfold relayAll
  split
  · next t' order e=>
    have:t'.led=t.led:=by
      unfold SetTable.relaid SetTable.laid at e
      cases q:SetTable.layClean (SetTable.sizeAbove n-1) (es.map (·.1)) with
      | none=>rw[q] at e;cases e
      | some ow=>
        rw[q] at e
        have e:=Option.some.inj e
        rw[←(Prod.mk.inj e).1]
    dsimp only
    split
    · exact this
    · rfl
  · rfl
theorem zfv (t:SetTable) (es:Array (Int×Value)) (n:Nat) (hp:t.plain=false):(relayAll t es n).2.1.plain=false:=by
  unfold relayAll
  split
  · next t' order e=>
    have:t'.plain=t.plain:=by
      unfold SetTable.relaid SetTable.laid at e
      cases q:SetTable.layClean (SetTable.sizeAbove n-1) (es.map (·.1)) with
      | none=>rw[q] at e;cases e
      | some ow=>
        rw[q] at e
        have e:=Option.some.inj e
        rw[←(Prod.mk.inj e).1]
    dsimp only
    split
    · rw[this];exact hp
    · rfl
  · rfl
section
variable {prog:Program}{w:World}{A:Around}{E:Value->Shared->Prop}{s:Shared}
def SetL (prog:Program) (w:World) (h:Heap) (a:Addr) (S:Str->Bool) (n:Nat) (led:Bool):Prop:=
  ∃o es ep t,h.get? a=some o/\o.ExactSet/\o.data = .set es ep t/\ElemsOf (strKind prog w) es.toList/\(∀k,S k=true↔∃e∈es.toList,(strKind prog w).is k e.2=true)
    /\es.size<scanBound/\t.fits es.size=true/\es.size=n/\t.led=led/\(es.size≠0->t.plain=false)
theorem zgn {h:Heap}{a:Addr}{o:Obj}{es:Array (Int×Value)}{ep:Nat}{t:SetTable}(ho:h.get? a=some o) (hex:o.ExactSet) (hd:o.data = .set es ep t)
    {es':Array (Int×Value)}{t':SetTable}{S':Str->Bool}{led:Bool}(hel:ElemsOf (strKind prog w) es'.toList) (hmem:∀k,S' k=true↔∃e∈es'.toList,(strKind prog w).is k e.2=true) (hb:es'.size<scanBound) (hf:t'.fits es'.size=true)
    (hl:t'.led=led) (hp:t'.plain=false) :
    (h.update a (Obj.putSet es' t')).get? a=some { o with data:=.set es' (ep+1) t' }/\SetL prog w (h.update a (Obj.putSet es' t')) a S' es'.size led:=by
  have hg:=(SetOf_store (knd:=strKind prog w) ho hex hd hel hmem hb hf).1
  exact⟨hg,_,es',ep+1,t',hg,hex,rfl,hel,hmem,hb,hf,rfl,hl,fun _=>hp⟩
theorem zlt {g:Bool->Sem Unit}(hg:∀(b:Bool) (s₁:Shared) (Q':Unit->Shared->Prop),Q' () s₁->wpAny (model prog w) A (g b) Q' E s₁)
    {a:Addr}{o:Obj}{es:Array (Int×Value)}{ep:Nat}{t:SetTable}(ho:s.heap.get? a=some o) (hex:o.ExactSet) (hd:o.data = .set es ep t)
    {es1:Array (Int×Value)}{t2:SetTable}{S':Str->Bool}{led:Bool}(hel1:ElemsOf (strKind prog w) es1.toList) (hmem1:∀k',S' k'=true↔∃e∈es1.toList,(strKind prog w).is k' e.2=true)
    (hb1:es1.size<scanBound) (hf2:t2.fits es1.size=true) (hl:t2.led=led) (hpl:t2.plain=false) {wasDummy:Bool}{R:Option Bool->Shared->Prop}
    (h:∀h',Heap.SameBut a s.heap h'->SetL prog w h' a S' es1.size led->R (some true) { s with heap:=h' }) :
    wpAny (model prog w) A (do
        storeSet a es1 t2
        if (!wasDummy&&t2.tooFull)=true then do
            g (relayAll t2 es1 (SetTable.grown es1.size)).2.2
            storeSet a (relayAll t2 es1 (SetTable.grown es1.size)).1 (relayAll t2 es1 (SetTable.grown es1.size)).2.1
            pure (some true)
          else pure (some true)) R E s:=by
  refine wpAny_bind (wpAny_storeSet_of ho hd ?_ (fits_of_scanBound hb1))
  obtain⟨ho1,hS1⟩:=zgn ho hex hd hel1 hmem1 hb1 hf2 hl hpl
  have hsb1:=Heap.SameBut.update s.heap a (Obj.putSet es1 t2)
  split
  · have hp:=relayAll_perm t2 es1 (SetTable.grown es1.size)
    have hfr:=relayAll_fits t2 es1 (SetTable.grown es1.size)
    have hl3:=zim t2 es1 (SetTable.grown es1.size)
    have hp3:=zfv t2 es1 (SetTable.grown es1.size) hpl
    generalize hRl:relayAll t2 es1 (SetTable.grown es1.size)=Rl at hp hfr hl3 hp3 ⊢
    obtain⟨es2,t3,gave2⟩:=Rl
    dsimp only at hp hfr hl3 hp3 ⊢
    have hel2:ElemsOf (strKind prog w) es2.toList:=hel1.perm hp
    have hmem2:∀k',S' k'=true↔∃e∈es2.toList,(strKind prog w).is k' e.2=true:=fun k'=>(hmem1 k').trans ⟨fun ⟨e,he,q⟩=>⟨e,hp.mem_iff.mpr he,q⟩,fun ⟨e,he,q⟩=>⟨e,hp.mem_iff.mp he,q⟩⟩
    have hsz:es2.size=es1.size:=by rw[←Array.length_toList,hp.length_eq,Array.length_toList]
    have hb2:es2.size<scanBound:=by rw[hsz];exact hb1
    refine wpAny_bind (hg _ _ _ ?_)
    refine wpAny_bind (wpAny_storeSet_of ho1 rfl ?_ (fits_of_scanBound hb2))
    obtain⟨_,hS2⟩:=zgn (o:={ o with data:=.set es1 (ep+1) t2 }) ho1 hex rfl hel2 hmem2 hb2 hfr (hl3.trans hl) hp3
    rw[hsz] at hS2
    exact wpAny_pure (h _ (hsb1.trans (Heap.SameBut.update _ a _)) hS2)
  · exact wpAny_pure (h _ hsb1 hS1)
theorem zin (t:SetTable) (es:Array (Int×Value)) (h:Int) (x:Value):(layNew t es h x).2.1.plain=false\/(layNew t es h x).2.1.plain=t.plain:=by
  unfold layNew
  split
  · show (SetTable.orStandIn _ _).plain=false\/(SetTable.orStandIn _ _).plain=_
    unfold SetTable.orStandIn
    split
    · exact .inr rfl
    · exact .inl rfl
  · exact .inl rfl
theorem addL {a:Addr}{S:Str->Bool}{n:Nat}{led:Bool}{k:Str}{tk:Tok}{Q:Bool->Shared->Prop}(hS:SetL prog w s.heap a S n led) (hroom:n+1<scanBound)
    (h:∀h',Heap.SameBut a s.heap h'->SetL prog w h' a (fun k'=>S k'||decide (k'=k)) (if S k then n else n+1) led->Q (!S k) { s with heap:=h' }) :
    wpAny (model prog w) A (setAddHashed a (.str k tk) ((strKind prog w).hash k)) Q E s:=by
  have hkey:(strKind prog w).is k (.str k tk)=true:=strKind_is prog w k tk
  have hsc:(Value.str k tk).scannable=true:=rfl
  obtain⟨o,es,ep,t,ho,hex,hd,hel,hmem,hb,hf,hn,hld,hpl⟩:=hS
  have hb1:es.size+1<scanBound:=by rw[hn];exact hroom
  unfold setAddHashed setAddHashedIn
  refine wpAny_holding (wpAny_bind (wpAny_setState_of ho hd hf ?_))
  dsimp only
  rw[byScan_of hsc hb hel]
  simp only [↓reduceIte]
  unfold setAddByScan
  refine wpAny_bind ?_
  refine wpAny_bind (wpAny_rule ?_)
  refine wpAny_bind (wpAny_setScan_of hkey ho hd hf hel ?_)
  cases hr:List.findIdx? (fun e=>(strKind prog w).is k e.2) es.toList with
  | some j=>
    dsimp only
    obtain⟨hj,hpj,_⟩:=List.findIdx?_eq_some_iff_getElem.mp hr
    have hSk:S k=true:=(hmem k).mpr ⟨es.toList[j],List.getElem_mem hj,hpj⟩
    refine wpAny_pure (wpAny_pure ?_)
    have e:s = { s with heap:=s.heap }:=by cases s;rfl
    have:=h s.heap (Heap.SameBut.refl a s.heap) ⟨o,es,ep,t,ho,hex,hd,hel,fun k'=>by
      rw[Bool.or_eq_true,decide_eq_true_eq,←hmem k']
      exact⟨fun hk=>hk.elim id (fun e=>e▸hSk),.inl⟩,hb,hf,(by rw[hSk];exact hn),hld,hpl⟩
    rw[hSk] at this;rw[e];exact this
  | none=>
    dsimp only
    have hSk:S k=false:=by
      cases hk:S k with
      | false=>rfl
      | true=>obtain⟨e,he,hp⟩:=(hmem k).mp hk;have:=List.findIdx?_eq_none_iff.mp hr e he;rw[hp] at this;exact Bool.noConfusion this
    have hgw:∀(b:Bool) {s₁:Shared}{Q':Unit->Shared->Prop},Q' () s₁->wpAny (model prog w) A (match b with | true=>rule "set.scan.the-table-gave-way" | false=>pure ()) Q' E s₁:=
      fun b s₁ Q' hq=>by cases b<;>first | exact wpAny_pure hq | exact wpAny_rule hq
    have hperm:=layNew_perm t es ((strKind prog w).hash k) (.str k tk)
    have hfits:=layNew_fits t es ((strKind prog w).hash k) (.str k tk)
    have hled:=zmi t es ((strKind prog w).hash k) (.str k tk)
    have hpln:=zin t es ((strKind prog w).hash k) (.str k tk)
    generalize hL:layNew t es ((strKind prog w).hash k) (.str k tk)=L at hperm hfits hled hpln ⊢
    obtain⟨es1,t1,wasDummy,gave⟩:=L
    dsimp only at hperm hfits hled hpln ⊢
    rw[Array.toList_push] at hperm
    have hel1:ElemsOf (strKind prog w) es1.toList:=(hel.push hkey hsc).perm hperm
    have hmem1:∀k',(S k'||decide (k'=k))=true↔∃e∈es1.toList,(strKind prog w).is k' e.2=true:=mem_push_iff hkey hmem hperm
    have hb1':es1.size<scanBound:=by rw[←Array.length_toList,hperm.length_eq,List.length_append,Array.length_toList];simpa using hb1
    refine wpAny_bind (hgw _ ?_)
    have hsz1:es1.size=n+1:=by rw[←Array.length_toList,hperm.length_eq,List.length_append,Array.length_toList,hn];rfl
    have hend:∀h',Heap.SameBut a s.heap h'->SetL prog w h' a (fun k'=>S k'||decide (k'=k)) es1.size led->Q true { s with heap:=h' }:=by
      intro h' hsb hS';have:=h h' hsb;rw[hSk] at this;rw[hsz1] at hS';exact this hS'
    split
    · refine wpAny_bind ?_
      rw[hashByValue_scannable 8 hsc]
      refine wpAny_pure ?_
      have hpk:plainKind (.str k tk)=false:=rfl
      rw[hpk]
      refine zlt (t2:={ t1 with plain:=false }) ?_ ho hex hd hel1 hmem1 hb1' (SetTable.fits_plain_off hfits) (hled.trans hld) rfl ?_
      · intro b s₁ Q' hq;cases b<;>first | exact wpAny_pure hq | exact wpAny_rule hq
      · intro h' hsb hS';dsimp only;exact wpAny_pure (hend h' hsb hS')
    · next hnp=>
      refine wpAny_bind (wpAny_pure ?_)
      simp only [↓reduceIte]
      refine zlt ?_ ho hex hd hel1 hmem1 hb1' hfits (hled.trans hld) (by simpa using hnp) ?_
      · intro b s₁ Q' hq;cases b<;>first | exact wpAny_pure hq | exact wpAny_rule hq
      · intro h' hsb hS';dsimp only;exact wpAny_pure (hend h' hsb hS')
end
def dd (val:Nat->Str):Nat->List Str
  | 0=>[]
  | i+1=>if val i∈dd val i then dd val i else dd val i++[val i]
theorem zo1 (val:Nat->Str):∀i,(dd val i).length<=i
  | 0=>Nat.le_refl _
  | i+1=>by
    have:=zo1 val i
    unfold dd
    split
    · omega
    · rw[List.length_append];exact Nat.succ_le_succ this
theorem zg2 (val:Nat->Str):∀i,(dd val i).Nodup
  | 0=>List.nodup_nil
  | i+1=>by
    unfold dd
    split
    · exact zg2 val i
    · next h=>
      rw[List.nodup_append]
      refine⟨zg2 val i,by simp,fun a ha b hb e=>?_⟩
      simp at hb
      subst hb
      subst e
      exact h ha
theorem zs1 (val:Nat->Str):∀i x,x∈dd val i↔∃j,j<i/\val j=x
  | 0,x=>by
    constructor
    · intro h;cases h
    · rintro ⟨j,hj,_⟩;omega
  | i+1,x=>by
    have ih:=zs1 val i x
    have step:x∈dd val (i+1)↔x∈dd val i\/x=val i:=by
      show x∈(if val i∈dd val i then dd val i else dd val i++[val i])↔_
      split
      · next h=>exact⟨.inl,fun z=>z.elim id fun e=>e▸h⟩
      · rw[List.mem_append];simp
    rw[step,ih]
    constructor
    · rintro (⟨j,hj,e⟩ | e)
      · exact⟨j,by omega,e⟩
      · exact⟨i,by omega,e.symm⟩
    · rintro ⟨j,hj,e⟩
      by_cases c:j=i
      · subst c;exact .inr e.symm
      · exact .inl ⟨j,by omega,e⟩
theorem SetL.congr {prog:Program}{w:World}{h:Heap}{a:Addr}{S S':Str->Bool}{n n':Nat}{led:Bool}(hS:SetL prog w h a S n led) (e:∀k,S k=S' k) (en:n=n'):SetL prog w h a S' n' led:=by
  have:S=S':=funext e
  subst this;subst en;exact hS
section
variable {prog:Program}{w:World}{A:Around}{R:Result->Shared->Prop}{I:Addr}{fp wr:List Addr}{G:Array GenState->Array GenState->Prop}{n:Nat}{P:Nat->Value->Prop}{St:Nat->Shared->Prop}
theorem SetL.keep {h h':Heap}{a:Addr}{S:Str->Bool}{m:Nat}{led:Bool}(hS:SetL prog w h a S m led) (k:∀o,h.get? a=some o->h'.get? a=some o):SetL prog w h' a S m led:=by
  obtain⟨o,es,ep,t,ho,rest⟩:=hS
  exact⟨o,es,ep,t,k o ho,rest⟩
theorem zxg (W:WalksS prog w A.in1 I fp wr G n P St) (S:Addr) (hSf:S ∉ fp) (val:Nat->Str) (hval:∀i v,P i v->∃t,v=Value.str (val i) t) (hb:n+1<scanBound) {led:Bool} :
    ∀(k i:Nat) (s:Shared),n-i=k->i<=n->St i s->SetL prog w s.heap S (fun k'=>decide (k'∈dd val i)) (dd val i).length led->
      (∀s',Moved (S::wr) G s s'->SetL prog w s'.heap S (fun k'=>decide (k'∈dd val n)) (dd val n).length led->R (.ok (.ret .none)) s')->
      codeAny (model prog w) A (.builtin "set.update.loop" ⟨[.ref S,.ref I],[]⟩) R s:=by
  have hSw:S ∉ wr:=fun h=>hSf (W.sub _ h)
  have hsub:∀b∈wr,b∈S::wr:=fun b hb=>List.mem_cons_of_mem _ hb
  intro k
  induction k with
  | zero=>
    intro i s hk hi hst hS hR
    have hin:i=n:=by omega
    subst hin
    refine codeAny_builtin PyProof.Rows.F.entry_set_update_loop ?_
    rw[Around.under_plainId PyProof.Rows.F.plain_set_update_loop _]
    show wpAny _ A.in1 (pyNext (.ref I) >>= _) _ _ s
    refine wpAny_bind (W.done s _ _ hst fun s' hm=>?_)
    show wpAny _ A.in1 (ret Value.none) _ _ s'
    exact wpAny_pure (hR s' (hm.mono hsub) (hS.keep fun o ho=>hm.heap S _ hSw ho))
  | succ k ih=>
    intro i s hk hi hst hS hR
    have hlt:i<n:=by omega
    refine codeAny_builtin PyProof.Rows.F.entry_set_update_loop ?_
    rw[Around.under_plainId PyProof.Rows.F.plain_set_update_loop _]
    show wpAny _ A.in1 (pyNext (.ref I) >>= _) _ _ s
    refine wpAny_bind (W.item i s _ _ hlt hst fun v s' hP hst' hm=>?_)
    obtain⟨t,rfl⟩:=hval i v hP
    have hS':SetL prog w s'.heap S (fun k'=>decide (k'∈dd val i)) (dd val i).length led:=hS.keep fun o ho=>hm.heap S _ hSw ho
    show wpAny _ A.in1 (holding [Value.str (val i) t] (setAdd S (.str (val i) t)) >>= _) _ _ s'
    refine wpAny_bind (wpAny_holding ?_)
    unfold setAdd
    refine wpAny_holding ?_
    refine wpAny_bind ((strKind prog w).pyHash (k:=val i) (strKind_is _ _ _ _) ?_)
    have hroom:(dd val i).length+1<scanBound:=by have:=zo1 val i;omega
    refine addL (s:={ s' with toks:=s'.toks+1 }) hS' hroom fun h' hsb hS2=>?_
    have hSi:SetL prog w h' S (fun k'=>decide (k'∈dd val (i+1))) (dd val (i+1)).length led:=by
      refine hS2.congr (fun k'=>?_) ?_
      · rw[Bool.eq_iff_iff,Bool.or_eq_true,decide_eq_true_eq,decide_eq_true_eq,decide_eq_true_eq]
        show _↔k'∈(if val i∈dd val i then dd val i else dd val i++[val i])
        split
        · next h=>exact⟨fun z=>z.elim id fun e=>e▸h,.inl⟩
        · rw[List.mem_append];simp
      · show _=(if val i∈dd val i then dd val i else dd val i++[val i]).length
        by_cases c:val i∈dd val i
        · rw[if_pos c,if_pos (decide_eq_true c)]
        · rw[if_neg c,if_neg (fun z=>c (of_decide_eq_true z)),List.length_append];rfl
    refine wpAny_pure ⟨plainId_quiet PyProof.Rows.F.plain_set_update_loop _,ih (i+1) _ (by omega) hlt (W.frame _ s' _ _ hst' (Nat.le_succ _) fun b hb o e=>?_) hSi fun s'' hm'' hS''=>?_⟩
    · rw[hsb.2 b (fun h:b=S=>hSf (by rw[←h];exact hb))];exact e
    · refine hR s'' (Moved.trans W.gtrans ((hm.mono hsub).then_heap (Nat.le_succ _) fun b o hb e=>?_) hm'') hS''
      rw[hsb.2 b (fun h:b=S=>hb (by rw[h];exact List.mem_cons_self))];exact e
end
section
variable {prog:Program}{w:World}{A:Around}{E:Value->Shared->Prop}{s:Shared}
def ledW (w:World):Bool:=!(w.params.followText "set-order")
theorem zud (a:Value) {Q₁:Value->Shared->Prop}
    (h:Q₁ (.ref s.heap.objs.size) { s with heap:=s.heap.push { cls:=.type "set",dict:=none,data:=.set #[] 0 (.fresh 0 0 (ledW w)) } }) :
    codeAny (model prog w) A (.call (.builtin "set.__new__") ⟨[.type "set",a],[]⟩) (wants Q₁ E) s:=by
  refine codeAny_of_tree ?_
  show wpAny _ A.in1 (do checkBuiltinCall "set.__new__" ⟨[.type "set",a],[]⟩;again (.builtin "set.__new__" ⟨[.type "set",a],[]⟩)) _ _ s
  refine wpAny_bind (wpAny_of_eq (PySem.F.newCall_set_1 a) (wpAny_pure ⟨plainId_quiet PySem.F.plain_set_new _,codeAny_builtin PySem.F.entry_set_new ?_⟩))
  rw[Around.under_plainId PySem.F.plain_set_new _]
  unfold Builtin.«set.__new__» Builtin.Frozenset.newClass
  have hsub:=sub_set_self
  obtain⟨hp,g,d,tk,os⟩:=s
  dsimp only
  wp_walk
  refine wpAny_askSetting (wpAny_pure ?_)
  dsimp only
  simp only [newObj]
  refine wpAny_bind (wpAny_alloc (wpAny_pure ?_))
  exact wpAny_pure h
end
section
variable {prog:Program}{w:World}{A:Around}{E:Value->Shared->Prop}{s:Shared}
set_option maxHeartbeats 3200000 in
theorem zkc {l:Addr}{items:Array Value}{val:Nat->Str}{Q:Value->Shared->Prop}(hh:A.handled=none) (hl:s.heap.IsList l items) (hval:∀(i:Nat) (v:Value),items[i]? = some v->∃t,v=Value.str (val i) t) (hb:items.size+1<scanBound)
    (h:∀(h':Heap) (tk:Nat),SetL prog w h' s.heap.objs.size (fun k'=>decide (k'∈dd val items.size)) (dd val items.size).length (ledW w)->
      (∀b o,b<s.heap.objs.size->s.heap.get? b=some o->h'.get? b=some o)->Q (.ref s.heap.objs.size) { s with heap:=h',toks:=tk }) :
    wpAny (model prog w) A (call (.type "set") [.ref l]) Q E s:=by
  obtain⟨c,tl,hmro⟩:=PySem.F.called_set.mro
  have hmade:=PySem.F.called_set.made
  have hsub:=PySem.F.called_set.sub
  refine wpAny_call (codeAny_of_tree ?_)
  show wpAny _ _ (callAny (.type "set") _) _ _ _
  refine wpAny_pure ⟨Code.quiet_builtin _ (by decide +kernel),codeAny_builtin PySem.F.entry_type_call ?_⟩
  rw[Around.under_plain (weight_type_call_type "set" [.ref l] []) rfl]
  have h1:=PySem.F.called_set.notType
  have h2:=PySem.F.called_set.canCreate
  have hct:=PySem.F.typeCall_set_1 (.ref l)
  repeat (any_goals (first | assumption | wp_step))
  refine codeAny_mono (zud (.ref l) (E:=E) (Q₁:=fun obj s₁=>obj = .ref s.heap.objs.size/\s₁ = { s with heap:=s.heap.push { cls:=.type "set",dict:=none,data:=.set #[] 0 (.fresh 0 0 (ledW w)) } }) ⟨rfl,rfl⟩) fun r s₁ hr=>?_
  cases r with
  | error e=>exact hr
  | ok fl=>
    cases fl with
    | ret obj=>
      obtain⟨rfl,rfl⟩:=hr
      have hS:(s.heap.push { cls:=.type "set",dict:=none,data:=.set #[] 0 (.fresh 0 0 (ledW w)) }).get? s.heap.objs.size=some { cls:=.type "set",dict:=none,data:=.set #[] 0 (.fresh 0 0 (ledW w)) }:=Heap.get?_push_size _ rfl
      have hT:Shared.TypeIs { s with heap:=s.heap.push { cls:=.type "set",dict:=none,data:=.set #[] 0 (.fresh 0 0 (ledW w)) } } (.ref s.heap.objs.size) "set":=⟨_,hS,rfl⟩
      have hli:=PySem.F.called_set.init.lookup
      have hbi:=PySem.F.called_set.init.bind (.ref s.heap.objs.size)
      repeat (any_goals (first | assumption | wp_step))
      refine codeAny_mono (codeAny_call_builtin (R:=wants (fun r s₂=>r = .none/\∃h' tk,s₂ = { s with heap:=h',toks:=tk }/\
          SetL prog w h' s.heap.objs.size (fun k'=>decide (k'∈dd val items.size)) (dd val items.size).length (ledW w)/\
          (∀b o,b<s.heap.objs.size->s.heap.get? b=some o->h'.get? b=some o)) E) PySem.F.called_set.init.plain PySem.F.entry_set_init (check_set_init_1 hT ?_)) fun r₂ s₂ hr₂=>?_
      · obtain⟨ol,hol,hcl,nl,hdl⟩:=hl
        obtain⟨ocls,odict,odata,oslots⟩:=ol
        simp only at hcl hdl
        subst hcl;subst hdl
        have hol':(s.heap.push { cls:=.type "set",dict:=none,data:=.set #[] 0 (.fresh 0 0 (ledW w)) }).get? l=some { cls:=.type "list",dict:=odict,data:=.seq items nl,slots:=oslots }:=Heap.get?_push_of_some _ hol
        have hsls:=PySem.F.sub_list_set
        have hslf:=PySem.F.sub_list_frozenset
        have hne:(Value.type "list" == Value.type "dict")=false:=by decide
        have hl1:(s.heap.push { cls:=.type "set",dict:=none,data:=.set #[] 0 (.fresh 0 0 (ledW w)) }).IsList l items:=⟨_,hol',rfl,nl,rfl⟩
        unfold Builtin.«set.__init__» noKeywords Builtin.Frozenset.updateFrom
        generalize hPI:pyIter=PI
        wp_walk
        subst hPI
        refine wpAny_pyIter_list hl1 ?_
        refine wpAny_bind (wpAny_runValue ?_)
        have hlS:l<s.heap.objs.size:=Heap.lt_size hol
        have hh3:A.in1.in1.in1.handled=none:=by simp[hh]
        have hneI:l≠(s.heap.push { cls:=.type "set",dict:=none,data:=.set #[] 0 (.fresh 0 0 (ledW w)) }).objs.size:=by
          rw[Heap.size_push];exact Nat.ne_of_lt (Nat.lt_succ_of_lt hlS)
        have hSf:s.heap.objs.size ∉ [(s.heap.push { cls:=.type "set",dict:=none,data:=.set #[] 0 (.fresh 0 0 (ledW w)) }).objs.size,l]:=by
          rw[Heap.size_push];simp only [List.mem_cons,List.mem_singleton,List.not_mem_nil,or_false,not_or]
          exact⟨Nat.ne_of_lt (Nat.lt_succ_self _),Nat.ne_of_gt hlS⟩
        refine zxg ((Walks.list hh3 _ l hneI items).toS) s.heap.objs.size hSf val hval hb (led:=ledW w) (items.size-0) 0 _ (by omega) (Nat.zero_le _)
          ⟨⟨_,Heap.get?_push_size _ rfl,rfl,rfl⟩,(hl1.push _)⟩ ?hS0 ?hR
        case hS0=>
          have hget:((s.heap.push { cls:=.type "set",dict:=none,data:=.set #[] 0 (.fresh 0 0 (ledW w)) }).push { cls:=.type "list_iterator",data:=.fields #[.ref l,.int 0 0] }).get? s.heap.objs.size
              = some { cls:=.type "set",dict:=none,data:=.set #[] 0 (.fresh 0 0 (ledW w)) }:=Heap.get?_push_of_some _ hS
          exact⟨_,#[],0,_,hget,⟨rfl,rfl,rfl⟩,rfl,fun e he=>by simp at he,fun k=>by simp[dd],by decide,by rfl,rfl,rfl,fun z=>absurd rfl z⟩
        case hR=>
          intro s' hm hS'
          obtain⟨h',g',d',tk',os'⟩:=s'
          have eg:g'=s.gens:=hm.gens
          have ed:d'=s.drawn:=hm.drawn
          have eo:os'=s.os:=hm.os
          subst eg;subst ed;subst eo
          show wpAny _ _ _ _ _ _
          refine wpAny_pure ?_
          show wpAny _ _ (ret Value.none) _ _ _
          refine wpAny_pure ⟨rfl,h',tk',rfl,hS',fun b o hb e=>?_⟩
          have hb1:b≠s.heap.objs.size:=Nat.ne_of_lt hb
          have hb2:b≠(s.heap.push { cls:=.type "set",dict:=none,data:=.set #[] 0 (.fresh 0 0 (ledW w)) }).objs.size:=by
            rw[Heap.size_push];exact Nat.ne_of_lt (Nat.lt_succ_of_lt hb)
          exact hm.heap b o (by simp only [List.mem_cons,List.mem_singleton,List.not_mem_nil,or_false,not_or];exact⟨hb1,hb2⟩) (Heap.get?_push_of_some _ (Heap.get?_push_of_some _ e))
      · cases r₂ with
        | error e=>exact hr₂
        | ok fl₂=>
          cases fl₂ with
          | ret r=>
            obtain⟨rfl,h',tk,rfl,hS',hk'⟩:=hr₂
            repeat (any_goals (first | assumption | wp_step))
            exact h _ _ hS' hk'
          | _=>exact hr₂.elim
    | _=>exact hr.elim
end
theorem slot_seti_next:Slot "set_iterator" "__next__" "set_iterator.__next__":=
  .of (owner:="set_iterator") (n:="__next__") (by rw[typeLookup_type,builtinLookup_eq_fast];kernel_rfl) (by decide +kernel) (by decide +kernel) (by decide +kernel)
    (by first | exact .inl (by decide +kernel) | exact .inr (by decide +kernel)) (by rw[isSubtype_type];kernel_rfl)
theorem zbj:entryFor table "set_iterator.__next__" = some Builtin.«set_iterator.__next__»:=entryFor_of_tree (by kernel_rfl)
theorem zbo (a:Value):argsOk "set_iterator.__next__" ⟨[a],[]⟩:=by unfold argsOk;kernel_rfl
theorem zc9:Slot "set_iterator" "__iter__" "set_iterator.__iter__":=
  .of (owner:="set_iterator") (n:="__iter__") (by rw[typeLookup_type,builtinLookup_eq_fast];kernel_rfl) (by decide +kernel) (by decide +kernel) (by decide +kernel)
    (by first | exact .inl (by decide +kernel) | exact .inr (by decide +kernel)) (by rw[isSubtype_type];kernel_rfl)
theorem zfh:entryFor table "set_iterator.__iter__" = some Builtin.«dict_keyiterator.__iter__»:=entryFor_alias (id':="dict_keyiterator.__iter__") (by kernel_rfl) rfl (by decide +kernel) (by kernel_rfl)
theorem zfw (a:Value):argsOk "set_iterator.__iter__" ⟨[a],[]⟩:=by unfold argsOk;kernel_rfl
theorem zfx:entryFor table "set.__iter__" = some Builtin.«frozenset.__iter__»:=entryFor_alias (id':="frozenset.__iter__") (by kernel_rfl) rfl (by decide +kernel) (by kernel_rfl)
theorem zek {α:Type}:∀(l:List α) (i:Nat) (h:i<l.length),(l[i]::l.eraseIdx i).Perm l
  | a::r,0,_=>.refl _
  | a::r,i+1,h=>by
    have ih:=zek r i (Nat.lt_of_succ_lt_succ h)
    show (r[i]'(Nat.lt_of_succ_lt_succ h)::a::r.eraseIdx i).Perm (a::r)
    exact (List.Perm.swap a _ _).trans (ih.cons a)
section
variable {prog:Program}{w:World}{A:Around}{E:Value->Shared->Prop}{s:Shared}
theorem zo2 {M:Model}{src:Source}{n:Nat}{Q:Nat->Shared->Prop}(hn:n≠0) (h:∀i d,i<n->Q i { s with drawn:=d }):wpAny M A (choose src n) Q E s:=
  fun _ _ _=>⟨hn,h _ _ (Nat.mod_lt _ (Nat.pos_of_ne_zero hn))⟩
theorem zev {α:Type}:∀(n:Nat) (xs:List α) (s:Shared) (Q:List α->Shared->Prop),xs.length=n->(∀ys d,ys.Perm xs->Q ys { s with drawn:=d })->wpAny (model prog w) A (drawOrder n xs) Q E s
  | 0,xs,s,Q,hl,h=>by
    have e:xs = []:=List.length_eq_zero_iff.mp hl
    subst e
    exact wpAny_pure (by have:=h [] s.drawn .nil;cases s;exact this)
  | n+1,[],s,Q,hl,h=>by cases hl
  | n+1,a::r,s,Q,hl,h=>by
    show wpAny (model prog w) A (do
      let i ←choose .order (a::r).length
      match (a::r)[i]? with
      | some x=>return x::(←drawOrder n ((a::r).eraseIdx i))
      | none=>unsupported "internal:drawOrder") Q E s
    refine wpAny_bind (zo2 (by simp) fun i d hi=>?_)
    have e:(a::r)[i]? = some (a::r)[i]:=List.getElem?_eq_getElem hi
    rw[e]
    dsimp only
    refine wpAny_bind (zev n _ _ _ (by rw[List.length_eraseIdx_of_lt hi];omega) fun ys d2 p=>wpAny_pure ?_)
    exact h _ d2 ((List.Perm.cons _ p).trans (zek _ i hi))
end
def zbg (ps:List Nat):Array Value:=(ps.map fun (i:Nat)=>rawInt i).toArray
def zb8 (first:Value) (i:Nat) (a:Addr) (n ep:Nat):Obj:={ cls:=.type "set_iterator",data:=.fields #[first,.int i 0,.ref a,.int n 0,.int ep 0] }
def SIter (h:Heap) (I:Addr) (first:Value) (i:Nat) (a:Addr) (n ep:Nat):Prop:=∃o,h.get? I=some o/\o.cls = .type "set_iterator"/\o.data = .fields #[first,.int i 0,.ref a,.int n 0,.int ep 0]
structure RawS (h:Heap) (a:Addr) (es:Array (Int×Value)) (ep:Nat) (t:SetTable):Prop where
  ex:∃o,h.get? a=some o/\o.ExactSet/\o.data = .set es ep t
  fits:t.fits es.size=true
theorem RawS.at {h h':Heap}{a:Addr}{es:Array (Int×Value)}{ep:Nat}{t:SetTable}(r:RawS h a es ep t) (k:∀o,h.get? a=some o->h'.get? a=some o):RawS h' a es ep t:=
  let ⟨⟨o,h1,h2⟩,h3⟩:=r;⟨⟨o,k o h1,h2⟩,h3⟩
theorem SIter.typeIs {s:Shared}{I:Addr}{first:Value}{i:Nat}{a:Addr}{n ep:Nat}(q:SIter s.heap I first i a n ep):s.TypeIs (.ref I) "set_iterator":=let ⟨o,h1,h2,_⟩:=q;⟨o,h1,h2⟩
section
variable {prog:Program}{w:World}{A:Around}{E:Value->Shared->Prop}{s:Shared}
def zio (w:World) (es:Array (Int×Value)) (t:SetTable):Bool:=!(w.params.followText "set-order")&&(!t.plain&&decide (es.size > 1))
theorem zrm {a:Addr}{es:Array (Int×Value)}{ep:Nat}{t:SetTable}{Q:Value->Shared->Prop}(hr:RawS s.heap a es ep t) (hz:es.size<=sizeLine)
    (hT:zio w es t=false->Q (.ref s.heap.objs.size) { s with heap:=s.heap.push (zb8 (.int 0 0) 0 a es.size ep) })
    (hD:zio w es t=true->∀(ps:List Nat) (d:Drawn),ps.Perm (List.range es.size)->Q (.ref (s.heap.push { cls:=.type "tuple",data:=.seq (zbg ps) }).objs.size)
      { s with heap:=(s.heap.push { cls:=.type "tuple",data:=.seq (zbg ps) }).push (zb8 (.ref s.heap.objs.size) 0 a es.size ep),drawn:=d }):wpAny (model prog w) A (pyIter (.ref a)) Q E s:=by
  obtain⟨⟨o,ho,hex,hd⟩,hf⟩:=id hr
  have T:s.TypeIs (.ref a) "set":=⟨o,ho,hex.1⟩
  refine wpAny_pyIter_slot T PySem.F.slot_set_iter (wpAny_call_entry PySem.F.slot_set_iter T zfx ?_ (PySem.F.args_set_iter_1 _))
  unfold Builtin.«frozenset.__iter__»
  refine wpAny_bind ?_
  show wpAny (model prog w) _ (pure a) _ _ s
  refine wpAny_pure ?_
  refine wpAny_bind ?_
  unfold Builtin.Frozenset.sizeOf
  refine wpAny_bind (wpAny_setEntries_of ho hd hf (wpAny_pure ?_))
  refine wpAny_bind ?_
  unfold setDrawn
  refine wpAny_bind (wpAny_setState_of ho hd hf ?_)
  unfold setsByText
  refine wpAny_bind (wpAny_bind (wpAny_askSetting (wpAny_pure ?_)))
  refine wpAny_pure ?_
  show wpAny (model prog w) _ (if zio w es t=true then _ else _) _ _ s
  cases hb:zio w es t with
  | false=>
    rw[if_neg Bool.false_ne_true]
    refine wpAny_bind (wpAny_pure ?_)
    refine wpAny_bind (wpAny_setEpoch_of ho hd hf ?_)
    exact wpAny_bind (wpAny_newObj_type (wpAny_pure ⟨_,rfl,"set_iterator",_,⟨_,Heap.get?_push_size _ rfl,rfl⟩,slot_seti_next.lookup,hT hb⟩))
  | true=>
    rw[if_pos rfl]
    refine wpAny_bind (zev _ _ _ _ (by simp) fun ps d p=>?_)
    have hl:ps.length=es.size:=by rw[p.length_eq,List.length_range]
    refine wpAny_bind (m:=newTuple (ps.map fun (i:Nat)=>rawInt i)) ?_
    refine wpAny_newObj_type ?_ (by show (ps.map fun (i:Nat)=>rawInt i).toArray.size<=sizeLine;rw[List.size_toArray,List.length_map,hl];exact hz)
    have ho2:(s.heap.push { cls:=.type "tuple",data:=.seq (ps.map fun (i:Nat)=>rawInt i).toArray }).get? a=some o:=Heap.get?_push_of_some _ ho
    refine wpAny_bind (wpAny_setEpoch_of (s:={ s with heap:=s.heap.push { cls:=.type "tuple",data:=.seq (ps.map fun (i:Nat)=>rawInt i).toArray },drawn:=d }) ho2 hd hf ?_)
    exact wpAny_bind (wpAny_newObj_type (wpAny_pure ⟨_,rfl,"set_iterator",_,⟨_,Heap.get?_push_size _ rfl,rfl⟩,slot_seti_next.lookup,hD hb ps d p⟩))
end
theorem zo3 {α:Type}(next:Nat->Nat):∀(fuel k:Nat) (left:List α) (out:Array α),left.length=fuel->(pickOrder.go next fuel k left out).toList.Perm (out.toList++left)
  | 0,k,left,out,h=>by
    have e:left = []:=List.length_eq_zero_iff.mp h
    subst e
    unfold pickOrder.go
    rw[List.append_nil]
  | fuel+1,k,left,out,h=>by
    have hl:next k%left.length<left.length:=Nat.mod_lt _ (by omega)
    unfold pickOrder.go
    rw[List.getElem?_eq_getElem hl]
    refine (zo3 next fuel (k+1) _ _ (by rw[List.length_eraseIdx_of_lt hl];omega)).trans ?_
    rw[Array.toList_push,List.append_assoc]
    exact List.Perm.append_left _ (zek left _ hl)
theorem zd1 {α:Type}(next:Nat->Nat) (xs:Array α):(pickOrder next xs).toList.Perm xs.toList:=by
  have:=zo3 next xs.size 0 xs.toList #[] (by simp)
  unfold pickOrder
  simpa using this
section
variable {prog:Program}{w:World}{A:Around}{E:Value->Shared->Prop}{s:Shared}
theorem zg3 {h:Heap}{I:Addr}{o:Obj}{vs:Array Value}(ho:h.get? I=some o) (hd:o.data = .fields vs) (j:Nat) (v:Value) :
    (h.update I (Obj.mapFields (·.setIfInBounds j v))).get? I=some (Obj.mapFields (·.setIfInBounds j v) o)/\(Obj.mapFields (·.setIfInBounds j v) o).data = .fields (vs.setIfInBounds j v)/\(Obj.mapFields (·.setIfInBounds j v) o).cls=o.cls:=
  ⟨Heap.get?_update_self _ ho (Obj.isFreed_of_fields (Obj.data_mapFields hd _)),Obj.data_mapFields hd _,Obj.cls_mapFields ..⟩
theorem ziq {I a:Addr}{slot nx i ep:Nat}{es:Array (Int×Value)}{t:SetTable}{x:Value}{Q:Option Value->Shared->Prop}(hit:SIter s.heap I (.int slot 0) i a es.size ep) (hr:RawS s.heap a es ep t)
    (hn:∀{A':Around}{E':Value->Shared->Prop}{Q':Option (Value×Nat)->Shared->Prop},Q' (some (x,nx)) s->wpAny (model prog w) A' (setNext a slot i ep) Q' E' s)
    (hQ:∀h1,SIter h1 I (.int nx 0) (i+1) a es.size ep->Heap.SameBut I s.heap h1->Q (some x) { s with heap:=h1 }):wpAny (model prog w) A (pyNext (.ref I)) Q E s:=by
  obtain⟨o,ho,hc,hd⟩:=id hit
  obtain⟨⟨os,hos,hex,hds⟩,hf⟩:=id hr
  unfold pyNext
  refine wpAny_bind (wpAny_attempt (wpAny_callSpecial?_slot (name:=Str.ofString "__next__") hit.typeIs slot_seti_next (wpAny_call_entry slot_seti_next hit.typeIs zbj ?_ (zbo _))))
  unfold Builtin.«set_iterator.__next__»
  refine wpAny_bind (wpAny_pure (wpAny_bind (wpAny_fieldsOf ho hd ?_)))
  show wpAny (model prog w) _ (setEntries a >>= _) _ _ s
  refine wpAny_bind (wpAny_setEntries_of hos hds hf ?_)
  rw[if_neg (by simp)]
  show wpAny (model prog w) _ (setNext a slot i ep >>= _) _ _ s
  refine wpAny_bind (hn ?_)
  show wpAny (model prog w) _ (setField (.ref I) 0 (rawInt (nx:Int)) >>= _) _ _ s
  refine wpAny_bind (wpAny_setField ho hd (by simp) ?_)
  obtain⟨g1,g2,g3⟩:=zg3 ho hd 0 (rawInt (nx:Int))
  show wpAny (model prog w) _ (setField (.ref I) 1 (rawInt ((i:Int)+1)) >>= _) _ _ _
  refine wpAny_bind (wpAny_setField g1 g2 (by simp) ?_)
  obtain⟨k1,k2,k3⟩:=zg3 g1 g2 1 (rawInt ((i:Int)+1))
  refine wpAny_pure ⟨_,rfl,wpAny_pure (hQ _ ⟨_,k1,k3.trans (g3.trans hc),?_⟩ ((Heap.SameBut.update ..).trans (Heap.SameBut.update ..)))⟩
  rw[k2]
  simp[rawInt]
theorem zlu {I a:Addr}{slot i ep:Nat}{es:Array (Int×Value)}{t:SetTable}{Q:Option Value->Shared->Prop}(hh:A.handled=none) (hit:SIter s.heap I (.int slot 0) i a es.size ep) (hr:RawS s.heap a es ep t)
    (hn:∀{A':Around}{E':Value->Shared->Prop}{Q':Option (Value×Nat)->Shared->Prop},Q' none s->wpAny (model prog w) A' (setNext a slot i ep) Q' E' s)
    (hQ:∀h1,Heap.ExtBut I s.heap h1->Q none { s with heap:=h1 }):wpAny (model prog w) A (pyNext (.ref I)) Q E s:=by
  obtain⟨o,ho,hc,hd⟩:=id hit
  obtain⟨⟨os,hos,hex,hds⟩,hf⟩:=id hr
  unfold pyNext
  refine wpAny_bind (wpAny_attempt (wpAny_callSpecial?_slot (name:=Str.ofString "__next__") hit.typeIs slot_seti_next (wpAny_call_entry slot_seti_next hit.typeIs zbj ?_ (zbo _))))
  unfold Builtin.«set_iterator.__next__»
  refine wpAny_bind (wpAny_pure (wpAny_bind (wpAny_fieldsOf ho hd ?_)))
  show wpAny (model prog w) _ (setEntries a >>= _) _ _ s
  refine wpAny_bind (wpAny_setEntries_of hos hds hf ?_)
  rw[if_neg (by simp)]
  show wpAny (model prog w) _ (setNext a slot i ep >>= _) _ _ s
  refine wpAny_bind (hn ?_)
  show wpAny (model prog w) _ (setField (.ref I) 2 .none >>= _) _ _ s
  refine wpAny_bind (wpAny_setField ho hd (by simp) ?_)
  show wpAny (model prog w) _ (newExc (.type "StopIteration") [] >>= _) _ _ _
  refine wpAny_bind ?_
  simp only [newExc,newTuple]
  refine wpAny_bind (wpAny_newObj_type (wpAny_bind (m:=firstArgMember _ _) (wpAny_of_eq (a:=Value.none) (by first | rfl | (simp only [firstArgMember];rfl)) (wpAny_newObj_type ?_ (by size_fits)))) (by size_fits))
  simp only [raiseNew]
  refine wpAny_bind (wpAny_handled ?_)
  rw[show A.in1.handled=none from hh]
  refine wpAny_bind (wpAny_pure (wpAny_throw ?_))
  exact wpAny_bind (wpAny_isInstance (T:="StopIteration") (b:=true) ⟨_,Heap.get?_push_size _ rfl,rfl⟩ isSubtype_stop (wpAny_pure (hQ _ (((Heap.SameBut.update ..).extBut.push _).push _))))
theorem zir {a:Addr}{slot i ep:Nat}{es:Array (Int×Value)}{t:SetTable}(hw:w.params.followText "set-order" = true) (hr:RawS s.heap a es ep t)
    {A':Around}{E':Value->Shared->Prop}{Q':Option (Value×Nat)->Shared->Prop}(hQ:Q' (((pickOrder (w.params.setOrder a ep) es)[i]?).map fun e=>(e.2,slot)) s):wpAny (model prog w) A' (setNext a slot i ep) Q' E' s:=by
  obtain⟨⟨os,hos,hex,hds⟩,hf⟩:=id hr
  unfold setNext
  refine wpAny_bind (wpAny_setState_of hos hds hf ?_)
  unfold setsByText
  refine wpAny_bind (wpAny_bind (wpAny_askSetting (wpAny_pure ?_)))
  show wpAny (model prog w) _ (if w.params.followText "set-order" = true then _ else _) _ _ s
  rw[if_pos hw,if_neg (by simp)]
  refine wpAny_bind ?_
  unfold setWalk
  refine wpAny_bind (wpAny_setState_of hos hds hf ?_)
  unfold setsByText
  refine wpAny_bind (wpAny_bind (wpAny_askSetting (wpAny_pure ?_)))
  show wpAny (model prog w) _ (if w.params.followText "set-order" = true then _ else _) _ _ s
  rw[if_pos hw]
  refine wpAny_bind (wpAny_askSetting (wpAny_pure ?_))
  exact wpAny_pure hQ
theorem zlv {a:Addr}{slot i ep:Nat}{es:Array (Int×Value)}{t:SetTable}(hw:w.params.followText "set-order" = false) (hr:RawS s.heap a es ep t) (hl:t.led=true) (h1:es.size<=1)
    {A':Around}{E':Value->Shared->Prop}{Q':Option (Value×Nat)->Shared->Prop}(hQ:Q' (match es[SetTable.below t.place slot]?,t.place[SetTable.below t.place slot]? with | some (_,x),some j=>some (x,j+1) | _,_=>none) s):wpAny (model prog w) A' (setNext a slot i ep) Q' E' s:=by
  obtain⟨⟨os,hos,hex,hds⟩,hf⟩:=id hr
  unfold setNext
  refine wpAny_bind (wpAny_setState_of hos hds hf ?_)
  unfold setsByText
  refine wpAny_bind (wpAny_bind (wpAny_askSetting (wpAny_pure ?_)))
  show wpAny (model prog w) _ (if w.params.followText "set-order" = true then _ else _) _ _ s
  rw[hw,if_neg Bool.false_ne_true]
  show wpAny (model prog w) _ (if (!t.plain&&decide (es.size > 1))=true then _ else _) _ _ s
  rw[decide_eq_false (by omega),Bool.and_false,if_neg Bool.false_ne_true]
  refine wpAny_bind ?_
  show wpAny (model prog w) _ (if (!t.led && !es.isEmpty)=true then _ else _) _ _ s
  rw[hl]
  show wpAny (model prog w) _ (if (false && !es.isEmpty)=true then _ else _) _ _ s
  rw[Bool.false_and,if_neg Bool.false_ne_true]
  exact wpAny_pure (wpAny_pure hQ)
end
section
variable {prog:Program}{w:World}{A:Around}{E:Value->Shared->Prop}{s:Shared}
theorem zmj {I a T:Addr}{i ep j:Nat}{es:Array (Int×Value)}{t:SetTable}{e:Int×Value}{ps:List Nat}{Q:Option Value->Shared->Prop}(hit:SIter s.heap I (.ref T) i a es.size ep) (hr:RawS s.heap a es ep t)
    (ht:s.heap.IsTuple T (zbg ps)) (hp:ps[i]? = some j) (he:es[j]? = some e)
    (hQ:∀h1,SIter h1 I (.ref T) (i+1) a es.size ep->Heap.SameBut I s.heap h1->Q (some e.2) { s with heap:=h1 }):wpAny (model prog w) A (pyNext (.ref I)) Q E s:=by
  obtain⟨o,ho,hc,hd⟩:=id hit
  obtain⟨⟨os,hos,hex,hds⟩,hf⟩:=id hr
  obtain⟨ot,hot,hct,nt,hdt⟩:=id ht
  unfold pyNext
  refine wpAny_bind (wpAny_attempt (wpAny_callSpecial?_slot (name:=Str.ofString "__next__") hit.typeIs slot_seti_next (wpAny_call_entry slot_seti_next hit.typeIs zbj ?_ (zbo _))))
  unfold Builtin.«set_iterator.__next__»
  refine wpAny_bind (wpAny_pure (wpAny_bind (wpAny_fieldsOf ho hd ?_)))
  show wpAny (model prog w) _ (setEntries a >>= _) _ _ s
  refine wpAny_bind (wpAny_setEntries_of hos hds hf ?_)
  rw[if_neg (by simp)]
  show wpAny (model prog w) _ (seqItems? (.ref T) >>= _) _ _ s
  refine wpAny_bind (wpAny_seqItems hot hdt ?_)
  have e1:(zbg ps)[(i:Int).toNat]? = some (rawInt (j:Int)):=by
    show (ps.map fun (i:Nat)=>rawInt i).toArray[i]? = _
    simp[hp]
  show wpAny (model prog w) _ (match (zbg ps)[(i:Int).toNat]? with | some (.int place _)=>_ | some _=>_ | none=>_) _ _ s
  rw[e1]
  show wpAny (model prog w) _ (setNextDrawn a j ep >>= _) _ _ s
  refine wpAny_bind ?_
  unfold setNextDrawn
  refine wpAny_bind (wpAny_setState_of hos hds hf ?_)
  dsimp only
  rw[if_neg (by simp),he]
  refine wpAny_pure ?_
  show wpAny (model prog w) _ (setField (.ref I) 1 (rawInt ((i:Int)+1)) >>= _) _ _ s
  refine wpAny_bind (wpAny_setField ho hd (by simp) ?_)
  obtain⟨g1,g2,g3⟩:=zg3 ho hd 1 (rawInt ((i:Int)+1))
  refine wpAny_pure ⟨_,rfl,wpAny_pure (hQ _ ⟨_,g1,g3.trans hc,?_⟩ (Heap.SameBut.update ..))⟩
  rw[g2]
  simp[rawInt]
theorem zo4 {I a T:Addr}{i ep:Nat}{es:Array (Int×Value)}{t:SetTable}{ps:List Nat}{Q:Option Value->Shared->Prop}(hh:A.handled=none) (hit:SIter s.heap I (.ref T) i a es.size ep) (hr:RawS s.heap a es ep t)
    (ht:s.heap.IsTuple T (zbg ps)) (hp:ps[i]? = none) (hQ:∀h1,Heap.ExtBut I s.heap h1->Q none { s with heap:=h1 }):wpAny (model prog w) A (pyNext (.ref I)) Q E s:=by
  obtain⟨o,ho,hc,hd⟩:=id hit
  obtain⟨⟨os,hos,hex,hds⟩,hf⟩:=id hr
  obtain⟨ot,hot,hct,nt,hdt⟩:=id ht
  unfold pyNext
  refine wpAny_bind (wpAny_attempt (wpAny_callSpecial?_slot (name:=Str.ofString "__next__") hit.typeIs slot_seti_next (wpAny_call_entry slot_seti_next hit.typeIs zbj ?_ (zbo _))))
  unfold Builtin.«set_iterator.__next__»
  refine wpAny_bind (wpAny_pure (wpAny_bind (wpAny_fieldsOf ho hd ?_)))
  show wpAny (model prog w) _ (setEntries a >>= _) _ _ s
  refine wpAny_bind (wpAny_setEntries_of hos hds hf ?_)
  rw[if_neg (by simp)]
  show wpAny (model prog w) _ (seqItems? (.ref T) >>= _) _ _ s
  refine wpAny_bind (wpAny_seqItems hot hdt ?_)
  have e1:(zbg ps)[(i:Int).toNat]? = none:=by
    show (ps.map fun (i:Nat)=>rawInt i).toArray[i]? = _
    simp[hp]
  show wpAny (model prog w) _ (match (zbg ps)[(i:Int).toNat]? with | some (.int place _)=>_ | some _=>_ | none=>_) _ _ s
  rw[e1]
  show wpAny (model prog w) _ (setField (.ref I) 0 (rawInt 0) >>= _) _ _ s
  refine wpAny_bind (wpAny_setField ho hd (by simp) ?_)
  obtain⟨g1,g2,g3⟩:=zg3 ho hd 0 (rawInt 0)
  show wpAny (model prog w) _ (setField (.ref I) 2 .none >>= _) _ _ _
  refine wpAny_bind (wpAny_setField g1 g2 (by simp) ?_)
  show wpAny (model prog w) _ (newExc (.type "StopIteration") [] >>= _) _ _ _
  refine wpAny_bind ?_
  simp only [newExc,newTuple]
  refine wpAny_bind (wpAny_newObj_type (wpAny_bind (m:=firstArgMember _ _) (wpAny_of_eq (a:=Value.none) (by first | rfl | (simp only [firstArgMember];rfl)) (wpAny_newObj_type ?_ (by size_fits)))) (by size_fits))
  simp only [raiseNew]
  refine wpAny_bind (wpAny_handled ?_)
  rw[show A.in1.handled=none from hh]
  refine wpAny_bind (wpAny_pure (wpAny_throw ?_))
  exact wpAny_bind (wpAny_isInstance (T:="StopIteration") (b:=true) ⟨_,Heap.get?_push_size _ rfl,rfl⟩ isSubtype_stop (wpAny_pure (hQ _ ((((Heap.SameBut.update ..).trans (Heap.SameBut.update ..)).extBut.push _).push _))))
theorem zfi {I:Addr}{first:Value}{i:Nat}{a:Addr}{n ep:Nat}{Q:Value->Shared->Prop}(hit:SIter s.heap I first i a n ep) (h:Q (.ref I) s):wpAny (model prog w) A (pyIter (.ref I)) Q E s:=by
  refine wpAny_pyIter_slot hit.typeIs zc9 (wpAny_call_entry zc9 hit.typeIs zfh ?_ (zfw _))
  show wpAny _ _ (ret (.ref I)) _ _ s
  exact wpAny_pure ⟨_,rfl,"set_iterator",_,hit.typeIs,slot_seti_next.lookup,h⟩
theorem SIter.at {h h':Heap}{I:Addr}{first:Value}{i:Nat}{a:Addr}{n ep:Nat}(q:SIter h I first i a n ep) (k:∀o,h.get? I=some o->h'.get? I=some o):SIter h' I first i a n ep:=let ⟨o,h1,h2⟩:=q;⟨o,k o h1,h2⟩
theorem zv9 (hh:A.handled=none) (I a T:Addr) (ha:a≠I) (hT:T≠I) (es:Array (Int×Value)) (ep:Nat) (t:SetTable) (ps:List Nat) (hp:ps.Perm (List.range es.size)) :
    Walks prog w A I [I,a,T] [I] es.size (fun i v=>∃j e,ps[i]? = some j/\es[j]? = some e/\v=e.2) (fun i h=>SIter h I (.ref T) i a es.size ep/\RawS h a es ep t/\h.IsTuple T (zbg ps)) where
  sub:=fun b hb=>by simp at hb;simp[hb]
  frame:=fun i h h' st k=>⟨st.1.at fun o e=>k I (by simp) o e,st.2.1.at fun o e=>k a (by simp) o e,st.2.2.at fun o e=>k T (by simp) o e⟩
  item:=fun i s Q E hi st hQ=>by
    have hl:ps.length=es.size:=by rw[hp.length_eq,List.length_range]
    have e1:ps[i]? = some ps[i]:=List.getElem?_eq_getElem (by omega)
    have hj:ps[i]<es.size:=List.mem_range.mp (hp.mem_iff.mp (List.getElem_mem _))
    have e2:es[ps[i]]? = some es[ps[i]]:=Array.getElem?_eq_getElem hj
    exact zmj st.1 st.2.1 st.2.2 e1 e2 fun h1 it' hs=>hQ _ h1 s.toks ⟨_,_,e1,e2,rfl⟩ ⟨it',st.2.1.at fun o e=>(hs.2 a ha).trans e,st.2.2.at fun o e=>(hs.2 T hT).trans e⟩ fun b o hb e=>(hs.2 b (fun h=>hb (by simp[h]))).trans e
  done:=fun s Q E st hQ=>by
    have hl:ps.length=es.size:=by rw[hp.length_eq,List.length_range]
    exact zo4 hh st.1 st.2.1 st.2.2 (List.getElem?_eq_none (by omega)) fun h1 he=>hQ h1 s.toks fun b o hb e=>he b o (fun h=>hb (by simp[h])) e
  self:=fun _ _ _ _ st hQ=>zfi st.1 hQ
theorem zwa (hh:A.handled=none) (hw:w.params.followText "set-order" = true) (I a:Addr) (ha:a≠I) (es:Array (Int×Value)) (ep:Nat) (t:SetTable) :
    Walks prog w A I [I,a] [I] es.size (fun i v=>∃e,(pickOrder (w.params.setOrder a ep) es)[i]? = some e/\v=e.2) (fun i h=>SIter h I (.int 0 0) i a es.size ep/\RawS h a es ep t) where
  sub:=fun b hb=>by simp at hb;simp[hb]
  frame:=fun i h h' st k=>⟨st.1.at fun o e=>k I (by simp) o e,st.2.at fun o e=>k a (by simp) o e⟩
  item:=fun i s Q E hi st hQ=>by
    have hl:(pickOrder (w.params.setOrder a ep) es).size=es.size:=by
      have:=(zd1 (w.params.setOrder a ep) es).length_eq
      simpa using this
    have e1:(pickOrder (w.params.setOrder a ep) es)[i]? = some (pickOrder (w.params.setOrder a ep) es)[i]:=Array.getElem?_eq_getElem (by omega)
    refine ziq (slot:=0) (nx:=0) st.1 st.2 (fun hq=>zir hw st.2 (by rw[e1];exact hq)) fun h1 it' hs=>hQ _ h1 s.toks ⟨_,e1,rfl⟩ ⟨it',st.2.at fun o e=>(hs.2 a ha).trans e⟩ fun b o hb e=>(hs.2 b (fun h=>hb (by simp[h]))).trans e
  done:=fun s Q E st hQ=>by
    have hl:(pickOrder (w.params.setOrder a ep) es).size=es.size:=by
      have:=(zd1 (w.params.setOrder a ep) es).length_eq
      simpa using this
    have e1:(pickOrder (w.params.setOrder a ep) es)[es.size]? = none:=Array.getElem?_eq_none (by omega)
    exact zlu (slot:=0) hh st.1 st.2 (fun hq=>zir hw st.2 (by rw[e1];exact hq)) fun h1 he=>hQ h1 s.toks fun b o hb e=>he b o (fun h=>hb (by simp[h])) e
  self:=fun _ _ _ _ st hQ=>zfi st.1 hQ
theorem zis (j k:Nat):SetTable.below #[j] k=if j<k then 1 else 0:=by
  unfold SetTable.below
  show SetTable.below.go #[j] k 1 0 1=_
  unfold SetTable.below.go
  simp
  unfold SetTable.below.go
  rfl
theorem zit {xs:Array Nat}(h:xs.size=1):∃j,xs = #[j]:=by
  cases xs with
  | mk l=>
    match l,h with
    | [j],_=>exact⟨j,rfl⟩
def zel (t:SetTable) (i:Nat):Nat:=if i=0 then 0 else t.place.getD 0 0+1
theorem zwb (hh:A.handled=none) (hw:w.params.followText "set-order" = false) (I a:Addr) (ha:a≠I) (es:Array (Int×Value)) (ep:Nat) (t:SetTable) (hl:t.led=true) (h1:es.size<=1) :
    Walks prog w A I [I,a] [I] es.size (fun i v=>∃e,es[i]? = some e/\v=e.2) (fun i h=>SIter h I (.int (zel t i) 0) i a es.size ep/\RawS h a es ep t) where
  sub:=fun b hb=>by simp at hb;simp[hb]
  frame:=fun i h h' st k=>⟨st.1.at fun o e=>k I (by simp) o e,st.2.at fun o e=>k a (by simp) o e⟩
  item:=fun i s Q E hi st hQ=>by
    have hi0:i=0:=by omega
    subst hi0
    have hz:es.size=1:=by omega
    have hps:t.place.size=1:=by
      have:=st.2.fits
      unfold SetTable.fits at this
      rw[Bool.and_eq_true] at this
      rw[eq_of_beq this.1,hz]
    obtain⟨j,hj⟩:=zit hps
    have e0:es[0]? = some es[0]:=Array.getElem?_eq_getElem hi
    refine ziq (slot:=0) (nx:=j+1) st.1 st.2 (fun hq=>zlv hw st.2 hl h1 ?_) fun h' it' hs=>hQ _ h' s.toks ⟨_,e0,rfl⟩ ⟨?_,st.2.at fun o e=>(hs.2 a ha).trans e⟩ fun b o hb e=>(hs.2 b (fun h=>hb (by simp[h]))).trans e
    · rw[hj,zis,if_neg (by omega),e0]
      exact hq
    · have:zel t (0+1)=j+1:=by unfold zel;rw[hj];rfl
      rw[this]
      exact it'
  done:=fun s Q E st hQ=>by
    refine zlu (slot:=zel t es.size) hh st.1 st.2 (fun hq=>zlv hw st.2 hl h1 ?_) fun h' he=>hQ h' s.toks fun b o hb e=>he b o (fun h=>hb (by simp[h])) e
    have hps:t.place.size=es.size:=by
      have:=st.2.fits
      unfold SetTable.fits at this
      rw[Bool.and_eq_true] at this
      exact eq_of_beq this.1
    by_cases hz:es.size=0
    · have e:es = #[]:=Array.eq_empty_of_size_eq_zero hz
      subst e
      exact hq
    · have hz:es.size=1:=by omega
      rw[hz] at hps
      obtain⟨j,hj⟩:=zit hps
      have:zel t es.size=j+1:=by unfold zel;rw[if_neg (by omega),hj];rfl
      rw[this,hj,zis,if_pos (by omega),Array.getElem?_eq_none (by omega)]
      exact hq
  self:=fun _ _ _ _ st hQ=>zfi st.1 hQ
end
section
variable {prog:Program}{w:World}{A:Around}{s:Shared}{R:Result->Shared->Prop}{I:Addr}{fp wr:List Addr}{n:Nat}{P:Nat->Value->Prop}{St:Nat->Heap->Prop}
theorem zem (W:Walks prog w A.in1 I fp wr n P St) (hn:n<=sizeLine) (S:Addr) (c:Nat) (hst:St 0 s.heap) (hS:S ∉ fp) (hl:s.heap.get? S=some { cls:=.type "list",data:=.seq #[] c }) (r:Value)
    (hR:∀s1 acc c1,Moved (S::wr) (fun a b=>b=a) s s1->s1.heap.get? S=some { cls:=.type "list",dict:=none,data:=.seq acc c1,slots:=#[] }->ItemsOf P acc n->R (.ok (.ret r)) s1) :
    wpAny (model prog w) A.in1 (rule "list.extend.makes-room" >>= fun _=>Builtin.List.listTouch (.ref S) >>= fun _=>again (.builtin "list.extend.loop" ⟨[.ref S,.ref I,r],[]⟩))
      (fun fin s1=>match fin with | .done f=>R (.ok f) s1 | .again c1=>c1.quiet=true/\codeAny (model prog w) A c1 R s1) (fun e s1=>R (.error e) s1) s:=by
  refine wpAny_bind (wpAny_rule (wpAny_bind ?_))
  show wpAny (model prog w) A.in1 (updateSeq S (·.push .none) >>= fun _=>updateSeq S (·.pop)) _ _ _
  refine wpAny_bind (wpAny_updateSeq hl rfl ?_)
  have l2:=Heap.get?_update_self (Obj.mapSeq (·.push Value.none)) hl rfl
  refine wpAny_updateSeq (hz:=by seq_fits) l2 rfl ?_
  have l3:=Heap.get?_update_self (Obj.mapSeq (·.pop)) l2 rfl
  have oth:∀b o,b≠S->s.heap.get? b=some o->((s.heap.update S (Obj.mapSeq (·.push Value.none))).update S (Obj.mapSeq (·.pop))).get? b=some o:=fun b o hb e=>(Heap.get?_update_other _ _ (Ne.symm hb)).trans ((Heap.get?_update_other _ _ (Ne.symm hb)).trans e)
  refine wpAny_pure ⟨plainId_quiet PySem.F.plain_extend_loop _,codeAny_extend_loopS W.toS hn _ hS _ n 0 _ _ _ rfl (Nat.zero_le _) (W.toS.frame 0 s _ s.toks hst (Nat.le_refl _) fun b hb o e=>oth b o (fun h=>hS (h▸hb)) e) l3 (ItemsOf.nil P) fun s1 acc c1 hm h1 h2=>?_⟩
  have m0:Moved (S::wr) (fun (a b:Array GenState)=>b=a) s { s with heap:=(s.heap.update S (Obj.mapSeq (·.push Value.none))).update S (Obj.mapSeq (·.pop)) }:=⟨fun b o hb e=>oth b o (fun h=>hb (by simp[h])) e,rfl,rfl,rfl,Nat.le_refl _⟩
  exact hR s1 acc c1 (Moved.trans (fun _ _ _ h1 h2=>h2.trans h1) m0 hm) h1 h2
end
section
variable {prog:Program}{w:World}{A:Around}{E:Value->Shared->Prop}{s:Shared}
theorem zlw {d:Addr}{Q:Bool->Shared->Prop}(T:s.TypeIs (.ref d) "set") (hq:Q false s):wpAny (model prog w) A (Builtin.List.listLengthHint (.ref d)) Q E s:=by
  unfold Builtin.List.listLengthHint
  refine wpAny_bind (wpAny_specialOf T PySem.F.slot_set_len.lookup ?_)
  have e:splitId "set.__len__" = some ("set","__len__"):=by kernel_rfl
  simp only [e]
  have sub:isSubtype (.type "set") (.type "set")=pure true:=by rw[isSubtype_type];kernel_rfl
  exact wpAny_bind (wpAny_isInstance (T:="set") (b:=true) T sub (wpAny_bind (wpAny_typeOf T (wpAny_pure hq))))
theorem zen {P:Nat->Value->Prop}{acc:Array Value}{n:Nat}(h:ItemsOf P acc n) (l:List Value) (hl:l.length=n) (hp:∀i v,P i v->l[i]? = some v):acc.toList=l:=by
  apply List.ext_getElem?
  intro i
  by_cases hi:i<n
  · have hs:i<acc.size:=by rw[h.1];exact hi
    have e:acc[i]? = some acc[i]:=Array.getElem?_eq_getElem hs
    rw[hp i _ (h.2 i _ e),Array.getElem?_toList,e]
  · have h1:acc.toList.length<=i:=by rw[Array.length_toList,h.1];omega
    have h2:l.length<=i:=by omega
    rw[List.getElem?_eq_none h1,List.getElem?_eq_none h2]
theorem zkd {es:Array (Int×Value)}{ps:List Nat}(hp:ps.Perm (List.range es.size)):(ps.filterMap fun j=>(es[j]?).map (·.2)).Perm (es.toList.map (·.2)):=by
  refine (hp.filterMap _).trans (List.Perm.of_eq ?_)
  have gen:∀l:List (Int×Value),(List.range l.length).filterMap (fun j=>(l[j]?).map (·.2))=l.map (·.2):=by
    intro l
    induction l with
    | nil=>rfl
    | cons x r ih=>
      rw[List.length_cons,List.range_succ_eq_map,List.filterMap_cons,List.filterMap_map]
      show x.2::_=_
      rw[List.map_cons,←ih]
      rfl
  rw[←Array.length_toList,←gen es.toList]
  congr 1
  funext j
  rw[Array.getElem?_toList]
theorem zd2 {α β:Type}{f:α->β}{g:α->Option β}:∀{ps:List α},(∀j∈ps,g j=some (f j))->ps.map f=ps.filterMap g
  | [],_=>rfl
  | j::r,h=>by
    rw[List.map_cons,List.filterMap_cons,h j (by simp)]
    show _=f j::_
    rw[zd2 fun i hi=>h i (List.mem_cons_of_mem _ hi)]
theorem zmk {S a:Addr}{es:Array (Int×Value)}{ep:Nat}{t:SetTable}{c:Nat}{r:Value}{R:Result->Shared->Prop}(hh:A.handled=none) (hr:RawS s.heap a es ep t) (hz:es.size<=sizeLine) (hl:t.led=ledW w) (hp:es.size≠0->t.plain=false)
    (hS:s.heap.get? S=some { cls:=.type "list",data:=.seq #[] c }) (hne:S≠a)
    (hR:∀h1 acc c1 d tk,(∀b o,b≠S->s.heap.get? b=some o->h1.get? b=some o)->h1.get? S=some { cls:=.type "list",dict:=none,data:=.seq acc c1,slots:=#[] }->acc.toList.Perm (es.toList.map (·.2))->R (.ok (.ret r)) { s with heap:=h1,drawn:=d,toks:=tk }) :
    wpAny (model prog w) A.in1 (Builtin.List.listExtendWith (.ref S) (.ref a) r) (fun fin s1=>match fin with | .done f=>R (.ok f) s1 | .again c1=>c1.quiet=true/\codeAny (model prog w) A c1 R s1) (fun e s1=>R (.error e) s1) s:=by
  obtain⟨oa,hoa,hexa,hda⟩:=id hr.ex
  have al:a<s.heap.objs.size:=Heap.lt_size hoa
  have sl:S<s.heap.objs.size:=Heap.lt_size hS
  have T:s.TypeIs (.ref a) "set":=⟨oa,hoa,hexa.1⟩
  unfold Builtin.List.listExtendWith
  refine wpAny_bind (wpAny_typeOf T ?_)
  have sr:Builtin.List.listSameRef (.ref S) (.ref a)=false:=by simp[Builtin.List.listSameRef,hne]
  have t1:(Value.type "set" == Value.type "list")=false:=by decide
  have t2:(Value.type "set" == Value.type "tuple")=false:=by decide
  simp only [sr,t1,t2,Bool.or_false,Bool.false_eq_true,if_false]
  refine wpAny_bind (zrm hr hz (fun hb=>?_) (fun hb ps d p=>?_))
  · have old:∀b o,s.heap.get? b=some o->(s.heap.push (zb8 (.int 0 0) 0 a es.size ep)).get? b=some o:=fun b o e=>Heap.get?_push_of_some _ e
    have hr2:=hr.at (fun o e=>old a o e)
    have hit:SIter (s.heap.push (zb8 (.int 0 0) 0 a es.size ep)) s.heap.objs.size (.int 0 0) 0 a es.size ep:=⟨_,Heap.get?_push_size _ rfl,rfl,rfl⟩
    have hS2:=old _ _ hS
    have T2:({ s with heap:=s.heap.push (zb8 (.int 0 0) 0 a es.size ep) }:Shared).TypeIs (.ref a) "set":=⟨oa,old _ _ hoa,hexa.1⟩
    have SI:S ∉ [s.heap.objs.size,a]:=by
      simp only [List.mem_cons,List.not_mem_nil,or_false]
      exact fun z=>z.elim (Nat.ne_of_lt sl) hne
    refine wpAny_bind (wpAny_holding (zlw T2 ?_))
    have fin:∀(P:Nat->Value->Prop),(∀acc,ItemsOf P acc es.size->acc.toList.Perm (es.toList.map (·.2)))->∀s1 acc c1,Moved (S::[s.heap.objs.size]) (fun (a b:Array GenState)=>b=a) { s with heap:=s.heap.push (zb8 (.int 0 0) 0 a es.size ep) } s1->s1.heap.get? S=some { cls:=.type "list",dict:=none,data:=.seq acc c1,slots:=#[] }->ItemsOf P acc es.size->R (.ok (.ret r)) s1:=by
      intro P hP s1 acc c1 hm h1 h2
      obtain⟨hp1,ge,dr,tk,os⟩:=s1
      obtain⟨m1,m2,m3,m4,m5⟩:=hm
      obtain rfl:ge=s.gens:=m2
      obtain rfl:os=s.os:=m4
      refine hR hp1 acc c1 dr tk (fun b o hb e=>m1 b o ?_ (old b o e)) h1 (hP acc h2)
      intro z
      simp only [List.mem_cons,List.not_mem_nil,or_false] at z
      exact z.elim hb fun z=>absurd (Heap.lt_size e) (by rw[z];exact Nat.lt_irrefl _)
    cases hw:w.params.followText "set-order" with
    | true=>
      refine zem (A:=A) (s:={ s with heap:=s.heap.push (zb8 (.int 0 0) 0 a es.size ep) }) (zwa (A:=A.in1) hh hw s.heap.objs.size a (Nat.ne_of_lt al) es ep t) hz S c ⟨hit,hr2⟩ SI hS2 r (fin _ fun acc h=>?_)
      have e:=zen h ((pickOrder (w.params.setOrder a ep) es).toList.map (·.2)) (by rw[List.length_map,(zd1 _ _).length_eq,Array.length_toList]) (fun i v ⟨e,h1,h2⟩=>by
        rw[List.getElem?_map,Array.getElem?_toList,h1,h2];rfl)
      rw[e]
      exact (zd1 _ _).map _
    | false=>
      have h1:es.size<=1:=by
        by_cases h0:es.size=0
        · omega
        · unfold zio at hb
          rw[hw,hp h0] at hb
          simp at hb
          exact hb
      have hled:t.led=true:=by rw[hl];unfold ledW;rw[hw];rfl
      refine zem (A:=A) (s:={ s with heap:=s.heap.push (zb8 (.int 0 0) 0 a es.size ep) }) (zwb (A:=A.in1) hh hw s.heap.objs.size a (Nat.ne_of_lt al) es ep t hled h1) hz S c ⟨hit,hr2⟩ SI hS2 r (fin _ fun acc h=>?_)
      have e:=zen h (es.toList.map (·.2)) (by rw[List.length_map,Array.length_toList]) (fun i v ⟨e,h1,h2⟩=>by
        rw[List.getElem?_map,Array.getElem?_toList,h1,h2];rfl)
      rw[e]
  · have old1:∀b o,s.heap.get? b=some o->(s.heap.push { cls:=.type "tuple",data:=.seq (zbg ps) }).get? b=some o:=fun b o e=>Heap.get?_push_of_some _ e
    have zu:(s.heap.push { cls:=.type "tuple",data:=.seq (zbg ps) }).objs.size=s.heap.objs.size+1:=Heap.size_push ..
    have hTp:(s.heap.push { cls:=.type "tuple",data:=.seq (zbg ps) }).IsTuple s.heap.objs.size (zbg ps):=⟨_,Heap.get?_push_size _ rfl,rfl,0,rfl⟩
    generalize s.heap.push { cls:=.type "tuple",data:=.seq (zbg ps) } = g at old1 zu hTp
    have old:∀b o,s.heap.get? b=some o->(g.push (zb8 (.ref s.heap.objs.size) 0 a es.size ep)).get? b=some o:=fun b o e=>Heap.get?_push_of_some _ (old1 b o e)
    have hr2:=hr.at (fun o e=>old a o e)
    have hit:SIter (g.push (zb8 (.ref s.heap.objs.size) 0 a es.size ep)) g.objs.size (.ref s.heap.objs.size) 0 a es.size ep:=⟨_,Heap.get?_push_size _ rfl,rfl,rfl⟩
    have hS2:=old _ _ hS
    have hTp2:(g.push (zb8 (.ref s.heap.objs.size) 0 a es.size ep)).IsTuple s.heap.objs.size (zbg ps):=hTp.at fun o e=>Heap.get?_push_of_some _ e
    have T2:({ s with heap:=g.push (zb8 (.ref s.heap.objs.size) 0 a es.size ep),drawn:=d }:Shared).TypeIs (.ref a) "set":=⟨oa,old _ _ hoa,hexa.1⟩
    have SI:S ∉ [g.objs.size,a,s.heap.objs.size]:=by
      rw[zu]
      simp only [List.mem_cons,List.not_mem_nil,or_false]
      rintro (z | z | z)
      · exact absurd z (Nat.ne_of_lt (Nat.lt_succ_of_lt sl))
      · exact hne z
      · exact absurd z (Nat.ne_of_lt sl)
    refine wpAny_bind (wpAny_holding (zlw T2 ?_))
    refine zem (A:=A) (s:={ s with heap:=g.push (zb8 (.ref s.heap.objs.size) 0 a es.size ep),drawn:=d }) (zv9 (A:=A.in1) hh g.objs.size a s.heap.objs.size (by rw[zu];exact Nat.ne_of_lt (Nat.lt_succ_of_lt al)) (by rw[zu];exact Nat.ne_of_lt (Nat.lt_succ_self _)) es ep t ps p) hz S c ⟨hit,hr2,hTp2⟩ SI hS2 r fun s1 acc c1 hm h1 h2=>?_
    obtain⟨hp1,ge,dr,tk,os⟩:=s1
    obtain⟨m1,m2,m3,m4,m5⟩:=hm
    obtain rfl:ge=s.gens:=m2
    obtain rfl:os=s.os:=m4
    refine hR hp1 acc c1 dr tk (fun b o hb e=>m1 b o ?_ (old b o e)) h1 ?_
    · intro z
      simp only [List.mem_cons,List.not_mem_nil,or_false] at z
      have bl:=Heap.lt_size e
      rcases z with z | z
      · exact hb z
      · have z:b=g.objs.size:=z
        rw[z,zu] at bl
        exact absurd bl (Nat.not_lt_of_le (Nat.le_succ _))
    · have hlp:ps.length=es.size:=by rw[p.length_eq,List.length_range]
      have hall:∀j∈ps,j<es.size:=fun j hj=>List.mem_range.mp (p.mem_iff.mp hj)
      have e:=zen h2 (ps.map fun j=>((es[j]?).map (·.2)).getD .none) (by rw[List.length_map,hlp]) (fun i v ⟨j,e,h1,h2,h3⟩=>by
        rw[List.getElem?_map,h1,h3]
        show some (((es[j]?).map (·.2)).getD .none)=_
        rw[h2];rfl)
      rw[e]
      refine List.Perm.trans (List.Perm.of_eq ?_) (zkd p)
      exact zd2 fun j hj=>by
        rw[Array.getElem?_eq_getElem (hall j hj)];rfl
end
theorem zo5:∀{vs:List Value},(∀v∈vs,∃x t,v=Value.str x t)->∃ks,StrsAre vs ks
  | [],_=>⟨[],.nil⟩
  | v::r,h=>by
    obtain⟨x,t,rfl⟩:=h v (by simp)
    obtain⟨ks,hk⟩:=zo5 (vs:=r) fun u hu=>h u (List.mem_cons_of_mem _ hu)
    exact⟨x::ks,.cons x t hk⟩
theorem zrn {vs:List Value}{ks:List Str}(h:StrsAre vs ks):∀y,y∈ks↔∃t,Value.str y t∈vs:=by
  induction h with
  | nil=>intro y;simp
  | cons x t hr ih=>
    intro y
    rw[List.mem_cons,ih y]
    constructor
    · rintro (rfl | ⟨u,hu⟩)
      · exact⟨t,by simp⟩
      · exact⟨u,List.mem_cons_of_mem _ hu⟩
    · rintro ⟨u,hu⟩
      rcases List.mem_cons.mp hu with e | hu
      · injection e with e1 e2;exact .inl e1
      · exact .inr ⟨u,hu⟩
theorem zro {vs:List Value}{ks:List Str}(h:StrsAre vs ks):vs.length=ks.length:=by
  induction h with
  | nil=>rfl
  | cons x t hr ih=>rw[List.length_cons,List.length_cons,ih]
theorem zml {ds ks:List Str}(hn:ds.Nodup) (hs:∀x∈ds,x∈ks) (hl:ks.length=ds.length):ks.Perm ds:=by
  induction ds generalizing ks with
  | nil=>rw[List.length_eq_zero_iff.mp hl]
  | cons d r ih=>
    rw[List.nodup_cons] at hn
    have hd:=hs d (by simp)
    have h2:∀x∈r,x∈ks.erase d:=fun x hx=>(List.mem_erase_of_ne (fun z=>by subst z;exact hn.1 hx)).mpr (hs x (List.mem_cons_of_mem _ hx))
    have:=ih hn.2 h2 (by rw[List.length_erase_of_mem hd,hl];rfl)
    exact (List.perm_cons_erase hd).trans (this.cons d)
section
variable {prog:Program}{w:World}{A:Around}{E:Value->Shared->Prop}{s:Shared}
theorem zke {a:Addr}{es:Array (Int×Value)}{ep:Nat}{t:SetTable}{Q:List Value->Shared->Prop}(hh:A.handled=none) (hr:RawS s.heap a es ep t) (hz:es.size<=sizeLine) (hl:t.led=ledW w) (hp:es.size≠0->t.plain=false)
    (hQ:∀vs h1 d tk,vs.Perm (es.toList.map (·.2))->(∀b o,s.heap.get? b=some o->h1.get? b=some o)->s.heap.objs.size<h1.objs.size->Q vs { s with heap:=h1,drawn:=d,toks:=tk }):wpAny (model prog w) A (collect (.ref a)) Q E s:=by
  obtain⟨oa,hoa,hexa,hda⟩:=id hr.ex
  have al:a<s.heap.objs.size:=Heap.lt_size hoa
  unfold collect
  refine wpAny_bind (wpAny_runValue (codeAny_builtin PySem.F.entry_proto_collect ?_))
  rw[Around.under_plainId PySem.F.plain_proto_collect _]
  show wpAny _ A.in1 (newList [] >>= fun l=>again (.builtin "list.__iadd__" ⟨[l,.ref a],[]⟩)) _ _ s
  refine wpAny_bind (wpAny_newObj_type ?_)
  refine wpAny_pure ⟨plainId_quiet PySem.F.plain_list_iadd _,codeAny_builtin PySem.F.entry_list_iadd ?_⟩
  rw[Around.under_plainId PySem.F.plain_list_iadd _]
  show wpAny _ A.in1 (Builtin.List.listExtendWith (.ref s.heap.objs.size) (.ref a) (.ref s.heap.objs.size)) _ _ _
  have hS:(s.heap.push { cls:=.type "list",data:=.seq ([]:List Value).toArray }).get? s.heap.objs.size=some { cls:=.type "list",data:=.seq #[] }:=Heap.get?_push_size _ rfl
  have old:∀b o,s.heap.get? b=some o->(s.heap.push { cls:=.type "list",data:=.seq ([]:List Value).toArray }).get? b=some o:=fun b o e=>Heap.get?_push_of_some _ e
  have hr2:=hr.at (fun o e=>old a o e)
  refine zmk (prog:=prog) (A:=A) (r:=.ref s.heap.objs.size) (R:=fun r s'=>match r with
    | .ok (.ret v)=>wpAny (model prog w) A (match v with
      | .ref a=>do
        let o ←load a
        match o.data with
        | .seq xs _=>pure xs.toList
        | _=>unsupported "internal:collect"
      | _=>unsupported "internal:collect") Q E s'
    | .ok _=>False
    | .error e=>E e s') (s:={ s with heap:=s.heap.push { cls:=.type "list",data:=.seq ([]:List Value).toArray } }) hh hr2 hz hl hp hS (Ne.symm (Nat.ne_of_lt al)) fun h1 acc c1 d tk k e p=>?_
  show wpAny _ A (load s.heap.objs.size >>= _) _ _ _
  refine wpAny_bind (wpAny_load e ?_)
  exact wpAny_pure (hQ _ h1 d tk p (fun b o eb=>k b o (fun z=>Nat.lt_irrefl _ (z▸Heap.lt_size eb)) (old b o eb)) (Heap.lt_size e))
theorem zkf {a:Addr}{S:Str->Bool}{n:Nat}{Q:Value->Shared->Prop}(hh:A.handled=none) (hS:SetL prog w s.heap a S n (ledW w)) (h64:n<64)
    (hQ:∀(D:Addr) (out:Array Value) (ks ms:List Str) (h':Heap) (d:Drawn) (tk c:Nat),StrsAre out.toList ms->ms.Perm ks->sortedS ms=true->ks.length=n->(∀y,y∈ks↔S y=true)->
      (∀b o,s.heap.get? b=some o->h'.get? b=some o)->s.heap.objs.size<=D->h'.get? D=some (seqObj "list" out c)->Q (.ref D) { s with heap:=h',drawn:=d,toks:=tk }) :
    wpAny (model prog w) A (call (.builtin "sorted") [.ref a]) Q E s:=by
  obtain⟨o,es,ep,t,ho,hex,hd,hel,hmem,hb,hf,hn,hld,hpl⟩:=hS
  have hr:RawS s.heap a es ep t:=⟨⟨o,ho,hex,hd⟩,hf⟩
  have hsz:es.size<=sizeLine:=fits_of_scanBound hb
  refine Calls.call_function_entry kind_sorted plain_sorted entry_sorted (args_sorted1 _) ?_
  unfold Builtin.«sorted»
  refine wpAny_bind (m:=checkCount "sorted" 1 1 _) (wpAny_pure ?_)
  refine wpAny_bind (zke (A:=A.in1) hh hr hsz hld hpl fun vs h1 d tk p k sz=>?_)
  have hvl:vs.length=n:=by rw[p.length_eq,List.length_map,Array.length_toList,hn]
  have hstr:∀v∈vs,∃x t,v=Value.str x t:=by
    intro v hv
    obtain⟨e,he,rfl⟩:=List.mem_map.mp (p.mem_iff.mp hv)
    obtain⟨⟨kx,hk,_⟩,_⟩:=hel e he
    cases e2:e.2 with
    | str x t=>
      exact⟨x,t,rfl⟩
    | _=>rw[e2] at hk;simp[PySem.strKind,Value.isStrOf] at hk
  obtain⟨ks,hks⟩:=zo5 hstr
  have hkl:ks.length=n:=by rw[←zro hks,hvl]
  refine wpAny_bind (wpAny_newList ?_ (by rw[hvl,sizeLine_eq];omega))
  have hoL:(h1.push (seqObj "list" vs.toArray 0)).get? h1.objs.size=some (seqObj "list" vs.toArray 0):=Heap.get?_push_size _ rfl
  show wpAny _ _ _ _ _ { s with heap:=h1.push (seqObj "list" vs.toArray 0),drawn:=d,toks:=tk }
  refine wpAny_bind (wpAny_holding (wpAny_call_entry slot_list_sort ⟨_,hoL,rfl⟩ entry_list_sort (list_sort_treeK strKind_oneLt hoL hks.keysOf (fun v₁ v₂ rest e=>keyKind_strs (by rw[←e];exact hks)) (by omega) fun st' a1 a2=>⟨_,rfl,?_⟩) (args_list_sort _)))
  obtain⟨ms,b1,b2,b3⟩:=sorted_out_str hks a1 a2
  obtain⟨c,hc⟩:=sortedHeap_at (out:=(arrOf st').map (·.2)) hoL
  refine wpAny_pure ⟨_,rfl,hQ h1.objs.size _ ks ms _ d tk c b1 b2 b3 hkl (fun y=>?_) (fun b o e=>?_) (Nat.le_of_lt sz) hc⟩
  · rw[zrn hks y,hmem y]
    constructor
    · rintro ⟨t,ht⟩
      obtain⟨e,he,e2⟩:=List.mem_map.mp (p.mem_iff.mp ht)
      exact⟨e,he,by rw[e2];exact strKind_is _ _ _ _⟩
    · rintro ⟨e,he,hk⟩
      have hv:e.2∈vs:=p.mem_iff.mpr (List.mem_map.mpr ⟨e,he,rfl⟩)
      obtain⟨x,t,ex⟩:=hstr _ hv
      rw[ex] at hk hv
      have:x=y:=by
        have:=hk
        simp[PySem.strKind,Value.isStrOf] at this
        first | exact this | exact this.symm
      subst this
      exact⟨t,hv⟩
  · have e1:=k b o e
    have hlt:=Heap.lt_size e1
    have e2:(h1.push (seqObj "list" vs.toArray 0)).get? b=some o:=Heap.get?_push_of_some _ e1
    rw[sortedHeap_old (Nat.ne_of_lt hlt) (Heap.lt_size e2)]
    exact e2
end
section
variable {X:Cx}
theorem Inv.drawn {pins:List (Addr×Obj)}{σ:St}{H:Hp}{s:Shared}{d:Drawn}(I:Inv X pins σ H s):Inv X pins σ H { s with drawn:=d }:=⟨I.ok,I.os,I.bare,I.base,I.loc,I.cell,I.free,I.freeC,I.pin,I.hok,I.len⟩
def setO (P:Program) (w:World) (D:Addr) (ds:List Str):HO:=.ext fun h=>SetL P w h D (fun k=>decide (k∈ds)) ds.length (ledW w)
theorem zo6 {P:Program}{w:World}{K:PySem.W.Frag}(hP:X.prog=P) (hw:X.w=w) (hK:X.K=K) (hc:X.calm=true):zbp X (.type "set") (fun xs H Q=>∃(p:Addr) (ys:List Str),xs = [.ref p]/\SqL K H p (ys.map V.str)/\ys.length<=1000/\
    ∀(D:Addr) (ds:List Str),H D=none->ds.Nodup->(∀y,y∈ds↔y∈ys)->ds.length<=ys.length->Q (.ref D) (upd H D (setO P w D ds))):=by
  subst hP hw hK
  intro pins s σ H xs us Q I r h
  obtain⟨p,ys,rfl,hp,hl,q⟩:=h
  obtain⟨u,rfl,ru⟩:=zdd r
  cases ru
  obtain⟨its,rv,pl,hz⟩:=I.list hp
  have hlen:=rv.length
  rw[List.length_map] at hlen
  have hv:∀i v,its.toArray[i]? = some v->∃t,v=Value.str (ys.getD i "") t:=by
    intro i v e
    have e':its[i]? = some v:=by simpa using e
    have hi:i<ys.length:=by have:=(List.getElem?_eq_some_iff.mp e').1;omega
    obtain⟨w',e2,rw'⟩:=rv.get (i:=i) (x:=.str ys[i]) (by simp[hi])
    rw[e'] at e2
    cases e2
    have:ys.getD i "" = ys[i]:=by rw[List.getD_eq_getElem?_getD,List.getElem?_eq_getElem hi];rfl
    rw[this]
    exact rw'
  have hsz:its.toArray.size=ys.length:=by rw[List.size_toArray,hlen]
  refine zkc (I.ok.hd hc) pl.isList hv (by rw[hsz];unfold scanBound;omega) fun h' tk hS k=>?_
  have kp:∀b o,s.heap.get? b=some o->h'.get? b=some o:=fun b o e=>k b o (Heap.lt_size e) e
  rw[hsz] at hS
  refine⟨.ref s.heap.objs.size,_,I.laid (t':=tk) (a:=s.heap.objs.size) (o:=setO X.prog X.w s.heap.objs.size (dd (fun i=>ys.getD i "") ys.length)) kp (Nat.le_refl _) ⟨hS,?_,fun h1 h2 hq k2=>hq.keep k2⟩,rfl,q _ _ (I.hok.fresh (Nat.le_refl _)) (zg2 _ _) (fun y=>?_) (zo1 _ _)⟩
  · obtain⟨o,_,_,_,ho,_⟩:=hS
    exact⟨o,ho⟩
  · rw[zs1]
    constructor
    · rintro ⟨j,hj,e⟩
      rw[←e,List.getD_eq_getElem?_getD,List.getElem?_eq_getElem hj]
      exact List.getElem_mem hj
    · intro hy
      obtain⟨j,hj,e⟩:=List.mem_iff_getElem.mp hy
      exact⟨j,hj,by rw[List.getD_eq_getElem?_getD,List.getElem?_eq_getElem hj];exact e⟩
theorem zfy {P:Program}{w:World}(hP:X.prog=P) (hw:X.w=w) (hc:X.calm=true):zbp X (.builtin "sorted") (fun xs H Q=>∃(D:Addr) (ds:List Str),xs = [.ref D]/\H D=some (setO P w D ds)/\ds.Nodup/\ds.length<64/\
    ∀(p:Addr) (ms:List Str),H p=none->ms.Perm ds->ms.Pairwise (fun a b=>¬b.cps.toList<a.cps.toList)->Q (.ref p) (upd H p (.lst (ms.map V.str)))):=by
  subst hP hw
  intro pins s σ H xs us Q I r h
  obtain⟨D,ds,rfl,hD,nd,h64,q⟩:=h
  obtain⟨u,rfl,ru⟩:=zdd r
  cases ru
  obtain⟨hS,_⟩:=(show ObjOk X.prog X.w H s.heap D (setO X.prog X.w D ds) from I.hok D _ hD)
  refine zkf (I.ok.hd hc) hS h64 fun p out ks ms h' d tk c b1 b2 b3 hkl hmem kp hp hg=>?_
  have hperm:ks.Perm ds:=zml nd (fun x hx=>(hmem x).mpr (decide_eq_true hx)) hkl
  have vs:∀{us:List Value}{ys:List Str},StrsAre us ys->Vals (ys.map V.str) us:=by
    intro us ys h
    induction h with
    | nil=>exact .nil
    | cons x t _ ih=>exact .cons ⟨t,rfl⟩ ih
  have hm:ms.length=ds.length:=(b2.trans hperm).length_eq
  have hs:sizeLine=16777216:=sizeLine_eq
  have I2:=I.laid (t':=tk) (h':=h') (a:=p) (o:=.lst (ms.map V.str)) kp hp ⟨by rw[List.length_map];omega,out.toList,c,vs b1,by rw[hg]⟩
  exact⟨.ref p,_,I2.drawn,rfl,q _ ms (I.hok.fresh hp) (b2.trans hperm) (zco b3)⟩
end
theorem zs2 {c:TT}{t u:TS}{D:Ends}{σ:St}{H:Hp}(P:St->Prop) (b:Bool) (ht:∀Q':Bool->Hp->Prop,Q' b H->c σ H Q') (h1:b=true->∃σ1,P σ1/\(D.nx σ1 H->t D σ H)) (h2:b=false->∃σ2,P σ2/\(D.nx σ2 H->u D σ H))
    (hn:∀σ',P σ'->D.nx σ' H):tIfS c t u D σ H:=by
  refine zdu b ht ?_
  cases b with
  | true=>
    obtain⟨σ1,p,h⟩:=h1 rfl
    exact iteT (h (hn _ p))
  | false=>
    obtain⟨σ2,p,h⟩:=h2 rfl
    exact iteF (h (hn _ p))
def Itd (a:Addr) (ob:Obj) (kvs:List (Key×V)):It:=
  ⟨fun i H=>H a=some (.frz ob (.dK kvs))/\i<kvs.length,fun i H x H'=>H'=H/\∃kv,kvs[i]? = some kv/\x=kV kv.1,fun i H=>H a=some (.frz ob (.dK kvs))/\kvs.length<=i⟩
theorem zo7 {P:Program}{w:World}{K:PySem.W.Frag}{tg:Expr}(a it:Addr) {ob:Obj}{kvs:List (Key×V)}{es:Array DictEntry}{ep:Nat}(hd:ob.data = .dict es ep) (hl:es.size=kvs.length):Turn P w K tg (Itd a ob kvs) [it] it (fun i h=>h.IsKeyIter it a i es.size ep) where
  mem:=by simp
  obj:=fun i h st b hb=>by
    have e:b=it:=by simpa using hb
    subst e
    obtain⟨o,e,c,d⟩:=st
    exact⟨o,e,fun v z=>by rw[d] at z;cases z⟩
  keep:=fun i h h' st k=>st.at fun o e=>k it (by simp) o e
  item:=by
    intro X hP hw hK hc i pins s σ H E I hf st hg
    subst hP hw hK
    obtain⟨hq,hx⟩:=hg
    obtain⟨e0,z,hs,vs,rel,o,es',ep',e,ex,dt,kk,pr,nd⟩:=I.hok a _ hq
    rw[e0] at e
    cases e
    rw[hd] at dt
    cases dt
    have hi:i<es.size:=by omega
    have hen:es[i]? = some es[i]:=Array.getElem?_eq_getElem hi
    obtain⟨f0,f1,f2,f3,f4,f5⟩:=hf it (by simp)
    refine zlj st ⟨ob,e0,ex,hd⟩ hen fun h' st' sb=>?_
    have I1:Inv X pins σ H { s with heap:=h' }:=I.turned (t':=s.toks) (fun b o hb e=>(sb.2 b hb).trans e) f0 f1 f3 f4 f5
    obtain⟨oi,ei,ci,di⟩:=id st'
    have ek:kvs[i]? = some kvs[i]:=List.getElem?_eq_getElem hx
    obtain⟨w',hw,rw'⟩:=Paired.get' rel ek
    have:=(pr.get? (e:=es[i]) (k:=w'.1) (v:=w'.2) (i:=i) (by rw[Array.getElem?_toList];exact hen) (by rw[hw])).1
    have e1:kvs[i].1=w'.1:=rw'.1
    exact⟨_,rfl,zqx (s:={ s with heap:=h' }) ei ci di (by decide) ⟨kV kvs[i].1,H,I1,by rw[e1];exact zj5 this,⟨rfl,_,ek,rfl⟩,st',fun b hb=>(hf b hb).1⟩⟩
  done:=by
    intro X hP hw hK hc i pins s σ H E I hf st hg
    subst hP hw hK
    obtain⟨hq,hx⟩:=hg
    obtain⟨e0,z,hs,vs,rel,o,es',ep',e,ex,dt,kk,pr,nd⟩:=I.hok a _ hq
    rw[e0] at e
    cases e
    obtain⟨f0,f1,f2,f3,f4,f5⟩:=hf it (by simp)
    exact zoe (I.ok.hd hc) st ⟨ob,e0,ex,hd⟩ (by omega) fun h' eb=>⟨rfl,I.turned (t':=s.toks) (fun b o hb e=>eb b o hb e) f0 f1 f3 f4 f5⟩
  self:=fun _ _ _ _ _ st h=>wpAny_pyIter_keyiter st h
section
variable {X:Cx}{tg:Expr}
def zxh (tl:TE):TI:=fun σ H R=>tl σ H fun x H1=>∃a ob kvs,x = .ref a/\H1 a=some (.frz ob (.dK kvs))/\R (Itd a ob kvs) H1
theorem zbs {l:Expr}{tl:TE}(hl:PE X l tl):PI X tg l (zxh tl):=by
  intro pins s σ H R I h
  refine thn (hl pins s σ H _ I h) fun v s1 hq0=>?_
  obtain⟨x,H1,I1,r1,q1⟩:=hq0
  obtain⟨a,ob,kvs,e,hq,q⟩:=q1
  subst e
  cases r1
  obtain⟨e0,z,hs,vs,rel,o,es,ep,e,ex,dt,kk,pr,nd⟩:=I1.hok a _ hq
  have e0':=e0
  rw[e0] at e
  cases e
  have l1:kvs.length=vs.length:=Paired.length rel
  have l2:es.size=vs.length:=by rw[←pr.length];simp
  refine zli hs ⟨ob,e0,ex,dt⟩ ?_
  refine⟨s1.heap.objs.size,[s1.heap.objs.size],_,_,H1,rfl,I1.kept (t':=s1.toks) fun b o e=>Heap.get?_push_of_some _ e,zo7 a _ dt (l2.trans l1.symm),⟨_,Heap.get?_push_size _ rfl,rfl,rfl⟩,fun b hb=>?_,q⟩
  have e:b=s1.heap.objs.size:=by simpa using hb
  subst e
  exact I1.fpOk (Nat.le_refl _) (I1.hok.fresh (Nat.le_refl _))
theorem zch {a:Addr}{ob:Obj}{kvs:List (Key×V)}{g:TG}{tb:TS}{D:Ends}{σ:St}{H:Hp}(Pv:Nat->St->Hp->Prop) (h0:Pv 0 σ H) (hl:∀i σ H,i<=kvs.length->Pv i σ H->H a=some (.frz ob (.dK kvs)))
    (hs:∀i k v σ H,kvs[i]? = some (k,v)->Pv i σ H->g (kV k) σ H fun σ2 H2=>tb { D with nx:=Pv (i+1),ct:=Pv (i+1),bk:=D.nx } σ2 H2) (hd:∀σ H,Pv kvs.length σ H->D.nx σ H) :
    ∃W:Nat->Nat->St->Hp->Prop,(∃m,W 0 m σ H)/\∀i m σ H,W i m σ H->
      ((Itd a ob kvs).stop i H/\D.nx σ H)\/((Itd a ob kvs).go i H/\∃N:St->Hp->Prop,(∀σ' H',N σ' H'->∃m',m'<m/\W (i+1) m' σ' H')/\∀x H',(Itd a ob kvs).yld i H x H'->g x σ H' fun σ2 H2=>tb { D with nx:=N,ct:=N,bk:=D.nx } σ2 H2):=by
  refine⟨fun i m σ H=>m=kvs.length-i/\i<=kvs.length/\Pv i σ H,⟨kvs.length,by simp,Nat.zero_le _,h0⟩,?_⟩
  rintro i m σ H ⟨rfl,hi,p⟩
  have q:=hl i σ H hi p
  by_cases hlt:i<kvs.length
  · refine .inr ⟨⟨q,hlt⟩,Pv (i+1),fun σ' H' p'=>⟨kvs.length-(i+1),by omega,rfl,hlt,p'⟩,fun x H' y=>?_⟩
    obtain⟨e,kv,y,rfl⟩:=y
    subst e
    exact hs i kv.1 kv.2 σ _ y p
  · have e:i=kvs.length:=by omega
    subst e
    exact .inl ⟨⟨q,Nat.le_refl _⟩,hd σ H p⟩
theorem Inv.frozen {pins:List (Addr×Obj)}{σ:St}{H:Hp}{s:Shared}{a:Addr}{kvs:List (Key×V)}(I:Inv X pins σ H s) (h:H a=some (.dK kvs)):∃ob,Inv X pins σ (upd H a (.frz ob (.dK kvs))) s:=by
  obtain⟨o,e⟩:∃o,s.heap.get? a=some o:=by
    obtain⟨_,_,_,_,o,_,_,e,_⟩:=I.hok a _ h
    exact⟨o,e⟩
  have ok:=I.hok a _ h
  refine⟨o,I.write (e:=a) (h':=s.heap) (t':=s.toks) (by rw[h];trivial) (.inl rfl) (fun b u _ q=>q) ⟨o,e⟩ ⟨e,?_⟩⟩
  obtain⟨z,hd,vs,r⟩:=ok
  exact⟨z,hd,vs,r⟩
def tFrz (ts:TS):TS:=fun D σ H=>ts D σ H\/∃a kvs,H a=some (.dK kvs)/\∀ob,ts D σ (upd H a (.frz ob (.dK kvs)))
theorem zew {st:Stmt}{ts:TS}(h:PS X st ts):PS X st (tFrz ts):=by
  intro pins s σ H D I q
  rcases q with q | ⟨a,kvs,ha,q⟩
  · exact h pins s σ H D I q
  · obtain⟨ob,I'⟩:=I.frozen ha
    exact h pins s σ _ D I' (q ob)
end
section
variable {X:Cx}{tg:Expr}
theorem zd3 {a:Addr}{ob:Obj}{kvs:List (Key×V)}:Fix (Itd a ob kvs) (kvs.map fun kv=>kV kv.1) (fun H=>H a=some (.frz ob (.dK kvs))):=
  ⟨fun i H h hi=>⟨h,by simpa using hi⟩,fun i H x H' h y=>⟨y.1,fun _=>by obtain⟨kv,h1,h2⟩:=y.2;rw[List.getElem?_map,h1,h2];rfl⟩,fun i H h hi=>⟨h,by simpa using hi⟩⟩
theorem zmm:zbp X (.builtin "len") (fun xs H Q=>∃a kvs,xs = [V.ref a]/\Rd H a (.dK kvs)/\Q (.int kvs.length) H):=by
  intro pins s σ H xs us Q I r h
  obtain⟨a,kvs,rfl,ha,q⟩:=h
  obtain⟨u,rfl,ru⟩:=zdd r
  cases ru
  exact zvw I ha fun t s' I'=>⟨.int kvs.length,H,I',⟨t,rfl⟩,q⟩
theorem zg4 (hc:X.calm=true):zbp X (.type "list") (fun xs H Q=>∃p kvs,xs = [V.ref p]/\Rd H p (.dK kvs)/\∀l,H l=none->Q (.ref l) (upd H l (.lst (kvs.map fun kv=>kV kv.1)))):=by
  intro pins s σ H xs us Q I r h
  obtain⟨p,kvs,rfl,hp,q⟩:=h
  obtain⟨u,rfl,ru⟩:=zdd r
  cases ru
  obtain⟨z,hd,vs,rel,o,es,ep,e,ex,dt,kk,pr,nd⟩:=zfu I.hok hp
  have l1:kvs.length=vs.length:=Paired.length rel
  have l2:es.size=vs.length:=by rw[←pr.length];simp
  refine zer (I.ok.hd hc) hd ⟨o,e,ex,dt⟩ (by omega) fun h1 acc c tk kp el it=>zgy I kp el (Vals.of_get ?_ fun i x v ex ev=>?_) (by rw[List.length_map];exact z) q
  · have:=it.1
    simp only [List.length_map,Array.length_toList]
    omega
  · rw[List.getElem?_map] at ex
    cases ek:kvs[i]? with
    | none=>rw[ek] at ex;cases ex
    | some kv=>
      rw[ek] at ex
      cases ex
      obtain⟨en,hen,rfl⟩:=it.2 i v (by simpa using ev)
      obtain⟨w',hw,rw'⟩:=Paired.get' rel ek
      have:=(pr.get? (e:=en) (k:=w'.1) (v:=w'.2) (by simpa using hen) (by rw[hw])).1
      have e1:kv.1=w'.1:=rw'.1
      show RelV (kV kv.1) en.key
      rw[e1]
      exact zj5 this
end
theorem zue {prog:Program}{w:World}{A:Around}{s:Shared}{a b:Int}{t u:Tok}{Q:Value->Shared->Prop}{E:Value->Shared->Prop}(q:Q (.bool (decide (a > b))) s):wpAny (model prog w) A (richCompare .Gt (.int a t) (.int b u)) Q E s:=
  CmpOf.ints_gt (P:=fun i v=>(i=0/\v = .int a t)\/(i=1/\v = .int b u)) (fun i=>if i=0 then a else b) (fun i v h=>by
    rcases h with ⟨rfl,rfl⟩ | ⟨rfl,rfl⟩
    · exact⟨t,rfl⟩
    · exact⟨u,rfl⟩) 0 1 _ _ s Q E (.inl ⟨rfl,rfl⟩) (.inr ⟨rfl,rfl⟩) q
section
variable {prog:Program}{w:World}{A:Around}{R:Result->Shared->Prop}
structure MaxAt (h:Heap) (l it S:Addr) (its:Array Value) (vb:Value) (j:Nat) (c:Nat):Prop where
  i:h.IsListIter it l j
  l:h.IsList l its
  s:h.get? S=some { cls:=.type "list",dict:=none,data:=.seq #[vb,vb] c,slots:=#[] }
end
end L2
namespace Dm
open PySem PySem.NumText L2
theorem zmn {os keys:List Str}{p:Str->Bool}(pm:os.Perm keys) (kl:keys.Pairwise (fun a b=>co a<co b)):srt (os.filter p)=keys.filter p:=by
  refine (zln (pm.filter p).symm ?_).symm
  unfold zid
  exact (kl.imp (fun h=>zdw h)).sublist (List.filter_sublist ..)
end Dm
namespace L2
open PySem PySem.Spec PyProof.Rows
end L2
namespace Dm
open PySem PySem.NumText L2
end Dm
namespace L2
open PySem PySem.Spec PyProof.Rows
abbrev IS:=Int×Str
def gtP (p q:IS):Bool:=if p.1=q.1 then decide (q.2.cps.toList<p.2.cps.toList) else decide (q.1<p.1)
theorem zct (p:IS):gtP p p=false:=by
  unfold gtP
  rw[if_pos rfl]
  exact decide_eq_false (List.lt_irrefl _)
theorem zo8 {i b j:IS}(h1:gtP i b=false) (h2:gtP j b=true):gtP i j=false:=by
  unfold gtP at *
  by_cases c1:i.1=b.1
  · rw[if_pos c1] at h1
    have h1:=of_decide_eq_false h1
    by_cases c2:j.1=b.1
    · rw[if_pos c2] at h2
      have h2:=of_decide_eq_true h2
      rw[if_pos (c1.trans c2.symm)]
      exact decide_eq_false fun z=>h1 (List.lt_trans h2 z)
    · rw[if_neg c2] at h2
      have h2:=of_decide_eq_true h2
      rw[if_neg (fun z=>c2 (z.symm.trans c1))]
      exact decide_eq_false (by omega)
  · rw[if_neg c1] at h1
    have h1:=of_decide_eq_false h1
    by_cases c2:j.1=b.1
    · rw[if_neg (fun z=>c1 (z.trans c2))]
      exact decide_eq_false (by omega)
    · rw[if_neg c2] at h2
      have h2:=of_decide_eq_true h2
      rw[if_neg (by omega)]
      exact decide_eq_false (by omega)
theorem zg5 {p b:IS}(h:gtP p b=false):p.1<=b.1:=by
  unfold gtP at h
  by_cases c:p.1=b.1
  · omega
  · rw[if_neg c] at h
    have:=of_decide_eq_false h
    omega
def TupIS (h:Heap) (v:Value) (p:IS):Prop:=∃a t u,v = .ref a/\IsTup h a #[.int p.1 t,.str p.2 u]
theorem TupIS.kept {h h':Heap}{v:Value}{p:IS}(t:TupIS h v p) (k:∀d o,(h.get? d=some o/\o.cls = .type "tuple")->h'.get? d=some o):TupIS h' v p:=by
  obtain⟨a,x,y,rfl,o,ho,hc,n,hd⟩:=t
  exact⟨a,x,y,rfl,o,k a o ⟨ho,hc⟩,hc,n,hd⟩
section
variable {prog:Program}{w:World}{A:Around}{E:Value->Shared->Prop}{s:Shared}
theorem zuf {a b:Int}{t u:Tok}{Q:Value->Shared->Prop}(q:Q (.bool (decide (a<b))) s):wpAny (model prog w) A (richCompare .Lt (.int a t) (.int b u)) Q E s:=
  CmpOf.ints_lt (P:=fun i v=>(i=0/\v = .int a t)\/(i=1/\v = .int b u)) (fun i=>if i=0 then a else b) (fun i v h=>by
    rcases h with ⟨rfl,rfl⟩ | ⟨rfl,rfl⟩
    · exact⟨t,rfl⟩
    · exact⟨u,rfl⟩) 0 1 _ _ s Q E (.inl ⟨rfl,rfl⟩) (.inr ⟨rfl,rfl⟩) q
theorem zxi {v1 v2:Value}{p q:IS}{Q:Value->Shared->Prop}(hu:A.units<cLine) (h1:TupIS s.heap v1 p) (h2:TupIS s.heap v2 q) (h:Q (.bool (gtP p q)) s) :
    wpAny (model prog w) A (richCompare .Gt v1 v2) Q E s:=by
  obtain⟨a,t1,u1,rfl,oa,hoa,hca,na,hda⟩:=h1
  obtain⟨b,t2,u2,rfl,ob,hob,hcb,nb,hdb⟩:=h2
  have ta:s.TypeIs (.ref a) "tuple":=⟨oa,hoa,hca⟩
  have tb:s.TypeIs (.ref b) "tuple":=⟨ob,hob,hcb⟩
  refine wpAny_richCompare_same_room (op:=.Gt) ta tb F.slot_tuple_gt (wpAny_call_entry F.slot_tuple_gt ta F.entry_tuple_gt ?_ (F.args_tuple_gt_2 _ _)) hu
  show wpAny _ _ (isInstance (.ref b) (.type "tuple") >>= _) _ _ s
  refine wpAny_bind (wpAny_isInstance tb isSubtype_tuple_tuple ?_)
  rw[if_neg (by decide)]
  refine wpAny_bind (wpAny_tupleItemsOf hoa hda (wpAny_bind (wpAny_tupleItemsOf hob hdb (wpAny_bind ?_))))
  show wpAny _ _ (forIn [((Value.int p.1 t1,Value.int q.1 t2):Value×Value),(Value.str p.2 u1,Value.str q.2 u2)] _ _) _ _ s
  rw[List.forIn_cons]
  refine wpAny_bind (wpAny_bind (wpAny_eqBool_int ?_))
  by_cases c:p.1=q.1
  · rw[show (p.1 == q.1)=true from beq_iff_eq.mpr c,if_neg (by decide)]
    refine wpAny_pure ?_
    show wpAny _ _ (forIn [((Value.str p.2 u1,Value.str q.2 u2):Value×Value)] _ _) _ _ s
    rw[List.forIn_cons]
    refine wpAny_bind (wpAny_bind (wpAny_eqBool_str ?_))
    by_cases c2:p.2=q.2
    · rw[decide_eq_true c2,if_neg (by decide)]
      refine wpAny_pure ?_
      show wpAny _ _ (forIn ([]:List (Value×Value)) _ _) _ _ s
      rw[List.forIn_nil]
      refine wpAny_pure (wpAny_pure ⟨_,rfl,(fun e=>nomatch e),?_⟩)
      have e:gtP p q=false:=by
        unfold gtP
        rw[if_pos c,c2]
        exact decide_eq_false (List.lt_irrefl _)
      rw[e] at h
      exact h
    · rw[decide_eq_false c2,if_pos (by decide)]
      refine wpAny_bind (wpAny_rule (wpAny_bind (PySem.P.gt_str ?_)))
      refine wpAny_pure (wpAny_pure (wpAny_pure ⟨_,rfl,(fun e=>nomatch e),?_⟩))
      unfold gtP at h
      rw[if_pos c] at h
      exact h
  · rw[show (p.1 == q.1)=false from beq_eq_false_iff_ne.mpr c,if_pos (by decide)]
    refine wpAny_bind (wpAny_rule (wpAny_bind (zue ?_)))
    refine wpAny_pure (wpAny_pure (wpAny_pure ⟨_,rfl,(fun e=>nomatch e),?_⟩))
    unfold gtP at h
    rw[if_neg c] at h
    exact h
theorem zxj {v1 v2:Value}{p q:IS}{Q:Value->Shared->Prop}(hu:A.units<cLine) (h1:TupIS s.heap v1 p) (h2:TupIS s.heap v2 q) (h:Q (.bool (gtP q p)) s) :
    wpAny (model prog w) A (richCompare .Lt v1 v2) Q E s:=by
  obtain⟨a,t1,u1,rfl,oa,hoa,hca,na,hda⟩:=h1
  obtain⟨b,t2,u2,rfl,ob,hob,hcb,nb,hdb⟩:=h2
  have ta:s.TypeIs (.ref a) "tuple":=⟨oa,hoa,hca⟩
  have tb:s.TypeIs (.ref b) "tuple":=⟨ob,hob,hcb⟩
  refine wpAny_richCompare_same_room (op:=.Lt) ta tb F.slot_tuple_lt (wpAny_call_entry F.slot_tuple_lt ta F.entry_tuple_lt ?_ (F.args_tuple_lt_2 _ _)) hu
  show wpAny _ _ (isInstance (.ref b) (.type "tuple") >>= _) _ _ s
  refine wpAny_bind (wpAny_isInstance tb isSubtype_tuple_tuple ?_)
  rw[if_neg (by decide)]
  refine wpAny_bind (wpAny_tupleItemsOf hoa hda (wpAny_bind (wpAny_tupleItemsOf hob hdb (wpAny_bind ?_))))
  show wpAny _ _ (forIn [((Value.int p.1 t1,Value.int q.1 t2):Value×Value),(Value.str p.2 u1,Value.str q.2 u2)] _ _) _ _ s
  rw[List.forIn_cons]
  refine wpAny_bind (wpAny_bind (wpAny_eqBool_int ?_))
  by_cases c:p.1=q.1
  · rw[show (p.1 == q.1)=true from beq_iff_eq.mpr c,if_neg (by decide)]
    refine wpAny_pure ?_
    show wpAny _ _ (forIn [((Value.str p.2 u1,Value.str q.2 u2):Value×Value)] _ _) _ _ s
    rw[List.forIn_cons]
    refine wpAny_bind (wpAny_bind (wpAny_eqBool_str ?_))
    by_cases c2:p.2=q.2
    · rw[decide_eq_true c2,if_neg (by decide)]
      refine wpAny_pure ?_
      show wpAny _ _ (forIn ([]:List (Value×Value)) _ _) _ _ s
      rw[List.forIn_nil]
      refine wpAny_pure (wpAny_pure ⟨_,rfl,(fun e=>nomatch e),?_⟩)
      have e:gtP q p=false:=by
        unfold gtP
        rw[if_pos c.symm,c2]
        exact decide_eq_false (List.lt_irrefl _)
      rw[e] at h
      exact h
    · rw[decide_eq_false c2,if_pos (by decide)]
      refine wpAny_bind (wpAny_rule (wpAny_bind (lt_str ?_)))
      refine wpAny_pure (wpAny_pure (wpAny_pure ⟨_,rfl,(fun e=>nomatch e),?_⟩))
      unfold gtP at h
      rw[if_pos c.symm] at h
      exact h
  · rw[show (p.1 == q.1)=false from beq_eq_false_iff_ne.mpr c,if_pos (by decide)]
    refine wpAny_bind (wpAny_rule (wpAny_bind (zuf ?_)))
    refine wpAny_pure (wpAny_pure (wpAny_pure ⟨_,rfl,(fun e=>nomatch e),?_⟩))
    unfold gtP at h
    rw[if_neg (Ne.symm c)] at h
    exact h
end
theorem zkg {i b j:IS}(h1:gtP b i=false) (h2:gtP b j=true):gtP j i=false:=by
  unfold gtP at *
  by_cases c1:b.1=i.1
  · rw[if_pos c1] at h1
    have h1:=of_decide_eq_false h1
    by_cases c2:b.1=j.1
    · rw[if_pos c2] at h2
      have h2:=of_decide_eq_true h2
      rw[if_pos (c2.symm.trans c1)]
      exact decide_eq_false fun z=>h1 (List.lt_trans z h2)
    · rw[if_neg c2] at h2
      have h2:=of_decide_eq_true h2
      rw[if_neg (fun z=>c2 (c1.trans z.symm))]
      exact decide_eq_false (by omega)
  · rw[if_neg c1] at h1
    have h1:=of_decide_eq_false h1
    by_cases c2:b.1=j.1
    · rw[if_neg (fun z=>c1 (c2.trans z))]
      exact decide_eq_false (by omega)
    · rw[if_neg c2] at h2
      have h2:=of_decide_eq_true h2
      rw[if_neg (by omega)]
      exact decide_eq_false (by omega)
theorem zaz {α β:Type}{F:α->β->Prop}{as:List α}{bs:List β}(h:Paired F as bs):∀{i:Nat}{a:α}{b:β},as[i]? = some a->bs[i]? = some b->F a b:=by
  induction h with
  | nil=>intro i a b e _;simp at e
  | cons h _ ih=>
    intro i a b e1 e2
    cases i with
    | zero=>simp at e1 e2;rw[←e1,←e2];exact h
    | succ i=>exact ih (by simpa using e1) (by simpa using e2)
section
variable {prog:Program}{w:World}{A:Around}{R:Result->Shared->Prop}
theorem zo9 {l it S:Addr}{its:Array Value}{val:Nat->IS}(hh:A.handled=none) (hu:A.units+1<cLine) (n1:S≠it) (n2:S≠l) (n3:l≠it) :
    ∀(k j b:Nat) (s:Shared) (vb:Value) (c:Nat),its.size-j=k->MaxAt s.heap l it S its vb j c->(∀i v,its[i]? = some v->TupIS s.heap v (val i))->its[b]? = some vb->(∀i,i<j->gtP (val i) (val b)=false)->j<=its.size->
      (∀(v:Value) (b':Nat) (h':Heap) (tk:Nat),its[b']? = some v->(∀i,i<its.size->gtP (val i) (val b')=false)->(∀d o,d≠it->d≠S->s.heap.get? d=some o->h'.get? d=some o)->R (.ok (.ret v)) { s with heap:=h',toks:=tk })->
      codeAny (model prog w) A (.builtin "max.loop" ⟨[.ref it,.none,.ref S],[]⟩) R s:=by
  have nm:(toString "max" ++ toString ".loop" : String) = "max.loop":=by decide
  intro k
  induction k with
  | zero=>
    intro j b s vb c hk M ht eb best hj q
    refine codeAny_builtin F.entry_max_loop ?_
    rw[Around.under_plainId F.plain_max_loop _]
    show wpAny _ A.in1 (seqItems? (.ref S) >>= _) _ _ s
    refine wpAny_bind (wpAny_seqItems M.s rfl (wpAny_bind (wpAny_tryCatch (wpAny_pyNext_list_end (A:=A.in1) hh M.i M.l (Array.getElem?_eq_none (show its.size<=j by omega)) fun h' eb'=>?_))))
    have s':=eb' S _ n1 M.s
    refine wpAny_bind (m:=updateSeq S (fun _=>#[])) ?_
    refine wpAny_updateSeq s' rfl (wpAny_bind (wpAny_letGo (wpAny_pure ?_)))
    exact q vb b _ s.toks eb (fun i hi=>best i (by omega)) fun d o d1 d2 e=>by
      rw[Heap.get?_update_other _ _ (Ne.symm d2)]
      exact eb' d o d1 e
  | succ k ih=>
    intro j b s vb c hk M ht eb best hj q
    have hlt:j<its.size:=by omega
    have ej:its[j]? = some its[j]:=Array.getElem?_eq_getElem hlt
    refine codeAny_builtin F.entry_max_loop ?_
    rw[Around.under_plainId F.plain_max_loop _]
    show wpAny _ A.in1 (seqItems? (.ref S) >>= _) _ _ s
    have ci:∀d o,s.heap.get? d=some o->o.cls = .type "tuple"->d≠it:=fun d o e z y=>by
      obtain⟨o',e',c',_⟩:=M.i
      rw[y,e'] at e
      cases e
      rw[c'] at z
      exact absurd z (by decide)
    have cS:∀d o,s.heap.get? d=some o->o.cls = .type "tuple"->d≠S:=fun d o e z y=>by
      have e':=M.s
      rw[y,e'] at e
      cases e
      have z:Value.type "list" = Value.type "tuple":=z
      exact absurd z (by decide)
    refine wpAny_bind (wpAny_seqItems M.s rfl (wpAny_bind (wpAny_tryCatch (wpAny_pyNext_list_item M.i M.l ej fun h' it' sb=>?_))))
    have s':h'.get? S=_:=(sb.2 S n1).trans M.s
    have l':h'.IsList l its:=by
      obtain⟨o,ho,r⟩:=M.l
      exact⟨o,(sb.2 l n3).trans ho,r⟩
    have ht1:∀i v,its[i]? = some v->TupIS h' v (val i):=fun i v e=>(ht i v e).kept fun d o z=>(sb.2 d (ci d o z.1 z.2)).trans z.1
    have tj:=ht1 j _ ej
    have tb:=ht1 b _ eb
    generalize its[j]=vj at ej tj
    refine wpAny_bind (wpAny_pure ?_)
    refine wpAny_bind (wpAny_tryCatch (wpAny_holding (wpAny_bind (zxi (s:={ s with heap:=h' }) hu tj tb ?_))))
    refine wpAny_bind (wpAny_holding (wpAny_truthy_bool (wpAny_bind (wpAny_letGo (wpAny_pure ?_)))))
    by_cases c1:gtP (val j) (val b)=true
    · rw[c1,if_pos rfl]
      refine wpAny_bind (m:=updateSeq S (fun _=>#[vj,vj])) ?_
      refine wpAny_updateSeq s' rfl (wpAny_bind (wpAny_letGo ?_))
      rw[nm]
      have keep:∀d o,d≠S->h'.get? d=some o->(h'.update S (Obj.mapSeq fun _=>#[vj,vj])).get? d=some o:=fun d o d1 e=>(Heap.get?_update_other _ _ (Ne.symm d1)).trans e
      obtain⟨c',M'⟩:∃c',MaxAt (h'.update S (Obj.mapSeq fun _=>#[vj,vj])) l it S its vj (j+1) c':=by
        refine⟨_,it'.at fun o e=>keep it o (Ne.symm n1) e,?_,Heap.get?_update_self _ s' rfl⟩
        obtain⟨o,ho,r⟩:=l'
        exact⟨o,keep l o (Ne.symm n2) ho,r⟩
      refine wpAny_pure ⟨plainId_quiet F.plain_max_loop _,ih (j+1) j _ _ _ (by omega) M' (fun i v e=>?_) ej (fun i hi=>?_) hlt fun v b' h2 tk ev hb kp=>?_⟩
      · refine (ht i v e).kept fun d o z=>keep d o (cS d o z.1 z.2) ((sb.2 d (ci d o z.1 z.2)).trans z.1)
      · by_cases c2:i=j
        · subst c2;exact zct _
        · exact zo8 (best i (by omega)) c1
      · exact q v b' h2 tk ev hb fun d o d1 d2 e=>kp d o d1 d2 (keep d o d2 ((sb.2 d d1).trans e))
    · have c1:gtP (val j) (val b)=false:=by simpa using c1
      rw[c1,if_neg Bool.false_ne_true]
      refine wpAny_bind (wpAny_letGo ?_)
      rw[nm]
      refine wpAny_pure ⟨plainId_quiet F.plain_max_loop _,ih (j+1) b { s with heap:=h' } _ c (by omega) ⟨it',l',s'⟩ ht1 eb (fun i hi=>?_) hlt fun v b' h2 tk ev hb kp=>?_⟩
      · by_cases c2:i=j
        · subst c2;exact c1
        · exact best i (by omega)
      · exact q v b' h2 tk ev hb fun d o d1 d2 e=>kp d o d1 d2 ((sb.2 d d1).trans e)
theorem zmo {l it S:Addr}{its:Array Value}{val:Nat->IS}{s:Shared}{c:Nat}(hh:A.handled=none) (hu:A.units+1<cLine) (n1:S≠it) (n2:S≠l) (n3:l≠it) (hpos:0<its.size)
    (hi:s.heap.IsListIter it l 0) (hl:s.heap.IsList l its) (hS:s.heap.get? S=some { cls:=.type "list",dict:=none,data:=.seq #[] c,slots:=#[] }) (ht:∀i v,its[i]? = some v->TupIS s.heap v (val i))
    (q:∀(v:Value) (b':Nat) (h':Heap) (tk:Nat),its[b']? = some v->(∀i,i<its.size->gtP (val i) (val b')=false)->(∀d o,d≠it->d≠S->s.heap.get? d=some o->h'.get? d=some o)->R (.ok (.ret v)) { s with heap:=h',toks:=tk }) :
    codeAny (model prog w) A (.builtin "max.loop" ⟨[.ref it,.none,.ref S],[]⟩) R s:=by
  have nm:(toString "max" ++ toString ".loop" : String) = "max.loop":=by decide
  refine codeAny_builtin F.entry_max_loop ?_
  rw[Around.under_plainId F.plain_max_loop _]
  show wpAny _ A.in1 (seqItems? (.ref S) >>= _) _ _ s
  have ci:∀d o,s.heap.get? d=some o->o.cls = .type "tuple"->d≠it:=fun d o e z y=>by
    obtain⟨o',e',c',_⟩:=hi
    rw[y,e'] at e
    cases e
    rw[c'] at z
    exact absurd z (by decide)
  have cS:∀d o,s.heap.get? d=some o->o.cls = .type "tuple"->d≠S:=fun d o e z y=>by
    rw[y,hS] at e
    cases e
    have z:Value.type "list" = Value.type "tuple":=z
    exact absurd z (by decide)
  have ej:its[0]? = some its[0]:=Array.getElem?_eq_getElem hpos
  refine wpAny_bind (wpAny_seqItems hS rfl (wpAny_bind (wpAny_tryCatch (wpAny_pyNext_list_item hi hl ej fun h' it' sb=>?_))))
  have s':h'.get? S=_:=(sb.2 S n1).trans hS
  have l':h'.IsList l its:=by
    obtain⟨o,ho,r⟩:=hl
    exact⟨o,(sb.2 l n3).trans ho,r⟩
  refine wpAny_bind (wpAny_pure ?_)
  refine wpAny_bind (m:=updateSeq S (fun _=>#[its[0],its[0]])) ?_
  refine wpAny_updateSeq s' rfl ?_
  rw[nm]
  have keep:∀d o,d≠S->h'.get? d=some o->(h'.update S (Obj.mapSeq fun _=>#[its[0],its[0]])).get? d=some o:=fun d o d1 e=>(Heap.get?_update_other _ _ (Ne.symm d1)).trans e
  obtain⟨c',M'⟩:∃c',MaxAt (h'.update S (Obj.mapSeq fun _=>#[its[0],its[0]])) l it S its its[0] 1 c':=by
    refine⟨_,it'.at fun o e=>keep it o (Ne.symm n1) e,?_,Heap.get?_update_self _ s' rfl⟩
    obtain⟨o,ho,r⟩:=l'
    exact⟨o,keep l o (Ne.symm n2) ho,r⟩
  refine wpAny_pure ⟨plainId_quiet F.plain_max_loop _,zo9 (val:=val) hh hu n1 n2 n3 _ 1 0 _ _ _ rfl M' (fun i v e=>?_) ej (fun i hi=>?_) (by omega) fun v b' h2 tk ev hb kp=>?_⟩
  · exact (ht i v e).kept fun d o z=>keep d o (cS d o z.1 z.2) ((sb.2 d (ci d o z.1 z.2)).trans z.1)
  · have:i=0:=by omega
    subst this
    exact zct _
  · exact q v b' h2 tk ev hb fun d o d1 d2 e=>kp d o d1 d2 (keep d o d2 ((sb.2 d d1).trans e))
end
section
variable {prog:Program}{w:World}{A:Around}{E:Value->Shared->Prop}{s:Shared}
theorem zmp {l:Addr}{its:Array Value}{val:Nat->IS}{Q:Value->Shared->Prop}(hh:A.handled=none) (hu:A.units+1<cLine) (hl:s.heap.IsList l its) (hpos:0<its.size) (ht:∀i v,its[i]? = some v->TupIS s.heap v (val i))
    (q:∀(v:Value) (b':Nat) (h':Heap) (tk:Nat),its[b']? = some v->(∀i,i<its.size->gtP (val i) (val b')=false)->(∀d o,s.heap.get? d=some o->h'.get? d=some o)->Q v { s with heap:=h',toks:=tk }) :
    wpAny (model prog w) A (call (.builtin "max") [.ref l]) Q E s:=by
  have nm:(toString "max" ++ toString ".loop" : String) = "max.loop":=by decide
  have hlt:l<s.heap.objs.size:=by obtain⟨_,e,_⟩:=hl;exact Heap.lt_size e
  have body:wpAny (model prog w) A.in1 (Builtin.«max» ⟨[.ref l],[]⟩) (fun fin s'=>match fin with
      | .done f=>(match (Except.ok f:Result) with | .ok (.ret v)=>Q v s' | .ok _=>False | .error e=>E e s')
      | .again c'=>c'.quiet=true/\codeAny (model prog w) A c' (fun r s'=>match r with | .ok (.ret v)=>Q v s' | .ok _=>False | .error e=>E e s') s') E s:=by
    show wpAny _ A.in1 (Builtin.Builtins.bindParams "max" ["key","default"] 0 ⟨[],[]⟩ >>= _) _ _ s
    refine wpAny_bind (wpAny_of_eq (show Builtin.Builtins.bindParams "max" ["key","default"] 0 ⟨[],[]⟩=pure [none,none] from rfl) ?_)
    refine wpAny_bind (wpAny_pure (wpAny_bind (wpAny_pyIter_list hl ?_)))
    refine wpAny_bind (wpAny_newObj_type ?_)
    rw[nm]
    have zu:(s.heap.push { cls:=.type "list_iterator",data:=.fields #[.ref l,.int 0 0] }).objs.size=s.heap.objs.size+1:=Heap.size_push ..
    have old1:∀d o,s.heap.get? d=some o->(s.heap.push { cls:=.type "list_iterator",data:=.fields #[.ref l,.int 0 0] }).get? d=some o:=fun d o e=>Heap.get?_push_of_some _ e
    have hit:(s.heap.push { cls:=.type "list_iterator",data:=.fields #[.ref l,.int 0 0] }).IsListIter s.heap.objs.size l 0:=⟨_,Heap.get?_push_size _ rfl,rfl,rfl⟩
    have hl1:(s.heap.push { cls:=.type "list_iterator",data:=.fields #[.ref l,.int 0 0] }).IsList l its:=by
      obtain⟨o,ho,r⟩:=hl
      exact⟨o,old1 l o ho,r⟩
    generalize s.heap.push { cls:=.type "list_iterator",data:=.fields #[.ref l,.int 0 0] } = g at zu old1 hit hl1
    have hl2:(g.push { cls:=.type "list",data:=.seq ([]:List Value).toArray }).IsList l its:=by
      obtain⟨o,ho,r⟩:=hl1
      exact⟨o,Heap.get?_push_of_some _ ho,r⟩
    refine wpAny_pure ⟨plainId_quiet F.plain_max_loop _,zmo (val:=val) (it:=s.heap.objs.size) (S:=g.objs.size) hh hu ?_ ?_ ?_ hpos (hit.at fun o e=>Heap.get?_push_of_some _ e) hl2 (Heap.get?_push_size _ rfl) (fun i v e=>(ht i v e).kept fun d o z=>Heap.get?_push_of_some _ (old1 d o z.1)) fun v b' h' tk eb hb kp=>?_⟩
    · rw[zu];exact Nat.succ_ne_self _
    · rw[zu];exact Ne.symm (Nat.ne_of_lt (Nat.lt_succ_of_lt hlt))
    · exact Nat.ne_of_lt hlt
    · refine q v b' h' tk eb hb fun d o e=>kp d o (fun z=>?_) (fun z=>?_) (Heap.get?_push_of_some _ (old1 d o e))
      · exact absurd (Heap.lt_size e) (by rw[z];exact Nat.lt_irrefl _)
      · exact absurd (Heap.lt_size e) (by rw[z,zu];exact Nat.not_lt_of_le (Nat.le_succ _))
  refine wpAny_call (codeAny_call_builtin F.plain_max F.entry_max ?_)
  have ha:=F.args_max1 (.ref l)
  simp only [checkBuiltinCall,F.kind_max]
  cases sg:Manifest.signature? "max" with
  | none=>exact wpAny_pure body
  | some g=>
    simp only [argsOk,sg] at ha
    have ha:Bind.checkArgs "max" g ⟨[.ref l],[]⟩=pure ():=ha
    show wpAny _ A.in1 (Bind.checkArgs "max" g ⟨[.ref l],[]⟩) _ _ s
    rw[ha]
    exact wpAny_pure body
end
section
variable {X:Cx}
theorem zpa {K:PySem.W.Frag}(h:X.K=K) (hc:X.calm=true) (hu:X.A.units+1<cLine):zbp X (.builtin "max") (fun xs H Q=>∃(l:Addr) (as:List Addr) (ps:List IS),xs = [V.ref l]/\SqL K H l (as.map V.ref)/\Paired (fun a (p:IS)=>SqT K H a [.int p.1,.str p.2]) as ps/\ps≠[]/\
    ∀(j:Nat) a p,as[j]? = some a->ps[j]? = some p->(∀q∈ps,gtP q p=false)->Q (.ref a) H):=by
  subst h
  intro pins s σ H xs us Q I r h
  obtain⟨l,as,ps,rfl,hl,pr,hne,q⟩:=h
  obtain⟨u,rfl,ru⟩:=zdd r
  cases ru
  obtain⟨its,rv,pl,hz⟩:=I.list hl
  have len:=rv.length
  rw[List.length_map] at len
  have lp:as.length=ps.length:=Paired.length pr
  have hpos:0<ps.length:=List.length_pos_iff.mpr hne
  have hat:∀(i:Nat) (v:Value),its.toArray[i]? = some v->∃(a:Addr) (p:IS),as[i]? = some a/\ps[i]? = some p/\v=Value.ref a/\SqT X.K H a [.int p.1,.str p.2]:=by
    intro i v e
    have e':its[i]? = some v:=by simpa using e
    have hi:i<as.length:=by have:=(List.getElem?_eq_some_iff.mp e').1;omega
    have hi2:i<ps.length:=by omega
    obtain⟨u,e2,ru⟩:=rv.get (i:=i) (x:=V.ref as[i]) (by simp[hi])
    rw[e'] at e2
    cases e2
    cases ru
    exact⟨as[i],ps[i],List.getElem?_eq_getElem hi,List.getElem?_eq_getElem hi2,rfl,zaz pr (List.getElem?_eq_getElem hi) (List.getElem?_eq_getElem hi2)⟩
  have ht:∀i v,its.toArray[i]? = some v->TupIS s.heap v (ps.getD i (0,"")):=by
    intro i v e
    obtain⟨a,p,ea,ep,rfl,t⟩:=hat i v e
    obtain⟨ts,rt,it,_⟩:=I.tuple t
    have e0:ps.getD i (0,"")=p:=by rw[List.getD_eq_getElem?_getD,ep];rfl
    obtain⟨u1,u2,rfl,⟨t1,rfl⟩,⟨t2,rfl⟩⟩:=zhn rt
    rw[e0]
    exact⟨a,t1,t2,rfl,it⟩
  refine zmp (I.ok.hd hc) hu pl.isList (by rw[List.size_toArray];omega) ht fun v b h' tk eb hb kp=>?_
  obtain⟨a,p,ea,ep,rfl,t⟩:=hat b v eb
  refine⟨.ref a,H,I.kept kp,rfl,q b a p ea ep fun z hz=>?_⟩
  obtain⟨i,hi⟩:=List.mem_iff_getElem?.mp hz
  have hlt:=(List.getElem?_eq_some_iff.mp hi).1
  have:=hb i (by rw[List.size_toArray];omega)
  rw[List.getD_eq_getElem?_getD,List.getD_eq_getElem?_getD,hi,ep] at this
  exact this
end
section
variable {prog:Program}{w:World}{A:Around}{R:Result->Shared->Prop}
theorem zpb {l it S:Addr}{its:Array Value}{val:Nat->IS}(hh:A.handled=none) (hu:A.units+1<cLine) (n1:S≠it) (n2:S≠l) (n3:l≠it) :
    ∀(k j b:Nat) (s:Shared) (vb:Value) (c:Nat),its.size-j=k->MaxAt s.heap l it S its vb j c->(∀i v,its[i]? = some v->TupIS s.heap v (val i))->its[b]? = some vb->(∀i,i<j->gtP (val b) (val i)=false)->j<=its.size->
      (∀(v:Value) (b':Nat) (h':Heap) (tk:Nat),its[b']? = some v->(∀i,i<its.size->gtP (val b') (val i)=false)->(∀d o,d≠it->d≠S->s.heap.get? d=some o->h'.get? d=some o)->R (.ok (.ret v)) { s with heap:=h',toks:=tk })->
      codeAny (model prog w) A (.builtin "min.loop" ⟨[.ref it,.none,.ref S],[]⟩) R s:=by
  have nm:(toString "min" ++ toString ".loop" : String) = "min.loop":=by decide
  intro k
  induction k with
  | zero=>
    intro j b s vb c hk M ht eb best hj q
    refine codeAny_builtin F.entry_min_loop ?_
    rw[Around.under_plainId F.plain_min_loop _]
    show wpAny _ A.in1 (seqItems? (.ref S) >>= _) _ _ s
    refine wpAny_bind (wpAny_seqItems M.s rfl (wpAny_bind (wpAny_tryCatch (wpAny_pyNext_list_end (A:=A.in1) hh M.i M.l (Array.getElem?_eq_none (show its.size<=j by omega)) fun h' eb'=>?_))))
    have s':=eb' S _ n1 M.s
    refine wpAny_bind (m:=updateSeq S (fun _=>#[])) ?_
    refine wpAny_updateSeq s' rfl (wpAny_bind (wpAny_letGo (wpAny_pure ?_)))
    exact q vb b _ s.toks eb (fun i hi=>best i (by omega)) fun d o d1 d2 e=>by
      rw[Heap.get?_update_other _ _ (Ne.symm d2)]
      exact eb' d o d1 e
  | succ k ih=>
    intro j b s vb c hk M ht eb best hj q
    have hlt:j<its.size:=by omega
    have ej:its[j]? = some its[j]:=Array.getElem?_eq_getElem hlt
    refine codeAny_builtin F.entry_min_loop ?_
    rw[Around.under_plainId F.plain_min_loop _]
    show wpAny _ A.in1 (seqItems? (.ref S) >>= _) _ _ s
    have ci:∀d o,s.heap.get? d=some o->o.cls = .type "tuple"->d≠it:=fun d o e z y=>by
      obtain⟨o',e',c',_⟩:=M.i
      rw[y,e'] at e
      cases e
      rw[c'] at z
      exact absurd z (by decide)
    have cS:∀d o,s.heap.get? d=some o->o.cls = .type "tuple"->d≠S:=fun d o e z y=>by
      have e':=M.s
      rw[y,e'] at e
      cases e
      have z:Value.type "list" = Value.type "tuple":=z
      exact absurd z (by decide)
    refine wpAny_bind (wpAny_seqItems M.s rfl (wpAny_bind (wpAny_tryCatch (wpAny_pyNext_list_item M.i M.l ej fun h' it' sb=>?_))))
    have s':h'.get? S=_:=(sb.2 S n1).trans M.s
    have l':h'.IsList l its:=by
      obtain⟨o,ho,r⟩:=M.l
      exact⟨o,(sb.2 l n3).trans ho,r⟩
    have ht1:∀i v,its[i]? = some v->TupIS h' v (val i):=fun i v e=>(ht i v e).kept fun d o z=>(sb.2 d (ci d o z.1 z.2)).trans z.1
    have tj:=ht1 j _ ej
    have tb:=ht1 b _ eb
    generalize its[j]=vj at ej tj
    refine wpAny_bind (wpAny_pure ?_)
    refine wpAny_bind (wpAny_tryCatch (wpAny_holding (wpAny_bind (zxj (s:={ s with heap:=h' }) hu tj tb ?_))))
    refine wpAny_bind (wpAny_holding (wpAny_truthy_bool (wpAny_bind (wpAny_letGo (wpAny_pure ?_)))))
    by_cases c1:gtP (val b) (val j)=true
    · rw[c1,if_pos rfl]
      refine wpAny_bind (m:=updateSeq S (fun _=>#[vj,vj])) ?_
      refine wpAny_updateSeq s' rfl (wpAny_bind (wpAny_letGo ?_))
      rw[nm]
      have keep:∀d o,d≠S->h'.get? d=some o->(h'.update S (Obj.mapSeq fun _=>#[vj,vj])).get? d=some o:=fun d o d1 e=>(Heap.get?_update_other _ _ (Ne.symm d1)).trans e
      obtain⟨c',M'⟩:∃c',MaxAt (h'.update S (Obj.mapSeq fun _=>#[vj,vj])) l it S its vj (j+1) c':=by
        refine⟨_,it'.at fun o e=>keep it o (Ne.symm n1) e,?_,Heap.get?_update_self _ s' rfl⟩
        obtain⟨o,ho,r⟩:=l'
        exact⟨o,keep l o (Ne.symm n2) ho,r⟩
      refine wpAny_pure ⟨plainId_quiet F.plain_min_loop _,ih (j+1) j _ _ _ (by omega) M' (fun i v e=>?_) ej (fun i hi=>?_) hlt fun v b' h2 tk ev hb kp=>?_⟩
      · refine (ht i v e).kept fun d o z=>keep d o (cS d o z.1 z.2) ((sb.2 d (ci d o z.1 z.2)).trans z.1)
      · by_cases c2:i=j
        · subst c2;exact zct _
        · exact zkg (best i (by omega)) c1
      · exact q v b' h2 tk ev hb fun d o d1 d2 e=>kp d o d1 d2 (keep d o d2 ((sb.2 d d1).trans e))
    · have c1:gtP (val b) (val j)=false:=by simpa using c1
      rw[c1,if_neg Bool.false_ne_true]
      refine wpAny_bind (wpAny_letGo ?_)
      rw[nm]
      refine wpAny_pure ⟨plainId_quiet F.plain_min_loop _,ih (j+1) b { s with heap:=h' } _ c (by omega) ⟨it',l',s'⟩ ht1 eb (fun i hi=>?_) hlt fun v b' h2 tk ev hb kp=>?_⟩
      · by_cases c2:i=j
        · subst c2;exact c1
        · exact best i (by omega)
      · exact q v b' h2 tk ev hb fun d o d1 d2 e=>kp d o d1 d2 ((sb.2 d d1).trans e)
theorem zmq {l it S:Addr}{its:Array Value}{val:Nat->IS}{s:Shared}{c:Nat}(hh:A.handled=none) (hu:A.units+1<cLine) (n1:S≠it) (n2:S≠l) (n3:l≠it) (hpos:0<its.size)
    (hi:s.heap.IsListIter it l 0) (hl:s.heap.IsList l its) (hS:s.heap.get? S=some { cls:=.type "list",dict:=none,data:=.seq #[] c,slots:=#[] }) (ht:∀i v,its[i]? = some v->TupIS s.heap v (val i))
    (q:∀(v:Value) (b':Nat) (h':Heap) (tk:Nat),its[b']? = some v->(∀i,i<its.size->gtP (val b') (val i)=false)->(∀d o,d≠it->d≠S->s.heap.get? d=some o->h'.get? d=some o)->R (.ok (.ret v)) { s with heap:=h',toks:=tk }) :
    codeAny (model prog w) A (.builtin "min.loop" ⟨[.ref it,.none,.ref S],[]⟩) R s:=by
  have nm:(toString "min" ++ toString ".loop" : String) = "min.loop":=by decide
  refine codeAny_builtin F.entry_min_loop ?_
  rw[Around.under_plainId F.plain_min_loop _]
  show wpAny _ A.in1 (seqItems? (.ref S) >>= _) _ _ s
  have ci:∀d o,s.heap.get? d=some o->o.cls = .type "tuple"->d≠it:=fun d o e z y=>by
    obtain⟨o',e',c',_⟩:=hi
    rw[y,e'] at e
    cases e
    rw[c'] at z
    exact absurd z (by decide)
  have cS:∀d o,s.heap.get? d=some o->o.cls = .type "tuple"->d≠S:=fun d o e z y=>by
    rw[y,hS] at e
    cases e
    have z:Value.type "list" = Value.type "tuple":=z
    exact absurd z (by decide)
  have ej:its[0]? = some its[0]:=Array.getElem?_eq_getElem hpos
  refine wpAny_bind (wpAny_seqItems hS rfl (wpAny_bind (wpAny_tryCatch (wpAny_pyNext_list_item hi hl ej fun h' it' sb=>?_))))
  have s':h'.get? S=_:=(sb.2 S n1).trans hS
  have l':h'.IsList l its:=by
    obtain⟨o,ho,r⟩:=hl
    exact⟨o,(sb.2 l n3).trans ho,r⟩
  refine wpAny_bind (wpAny_pure ?_)
  refine wpAny_bind (m:=updateSeq S (fun _=>#[its[0],its[0]])) ?_
  refine wpAny_updateSeq s' rfl ?_
  rw[nm]
  have keep:∀d o,d≠S->h'.get? d=some o->(h'.update S (Obj.mapSeq fun _=>#[its[0],its[0]])).get? d=some o:=fun d o d1 e=>(Heap.get?_update_other _ _ (Ne.symm d1)).trans e
  obtain⟨c',M'⟩:∃c',MaxAt (h'.update S (Obj.mapSeq fun _=>#[its[0],its[0]])) l it S its its[0] 1 c':=by
    refine⟨_,it'.at fun o e=>keep it o (Ne.symm n1) e,?_,Heap.get?_update_self _ s' rfl⟩
    obtain⟨o,ho,r⟩:=l'
    exact⟨o,keep l o (Ne.symm n2) ho,r⟩
  refine wpAny_pure ⟨plainId_quiet F.plain_min_loop _,zpb (val:=val) hh hu n1 n2 n3 _ 1 0 _ _ _ rfl M' (fun i v e=>?_) ej (fun i hi=>?_) (by omega) fun v b' h2 tk ev hb kp=>?_⟩
  · exact (ht i v e).kept fun d o z=>keep d o (cS d o z.1 z.2) ((sb.2 d (ci d o z.1 z.2)).trans z.1)
  · have:i=0:=by omega
    subst this
    exact zct _
  · exact q v b' h2 tk ev hb fun d o d1 d2 e=>kp d o d1 d2 (keep d o d2 ((sb.2 d d1).trans e))
end
section
variable {prog:Program}{w:World}{A:Around}{E:Value->Shared->Prop}{s:Shared}
theorem zmr {l:Addr}{its:Array Value}{val:Nat->IS}{Q:Value->Shared->Prop}(hh:A.handled=none) (hu:A.units+1<cLine) (hl:s.heap.IsList l its) (hpos:0<its.size) (ht:∀i v,its[i]? = some v->TupIS s.heap v (val i))
    (q:∀(v:Value) (b':Nat) (h':Heap) (tk:Nat),its[b']? = some v->(∀i,i<its.size->gtP (val b') (val i)=false)->(∀d o,s.heap.get? d=some o->h'.get? d=some o)->Q v { s with heap:=h',toks:=tk }) :
    wpAny (model prog w) A (call (.builtin "min") [.ref l]) Q E s:=by
  have nm:(toString "min" ++ toString ".loop" : String) = "min.loop":=by decide
  have hlt:l<s.heap.objs.size:=by obtain⟨_,e,_⟩:=hl;exact Heap.lt_size e
  have body:wpAny (model prog w) A.in1 (Builtin.«min» ⟨[.ref l],[]⟩) (fun fin s'=>match fin with
      | .done f=>(match (Except.ok f:Result) with | .ok (.ret v)=>Q v s' | .ok _=>False | .error e=>E e s')
      | .again c'=>c'.quiet=true/\codeAny (model prog w) A c' (fun r s'=>match r with | .ok (.ret v)=>Q v s' | .ok _=>False | .error e=>E e s') s') E s:=by
    show wpAny _ A.in1 (Builtin.Builtins.bindParams "min" ["key","default"] 0 ⟨[],[]⟩ >>= _) _ _ s
    refine wpAny_bind (wpAny_of_eq (show Builtin.Builtins.bindParams "min" ["key","default"] 0 ⟨[],[]⟩=pure [none,none] from rfl) ?_)
    refine wpAny_bind (wpAny_pure (wpAny_bind (wpAny_pyIter_list hl ?_)))
    refine wpAny_bind (wpAny_newObj_type ?_)
    rw[nm]
    have zu:(s.heap.push { cls:=.type "list_iterator",data:=.fields #[.ref l,.int 0 0] }).objs.size=s.heap.objs.size+1:=Heap.size_push ..
    have old1:∀d o,s.heap.get? d=some o->(s.heap.push { cls:=.type "list_iterator",data:=.fields #[.ref l,.int 0 0] }).get? d=some o:=fun d o e=>Heap.get?_push_of_some _ e
    have hit:(s.heap.push { cls:=.type "list_iterator",data:=.fields #[.ref l,.int 0 0] }).IsListIter s.heap.objs.size l 0:=⟨_,Heap.get?_push_size _ rfl,rfl,rfl⟩
    have hl1:(s.heap.push { cls:=.type "list_iterator",data:=.fields #[.ref l,.int 0 0] }).IsList l its:=by
      obtain⟨o,ho,r⟩:=hl
      exact⟨o,old1 l o ho,r⟩
    generalize s.heap.push { cls:=.type "list_iterator",data:=.fields #[.ref l,.int 0 0] } = g at zu old1 hit hl1
    have hl2:(g.push { cls:=.type "list",data:=.seq ([]:List Value).toArray }).IsList l its:=by
      obtain⟨o,ho,r⟩:=hl1
      exact⟨o,Heap.get?_push_of_some _ ho,r⟩
    refine wpAny_pure ⟨plainId_quiet F.plain_min_loop _,zmq (val:=val) (it:=s.heap.objs.size) (S:=g.objs.size) hh hu ?_ ?_ ?_ hpos (hit.at fun o e=>Heap.get?_push_of_some _ e) hl2 (Heap.get?_push_size _ rfl) (fun i v e=>(ht i v e).kept fun d o z=>Heap.get?_push_of_some _ (old1 d o z.1)) fun v b' h' tk eb hb kp=>?_⟩
    · rw[zu];exact Nat.succ_ne_self _
    · rw[zu];exact Ne.symm (Nat.ne_of_lt (Nat.lt_succ_of_lt hlt))
    · exact Nat.ne_of_lt hlt
    · refine q v b' h' tk eb hb fun d o e=>kp d o (fun z=>?_) (fun z=>?_) (Heap.get?_push_of_some _ (old1 d o e))
      · exact absurd (Heap.lt_size e) (by rw[z];exact Nat.lt_irrefl _)
      · exact absurd (Heap.lt_size e) (by rw[z,zu];exact Nat.not_lt_of_le (Nat.le_succ _))
  refine wpAny_call (codeAny_call_builtin F.plain_min F.entry_min ?_)
  have ha:=F.args_min1 (.ref l)
  simp only [checkBuiltinCall,F.kind_min]
  cases sg:Manifest.signature? "min" with
  | none=>exact wpAny_pure body
  | some g=>
    simp only [argsOk,sg] at ha
    have ha:Bind.checkArgs "min" g ⟨[.ref l],[]⟩=pure ():=ha
    show wpAny _ A.in1 (Bind.checkArgs "min" g ⟨[.ref l],[]⟩) _ _ s
    rw[ha]
    exact wpAny_pure body
end
section
variable {X:Cx}
theorem zpc {K:PySem.W.Frag}(h:X.K=K) (hc:X.calm=true) (hu:X.A.units+1<cLine):zbp X (.builtin "min") (fun xs H Q=>∃(l:Addr) (as:List Addr) (ps:List IS),xs = [V.ref l]/\SqL K H l (as.map V.ref)/\Paired (fun a (p:IS)=>SqT K H a [.int p.1,.str p.2]) as ps/\ps≠[]/\
    ∀(j:Nat) a p,as[j]? = some a->ps[j]? = some p->(∀q∈ps,gtP p q=false)->Q (.ref a) H):=by
  subst h
  intro pins s σ H xs us Q I r h
  obtain⟨l,as,ps,rfl,hl,pr,hne,q⟩:=h
  obtain⟨u,rfl,ru⟩:=zdd r
  cases ru
  obtain⟨its,rv,pl,hz⟩:=I.list hl
  have len:=rv.length
  rw[List.length_map] at len
  have lp:as.length=ps.length:=Paired.length pr
  have hpos:0<ps.length:=List.length_pos_iff.mpr hne
  have hat:∀(i:Nat) (v:Value),its.toArray[i]? = some v->∃(a:Addr) (p:IS),as[i]? = some a/\ps[i]? = some p/\v=Value.ref a/\SqT X.K H a [.int p.1,.str p.2]:=by
    intro i v e
    have e':its[i]? = some v:=by simpa using e
    have hi:i<as.length:=by have:=(List.getElem?_eq_some_iff.mp e').1;omega
    have hi2:i<ps.length:=by omega
    obtain⟨u,e2,ru⟩:=rv.get (i:=i) (x:=V.ref as[i]) (by simp[hi])
    rw[e'] at e2
    cases e2
    cases ru
    exact⟨as[i],ps[i],List.getElem?_eq_getElem hi,List.getElem?_eq_getElem hi2,rfl,zaz pr (List.getElem?_eq_getElem hi) (List.getElem?_eq_getElem hi2)⟩
  have ht:∀i v,its.toArray[i]? = some v->TupIS s.heap v (ps.getD i (0,"")):=by
    intro i v e
    obtain⟨a,p,ea,ep,rfl,t⟩:=hat i v e
    obtain⟨ts,rt,it,_⟩:=I.tuple t
    have e0:ps.getD i (0,"")=p:=by rw[List.getD_eq_getElem?_getD,ep];rfl
    obtain⟨u1,u2,rfl,⟨t1,rfl⟩,⟨t2,rfl⟩⟩:=zhn rt
    rw[e0]
    exact⟨a,t1,t2,rfl,it⟩
  refine zmr (I.ok.hd hc) hu pl.isList (by rw[List.size_toArray];omega) ht fun v b h' tk eb hb kp=>?_
  obtain⟨a,p,ea,ep,rfl,t⟩:=hat b v eb
  refine⟨.ref a,H,I.kept kp,rfl,q b a p ea ep fun z hz=>?_⟩
  obtain⟨i,hi⟩:=List.mem_iff_getElem?.mp hz
  have hlt:=(List.getElem?_eq_some_iff.mp hi).1
  have:=hb i (by rw[List.size_toArray];omega)
  rw[List.getD_eq_getElem?_getD,List.getD_eq_getElem?_getD,hi,ep] at this
  exact this
end
theorem zd4:plainId "dict.update.loop" = true:=by decide +kernel
theorem ziu:entryFor table "dict.update.loop" = some Builtin.«dict.update.loop»:=entryFor_of_tree (by kernel_rfl)
theorem ziv:typeLookup (.type "list") "keys" = pure none:=am_miss_of_fast (by kernel_rfl)
section
variable {prog:Program}{w:World}{A:Around}{E:Value->Shared->Prop}{s:Shared}
theorem zpd {l:Addr}{its:Array Value}{Q:Option Value->Shared->Prop}(hh:A.handled=none) (pl:PlainL s.heap l its) (h:∀h' tk,(∀b ob,s.heap.get? b=some ob->h'.get? b=some ob)->Q none { s with heap:=h',toks:=tk }) :
    wpAny (model prog w) A (getAttr? (.ref l) "keys") Q E s:=by
  obtain⟨⟨c,dct,dat,sl⟩,n,hx,hc,hd,hdat⟩:=pl
  simp only at hc hd hdat
  subst hc hdat hd
  obtain⟨hp,g,d,tk,os⟩:=s
  have hT:∀tk',(⟨hp,g,d,tk',os⟩:Shared).TypeIs (.ref l) "list":=fun _=>⟨_,hx,rfl⟩
  have f1:=sub_AttributeError
  have f3:=F.slot_list_getattribute.lookup
  have f4:=F.slot_list_getattribute.bind (.ref l)
  have f5:=am_list_getattr_none
  unfold getAttr? getAttrBy? getAttrBy
  repeat (any_goals (first | assumption | exact hT _ | ((with_reducible show wpAny _ _ (call (Value.builtin "list.__getattribute__") _ _) _ _ _);refine call_meets F.slot_list_getattribute (hT _) am_entry_list_getattribute (F.args_list_getattribute_2 _ _) (meets_getattribute_miss_list l its n sl "keys" _ ziv (by decide +kernel)) ⟨hx,hh,fun h' tk' e hx'=>?_⟩) | wp_step))
  obtain⟨t',u',he⟩:=hx'.there
  show wpAny _ _ (getattributeRaised _ _ _ _ _ _ _) _ _ _
  unfold getattributeRaised
  repeat (any_goals (first | assumption | wp_step))
  exact h _ _ hx'.keeps
end
def zfz (ps:List (Key×Value)):List (Key×Value):=ps.foldl (fun d p=>stored d p.1 p.2) []
def ziw (ps:List (Key×V)):List (Key×V):=ps.foldl (fun d p=>putK d p.1 p.2) []
theorem zms {ps:List (Key×Value)}{j:Nat}{p:Key×Value}(h:ps[j]? = some p):zfz (ps.take (j+1))=stored (zfz (ps.take j)) p.1 p.2:=by
  unfold zfz
  rw[List.take_add_one,h,List.foldl_append]
  rfl
theorem KV.all {kvs:List (Key×V)}{vs:List (Key×Value)}(r:KV kvs vs):KV (ziw kvs) (zfz vs):=by
  have go:∀{kvs:List (Key×V)}{vs:List (Key×Value)},KV kvs vs->∀(a:List (Key×V)) (b:List (Key×Value)),KV a b->KV (kvs.foldl (fun d p=>putK d p.1 p.2) a) (vs.foldl (fun d p=>stored d p.1 p.2) b):=by
    intro kvs vs r
    induction r with
    | nil=>intro a b h;exact h
    | cons h _ ih=>
      intro a b q
      rw[List.foldl_cons,List.foldl_cons]
      refine ih _ _ ?_
      rw[←h.1]
      exact KV.put q _ h.2
  exact go r [] [] .nil
theorem zix (ps:List (Key×Value)):(zfz ps).length<=ps.length:=by
  have go:∀(ps b:List (Key×Value)),(ps.foldl (fun d p=>stored d p.1 p.2) b).length<=b.length+ps.length:=by
    intro ps
    induction ps with
    | nil=>intro b;simp
    | cons p r ih=>
      intro b
      rw[List.foldl_cons]
      have h1:=ih (stored b p.1 p.2)
      have h2:(stored b p.1 p.2).length<=b.length+1:=by
        unfold stored
        split
        · rw[List.length_map];omega
        · rw[List.length_append];simp
      rw[List.length_cons]
      omega
  have:=go ps []
  unfold zfz
  simpa using this
def TupKV (prog:Program) (w:World) (h:Heap) (v:Value) (p:Key×Value):Prop:=∃a u,v = .ref a/\IsTup h a #[u,p.2]/\(zau prog w).is p.1 u=true
theorem TupKV.kept {prog:Program}{w:World}{h h':Heap}{v:Value}{p:Key×Value}(t:TupKV prog w h v p) (k:∀d o,(h.get? d=some o/\o.cls = .type "tuple")->h'.get? d=some o):TupKV prog w h' v p:=by
  obtain⟨a,u,rfl,⟨o,ho,hc,n,hd⟩,hk⟩:=t
  exact⟨a,u,rfl,⟨o,k a o ⟨ho,hc⟩,hc,n,hd⟩,hk⟩
section
variable {prog:Program}{w:World}{A:Around}{R:Result->Shared->Prop}
theorem zpe {l it D:Addr}{its:Array Value}{ps:List (Key×Value)}(hh:A.handled=none) (n1:D≠it) (n2:D≠l) (n3:l≠it) (hsz:ps.length<=sizeLine) (hl:its.size=ps.length) :
    ∀(k j:Nat) (s:Shared) (i:Int) (t:Tok),its.size-j=k->s.heap.IsListIter it l j->s.heap.IsList l its->s.heap.DictOf (zau prog w) D (zfz (ps.take j))->(∀(i:Nat) (v:Value),its[i]? = some v->∃p,ps[i]? = some p/\TupKV prog w s.heap v p)->j<=its.size->
      (∀h' tk,h'.DictOf (zau prog w) D (zfz ps)->(∀d o,d≠it->d≠D->s.heap.get? d=some o->h'.get? d=some o)->R (.ok (.ret .none)) { s with heap:=h',toks:=tk })->
      codeAny (model prog w) A (.builtin "dict.update.loop" ⟨[.ref D,.ref it,.int i t,.none],[]⟩) R s:=by
  intro k
  induction k with
  | zero=>
    intro j s i t hk hi hL hD ht hj q
    refine codeAny_builtin ziu ?_
    rw[Around.under_plainId zd4 _]
    show wpAny _ A.in1 (pyNext (.ref it) >>= _) _ _ s
    refine wpAny_bind (wpAny_pyNext_list_end (A:=A.in1) hh hi hL (Array.getElem?_eq_none (show its.size<=j by omega)) fun h' eb=>?_)
    refine wpAny_bind (wpAny_pure (wpAny_pure ?_))
    refine q h' s.toks ?_ (fun d o d1 _ e=>eb d o d1 e)
    have e:ps.take j=ps:=List.take_of_length_le (by omega)
    rw[e] at hD
    exact hD.extBut eb n1
  | succ k ih=>
    intro j s i t hk hi hL hD ht hj q
    have hlt:j<its.size:=by omega
    have ej:its[j]? = some its[j]:=Array.getElem?_eq_getElem hlt
    refine codeAny_builtin ziu ?_
    rw[Around.under_plainId zd4 _]
    show wpAny _ A.in1 (pyNext (.ref it) >>= _) _ _ s
    have ci:∀d o,s.heap.get? d=some o->o.cls = .type "tuple"->d≠it:=fun d o e z y=>by
      obtain⟨o',e',c',_⟩:=hi
      rw[y,e'] at e
      cases e
      rw[c'] at z
      exact absurd z (by decide)
    have cD:∀d o,s.heap.get? d=some o->o.cls = .type "tuple"->d≠D:=fun d o e z y=>by
      obtain⟨o',es,ep,e',⟨c',_⟩,_⟩:=hD
      rw[y,e'] at e
      cases e
      rw[c'] at z
      exact absurd z (by decide)
    refine wpAny_bind (wpAny_pyNext_list_item hi hL ej fun h' it' sb=>?_)
    obtain⟨p,ep,tp⟩:=ht j _ ej
    obtain⟨a,u,ea,⟨o,ho,hc,n,hd⟩,hk'⟩:=tp
    rw[ea]
    have ho':h'.get? a=some o:=(sb.2 a (ci a o ho hc)).trans ho
    have l':h'.IsList l its:=by
      obtain⟨o,ho,r⟩:=hL
      exact⟨o,(sb.2 l n3).trans ho,r⟩
    have hD':=hD.sameBut sb n1
    have ta:(⟨h',s.gens,s.drawn,s.toks,s.os⟩:Shared).TypeIs (.ref a) "tuple":=⟨o,ho',hc⟩
    refine wpAny_bind (wpAny_holding (wpAny_bind (wpAny_tryCatch ?_)))
    unfold Builtin.Dict.pairItems
    refine wpAny_bind (wpAny_typeOf ta ?_)
    rw[if_pos (by decide)]
    refine wpAny_bind (wpAny_seqItems ho' hd (wpAny_pure ?_))
    show wpAny _ _ (holding [u,p.2] (dictSet D u p.2)) _ _ _
    have lz:(zfz (ps.take j)).length<=sizeLine:=by
      have:=zix (ps.take j)
      rw[List.length_take] at this
      omega
    refine wpAny_holding (wpAny_dictSet_pairs (hsz:=lz) hk' hD' fun h2 hD2 sb2=>?_)
    refine wpAny_pure ⟨plainId_quiet zd4 _,ih (j+1) _ _ _ (by omega) (it'.at fun o e=>(sb2.2 it (Ne.symm n1)).trans e) ?_ ?_ (fun i v e=>?_) (by omega) fun h3 tk hD3 kp=>?_⟩
    · obtain⟨o,ho,r⟩:=l'
      exact⟨o,(sb2.2 l (Ne.symm n2)).trans ho,r⟩
    · rw[zms ep];exact hD2
    · obtain⟨p,ep,tp⟩:=ht i v e
      exact⟨p,ep,tp.kept fun d o z=>(sb2.2 d (cD d o z.1 z.2)).trans ((sb.2 d (ci d o z.1 z.2)).trans z.1)⟩
    · exact q h3 tk hD3 fun d o d1 d2 e=>kp d o d1 d2 ((sb2.2 d d2).trans ((sb.2 d d1).trans e))
end
section
variable {prog:Program}{w:World}{A:Around}{E:Value->Shared->Prop}{s:Shared}
theorem zmt {l:Addr}{its:Array Value}{ps:List (Key×Value)}{Q:Value->Shared->Prop}(hh:A.handled=none) (pl:PlainL s.heap l its) (hsz:ps.length<=sizeLine) (hl:its.size=ps.length)
    (ht:∀(i:Nat) (v:Value),its[i]? = some v->∃p,ps[i]? = some p/\TupKV prog w s.heap v p)
    (q:∀h' tk,h'.DictOf (zau prog w) s.heap.objs.size (zfz ps)->(∀d o,s.heap.get? d=some o->h'.get? d=some o)->Q (.ref s.heap.objs.size) { s with heap:=h',toks:=tk }) :
    wpAny (model prog w) A (call (.type "dict") [.ref l]) Q E s:=by
  have hlt:l<s.heap.objs.size:=by obtain⟨_,_,e,_⟩:=pl;exact Heap.lt_size e
  refine callType_codes (Q₁:=fun obj s₁=>obj = .ref s.heap.objs.size/\s₁ = { s with heap:=s.heap.push { cls:=.type "dict",data:=.dict #[] } }) F.kt_called_dict (F.kt_typeCall_dict_1 _) F.entry_dict_init (kt_code_dict_new _ ⟨rfl,rfl⟩) ?_
  rintro obj s₁ ⟨rfl,rfl⟩
  have hnew:(s.heap.push { cls:=.type "dict",data:=.dict #[] }).DictOf (zau prog w) s.heap.objs.size []:=Heap.DictOf.new s.heap
  have k0:∀d o,s.heap.get? d=some o->(s.heap.push { cls:=.type "dict",data:=.dict #[] }).get? d=some o:=fun d o e=>Heap.get?_push_of_some _ e
  refine⟨hnew.typeIs,F.args_dict_init_2 _ _,?_⟩
  unfold Builtin.«dict.__init__»
  refine wpAny_bind ?_
  unfold Builtin.Dict.selfAndRest
  refine wpAny_bind (wpAny_notOrdered_dict hnew.typeIs ?_)
  show wpAny _ _ (pure (s.heap.objs.size,[Value.ref l])) _ _ _
  refine wpAny_pure ?_
  show wpAny _ _ (Builtin.Dict.updateFrom "dict.__init__" s.heap.objs.size (.ref l) [] .none) _ _ _
  generalize s.heap.push { cls:=.type "dict",data:=.dict #[] } = g at hnew k0
  have pl1:PlainL g l its:=pl.keeps k0
  unfold Builtin.Dict.updateFrom
  have tl:({ s with heap:=g }:Shared).TypeIs (.ref l) "list":=by
    obtain⟨o,n,e,c,_⟩:=pl1
    exact⟨o,e,c⟩
  refine wpAny_bind (wpAny_typeOf tl ?_)
  rw[if_pos (by decide)]
  refine wpAny_bind (zpd hh pl1 fun h1 tk k1=>?_)
  rw[if_pos (show (none:Option Value).isNone=true from rfl)]
  have pl2:PlainL h1 l its:=pl1.keeps k1
  have hD1:h1.DictOf (zau prog w) s.heap.objs.size []:=let ⟨o,es,ep,ho,r⟩:=hnew;⟨o,es,ep,k1 _ _ ho,r⟩
  have hDl:s.heap.objs.size<h1.objs.size:=by obtain⟨o,es,ep,ho,r⟩:=hD1;exact Heap.lt_size ho
  refine wpAny_bind (wpAny_rule (wpAny_bind (wpAny_pyIter_list pl2.isList ?_)))
  have k2:∀d o,h1.get? d=some o->(h1.push { cls:=.type "list_iterator",data:=.fields #[.ref l,.int 0 0] }).get? d=some o:=fun d o e=>Heap.get?_push_of_some _ e
  have hit:(h1.push { cls:=.type "list_iterator",data:=.fields #[.ref l,.int 0 0] }).IsListIter h1.objs.size l 0:=⟨_,Heap.get?_push_size _ rfl,rfl,rfl⟩
  refine wpAny_pure ⟨plainId_quiet zd4 _,zpe (A:=A.in1) (it:=h1.objs.size) hh (Nat.ne_of_lt hDl) (Ne.symm (Nat.ne_of_lt hlt)) (Nat.ne_of_lt (Nat.lt_trans hlt hDl)) hsz hl _ 0 _ _ _ rfl hit (pl2.keeps k2).isList ?_ (fun i v e=>?_) (Nat.zero_le _) fun h3 tk3 hD3 kp=>?_⟩
  · obtain⟨o,es,ep,ho,r⟩:=hD1
    exact⟨o,es,ep,k2 _ _ ho,r⟩
  · obtain⟨p,ep,tp⟩:=ht i v e
    exact⟨p,ep,tp.kept fun d o z=>k2 _ _ (k1 _ _ (k0 _ _ z.1))⟩
  · refine⟨rfl,q h3 tk3 hD3 fun d o e=>kp d o (fun z=>?_) (fun z=>?_) (k2 _ _ (k1 _ _ (k0 _ _ e)))⟩
    · exact absurd (Heap.lt_size e) (by rw[z];exact Nat.not_lt_of_le (Nat.le_of_lt hDl))
    · exact absurd (Heap.lt_size e) (by rw[z];exact Nat.lt_irrefl _)
end
section
variable {X:Cx}
theorem zgo {K:PySem.W.Frag}(h:X.K=K) (hc:X.calm=true):zbp X (.type "dict") (fun xs H Q=>∃(l:Addr) (as:List Addr) (kvs:List (Key×V)),xs = [V.ref l]/\SqL K H l (as.map V.ref)/\Paired (fun a (p:Key×V)=>SqT K H a [kV p.1,p.2]) as kvs/\kvs.length<=1000/\
    ∀(D:Addr) (ob:Obj),H D=none->Q (.ref D) (upd H D (.frz ob (.dK (ziw kvs))))):=by
  subst h
  intro pins s σ H xs us Q I r h
  obtain⟨l,as,kvs,rfl,hl,pr,hk,q⟩:=h
  obtain⟨u,rfl,ru⟩:=zdd r
  cases ru
  obtain⟨its,rv,pl,hz⟩:=I.list hl
  have len:=rv.length
  rw[List.length_map] at len
  have lp:as.length=kvs.length:=Paired.length pr
  have hsl:sizeLine=2 ^ 20\/1000<=sizeLine:=.inr (by decide)
  have hat:∀(i:Nat) (v:Value),its[i]? = some v->∃(p:Key×V) (u:Value×Value),kvs[i]? = some p/\(∃a,v=Value.ref a/\IsTup s.heap a #[u.1,u.2])/\RelV (kV p.1) u.1/\RelV p.2 u.2:=by
    intro i v e'
    have hi:i<as.length:=by have:=(List.getElem?_eq_some_iff.mp e').1;omega
    have hi2:i<kvs.length:=by omega
    obtain⟨u,e2,ru⟩:=rv.get (i:=i) (x:=V.ref as[i]) (by simp[hi])
    rw[e'] at e2
    cases e2
    cases ru
    obtain⟨ts,rt,it,_⟩:=I.tuple (zaz pr (List.getElem?_eq_getElem hi) (List.getElem?_eq_getElem hi2))
    obtain⟨u1,u2,rfl,r1,r2⟩:=zhn rt
    exact⟨kvs[i],(u1,u2),List.getElem?_eq_getElem hi2,⟨as[i],rfl,it⟩,r1,r2⟩
  obtain⟨ps,hps,pps⟩:∃ps:List (Key×Value),KV kvs ps/\∀(i:Nat) (v:Value),its[i]? = some v->∃p,ps[i]? = some p/\TupKV X.prog X.w s.heap v p:=by
    have li:its.length=kvs.length:=by omega
    clear pr hl rv pl hz q hk lp len
    induction kvs generalizing its with
    | nil=>
      cases its with
      | nil=>exact⟨[],.nil,fun i v e=>by simp at e⟩
      | cons a b=>simp at li
    | cons p r ih=>
      cases its with
      | nil=>simp at li
      | cons a b=>
        obtain⟨ps,h1,h2⟩:=ih b (fun i v e=>by
          obtain⟨p',u,e1,e2⟩:=hat (i+1) v (by simpa using e)
          exact⟨p',u,by simpa using e1,e2⟩) (by simpa using li)
        obtain⟨p',u,e1,⟨ad,ea,it⟩,r1,r2⟩:=hat 0 a (by simp)
        have e1:p=p':=by simpa using e1
        subst e1
        refine⟨(p.1,u.2)::ps,.cons ⟨rfl,r2⟩ h1,fun i v e=>?_⟩
        cases i with
        | zero=>
          have e:a=v:=by simpa using e
          subst e
          exact⟨(p.1,u.2),by simp,ad,u.1,ea,it,zjz r1⟩
        | succ i=>exact h2 i v (by simpa using e)
  have lps:ps.length=kvs.length:=(Paired.length hps).symm
  have big:kvs.length<=sizeLine:=by rcases hsl with z | z<;>omega
  refine zmt (ps:=ps) (I.ok.hd hc) pl (by omega) (by rw[List.size_toArray];omega) (fun i v e=>pps i v (by simpa using e)) fun h' tk hD kp=>?_
  have kd:=KV.all hps
  have lz:(ziw kvs).length<=sizeLine:=by
    have h1:=Paired.length kd
    have h2:=zix ps
    omega
  have hn:=I.hok.fresh (Nat.le_refl s.heap.objs.size)
  have I1:=I.laid (a:=s.heap.objs.size) (o:=.dK (ziw kvs)) (t':=tk) kp (Nat.le_refl _) (znz lz (beq_eq_false_iff_ne.mpr (Ne.symm (Nat.ne_of_lt I.big))) kd hD)
  obtain⟨ob,I2⟩:=I1.frozen zb
  rw[zni] at I2
  exact⟨.ref s.heap.objs.size,_,I2,rfl,q _ ob hn⟩
end
end L2
namespace Dm
open PySem PySem.NumText L2
structure TelF (K:PySem.W.Frag) (H:Hp) (p pm pu pt pf:Addr) (lo hi:Int) (us:List Str) (ads:List Addr) (ts:List Tie) (af:List Addr) (fs:List Fnd):Prop where
  tel:Tel K H p pu pt (.ref pm) (.ref pf) us ads ts
  m:SqT K H pm [.int lo,.int hi]
  f:SqL K H pf (af.map V.ref)
  ft:Tups H af (fs.map fndV)
  fu:∀f∈fs,f.u∈us
  fl:fs.length<=60
section
variable {K:PySem.W.Frag}{H H':Hp}{p pm pu pt pf:Addr}{lo hi:Int}{us:List Str}{ads:List Addr}{ts:List Tie}{af:List Addr}{fs:List Fnd}
theorem TelF.same (h:TelF K H p pm pu pt pf lo hi us ads ts af fs) (s:Same H H'):TelF K H' p pm pu pt pf lo hi us ads ts af fs:=⟨h.tel.same s,s.tup h.m,s.seq h.f,h.ft.same s,h.fu,h.fl⟩
theorem TelF.flen (h:TelF K H p pm pu pt pf lo hi us ads ts af fs):af.length=fs.length:=by have:=h.ft.len;rw[List.length_map] at this;exact this
theorem TlAt.telF (h:TlAt K H p pm pu pt pf lo hi us ts fs ads af) (d:Tll lo hi us ts fs):TelF K H p pm pu pt pf lo hi us ads ts af fs:=
  ⟨h.tel d,h.at'.m,h.at'.f,h.at'.ft,fun f hf=>(d.fok f hf).u,by have:=d.fl;omega⟩
end
theorem zs3 (f:Fnd):atI (fndV f) 0=some (.str f.n):=rfl
theorem zs4 (f:Fnd):atI (fndV f) 1=some (.str f.u):=rfl
theorem zs5 (f:Fnd):atI (fndV f) 2=some (.int f.lo):=rfl
theorem zs6 (f:Fnd):atI (fndV f) 3=some (.int f.hi):=rfl
abbrev Fz:=List (Fnd×Addr)
def fwOf (ts:List Tie) (z:Fz):Str->Fz:=fun k=>z.filter fun p=>decide (labs ts p.1.u=k)
theorem zug {ts:List Tie}{z:Fz}{i:Nat}{f:Fnd}{r:Addr}{k:Str}(h:z[i]? = some (f,r)):fwOf ts (z.take (i+1)) k=fwOf ts (z.take i) k++(if labs ts f.u=k then [(f,r)] else []):=by
  unfold fwOf
  rw[List.take_add_one,h,List.filter_append]
  congr 1
  by_cases c:labs ts f.u=k
  · rw[if_pos c];simp[c]
  · rw[if_neg c];simp[c]
theorem zpf {ts:List Tie}{z:Fz}{k:Str}:(fwOf ts z k).length<=z.length:=List.length_filter_le _ _
structure Fw (H:Hp) (pd:Addr) (ob:Obj) (keys:List Str) (fw:Str->Fz) (ad:Str->Addr):Prop where
  d:H pd=some (.frz ob (.dK (dV keys fun k=>.ref (ad k))))
  l:∀k∈keys,H (ad k)=some (.lst ((fw k).map fun p=>V.ref p.2))
theorem Fw.same {H H':Hp}{pd:Addr}{ob:Obj}{keys:List Str}{fw:Str->Fz}{ad:Str->Addr}(b:Fw H pd ob keys fw ad) (s:Same H H'):Fw H' pd ob keys fw ad:=
  ⟨s _ _ b.d,fun k hk=>s _ _ (b.l k hk)⟩
theorem zao {H:Hp}{pd:Addr}{ob:Obj}{keys:List Str}{f:Str->V}(h:H pd=some (.frz ob (.dK (dV keys f)))) {k:Str}(hk:k∈keys):DGet H pd (.str k) (some (f k)):=by
  have:=zb0 (f:=f) hk
  exact .inl ⟨_,Sum.inr k,.inr ⟨ob,h⟩,rfl,this.symm⟩
def loL (lo:Int) (L:Fz):List IS:=(lo,"")::L.map fun p=>(p.1.lo,p.1.n)
def hiL (hi:Int) (L:Fz):List IS:=(hi,"")::L.map fun p=>(p.1.hi,p.1.n)
def MaxP (l:List IS) (m:IS):Prop:=m∈l/\∀q∈l,gtP q m=false
def MinP (l:List IS) (m:IS):Prop:=m∈l/\∀q∈l,gtP m q=false
structure Bd (H:Hp) (pd:Addr) (ob:Obj) (keys:List Str) (v:Str->IS) (ad:Str->Addr):Prop where
  d:H pd=some (.frz ob (.dK (dV keys fun k=>.ref (ad k))))
  e:∀k∈keys,H (ad k)=some (.tup [.int (v k).1,.str (v k).2])
theorem Bd.same {H H':Hp}{pd:Addr}{ob:Obj}{keys:List Str}{v:Str->IS}{ad:Str->Addr}(b:Bd H pd ob keys v ad) (s:Same H H'):Bd H' pd ob keys v ad:=
  ⟨s _ _ b.d,fun k hk=>s _ _ (b.e k hk)⟩
theorem zpg {lo:Int}{L:Fz}{m:IS}(h:MaxP (loL lo L) m) (y:Int):m.1<=y↔lo<=y/\∀p∈L,p.1.lo<=y:=by
  obtain⟨h1,h2⟩:=h
  unfold loL at h1 h2
  constructor
  · intro h
    refine⟨?_,fun p hp=>?_⟩
    · have:=zg5 (h2 (lo,"") (by simp))
      have:lo<=m.1:=this
      omega
    · have:=zg5 (h2 (p.1.lo,p.1.n) (List.mem_cons_of_mem _ (List.mem_map.mpr ⟨p,hp,rfl⟩)))
      have:p.1.lo<=m.1:=this
      omega
  · rintro ⟨a,b⟩
    rcases List.mem_cons.mp h1 with rfl | h1
    · exact a
    · obtain⟨p,hp,rfl⟩:=List.mem_map.mp h1
      exact b p hp
theorem zph {hi:Int}{L:Fz}{m:IS}(h:MinP (hiL hi L) m) (y:Int):y<=m.1↔y<=hi/\∀p∈L,y<=p.1.hi:=by
  obtain⟨h1,h2⟩:=h
  unfold hiL at h1 h2
  constructor
  · intro h
    refine⟨?_,fun p hp=>?_⟩
    · have:=zg5 (h2 (hi,"") (by simp))
      have:m.1<=hi:=this
      omega
    · have:=zg5 (h2 (p.1.hi,p.1.n) (List.mem_cons_of_mem _ (List.mem_map.mpr ⟨p,hp,rfl⟩)))
      have:m.1<=p.1.hi:=this
      omega
  · rintro ⟨a,b⟩
    rcases List.mem_cons.mp h1 with rfl | h1
    · exact a
    · obtain⟨p,hp,rfl⟩:=List.mem_map.mp h1
      exact b p hp
theorem zg6 {α:Type}(f:α->Bool) (l:List α):(l.map f).all id=l.all f:=by rw[List.all_map];rfl
def YrAt (H:Hp) (py:Addr) (oy:Obj) (keys:List Str) (yr:Str->Int):Prop:=H py=some (.frz oy (.dK (dV keys fun k=>.int (yr k))))
theorem ziy {ks:List Str}{f:Str->V}(h:ks.Nodup):ziw (dV ks f)=dV ks f:=by
  have go:∀(r pre:List Str),(pre++r).Nodup->(dV r f).foldl (fun d p=>putK d p.1 p.2) (dV pre f)=dV (pre++r) f:=by
    intro r
    induction r with
    | nil=>intro pre _;rw[List.append_nil];rfl
    | cons x r ih=>
      intro pre nd
      have e:pre++x::r=(pre++[x])++r:=by simp
      have hx:x ∉ pre:=fun z=>by
        rw[List.nodup_append] at nd
        exact nd.2.2 x z x (by simp) rfl
      show (dV r f).foldl (fun d p=>putK d p.1 p.2) (putK (dV pre f) (Sum.inr x) (f x))=_
      have e2:putK (dV pre f) (Sum.inr x) (f x)=dV (pre++[x]) f:=by
        rw[zdy hx]
        refine zbi fun z _=>?_
        by_cases c:z=x
        · rw[if_pos c,c]
        · rw[if_neg c]
      rw[e2,ih (pre++[x]) (by rw[←e];exact nd),←e]
  have:=go ks [] (by simpa using h)
  rw[List.nil_append] at this
  exact this
def zmu (yr:Str->Int) (name:Str) (z:List ((Str×Addr)×Tie)):Bool:=z.all fun q=>decide (yr q.1.1+zae q.2<=yr name)
def inB (lo hi:Int) (L:Fz) (y:Int):Bool:=decide (lo<=y)&&decide (y<=hi)&&L.all fun p=>decide (p.1.lo<=y)&&decide (y<=p.1.hi)
theorem inB_iff {lo hi:Int}{L:Fz}{y:Int}:inB lo hi L y=true↔(lo<=y/\y<=hi)/\∀p∈L,p.1.lo<=y/\y<=p.1.hi:=by
  unfold inB
  rw[Bool.and_eq_true,Bool.and_eq_true,decide_eq_true_iff,decide_eq_true_iff,List.all_eq_true]
  constructor
  · rintro ⟨a,b⟩
    refine⟨a,fun p hp=>?_⟩
    have:=b p hp
    rw[Bool.and_eq_true,decide_eq_true_iff,decide_eq_true_iff] at this
    exact this
  · rintro ⟨a,b⟩
    refine⟨a,fun p hp=>?_⟩
    rw[Bool.and_eq_true,decide_eq_true_iff,decide_eq_true_iff]
    exact b p hp
theorem zwc {lo hi:Int}{L:Fz}{m n:IS}(h1:MaxP (loL lo L) m) (h2:MinP (hiL hi L) n) (y:Int):(decide (m.1<=y)&&decide (y<=n.1))=inB lo hi L y:=by
  rw[Bool.eq_iff_iff,inB_iff,Bool.and_eq_true,decide_eq_true_iff,decide_eq_true_iff,zpg h1,zph h2]
  constructor
  · rintro ⟨⟨a,b⟩,c,d⟩
    exact⟨⟨a,c⟩,fun p hp=>⟨b p hp,d p hp⟩⟩
  · rintro ⟨⟨a,c⟩,b⟩
    exact⟨⟨a,fun p hp=>(b p hp).1⟩,c,fun p hp=>(b p hp).2⟩
def lnkT (ts:List Tie) (z:List (Tie×Addr)) (k:Str):List Tie:=(z.filter fun p=>decide (p.1.k≠SAME/\labs ts p.1.a=k)).map Prod.fst
theorem zpi {ts:List Tie}{ads:List Addr}{H:Hp}{us:List Str}(tt:Tups H ads (ts.map tieV)) (ok:∀t∈ts,TOk us t) (k:Str) :
    Paired (fun (p:Str×Addr) (t:Tie)=>H p.2=some (.tup (tieV t))/\TOk us t) (za1 ts (ts.zip ads) k) (lnkT ts (ts.zip ads) k):=by
  have all:∀p∈ts.zip ads,H p.2=some (.tup (tieV p.1))/\TOk us p.1:=fun p hp=>by
    obtain⟨i,hi⟩:=List.mem_iff_getElem?.mp hp
    obtain⟨h1,h2⟩:=List.getElem?_zip_eq_some.mp hi
    exact⟨zaz tt h2 (by rw[List.getElem?_map,h1];rfl),ok _ (List.mem_of_getElem? h1)⟩
  unfold za1 lnkT
  generalize ts.zip ads=z at all
  induction z with
  | nil=>exact .nil
  | cons p r ih=>
    have ih:=ih fun q hq=>all q (List.mem_cons_of_mem _ hq)
    by_cases c:decide (p.1.k≠SAME/\labs ts p.1.a=k)=true
    · rw[List.filter_cons_of_pos (by exact c)]
      exact .cons (all p (by simp)) ih
    · rw[List.filter_cons_of_neg (by exact c)]
      exact ih
def mxI (i j:Int):Int:=if j > i then j else i
def mnI (i j:Int):Int:=if j<i then j else i
def lowF (ts:List Tie) (fs:List Fnd) (lo:Int) (k:Str):Int:=fs.foldl (fun m f=>if labs ts f.u=k then mxI m f.lo else m) lo
def ziz (ts:List Tie) (fs:List Fnd) (hi:Int) (k:Str):Int:=fs.foldl (fun m f=>if labs ts f.u=k then mnI m f.hi else m) hi
theorem zkh {us:List Str}{ts:List Tie}(nd:us.Nodup) (hts:∀t∈ts,t.a∈us/\t.b∈us) {ds ms:List Str}(dn:ds.Nodup) (dm:∀z,z∈ds↔z∈us.map (labs ts)) (pm:ms.Perm ds) (rs:zid ms):ms=keysOf ts (srt us):=by
  have kn:=zay (ts:=ts) nd
  have kl:=zou (ts:=ts) nd
  have e1:ms=srt ds:=zln pm rs
  have e2:keysOf ts (srt us)=srt (keysOf ts (srt us)):=by
    have e:(keysOf ts (srt us)).filter (fun _=>true)=keysOf ts (srt us):=List.filter_eq_self.mpr fun _ _=>rfl
    have:=zmn (p:=fun _=>true) (List.Perm.refl (keysOf ts (srt us))) kl
    rw[e] at this
    exact this.symm
  rw[e1,e2]
  refine zre dn kn fun z=>?_
  rw[dm,keys_mem,List.mem_map]
  constructor
  · rintro ⟨y,hy,rfl⟩
    exact⟨zgz hy hts,zdz ts y⟩
  · rintro ⟨h1,h2⟩
    exact⟨z,h1,h2⟩
theorem zd5 {us:List Str}{ts:List Tie}(hts:∀t∈ts,t.a∈us/\t.b∈us) {x:Str}(hx:x∈us):labs ts x∈keysOf ts (srt us):=zbn hts hx
theorem zpj {us:List Str}{ts:List Tie}{ads:List Addr}(ht:∀t∈ts,t.a∈us/\t.b∈us):∀q∈lnkL ts (ts.zip ads),q.1∈keysOf ts (srt us)/\q.2.1∈keysOf ts (srt us):=by
  intro q hq
  unfold lnkL at hq
  obtain⟨p,hp,rfl⟩:=List.mem_map.mp hq
  have hp:=(List.mem_filter.mp hp).1
  have:=List.of_mem_zip (a:=p.1) (b:=p.2) hp
  exact⟨zbn ht (ht _ this.1).1,zbn ht (ht _ this.1).2⟩
def okK (lo hi:Int) (yr:Str->Int) (k:Str):Bool:=decide (lo<=yr k)&&decide (yr k<=hi)
def okF (ts:List Tie) (yr:Str->Int) (f:Fnd):Bool:=decide (f.lo<=yr (labs ts f.u))&&decide (yr (labs ts f.u)<=f.hi)
def okL (yr:Str->Int) (q:Lrow):Bool:=decide (yr q.2.1+q.2.2.1<=yr q.1)
def lawB (lo hi:Int) (keys:List Str) (ts:List Tie) (fs:List Fnd) (lr:List Lrow) (yr:Str->Int):Bool:=keys.all (okK lo hi yr)&&fs.all (okF ts yr)&&lr.all (okL yr)
theorem zg7 {lo hi:Int}{keys:List Str}{ts:List Tie}{fs:List Fnd}{lr:List Lrow}{yr:Str->Int}:lawB lo hi keys ts fs lr yr=true↔(∀k∈keys,okK lo hi yr k=true)/\(∀f∈fs,okF ts yr f=true)/\∀q∈lr,okL yr q=true:=by
  unfold lawB
  rw[Bool.and_eq_true,Bool.and_eq_true,List.all_eq_true,List.all_eq_true,List.all_eq_true,and_assoc]
theorem okK_iff {lo hi:Int}{yr:Str->Int}{k:Str}:okK lo hi yr k=true↔lo<=yr k/\yr k<=hi:=by
  unfold okK
  rw[Bool.and_eq_true,decide_eq_true_iff,decide_eq_true_iff]
theorem okF_iff {ts:List Tie}{yr:Str->Int}{f:Fnd}:okF ts yr f=true↔f.lo<=yr (labs ts f.u)/\yr (labs ts f.u)<=f.hi:=by
  unfold okF
  rw[Bool.and_eq_true,decide_eq_true_iff,decide_eq_true_iff]
theorem okL_iff {yr:Str->Int}{q:Lrow}:okL yr q=true↔yr q.2.1+q.2.2.1<=yr q.1:=by
  unfold okL
  rw[decide_eq_true_iff]
theorem zeo {α β:Type}:∀{as:List α}{bs:List β},bs.length=as.length->∀a∈as,∃b,(a,b)∈as.zip bs
  | [],_,_,a,h=>by cases h
  | x::as,[],h,_,_=>by simp at h
  | x::as,y::bs,h,a,ha=>by
    rcases List.mem_cons.mp ha with rfl | ha
    · exact⟨y,by simp⟩
    · obtain⟨b,hb⟩:=zeo (as:=as) (bs:=bs) (by simpa using h) a ha
      exact⟨b,by simp[hb]⟩
theorem lnkZ {ts:List Tie}{z:List (Tie×Addr)}{k:Str}:(za1 ts z k).zip (lnkT ts z k)=(z.filter fun p=>decide (p.1.k≠SAME/\labs ts p.1.a=k)).map fun p=>((labs ts p.1.b,p.2),p.1):=by
  unfold za1 lnkT
  rw[List.zip_map']
theorem zpk {us:List Str}{ts:List Tie}{ads af:List Addr}{fs:List Fnd}{lo hi:Int}{yr:Str->Int}(hts:∀t∈ts,t.a∈us/\t.b∈us) (hfu:∀f∈fs,f.u∈us) (lf:af.length=fs.length) :
    (((keysOf ts (srt us)).all fun k=>inB lo hi (fwOf ts (fs.zip af) k) (yr k))&&(keysOf ts (srt us)).all fun k=>zmu yr k ((za1 ts (ts.zip ads) k).zip (lnkT ts (ts.zip ads) k)))=lawB lo hi (keysOf ts (srt us)) ts fs (lnkL ts (ts.zip ads)) yr:=by
  rw[Bool.eq_iff_iff,zg7,Bool.and_eq_true,List.all_eq_true,List.all_eq_true]
  constructor
  · rintro ⟨h1,h2⟩
    refine⟨fun k hk=>?_,fun f hf=>?_,fun q hq=>?_⟩
    · exact okK_iff.mpr (inB_iff.mp (h1 k hk)).1
    · have hk:=zbn hts (hfu f hf)
      obtain⟨a,ha⟩:=zeo lf f hf
      exact okF_iff.mpr ((inB_iff.mp (h1 _ hk)).2 (f,a) (List.mem_filter.mpr ⟨ha,decide_eq_true rfl⟩))
    · unfold lnkL at hq
      obtain⟨p,hp,rfl⟩:=List.mem_map.mp hq
      obtain⟨hp1,hp2⟩:=List.mem_filter.mp hp
      have hm:=List.of_mem_zip (a:=p.1) (b:=p.2) hp1
      have hk:=zbn hts (hts _ hm.1).1
      have:=h2 _ hk
      unfold zmu at this
      rw[lnkZ,List.all_eq_true] at this
      have:=this ((labs ts p.1.b,p.2),p.1) (List.mem_map.mpr ⟨p,List.mem_filter.mpr ⟨hp1,decide_eq_true ⟨of_decide_eq_true hp2,rfl⟩⟩,rfl⟩)
      exact okL_iff.mpr (of_decide_eq_true this)
  · rintro ⟨h1,h2,h3⟩
    refine⟨fun k hk=>inB_iff.mpr ⟨okK_iff.mp (h1 k hk),fun p hp=>?_⟩,fun k hk=>?_⟩
    · obtain⟨hp1,hp2⟩:=List.mem_filter.mp hp
      have hm:=List.of_mem_zip (a:=p.1) (b:=p.2) hp1
      have:=okF_iff.mp (h2 _ hm.1)
      rw[of_decide_eq_true hp2] at this
      exact this
    · unfold zmu
      rw[lnkZ,List.all_eq_true]
      intro q hq
      obtain⟨p,hp,rfl⟩:=List.mem_map.mp hq
      obtain⟨hp1,hp2⟩:=List.mem_filter.mp hp
      obtain⟨hp2,hp3⟩:=of_decide_eq_true hp2
      have:=okL_iff.mp (h3 (labs ts p.1.a,labs ts p.1.b,zae p.1,p.2) (by
        unfold lnkL
        exact List.mem_map.mpr ⟨p,List.mem_filter.mpr ⟨hp1,decide_eq_true hp2⟩,rfl⟩))
      rw[←hp3]
      exact decide_eq_true this
theorem zrp {K:PySem.W.Frag}{H:Hp}{yr:Str->Int}{as:List Addr}{ks:List Str}(h:Paired (fun a k=>H a=some (.tup [.str k,.int (yr k)])) as ks):Paired (fun a (p:Key×V)=>SqT K H a [kV p.1,p.2]) as (dV ks fun k=>.int (yr k)):=by
  unfold dV
  induction h with
  | nil=>exact .nil
  | cons h _ ih=>exact .cons (SqT.of h) ih
end Dm
namespace L2
open PySem
end L2
namespace L2
open PySem PySem.W PyProof.Rows
structure Good (N:Nat) (p:Array Nat):Prop where
  sz:p.size=N
  lt:∀i,i<N->p.getD i 0<N
  inj:∀i j,i<N->j<N->p.getD i 0=p.getD j 0->i=j
end L2
namespace L2
open PySem PySem.Spec PyProof.Rows
end L2
namespace Dm
open PySem PySem.NumText L2
theorem Rc.refl {ln:Ln}{s:Str}:Rc ln s 0 s:=⟨[],.nil,rfl⟩
abbrev Tr:=Tie×Addr
abbrev Rw:=Str->List (Str×Tr)
def rwOf (ts:List Tie) (z:List Tr):Rw:=fun k=>(z.filter fun p=>decide (p.1.k≠SAME/\labs ts p.1.a=k)).map fun p=>(labs ts p.1.b,p)
theorem zxk {ts:List Tie}{z:List Tr}{k:Str}:za1 ts z k=(rwOf ts z k).map fun q=>(q.1,q.2.2):=by unfold za1 rwOf;rw[List.map_map];rfl
theorem rw_mem {ts:List Tie}{z:List Tr}{k l:Str}{b:Tr}:(l,b)∈rwOf ts z k↔b∈z/\b.1.k≠SAME/\labs ts b.1.a=k/\labs ts b.1.b=l:=by
  unfold rwOf
  rw[List.mem_map]
  constructor
  · rintro ⟨p,hp,e⟩
    rw[List.mem_filter,decide_eq_true_iff] at hp
    cases e
    exact⟨hp.1,hp.2.1,hp.2.2,rfl⟩
  · rintro ⟨h1,h2,h3,h4⟩
    exact⟨b,by rw[List.mem_filter,decide_eq_true_iff];exact⟨h1,h2,h3⟩,by rw[h4]⟩
abbrev Chn:=Int×Str×List Tr
inductive Up (R:Rw) (F:Str->IS->Prop):Str->Chn->Prop
  | bare {k:Str}{m:IS}(h:F k m):Up R F k (m.1,m.2,[])
  | up {k l:Str}{c:Chn}{b:Tr}(u:Up R F l c) (h:(l,b)∈R k):Up R F k (c.1+zae b.1,c.2.1,c.2.2++[b])
inductive Dn (R:Rw) (F:Str->IS->Prop):Str->Chn->Prop
  | bare {k:Str}{m:IS}(h:F k m):Dn R F k (m.1,m.2,[])
  | dn {k l:Str}{c:Chn}{b:Tr}(u:Dn R F k c) (h:(l,b)∈R k):Dn R F l (c.1-zae b.1,c.2.1,b::c.2.2)
def LoIs (R:Rw) (F:Str->IS->Prop) (k:Str) (m:Int):Prop:=(∃c,Up R F k c/\c.1=m)/\∀c,Up R F k c->c.1<=m
def HiIs (R:Rw) (F:Str->IS->Prop) (k:Str) (m:Int):Prop:=(∃c,Dn R F k c/\c.1=m)/\∀c,Dn R F k c->m<=c.1
variable {R:Rw}{F G:Str->IS->Prop}{k:Str}{keys:List Str}
theorem LoIs.uniq {m n:Int}(h:LoIs R F k m) (h':LoIs R F k n):m=n:=by
  obtain⟨⟨c,u,e⟩,a⟩:=h
  obtain⟨⟨c',u',e'⟩,a'⟩:=h'
  have h1:=a _ u'
  have h2:=a' _ u
  omega
theorem HiIs.uniq {m n:Int}(h:HiIs R F k m) (h':HiIs R F k n):m=n:=by
  obtain⟨⟨c,u,e⟩,a⟩:=h
  obtain⟨⟨c',u',e'⟩,a'⟩:=h'
  have h1:=a _ u'
  have h2:=a' _ u
  omega
theorem zuh {f:Str->Int}(h0:∀k m,F k m->k∈keys->m.1<=f k) (cl:∀k l b,(l,b)∈R k->k∈keys/\l∈keys) (h1:∀k l b,(l,b)∈R k->f l+zae b.1<=f k) {c:Chn}(hk:k∈keys) (u:Up R F k c):c.1<=f k:=by
  induction u with
  | bare h=>exact h0 _ _ h hk
  | up u h ih=>
    have:=ih (cl _ _ _ h).2
    have:=h1 _ _ _ h
    show _+_<=_
    omega
theorem zxl {f:Str->Int}(h0:∀k m,F k m->k∈keys->f k<=m.1) (cl:∀k l b,(l,b)∈R k->k∈keys/\l∈keys) (h1:∀k l b,(l,b)∈R k->f l<=f k-zae b.1) {c:Chn}(hk:k∈keys) (u:Dn R F k c):f k<=c.1:=by
  induction u with
  | bare h=>exact h0 _ _ h hk
  | dn u h ih=>
    have:=ih (cl _ _ _ h).1
    have:=h1 _ _ _ h
    show _<=_-_
    omega
theorem zui {d:Chn}(hd:Dn R G k d):∀{c:Chn},Up R F k c->d.1<c.1->∃k' c' m,(k'=k\/∃l b,(l,b)∈R k')/\Up R F k' c'/\G k' m/\m.1<c'.1:=by
  induction hd with
  | bare h=>exact fun u hl=>⟨_,_,_,.inl rfl,u,h,hl⟩
  | @dn k l c b u h ih=>
    intro c' u' hl
    have hl:c.1-zae b.1<c'.1:=hl
    obtain⟨k',c'',m,h1,h2⟩:=ih (u'.up h) (show c.1<c'.1+zae b.1 by omega)
    refine⟨k',c'',m,?_,h2⟩
    rcases h1 with rfl | h1
    · exact .inr ⟨_,_,h⟩
    · exact .inr h1
theorem zxm {f g:Str->Int}(cl:∀k l b,(l,b)∈R k->k∈keys/\l∈keys) (hf:∀k∈keys,LoIs R F k (f k)) (hg:∀k∈keys,HiIs R G k (g k)):(∃k∈keys,g k<f k)↔∃k∈keys,∃c m,Up R F k c/\G k m/\m.1<c.1:=by
  constructor
  · rintro ⟨k,hk,hl⟩
    obtain⟨⟨c,u,e⟩,_⟩:=hf k hk
    obtain⟨⟨d,v,e'⟩,_⟩:=hg k hk
    obtain⟨k',c',m,h1,h2,h3,h4⟩:=zui v u (by omega)
    refine⟨k',?_,c',m,h2,h3,h4⟩
    rcases h1 with rfl | ⟨l,b,h⟩
    · exact hk
    · exact (cl _ _ _ h).1
  · rintro ⟨k,hk,c,m,u,h,hl⟩
    have h1:=(hf k hk).2 _ u
    have h2:=(hg k hk).2 _ (Dn.bare h)
    exact⟨k,hk,by have h2:g k<=m.1:=h2;omega⟩
theorem Rc.cons {ln:Ln}{k l:Str}{r:Addr}(e:(l,r)∈ln k):∀{n:Nat}{s:Str},Rc ln l n s->Rc ln k (n+1) s
  | 0,s,h=>by rw[h.zero];exact Rc.step Rc.refl e
  | n+1,s,h=>by
    obtain⟨u,r',h1,h2⟩:=h.succ
    exact (Rc.cons e h1).step h2
theorem Rc.short {ln:Ln}{keys:List Str}(cl:∀k∈keys,∀l r,(l,r)∈ln k->l∈keys) (nr:NoR ln keys) {k s:Str}{n:Nat}(hk:k∈keys) (h:Rc ln k n s):n<keys.length:=by
  obtain⟨rs,w,e⟩:=h
  obtain⟨vs,v0,v1,st⟩:=w.seq
  rw[e] at v1 st
  have hk:∀i,i<=n->vs i∈keys:=by
    intro i
    induction i with
    | zero=>intro _;rw[v0];exact hk
    | succ i ih=>
      intro hi
      obtain⟨r,_,q⟩:=st i (by omega)
      exact cl _ (ih (by omega)) _ _ q
  have go:∀i d,i+d<=n->Rc ln (vs i) d (vs (i+d)):=by
    intro i d
    induction d with
    | zero=>intro _;exact Rc.refl
    | succ d ih=>
      intro hi
      obtain⟨r,_,q⟩:=st (i+d) (by omega)
      exact (ih (by omega)).step q
  have main:∀i j,i<j->j<=n->vs i≠vs j:=fun i j hij hj e=>by
    have:=go i (j-i) (by omega)
    rw[show i+(j-i)=j by omega,←e] at this
    exact nr _ (hk i (by omega)) _ (by omega) this
  have nd:((List.range (n+1)).map vs).Nodup:=zbx fun i j hi hj e=>by
    rcases Nat.lt_trichotomy i j with c | c | c
    · exact absurd e (main i j c (by omega))
    · exact c
    · exact absurd e.symm (main j i c (by omega))
  have:=zbm (us:=keys) nd fun x hx=>by
    obtain⟨i,hi,rfl⟩:=List.mem_map.mp hx
    exact hk i (by have:=List.mem_range.mp hi;omega)
  rw[List.length_map,List.length_range] at this
  omega
def lnR (R:Rw):Ln:=fun k=>(R k).map fun q=>(q.1,q.2.2)
theorem zcu {l:Str}{b:Tr}(h:(l,b)∈R k):(l,b.2)∈lnR R k:=List.mem_map.mpr ⟨(l,b),h,rfl⟩
theorem zwd {l:Str}{r:Addr}(h:(l,r)∈lnR R k):∃t,(l,(t,r))∈R k:=by
  obtain⟨⟨l',t,r'⟩,h',e⟩:=List.mem_map.mp h
  cases e
  exact⟨t,h'⟩
theorem Up.rc {c:Chn}(u:Up R F k c):∃s,Rc (lnR R) k c.2.2.length s:=by
  induction u with
  | bare h=>exact⟨_,Rc.refl⟩
  | up u h ih=>
    obtain⟨s,q⟩:=ih
    refine⟨s,?_⟩
    show Rc _ _ (_++[_]).length _
    rw[List.length_append]
    exact Rc.cons (zcu h) q
theorem Dn.rc {c:Chn}(cl:∀k l b,(l,b)∈R k->k∈keys/\l∈keys) (u:Dn R F k c) (hk:k∈keys):∃s∈keys,Rc (lnR R) s c.2.2.length k:=by
  induction u with
  | bare h=>exact⟨_,hk,Rc.refl⟩
  | dn u h ih=>
    obtain⟨s,hs,q⟩:=ih (cl _ _ _ h).1
    exact⟨s,hs,q.step (zcu h)⟩
theorem zs7 (cl:∀k l b,(l,b)∈R k->k∈keys/\l∈keys):∀k∈keys,∀l r,(l,r)∈lnR R k->l∈keys:=fun k _ l r h=>by
  obtain⟨t,h⟩:=zwd h
  exact (cl _ _ _ h).2
theorem Up.short {c:Chn}(cl:∀k l b,(l,b)∈R k->k∈keys/\l∈keys) (nr:NoR (lnR R) keys) (hk:k∈keys) (u:Up R F k c):c.2.2.length<keys.length:=by
  obtain⟨s,q⟩:=u.rc
  exact q.short (zs7 cl) nr hk
theorem Dn.short {c:Chn}(cl:∀k l b,(l,b)∈R k->k∈keys/\l∈keys) (nr:NoR (lnR R) keys) (hk:k∈keys) (u:Dn R F k c):c.2.2.length<keys.length:=by
  obtain⟨s,hs,q⟩:=u.rc cl hk
  exact q.short (zs7 cl) nr hs
structure Rung (R:Rw) (F:Str->IS->Prop) (keys:List Str) (n:Nat) (M:List Str) (v:Str->Chn):Prop where
  nd:M.Nodup
  sub:∀k∈M,k∈keys
  is:∀k∈M,Up R F k (v k)/\(v k).2.2.length=n
  all:∀k∈keys,∀c,Up R F k c->c.2.2.length=n->k∈M/\c.1<=(v k).1
theorem Rung.zero {v:Str->Chn}(nd:keys.Nodup) (h:∀k∈keys,(v k).2.2 = []/\F k ((v k).1,(v k).2.1)) (hu:∀k m m',F k m->F k m'->m.1=m'.1):Rung R F keys 0 keys v:=by
  refine⟨nd,fun _ h=>h,fun k hk=>⟨?_,by rw[(h k hk).1];rfl⟩,fun k hk c u e=>⟨hk,?_⟩⟩
  · have:=Up.bare (R:=R) (h k hk).2
    rw[←(h k hk).1] at this
    exact this
  · cases u with
    | bare h'=>exact Int.le_of_eq (hu _ _ _ h' (h k hk).2)
    | up u h'=>
      have e:(_++[_]).length=0:=e
      simp at e
structure Grw (R:Rw) (M:List Str) (v:Str->Chn) (k:Str) (z:List (Str×Tr)) (has:Prop) (c:Chn):Prop where
  no:¬has->∀l b,(l,b)∈z->l ∉ M
  yes:has->∃l b,(l,b)∈z/\l∈M/\c=((v l).1+zae b.1,(v l).2.1,(v l).2.2++[b])
  max:has->∀l b,(l,b)∈z->l∈M->(v l).1+zae b.1<=c.1
theorem Rung.next {n:Nat}{M M':List Str}{v v':Str->Chn}(cl:∀k l b,(l,b)∈R k->k∈keys/\l∈keys) (r:Rung R F keys n M v) (nd:M'.Nodup) (sub:∀k∈M',k∈keys) (h:∀k∈keys,Grw R M v k (R k) (k∈M') (v' k)):Rung R F keys (n+1) M' v':=by
  refine⟨nd,sub,fun k hk=>?_,fun k hk c u e=>?_⟩
  · obtain⟨l,b,h1,h2,h3⟩:=(h k (sub k hk)).yes hk
    obtain⟨u,e⟩:=r.is l h2
    rw[h3]
    refine⟨u.up h1,?_⟩
    show (_++[_]).length=_
    rw[List.length_append,e]
    rfl
  · cases u with
    | bare h'=>exact absurd e (by show ¬([]:List Tr).length=n+1;simp)
    | @up _ l c b u h'=>
      have e:(c.2.2++[b]).length=n+1:=e
      rw[List.length_append] at e
      have e:c.2.2.length+1=n+1:=e
      obtain⟨h1,h2⟩:=r.all l (cl _ _ _ h').2 c u (by omega)
      have hM:k∈M':=Decidable.byContradiction fun z=>(h k hk).no z l b h' h1
      refine⟨hM,?_⟩
      have:=(h k hk).max hM l b h' h1
      show c.1+_<=_
      omega
theorem Rung.stop {n:Nat}{v:Str->Chn}(cl:∀k l b,(l,b)∈R k->k∈keys/\l∈keys) (r:Rung R F keys n [] v):∀k∈keys,∀c,Up R F k c->c.2.2.length<n:=by
  have no:∀k∈keys,∀c,Up R F k c->c.2.2.length≠n:=fun k hk c u e=>List.not_mem_nil (r.all k hk c u e).1
  intro k hk c u
  induction u with
  | bare h=>
    have:=no _ hk _ (Up.bare h)
    show 0<n
    have:(0:Nat)≠n:=this
    omega
  | @up k l c b u h ih=>
    have h1:=ih (cl _ _ _ h).2
    have h2:=no _ hk _ (u.up h)
    have h2:(c.2.2++[b]).length≠n:=h2
    show (c.2.2++[b]).length<n
    rw[List.length_append] at h2 ⊢
    have h2:c.2.2.length+1≠n:=h2
    show c.2.2.length+1<n
    omega
structure Lks (R:Rw) (ls:List Lrow):Prop where
  to:∀k l b,(l,b)∈R k->∃q∈ls,q.1=k/\q.2.1=l/\q.2.2.1=zae b.1
  of:∀q∈ls,∃b,(q.2.1,b)∈R q.1/\zae b.1=q.2.2.1
theorem zwe {ts:List Tie}{z:List Tr}:Lks (rwOf ts z) (lnkL ts z):=by
  refine⟨fun k l b h=>?_,fun q h=>?_⟩
  · obtain⟨h1,h2,h3,h4⟩:=rw_mem.mp h
    exact⟨(labs ts b.1.a,labs ts b.1.b,zae b.1,b.2),List.mem_map.mpr ⟨b,by rw[List.mem_filter,decide_eq_true_iff];exact⟨h1,h2⟩,rfl⟩,h3,h4,rfl⟩
  · obtain⟨p,hp,rfl⟩:=List.mem_map.mp h
    rw[List.mem_filter,decide_eq_true_iff] at hp
    exact⟨p,rw_mem.mpr ⟨hp.1,hp.2,rfl,rfl⟩,rfl⟩
def ChAt (H0 H:Hp) (a:Addr) (c:Chn):Prop:=∃l,H a=some (.tup [.int c.1,.str c.2.1,.ref l])/\H l=some (.lst (c.2.2.map fun p=>V.ref p.2))/\H0 l=none
def cdO (fz:Bool) (o:Obj) (keys:List Str) (ad:Str->Addr):HO:=if fz then .frz o (.dK (dV keys fun k=>.ref (ad k))) else .dK (dV keys fun k=>.ref (ad k))
section
variable {H0 H H':Hp}{a pd:Addr}{c:Chn}
theorem ChAt.same (h:ChAt H0 H a c) (s:Same H H'):ChAt H0 H' a c:=by
  obtain⟨l,h1,h2,h3⟩:=h
  exact⟨l,s _ _ h1,s _ _ h2,h3⟩
theorem ChAt.put {kv:List (Key×V)}{o:HO}(h:ChAt H0 H a c) (hd:H pd=some (.dK kv)):ChAt H0 (upd H pd o) a c:=by
  obtain⟨l,h1,h2,h3⟩:=h
  exact⟨l,by rw[zl (zc3 h1 hd (by intro z;cases z))];exact h1,by rw[zl (zc3 h2 hd (by intro z;cases z))];exact h2,h3⟩
theorem ChAt.any (h:ChAt H0 H a c):ChAt (fun _=>none) H a c:=by
  obtain⟨l,h1,h2,_⟩:=h
  exact⟨l,h1,h2,rfl⟩
theorem ChAt.old {H1:Hp}(h:ChAt H1 H a c) (s:Same H0 H1):ChAt H0 H a c:=by
  obtain⟨l,h1,h2,h3⟩:=h
  exact⟨l,h1,h2,s.free h3⟩
end
theorem zrq {H:Hp}{pd:Addr}{ob:Obj}{keys:List Str}{f:Str->V}(h:H pd=some (.frz ob (.dK (dV keys f)))) {k:Str}(hk:k ∉ keys):DGet H pd (.str k) none:=.inl ⟨_,Sum.inr k,.inr ⟨ob,h⟩,rfl,(zeh hk).symm⟩
theorem zb3 {ts:List Tie}{z:List Tr}:za1 ts z=lnR (rwOf ts z):=funext fun k=>zxk
theorem zwf {ts:List Tie}{z:List Tr}{k:Str}:(rwOf ts z k).length<=z.length:=by
  unfold rwOf
  rw[List.length_map]
  exact List.length_filter_le _ _
theorem zpl {K:PySem.W.Frag}{H:Hp}{p pu pt:Addr}{x y:V}{us:List Str}{ads:List Addr}{ts:List Tie}(h:Tel K H p pu pt x y us ads ts) {k l:Str}{b:Tr}(hb:(l,b)∈rwOf ts (ts.zip ads) k):H b.2=some (.tup (tieV b.1))/\TOk us b.1:=by
  have hz:=(rw_mem.mp hb).1
  obtain⟨i,hi⟩:=List.mem_iff_getElem?.mp hz
  obtain⟨h1,h2⟩:=List.getElem?_zip_eq_some.mp hi
  exact⟨zaz h.tt h2 (by rw[List.getElem?_map,h1];rfl),h.ok _ (List.mem_of_getElem? h1)⟩
theorem zmv {us:List Str}{ts:List Tie}{ads:List Addr}(ht:∀t∈ts,t.a∈us/\t.b∈us):∀k l b,(l,b)∈rwOf ts (ts.zip ads) k->k∈keysOf ts (srt us)/\l∈keysOf ts (srt us):=fun k l b h=>by
  obtain⟨h1,h2,h3,h4⟩:=rw_mem.mp h
  have hm:=(List.of_mem_zip (a:=b.1) (b:=b.2) h1).1
  rw[←h3,←h4]
  exact⟨zbn ht (ht _ hm).1,zbn ht (ht _ hm).2⟩
theorem zpm {R:Rw}{k l:Str}{r:Addr}{j:Nat}(h:(lnR R k)[j]? = some (l,r)):∃t,(R k)[j]? = some (l,(t,r)):=by
  unfold lnR at h
  rw[List.getElem?_map] at h
  cases e:(R k)[j]? with
  | none=>rw[e] at h;cases h
  | some q=>
    rw[e] at h
    obtain⟨l',t,r'⟩:=q
    cases h
    exact⟨t,rfl⟩
theorem zki {R:Rw}{k:Str}:(lnR R k).length=(R k).length:=by unfold lnR;rw[List.length_map]
section
variable {R:Rw}{M:List Str}{v:Str->Chn}{k:Str}{z:List (Str×Tr)}{has has':Prop}{c c':Chn}{l:Str}{b:Tr}
theorem Grw.nil (h:¬has):Grw R M v k [] has c:=⟨fun _ l b h=>(List.not_mem_nil h).elim,fun h'=>absurd h' h,fun h'=>absurd h' h⟩
theorem zax {α:Type}{xs:List α}{x y:α}(h:y∈xs++[x]):y∈xs\/y=x:=by
  rcases List.mem_append.mp h with h | h
  · exact .inl h
  · exact .inr (by simpa using h)
theorem Grw.skip (h:Grw R M v k z has c) (hl:l ∉ M):Grw R M v k (z++[(l,b)]) has c:=by
  refine⟨fun hn l' b' h'=>?_,fun hy=>?_,fun hy l' b' h' hm=>?_⟩
  · rcases zax h' with h' | h'
    · exact h.no hn l' b' h'
    · cases h';exact hl
  · obtain⟨l',b',h1,h2⟩:=h.yes hy
    exact⟨l',b',List.mem_append_left _ h1,h2⟩
  · rcases zax h' with h' | h'
    · exact h.max hy l' b' h' hm
    · cases h';exact absurd hm hl
theorem Grw.stay (h:Grw R M v k z has c) (hh:has) (le:(v l).1+zae b.1<=c.1):Grw R M v k (z++[(l,b)]) has c:=by
  refine⟨fun hn=>absurd hh hn,fun hy=>?_,fun hy l' b' h' hm=>?_⟩
  · obtain⟨l',b',h1,h2⟩:=h.yes hy
    exact⟨l',b',List.mem_append_left _ h1,h2⟩
  · rcases zax h' with h' | h'
    · exact h.max hy l' b' h' hm
    · cases h';exact le
theorem Grw.take (h:Grw R M v k z has c) (hl:l∈M) (hh:has') (ge:has->c.1<(v l).1+zae b.1) (e:c'=((v l).1+zae b.1,(v l).2.1,(v l).2.2++[b])):Grw R M v k (z++[(l,b)]) has' c':=by
  subst e
  refine⟨fun hn=>absurd hh hn,fun hy=>⟨l,b,by simp,hl,rfl⟩,fun hy l' b' h' hm=>?_⟩
  show _<=(v l).1+zae b.1
  rcases zax h' with h' | h'
  · by_cases hc:has
    · have:=h.max hc l' b' h' hm
      have:=ge hc
      omega
    · exact absurd hm (h.no hc l' b' h')
  · cases h';exact Int.le_refl _
theorem Grw.congr (h:Grw R M v k z has c) (e:has↔has') (e':c=c'):Grw R M v k z has' c':=by
  subst e'
  exact⟨fun hn=>h.no fun z=>hn (e.mp z),fun hy=>h.yes (e.mpr hy),fun hy=>h.max (e.mpr hy)⟩
end
structure UpSt (R:Rw) (F:Str->IS->Prop) (keys done:List Str) (v:Str->Chn):Prop where
  is:∀k∈keys,Up R F k (v k)
  ge:∀k∈keys,∀m,F k m->m.1<=(v k).1
  le:∀k∈done,∀l b,(l,b)∈R k->(v l).1+zae b.1<=(v k).1
structure DnSt (R:Rw) (F:Str->IS->Prop) (keys done:List Str) (v:Str->Chn):Prop where
  is:∀k∈keys,Dn R F k (v k)
  ge:∀k∈keys,∀m,F k m->(v k).1<=m.1
  le:∀k∈done,∀l b,(l,b)∈R k->(v l).1<=(v k).1-zae b.1
section
variable {R:Rw}{F:Str->IS->Prop}{keys done:List Str}{v:Str->Chn}
theorem UpSt.lo (h:UpSt R F keys done v) (cl:∀k l b,(l,b)∈R k->k∈keys/\l∈keys) (all:∀k∈keys,k∈done) {k:Str}(hk:k∈keys):LoIs R F k (v k).1:=
  ⟨⟨_,h.is k hk,rfl⟩,fun c u=>zuh (f:=fun z=>(v z).1) (keys:=keys) (fun k m hf hk=>h.ge k hk m hf) cl (fun k l b hb=>h.le k (all k (cl _ _ _ hb).1) l b hb) hk u⟩
theorem DnSt.hi (h:DnSt R F keys done v) (cl:∀k l b,(l,b)∈R k->k∈keys/\l∈keys) (all:∀k∈keys,k∈done) {k:Str}(hk:k∈keys):HiIs R F k (v k).1:=
  ⟨⟨_,h.is k hk,rfl⟩,fun c u=>zxl (f:=fun z=>(v z).1) (keys:=keys) (fun k m hf hk=>h.ge k hk m hf) cl (fun k l b hb=>h.le k (all k (cl _ _ _ hb).1) l b hb) hk u⟩
end
theorem lowF_le {ts:List Tie}{fs:List Fnd}{lo y:Int}{k:Str}:lowF ts fs lo k<=y↔lo<=y/\∀f∈fs,labs ts f.u=k->f.lo<=y:=by
  unfold lowF
  induction fs generalizing lo with
  | nil=>simp
  | cons f fs ih=>
    rw[List.foldl_cons,ih]
    by_cases e:labs ts f.u=k
    · rw[if_pos e]
      unfold mxI
      constructor
      · rintro ⟨h1,h2⟩
        refine⟨by split at h1<;>omega,fun g hg e'=>?_⟩
        rcases List.mem_cons.mp hg with rfl | hg
        · split at h1<;>omega
        · exact h2 g hg e'
      · rintro ⟨h1,h2⟩
        have:=h2 f (by simp) e
        exact⟨by split<;>omega,fun g hg e'=>h2 g (List.mem_cons_of_mem _ hg) e'⟩
    · rw[if_neg e]
      constructor
      · rintro ⟨h1,h2⟩
        refine⟨h1,fun g hg e'=>?_⟩
        rcases List.mem_cons.mp hg with rfl | hg
        · exact absurd e' e
        · exact h2 g hg e'
      · rintro ⟨h1,h2⟩
        exact⟨h1,fun g hg e'=>h2 g (List.mem_cons_of_mem _ hg) e'⟩
theorem highF_ge {ts:List Tie}{fs:List Fnd}{hi y:Int}{k:Str}:y<=ziz ts fs hi k↔y<=hi/\∀f∈fs,labs ts f.u=k->y<=f.hi:=by
  unfold ziz
  induction fs generalizing hi with
  | nil=>simp
  | cons f fs ih=>
    rw[List.foldl_cons,ih]
    by_cases e:labs ts f.u=k
    · rw[if_pos e]
      unfold mnI
      constructor
      · rintro ⟨h1,h2⟩
        refine⟨by split at h1<;>omega,fun g hg e'=>?_⟩
        rcases List.mem_cons.mp hg with rfl | hg
        · split at h1<;>omega
        · exact h2 g hg e'
      · rintro ⟨h1,h2⟩
        have:=h2 f (by simp) e
        exact⟨by split<;>omega,fun g hg e'=>h2 g (List.mem_cons_of_mem _ hg) e'⟩
    · rw[if_neg e]
      constructor
      · rintro ⟨h1,h2⟩
        refine⟨h1,fun g hg e'=>?_⟩
        rcases List.mem_cons.mp hg with rfl | hg
        · exact absurd e' e
        · exact h2 g hg e'
      · rintro ⟨h1,h2⟩
        exact⟨h1,fun g hg e'=>h2 g (List.mem_cons_of_mem _ hg) e'⟩
def FlF (ts:List Tie) (lo:Int) (z:Fz) (k:Str) (m:IS):Prop:=MaxP (loL lo (fwOf ts z k)) m
def CeF (ts:List Tie) (hi:Int) (z:Fz) (k:Str) (m:IS):Prop:=MinP (hiL hi (fwOf ts z k)) m
theorem zs8 {ts:List Tie}{fs:List Fnd}{af:List Addr}{k:Str}(hl:af.length=fs.length) (P:Fnd->Prop):(∀p∈fwOf ts (fs.zip af) k,P p.1)↔∀f∈fs,labs ts f.u=k->P f:=by
  unfold fwOf
  constructor
  · intro h f hf e
    obtain⟨b,hb⟩:=zeo (bs:=af) hl f hf
    exact h (f,b) (List.mem_filter.mpr ⟨hb,decide_eq_true e⟩)
  · intro h p hp
    rw[List.mem_filter,decide_eq_true_iff] at hp
    exact h p.1 (List.of_mem_zip (a:=p.1) (b:=p.2) hp.1).1 hp.2
theorem FlF.low {ts:List Tie}{fs:List Fnd}{af:List Addr}{lo:Int}{k:Str}{m:IS}(hl:af.length=fs.length) (h:FlF ts lo (fs.zip af) k m):m.1=lowF ts fs lo k:=by
  have h1:=fun y=>zpg h y
  have h2:=fun y=>(h1 y).trans ((and_congr_right fun _=>zs8 hl (fun f=>f.lo<=y)).trans lowF_le.symm)
  have a:=(h2 m.1).mp (Int.le_refl _)
  have b:=(h2 (lowF ts fs lo k)).mpr (Int.le_refl _)
  omega
theorem CeF.high {ts:List Tie}{fs:List Fnd}{af:List Addr}{hi:Int}{k:Str}{m:IS}(hl:af.length=fs.length) (h:CeF ts hi (fs.zip af) k m):m.1=ziz ts fs hi k:=by
  have h1:=fun y=>zph h y
  have h2:=fun y=>(h1 y).trans ((and_congr_right fun _=>zs8 hl (fun f=>y<=f.hi)).trans highF_ge.symm)
  have a:=(h2 m.1).mp (Int.le_refl _)
  have b:=(h2 (ziz ts fs hi k)).mpr (Int.le_refl _)
  omega
section
variable {R:Rw}{F:Str->IS->Prop}{keys done:List Str}{v:Str->Chn}{u:Str}{c:Chn}
theorem UpSt.set (h:UpSt R F keys done v) (hu:u ∉ done) (low:∀k∈done,∀l b,(l,b)∈R k->l≠u) (up:Up R F u c) (gt:(v u).1<=c.1):UpSt R F keys done (fun z=>if z=u then c else v z):=by
  refine⟨fun k hk=>?_,fun k hk m hm=>?_,fun k hk l b hb=>?_⟩
  · by_cases e:k=u
    · rw[if_pos e,e];exact up
    · rw[if_neg e];exact h.is k hk
  · by_cases e:k=u
    · rw[if_pos e]
      have:=h.ge k hk m hm
      rw[e] at this
      omega
    · rw[if_neg e];exact h.ge k hk m hm
  · rw[if_neg (low k hk l b hb),if_neg (fun z=>hu (z▸hk):¬k=u)]
    exact h.le k hk l b hb
theorem UpSt.snoc (h:UpSt R F keys done v) (hz:∀l b,(l,b)∈R u->(v l).1+zae b.1<=(v u).1):UpSt R F keys (done++[u]) v:=
  ⟨h.is,h.ge,fun k hk l b hb=>by
    rcases zax hk with z | z
    · exact h.le k z l b hb
    · rw[z] at hb ⊢;exact hz l b hb⟩
theorem DnSt.set (h:DnSt R F keys done v) (hu:u ∉ done) (dn:Dn R F u c) (lt:c.1<=(v u).1):DnSt R F keys done (fun z=>if z=u then c else v z):=by
  refine⟨fun k hk=>?_,fun k hk m hm=>?_,fun k hk l b hb=>?_⟩
  · by_cases e:k=u
    · rw[if_pos e,e];exact dn
    · rw[if_neg e];exact h.is k hk
  · by_cases e:k=u
    · rw[if_pos e]
      have:=h.ge k hk m hm
      rw[e] at this
      omega
    · rw[if_neg e];exact h.ge k hk m hm
  · have h1:=h.le k hk l b hb
    rw[if_neg (fun z=>hu (z▸hk):¬k=u)]
    by_cases e:l=u
    · rw[if_pos e]
      rw[e] at h1
      omega
    · rw[if_neg e];exact h1
theorem DnSt.snoc (h:DnSt R F keys done v) (hz:∀l b,(l,b)∈R u->(v l).1<=(v u).1-zae b.1):DnSt R F keys (done++[u]) v:=
  ⟨h.is,h.ge,fun k hk l b hb=>by
    rcases zax hk with z | z
    · exact h.le k z l b hb
    · rw[z] at hb ⊢;exact hz l b hb⟩
end
theorem Bn.keep {H H':Hp}{pc pd:Addr}{ob:Obj}{kv:List (Key×V)}{keys:List Str}{ln:Ln}{ad:Str->Addr}{bs:Str->List Addr}(b:Bn H pd ob keys ln ad bs) (hpc:H pc=some (.dK kv)) (kp:∀b o,b≠pc->H b=some o->H' b=some o):Bn H' pd ob keys ln ad bs:=
  ⟨kp _ _ (zc3 b.d hpc (by intro z;cases z)) b.d,fun k hk=>kp _ _ (zc3 (b.l k hk) hpc (by intro z;cases z)) (b.l k hk),fun k hk=>Paired.mapP (b.e k hk) fun _ _ h=>kp _ _ (zc3 h hpc (by intro z;cases z)) h⟩
theorem zpn {ln:Ln}{keys os:List Str}(O:Ord ln keys os) {i:Nat}{u:Str}(hu:os[i]? = some u):u ∉ os.take i/\(∀l r,(l,r)∈ln u->l≠u)/\∀k∈os.take i,∀l r,(l,r)∈ln k->l≠u:=by
  have hi:=zam hu
  have fr:u ∉ os.take i:=by
    have:=za4 O.nd i hi
    rw[show os[i]=u from (List.getElem?_eq_some_iff.mp hu).2] at this
    exact this
  refine⟨fr,fun l r h z=>fr (z▸O.low i u hu l r h),fun k hk l r h z=>?_⟩
  obtain⟨j,hj⟩:=List.mem_iff_getElem?.mp hk
  rw[List.getElem?_take] at hj
  split at hj
  · have:=O.low j k hj l r h
    rw[z] at this
    exact fr ((List.take_prefix_take_left (Nat.le_of_lt (by assumption))).subset this)
  · cases hj
theorem zuj {ln:Ln}{keys os:List Str}(O:Ord ln keys os) {i:Nat}{u:Str}(hu:os.reverse[i]? = some u):u ∉ os.reverse.take i/\∀l r,(l,r)∈ln u->l ∉ os.reverse.take i/\l≠u:=by
  have hi:=zam hu
  rw[List.length_reverse] at hi
  rw[List.getElem?_reverse hi] at hu
  have lo:=zpn O hu
  have dis:∀x∈os.take (os.length-1-i+1),x ∉ os.reverse.take i:=fun x hx hr=>by
    rw[List.take_reverse,List.mem_reverse] at hr
    have e:os.length-1-i+1=os.length-i:=by omega
    rw[e] at hx
    have nd:=O.nd
    rw[←List.take_append_drop (os.length-i) os,List.nodup_append] at nd
    exact nd.2.2 x hx x hr rfl
  have tk:os.take (os.length-1-i+1)=os.take (os.length-1-i)++[u]:=by rw[List.take_add_one,hu];rfl
  rw[tk] at dis
  exact⟨dis u (by simp),fun l r h=>⟨dis l (List.mem_append_left _ (O.low _ u hu l r h)),lo.2.1 l r h⟩⟩
def zxn (R:Rw) (F G:Str->IS->Prop) (keys:List Str):Prop:=∀k∈keys,∀c m,Up R F k c->G k m->c.1<=m.1
def zxo (R:Rw) (F G:Str->IS->Prop) (keys:List Str) (c:Chn) (w:Str):Prop:=∃k m,k∈keys/\Up R F k c/\G k m/\m.2=w/\m.1<c.1/\∀k'∈keys,∀c' m',Up R F k' c'->G k' m'->c'.2.2.length<c.2.2.length->c'.1<=m'.1
def zrr (H:Hp) (q:Addr) (c:Chn) (w:Str):Prop:=∃l,H q=some (.tup [.str c.2.1,.ref l,.str w])/\H l=some (.lst (c.2.2.map fun p=>V.ref p.2))
def zd6 (lo hi:Int) (us:List Str) (ads:List Addr) (ts:List Tie) (af:List Addr) (fs:List Fnd):Prop:=zxn (rwOf ts (ts.zip ads)) (FlF ts lo (fs.zip af)) (CeF ts hi (fs.zip af)) (keysOf ts (srt us))
def zi0 (lo hi:Int) (us:List Str) (ads:List Addr) (ts:List Tie) (af:List Addr) (fs:List Fnd) (c:Chn) (w:Str):Prop:=zxo (rwOf ts (ts.zip ads)) (FlF ts lo (fs.zip af)) (CeF ts hi (fs.zip af)) (keysOf ts (srt us)) c w
theorem zpo (x:IS):∀l:List IS,∃m,MaxP (x::l) m
  | []=>⟨x,by simp,fun q hq=>by rw[show q=x by simpa using hq];exact zct x⟩
  | y::l=>by
    obtain⟨m,h1,h2⟩:=zpo x l
    by_cases c:gtP y m=true
    · refine⟨y,by simp,fun q hq=>?_⟩
      rcases List.mem_cons.mp hq with e | hq
      · rw[e];exact zo8 (h2 x (by simp)) c
      · rcases List.mem_cons.mp hq with e | hq
        · rw[e];exact zct y
        · exact zo8 (h2 q (List.mem_cons_of_mem _ hq)) c
    · refine⟨m,?_,fun q hq=>?_⟩
      · rcases List.mem_cons.mp h1 with e | h1
        · rw[e];simp
        · exact List.mem_cons_of_mem _ (List.mem_cons_of_mem _ h1)
      · rcases List.mem_cons.mp hq with e | hq
        · rw[e];exact h2 x (by simp)
        · rcases List.mem_cons.mp hq with e | hq
          · rw[e];simpa using c
          · exact h2 q (List.mem_cons_of_mem _ hq)
theorem zpp (x:IS):∀l:List IS,∃m,MinP (x::l) m
  | []=>⟨x,by simp,fun q hq=>by rw[show q=x by simpa using hq];exact zct x⟩
  | y::l=>by
    obtain⟨m,h1,h2⟩:=zpp x l
    by_cases c:gtP m y=true
    · refine⟨y,by simp,fun q hq=>?_⟩
      rcases List.mem_cons.mp hq with e | hq
      · rw[e];exact zkg (h2 x (by simp)) c
      · rcases List.mem_cons.mp hq with e | hq
        · rw[e];exact zct y
        · exact zkg (h2 q (List.mem_cons_of_mem _ hq)) c
    · refine⟨m,?_,fun q hq=>?_⟩
      · rcases List.mem_cons.mp h1 with e | h1
        · rw[e];simp
        · exact List.mem_cons_of_mem _ (List.mem_cons_of_mem _ h1)
      · rcases List.mem_cons.mp hq with e | hq
        · rw[e];exact h2 x (by simp)
        · rcases List.mem_cons.mp hq with e | hq
          · rw[e];simpa using c
          · exact h2 q (List.mem_cons_of_mem _ hq)
section
variable {lo hi:Int}{us:List Str}{ads:List Addr}{ts:List Tie}{af:List Addr}{fs:List Fnd}{f g:Str->Int}
theorem zpq (hl:af.length=fs.length) (k:Str):∃m,FlF ts lo (fs.zip af) k m/\m.1=lowF ts fs lo k:=by
  obtain⟨m,h⟩:=zpo (lo,"") ((fwOf ts (fs.zip af) k).map fun p=>(p.1.lo,p.1.n))
  have h:FlF ts lo (fs.zip af) k m:=h
  exact⟨m,h,h.low hl⟩
theorem zwg (hl:af.length=fs.length) (k:Str):∃m,CeF ts hi (fs.zip af) k m/\m.1=ziz ts fs hi k:=by
  obtain⟨m,h⟩:=zpp (hi,"") ((fwOf ts (fs.zip af) k).map fun p=>(p.1.hi,p.1.n))
  have h:CeF ts hi (fs.zip af) k m:=h
  exact⟨m,h,h.high hl⟩
theorem zlx (hts:∀t∈ts,t.a∈us/\t.b∈us) (hf:∀k∈keysOf ts (srt us),LoIs (rwOf ts (ts.zip ads)) (FlF ts lo (fs.zip af)) k (f k)) (hg:∀k∈keysOf ts (srt us),HiIs (rwOf ts (ts.zip ads)) (CeF ts hi (fs.zip af)) k (g k)) (no:zd6 lo hi us ads ts af fs):∀k∈keysOf ts (srt us),f k<=g k:=fun k hk=>by
  refine Int.not_lt.mp fun z=>?_
  obtain⟨k',hk',c,m,u,h,hl⟩:=(zxm (zmv hts) hf hg).mp ⟨k,hk,z⟩
  have:=no k' hk' c m u h
  omega
end
end Dm
namespace L2
open PySem PySem.Spec PyProof.Rows
end L2
namespace Dm
open PySem PySem.NumText L2
theorem zpr {ts:List Tie}{fs:List Fnd}{lo:Int}{k:Str}{f:Fnd}:lowF ts (fs++[f]) lo k=if labs ts f.u=k then mxI (lowF ts fs lo k) f.lo else lowF ts fs lo k:=by
  unfold lowF
  rw[List.foldl_append]
  rfl
structure Dt (R:Rw) (keys:List Str) (f g h:Str->Int) (one:Str) (y:Int):Prop where
  bd:∀k∈keys,f k<=h k/\h k<=g k
  at_:h one=y
  ln:∀k l b,(l,b)∈R k->h l+zae b.1<=h k
theorem dt_of {R:Rw}{F F' G:Str->IS->Prop}{keys:List Str}{f g h:Str->Int}{one:Str}{y:Int}{lw:Str->Int}(cl:∀k l b,(l,b)∈R k->k∈keys/\l∈keys) (nr:NoR (lnR R) keys) (ho:one∈keys) (hf:∀k∈keys,LoIs R F k (f k)) (hg:∀k∈keys,HiIs R G k (g k)) (hh:∀k∈keys,LoIs R F' k (h k)) (le:∀k∈keys,f k<=g k) (hy:f one<=y/\y<=g one)
    (hF:∀k,∃m,F k m/\m.1=lw k) (hF1:∀k m,F k m->m.1=lw k) (hF':∀k,∃m,F' k m/\m.1=if one=k then mxI (lw k) y else lw k) (hF1':∀k m,F' k m->m.1=if one=k then mxI (lw k) y else lw k):Dt R keys f g h one y:=by
  have lwf:∀k∈keys,lw k<=f k:=fun k hk=>by
    obtain⟨m,h1,h2⟩:=hF k
    have:m.1<=f k:=(hf k hk).2 _ (Up.bare h1)
    omega
  have lwh:∀k∈keys,lw k<=h k/\(one=k->y<=h k):=fun k hk=>by
    obtain⟨m,h1,h2⟩:=hF' k
    have h3:m.1<=h k:=(hh k hk).2 _ (Up.bare h1)
    unfold mxI at h2
    refine⟨?_,fun e=>?_⟩
    · split at h2
      · split at h2<;>omega
      · omega
    · rw[if_pos e] at h2
      split at h2<;>omega
  have lnh:∀k l b,(l,b)∈R k->h l+zae b.1<=h k:=fun k l b hb=>by
    obtain⟨⟨c,u,e⟩,_⟩:=hh l (cl _ _ _ hb).2
    have:c.1+zae b.1<=h k:=(hh k (cl _ _ _ hb).1).2 _ (u.up hb)
    omega
  have lnf:∀k l b,(l,b)∈R k->f l+zae b.1<=f k:=fun k l b hb=>by
    obtain⟨⟨c,u,e⟩,_⟩:=hf l (cl _ _ _ hb).2
    have:c.1+zae b.1<=f k:=(hf k (cl _ _ _ hb).1).2 _ (u.up hb)
    omega
  have lng:∀k l b,(l,b)∈R k->g l+zae b.1<=g k:=fun k l b hb=>by
    obtain⟨⟨c,u,e⟩,_⟩:=hg k (cl _ _ _ hb).1
    have:g l<=c.1-zae b.1:=(hg l (cl _ _ _ hb).2).2 _ (u.dn hb)
    omega
  refine⟨fun k hk=>⟨?_,?_⟩,?_,lnh⟩
  · obtain⟨⟨c,u,e⟩,_⟩:=hf k hk
    rw[←e]
    exact zuh (f:=h) (keys:=keys) (fun k m hm hk=>by rw[hF1 k m hm];exact (lwh k hk).1) cl lnh hk u
  · obtain⟨⟨c,u,e⟩,_⟩:=hh k hk
    rw[←e]
    refine zuh (f:=g) (keys:=keys) (fun k m hm hk=>?_) cl lng hk u
    have h1:=hF1' k m hm
    have h2:=lwf k hk
    have h3:=le k hk
    by_cases e:one=k
    · rw[if_pos e] at h1
      unfold mxI at h1
      subst e
      split at h1<;>omega
    · rw[if_neg e] at h1
      omega
  · have ge:=(lwh one ho).2 rfl
    obtain⟨⟨c,u,e⟩,_⟩:=hh one ho
    have main:∀{k:Str}{c:Chn},Up R F' k c->k∈keys->c.1<=f k\/(k=one/\c.1<=y)\/∃n,1<=n/\Rc (lnR R) k n one:=by
      intro k c u
      induction u with
      | @bare k m hm=>
        intro hk
        have h1:=hF1' k m hm
        have h2:=lwf k hk
        by_cases e:one=k
        · rw[if_pos e] at h1
          unfold mxI at h1
          refine .inr (.inl ⟨e.symm,?_⟩)
          subst e
          show m.1<=y
          split at h1<;>omega
        · rw[if_neg e] at h1
          exact .inl (by show m.1<=f k;omega)
      | @up k l c b u hb ih=>
        intro hk
        rcases ih (cl _ _ _ hb).2 with q | ⟨q,_⟩ | ⟨n,hn,q⟩
        · have:=lnf k l b hb
          exact .inl (by show c.1+zae b.1<=f k;omega)
        · subst q
          exact .inr (.inr ⟨1,Nat.le_refl _,Rc.cons (zcu hb) Rc.refl⟩)
        · exact .inr (.inr ⟨n+1,by omega,Rc.cons (zcu hb) q⟩)
    rcases main u ho with q | ⟨_,q⟩ | ⟨n,hn,q⟩
    · omega
    · omega
    · exact absurd q (nr one ho n hn)
theorem zrs {lo hi:Int}{us:List Str}{ads:List Addr}{ts:List Tie}{af:List Addr}{fs:List Fnd}{f g h:Str->Int}{one:Str}{y:Int}(hts:∀t∈ts,t.a∈us/\t.b∈us) (hfu:∀f∈fs,f.u∈us) (hl:af.length=fs.length) (hf:∀k∈keysOf ts (srt us),LoIs (rwOf ts (ts.zip ads)) (FlF ts lo (fs.zip af)) k (f k)) (hg:∀k∈keysOf ts (srt us),HiIs (rwOf ts (ts.zip ads)) (CeF ts hi (fs.zip af)) k (g k)) (d:Dt (rwOf ts (ts.zip ads)) (keysOf ts (srt us)) f g h one y) :
    lawB lo hi (keysOf ts (srt us)) ts fs (lnkL ts (ts.zip ads)) h=true:=by
  have a1:∀k∈keysOf ts (srt us),lowF ts fs lo k<=f k:=fun k hk=>by
    obtain⟨m,h1,h2⟩:=zpq (ts:=ts) (lo:=lo) hl k
    have:m.1<=f k:=(hf k hk).2 _ (Up.bare h1)
    omega
  have a2:∀k∈keysOf ts (srt us),g k<=ziz ts fs hi k:=fun k hk=>by
    obtain⟨m,h1,h2⟩:=zwg (ts:=ts) (hi:=hi) hl k
    have:g k<=m.1:=(hg k hk).2 _ (Dn.bare h1)
    omega
  have b1:∀k,lo<=lowF ts fs lo k/\∀f∈fs,labs ts f.u=k->f.lo<=lowF ts fs lo k:=fun k=>lowF_le.mp (Int.le_refl _)
  have b2:∀k,ziz ts fs hi k<=hi/\∀f∈fs,labs ts f.u=k->ziz ts fs hi k<=f.hi:=fun k=>highF_ge.mp (Int.le_refl _)
  rw[zg7]
  refine⟨fun k hk=>okK_iff.mpr ?_,fun z hz=>okF_iff.mpr ?_,fun q hq=>okL_iff.mpr ?_⟩
  · have h1:=a1 k hk
    have h2:=a2 k hk
    have h3:=(b1 k).1
    have h4:=(b2 k).1
    have:=d.bd k hk
    omega
  · have hk:=zd5 (ts:=ts) hts (hfu z hz)
    have h1:=a1 _ hk
    have h2:=a2 _ hk
    have h3:=(b1 _).2 z hz rfl
    have h4:=(b2 _).2 z hz rfl
    have:=d.bd _ hk
    omega
  · obtain⟨b,h1,h2⟩:=(zwe (ts:=ts) (z:=ts.zip ads)).of q hq
    have:=d.ln _ _ _ h1
    omega
theorem zly (x:Str) (ks:List Str):inV (.str x) (ks.map V.str)=decide (x∈ks):=by
  unfold inV
  induction ks with
  | nil=>rfl
  | cons k r ih=>
    rw[List.map_cons,List.any_cons,ih]
    show ((k == x)||decide (x∈r))=_
    by_cases h:k=x
    · subst h;simp
    · rw[beq_eq_false_iff_ne.mpr h,Bool.false_or]
      exact decide_eq_decide.mpr ⟨fun z=>List.mem_cons_of_mem _ z,fun z=>(List.mem_cons.mp z).resolve_left fun e=>h e.symm⟩
end Dm
namespace L2
open PySem PySem.Spec PyProof.Rows
structure UnderV (bm:List Value):Prop where
  v:bm.contains (.type "ValueError")=true
  b:bm.contains (.type "BaseException")=true
  a:bm.contains (.type "AttributeError")=false
  n:bm.contains (.type "NameError")=false
def XObj (h:Heap) (C:Addr) (bm:List Value):Prop:=∃nm q N bs hdct sn sub ab col dd k0 k1 k2 k3 k5,h.get? C=some (excClassObj nm q C N bs bm hdct sn sub ab col dd k0 k1 k2 k3 k5 "ValueError.__new__")
theorem zfj {C:Addr}{bm:List Value}{T:String}{b:Bool}(h:bm.contains (.type T)=b):(Value.ref C::bm).contains (.type T)=b:=by
  rw[List.contains_cons,h];rfl
section
variable {prog:Program}{w:World}{A:Around}{h:Heap}{g:Array GenState}{d:Drawn}{t:Nat}{os:OsState}{C:Addr}{bm:List Value}
theorem zuk {R:Result->Shared->Prop}(U:UnderV bm) (x:XObj h C bm) {us:List Value}(hz:us.length<=sizeLine)
    (k:R (.ok (.ret (.ref (h.objs.size+1)))) { heap:=(h.push { cls:=.type "tuple",data:=.seq us.toArray }).push { cls:=.ref C,data:=.fields #[.ref h.objs.size,.none,.none,.none,.bool false,.none] },gens:=g,drawn:=d,toks:=t,os:=os }) :
    codeAny (model prog w) A (.builtin "ValueError.__new__" ⟨.ref C::us,[]⟩) R { heap:=h,gens:=g,drawn:=d,toks:=t,os:=os }:=by
  obtain⟨a1,a2,a3,a4,a5,a6,a7,a8,a9,b1,b2,b3,b4,b5,b6,e⟩:=x
  have F:=PySem.F.excBase_ValueError
  have f1:=F.ends
  have c1:=zfj (C:=C) U.v
  have c2:=zfj (C:=C) U.a
  have c3:=zfj (C:=C) U.n
  refine codeAny_builtinAt F.entry ?_
  unfold Builtin.«BaseException.__new__»
  refine PySem.wpAt_bind (show PySem.wpAt (model prog w) _ _ (stack >>= _) _ _ _ from PySem.wpAt_bind (PySem.wpAt_stack fun p below=>PySem.wpAt_of_wpAny ?_))
  wp_walk
  refine PySem.wpAt_of_wpAny ?_
  rw[F.owner]
  repeat (first
    | with_reducible refine wpAny_madeHere_exc F.canon e ?_
    | with_reducible refine wpAny_loadPart_at e ?_
    | (with_reducible refine wpAny_isSubtype_exc e ?_
       first | rw[c1] | rw[c2] | rw[c3])
    | wp_step)
  show R _ _
  rw[Heap.size_push]
  exact k
theorem zps {M:Model}{E:Value->Shared->Prop}(U:UnderV bm) (x:XObj h C bm) {us:List Value}{Q:Unit->Shared->Prop}(k:Q () { heap:=h,gens:=g,drawn:=d,toks:=t,os:=os }) :
    wpAny M A (checkBuiltinCall "ValueError.__new__" ⟨.ref C::us,[]⟩) Q E { heap:=h,gens:=g,drawn:=d,toks:=t,os:=os }:=by
  obtain⟨a1,a2,a3,a4,a5,a6,a7,a8,a9,b1,b2,b3,b4,b5,b6,e⟩:=x
  exact wpAny_check_new_subU PySem.F.excBase_ValueError U.v .base e k
theorem zpt {E:Value->Shared->Prop}{vI:Value}{us:List Value}{Q:Fin->Shared->Prop}(U:UnderV bm) (x:XObj h C bm) (hz:us.length<=sizeLine)
    (lk:PySem.W.Looks (model prog w) h (typeLookup (.ref C) "__init__") (some (vI))) (bd:∀self,PySem.W.Looks (model prog w) h (bindSpecial (vI) self) (vI,[self]))
    (k:∀h' e,h.objs.size<=e->Heap.MadeExcOf h h' e (.ref C) us->wpAny (model prog w) A (call (vI) (.ref e::us)) (fun r s'=>r = .none/\Q (.done (.ret (.ref e))) s') E { heap:=h',gens:=g,drawn:=d,toks:=t,os:=os }) :
    wpAny (model prog w) A (Builtin.«type.__call__» ⟨.ref C::us,[]⟩) Q E { heap:=h,gens:=g,drawn:=d,toks:=t,os:=os }:=by
  have x':=x
  obtain⟨a1,a2,a3,a4,a5,a6,a7,a8,a9,b1,b2,b3,b4,b5,b6,e⟩:=x'
  have F:=PySem.F.excBase_ValueError
  repeat (first | with_reducible refine wpAny_loadPart_at e ?_ | with_reducible refine wpAny_madeBy_exc e ?_ | wp_step)
  refine codeAny_call_builtin_code (Code.quiet_builtin _ F.quiet) (zps U x ?_)
  refine zuk U x hz ?_
  show wpAny (model prog w) _ _ _ _ _
  have kp:∀b o,h.get? b=some o->((h.push { cls:=.type "tuple",data:=.seq us.toArray }).push { cls:=.ref C,data:=.fields #[.ref h.objs.size,.none,.none,.none,.bool false,.none] }).get? b=some o:=
    fun b o q=>Heap.get?_push_of_some _ (Heap.get?_push_of_some _ q)
  have hget:((h.push { cls:=.type "tuple",data:=.seq us.toArray }).push { cls:=.ref C,data:=.fields #[.ref h.objs.size,.none,.none,.none,.bool false,.none] }).get? (h.objs.size+1) =
      some { cls:=.ref C,data:=.fields #[.ref h.objs.size,.none,.none,.none,.bool false,.none] }:=by heap_get
  have ht:((h.push { cls:=.type "tuple",data:=.seq us.toArray }).push { cls:=.ref C,data:=.fields #[.ref h.objs.size,.none,.none,.none,.bool false,.none] }).get? h.objs.size =
      some { cls:=.type "tuple",data:=.seq us.toArray }:=Heap.get?_push_of_some _ (Heap.get?_push_at rfl rfl)
  have made:Heap.MadeExcOf h ((h.push { cls:=.type "tuple",data:=.seq us.toArray }).push { cls:=.ref C,data:=.fields #[.ref h.objs.size,.none,.none,.none,.bool false,.none] }) (h.objs.size+1) (.ref C) us:=
    ⟨kp,Heap.get?_none_of_le (Nat.le_succ _),h.objs.size,hget,Heap.get?_none_of_le (Nat.le_refl _),ht⟩
  have go:=k _ _ (Nat.le_succ _) made
  have e1:=kp _ _ e
  have lk1:=lk.keeps kp
  have bd1:=fun self=>(bd self).keeps kp
  generalize (h.push { cls:=.type "tuple",data:=.seq us.toArray }).push { cls:=.ref C,data:=.fields #[.ref h.objs.size,.none,.none,.none,.bool false,.none] } = h1 at hget go e1 lk1 bd1
  have cC:(Value.ref C::bm).contains (.ref C)=true:=by simp
  unfold isInstance
  repeat (first | with_reducible refine wpAny_loadPart_at hget ?_ | (with_reducible refine wpAny_isSubtype_exc e1 ?_;rw[cC]) | wp_step)
  show wpAny (model prog w) _ (typeLookup (.ref C) _) _ _ _
  refine lk1.at (wpAny_holding (wpAny_bind ((bd1 _).at ?_)))
  refine wpAny_bind (wpAny_mono go (fun r s' hr=>?_) fun _ _ z=>z)
  obtain⟨rfl,q⟩:=hr
  wp_walk
  exact q
theorem zlz {E:Value->Shared->Prop}{vI:Value}{us:List Value}{Q:Value->Shared->Prop}(U:UnderV bm) (x:XObj h C bm) (hz:us.length<=sizeLine)
    (lk:PySem.W.Looks (model prog w) h (typeLookup (.ref C) "__init__") (some (vI))) (bd:∀self,PySem.W.Looks (model prog w) h (bindSpecial (vI) self) (vI,[self]))
    (k:∀h' e,h.objs.size<=e->Heap.MadeExcOf h h' e (.ref C) us->wpAny (model prog w) (A.under (.builtin "type.__call__" ⟨.ref C::us,[]⟩)) (call (vI) (.ref e::us)) (fun r s'=>r = .none/\Q (.ref e) s') E { heap:=h',gens:=g,drawn:=d,toks:=t,os:=os }) :
    wpAny (model prog w) A (call (.ref C) us) Q E { heap:=h,gens:=g,drawn:=d,toks:=t,os:=os }:=by
  have x':=x
  obtain⟨a1,a2,a3,a4,a5,a6,a7,a8,a9,b1,b2,b3,b4,b5,b6,e⟩:=x'
  have f1:=tc_lookup
  have f2:=tc_bind (.ref C)
  have hT:({ heap:=h,gens:=g,drawn:=d,toks:=t,os:=os }:Shared).TypeIs (.ref C) "type":=⟨_,e,rfl⟩
  refine wpAny_call (codeAny_of_tree (show wpAny (model prog w) _ (callAny (.ref C) _) _ _ _ from ?_))
  repeat (any_goals (first | assumption | with_reducible refine wpAny_loadPart_at e ?_ | wp_step))
  refine⟨rfl,codeAny_call_builtin_at (Code.quiet_builtin _ (by decide +kernel)) entry_typeCall (wpAny_check_type_call_sub e (zpt U x hz lk bd fun h' e' hs hm=>?_))⟩
  exact k h' e' hs hm
end
section
variable {prog:Program}{w:World}{A:Around}{E:Value->Shared->Prop}{s:Shared}{env:Env}{bm:List Value}
theorem zgp {y:Sem Value}{Q:Flow->Shared->Prop}(U:UnderV bm) (hh:A.handled=none)
    (k:wpAny (model prog w) A y (fun v s1=>∃e C oe vs,v = .ref e/\XObj s1.heap C bm/\s1.heap.get? e=some oe/\oe.cls = .ref C/\oe.data = .fields vs/\vs[1]? = some .none/\E (.ref e) s1) E s) :
    wpAny (model prog w) A (raiseStmt env (some y) none) Q E s:=by
  unfold raiseStmt
  refine wpAny_bind (wpAny_mono k (fun v s1 k1=>?_) fun _ _ z=>z)
  obtain⟨e,C,oe,vs,rfl,⟨a1,a2,a3,a4,a5,a6,a7,a8,a9,b1,b2,b3,b4,b5,b6,o⟩,he,hc,hd,h1,hE⟩:=k1
  have cB:=zfj (C:=C) U.b
  obtain⟨hp,g,d,tk,os⟩:=s1
  repeat (first
    | (with_reducible refine wpAny_loadPart_at he ?_;rw[hc])
    | with_reducible refine wpAny_loadPart_at o ?_
    | (with_reducible refine wpAny_isSubtype_exc o ?_;rw[cB])
    | wp_step)
  rw[hd]
  refine wpAny_pure ?_
  rw[h1]
  refine wpAny_pure ?_
  rw[if_neg (by decide)]
  exact wpAny_pure (wpAny_raiseNew_none hh hE)
theorem zmw {x:Str}{C:Addr}{vI:Value}{np cpos pos:Pos}{a:PySem.Expr}{as:List PySem.Expr}{Q:Flow->Shared->Prop}(U:UnderV bm) (hh:A.handled=none)
    (hst:starEach (a::as) env=(false,eval a env)::starEach as env) (hpl:(backTo cpos (starEach as env)).any (·.1)=false)
    (k:wpAny (model prog w) A (eval (.Name x np) env) (fun f s1=>f = .ref C/\wpAny (model prog w) A (spliced (backTo cpos (starEach (a::as) env)))
      (fun us s2=>us.length<=sizeLine/\XObj s2.heap C bm/\PySem.W.Looks (model prog w) s2.heap (typeLookup (.ref C) "__init__") (some (vI))/\(∀self,PySem.W.Looks (model prog w) s2.heap (bindSpecial (vI) self) (vI,[self]))/\
        ∀h' e,s2.heap.objs.size<=e->Heap.MadeExcOf s2.heap h' e (.ref C) us->wpAny (model prog w) (A.under (.builtin "type.__call__" ⟨.ref C::us,[]⟩)) (call (vI) (.ref e::us))
          (fun r s3=>r = .none/\∃oe vs,XObj s3.heap C bm/\s3.heap.get? e=some oe/\oe.cls = .ref C/\oe.data = .fields vs/\vs[1]? = some .none/\E (.ref e) s3) E { s2 with heap:=h' }) E s1) E s) :
    wpAny (model prog w) A (exec (.Raise (some (.Call (.Name x np) (a::as) [] cpos)) none pos) env) Q E s:=by
  rw[arm_exec_Raise]
  simp only [evalOpt,Option.map]
  refine wpAny_bind (wpAny_standAt (zgp U hh (wpAny_bind (wpAny_mono (wpAny_Call_ofName (wpAny_mono k (fun f s1 k1=>?_) fun _ _ z=>z)) (fun v s3 k3=>wpAny_bind (wpAny_standAt (wpAny_pure k3))) fun _ _ z=>z))))
  obtain⟨rfl,k1⟩:=k1
  unfold callWith
  have any:(backTo cpos (starEach (a::as) env)).any (·.1)=false:=by
    rw[hst]
    show (false||(backTo cpos (starEach as env)).any (·.1))=false
    rw[hpl];rfl
  rw[hst] at k1 ⊢
  refine wpAny_bind (wpAny_holding (Calls.evalArgs_plain (wpAny_mono k1 (fun us s2 k2=>wpAny_bind (wpAny_standAt ?_)) fun _ _ z=>z)))
  obtain⟨hz,xo,lk,bd,go⟩:=k2
  obtain⟨hp,g,d,tk,os⟩:=s2
  rw[hst] at any
  simp only [any]
  have xo':=xo
  obtain⟨a1,a2,a3,a4,a5,a6,a7,a8,a9,b1,b2,b3,b4,b5,b6,o⟩:=xo'
  refine wpAny_bind (wpAny_keeperOf_exc o ?_)
  refine wpAny_bind (zlz U xo hz lk bd fun h' e hs hm=>wpAny_mono (go h' e hs hm) (fun r s3 q=>?_) fun _ _ z=>z)
  obtain⟨r0,oe,vs,q⟩:=q
  exact⟨r0,wpAny_bind (wpAny_holding (wpAny_point (wpAny_pure ⟨e,C,oe,vs,rfl,q⟩)))⟩
end
theorem zgq {o:Obj}{vs:Array Value}(h:o.data = .fields vs) (f:Array Value->Array Value):Obj.mapFields f o = { o with data:=.fields (f vs) }:=by
  obtain⟨c,d,dt,sl⟩:=o
  cases h
  rfl
structure Gone (fs:List Addr) (e T:Addr) (xs:List Addr) (oe:Obj) (vs:Array Value) (h h':Heap):Prop where
  keep:∀b o,b≠e->b ∉ fs->b ∉ xs->h.get? b=some o->h'.get? b=some o
  slot:∀b o,b∈fs->h.get? b=some o->∃sl,h'.get? b=some { o with slots:=sl }
  new:h.get? T=none
  exc:h'.get? e=some { oe with data:=.fields (vs.setIfInBounds 1 (.ref T)) }
  ent:∃oT ts,h'.get? T=some oT/\oT.data = .fields ts/\ts[3]? = some .none
  old:∀b∈xs,∃o,h'.get? b=some o
section
variable {M:Model}{A:Around}{E:Value->Shared->Prop}{s:Shared}
theorem entry_new {base:Heap}{env:Env}{outer:List Env}{L e:Addr}{oe:Obj}{vs:Array Value}{head:Value}{nx:Bool}{Q:Unit->Shared->Prop}
    (hfr:A.frames=some (env::outer)) (hl:s.heap.FunFrames base (env::outer)) (hf:env.frame=some L) (he:s.heap.get? e=some oe) (hd:oe.data = .fields vs) (hz:1<vs.size)
    (k:∀h',Gone (frs (env::outer)) e s.heap.objs.size [] oe vs s.heap h'->Q () { s with heap:=h' }) :
    wpAny M A (do let a ←frameOf env;let pl ←entryPlaceOf L nx;let b ←EntryCells.newEntry head a .none (rawInt L) .none pl;setField (.ref e) 1 b) (fun _ s'=>wpAny M A (setFlight (.ref e) none) Q E s') E s:=by
  have nf:∀b∈frs (env::outer),∃o,s.heap.get? b=some o/\∀us,o.data≠.fields us:=fun b hb=>(hl.mem hb).2
  have ne:e ∉ frs (env::outer):=fun hm=>by
    obtain⟨o,ho,hn⟩:=nf e hm
    rw[he] at ho
    cases ho
    exact hn vs hd
  refine wpAny_bind (wpAny_frameOf_fun hfr hl hf fun h1 s1=>?_)
  obtain⟨z1,k1,u1⟩:=s1
  refine wpAny_bind (wpAny_entryPlaceOf fun pl hpl=>?_)
  unfold EntryCells.newEntry newFields
  refine wpAny_bind (wpAny_newObj_type ?_ (hpl.sizeOk5 _ _ _ _ _))
  have e1:h1.get? e=some oe:=(k1 e ne).trans he
  generalize hN:({ cls:=.type "traceback",dict:=none,data:=.fields ([head,.ref L,.none,rawInt L,.none]++(if pl.isEmpty then List.replicate 6 Value.none else pl)).toArray }:Obj)=N
  have dN:N.data = .fields ([head,.ref L,.none,rawInt L,.none]++(if pl.isEmpty then List.replicate 6 Value.none else pl)).toArray:=by rw[←hN]
  generalize hts:([head,.ref L,.none,rawInt L,.none]++(if pl.isEmpty then List.replicate 6 Value.none else pl)).toArray=ts at dN
  have zt:3<ts.size:=by rw[←hts];simp
  have fN:N.isFreed=false:=Obj.isFreed_of_fields dN
  have e2:=Heap.get?_push_of_some (h:=h1) N e1
  refine wpAny_setField e2 hd hz ?_
  have Te:h1.objs.size≠e:=Nat.ne_of_gt (Heap.lt_size e1)
  have e3:=Heap.get?_update_self (Obj.mapFields (·.setIfInBounds 1 (Value.ref h1.objs.size))) e2 (Obj.isFreed_of_fields (Obj.data_mapFields hd _))
  rw[zgq hd] at e3
  have t3:=(Heap.get?_update_other (h1.push N) (Obj.mapFields (·.setIfInBounds 1 (Value.ref h1.objs.size))) (Ne.symm Te)).trans (Heap.get?_push_size h1 fN)
  unfold setFlight
  refine wpAny_bind (wpAny_field e3 rfl (x:=.ref h1.objs.size) (by simp[hz]) ?_)
  rw[if_pos (show (Value.ref h1.objs.size != Value.none)=true from by simp)]
  refine wpAny_setField t3 dN zt (k _ ?_)
  have t4:=Heap.get?_update_self (Obj.mapFields (·.setIfInBounds 3 ((none:Option Addr).elim Value.none fun f=>rawInt f))) t3 (Obj.isFreed_of_fields (Obj.data_mapFields dN _))
  have oth:∀b o,b≠e->h1.get? b=some o->(((h1.push N).update e (Obj.mapFields (·.setIfInBounds 1 (Value.ref h1.objs.size)))).update h1.objs.size (Obj.mapFields (·.setIfInBounds 3 ((none:Option Addr).elim Value.none fun f=>rawInt f)))).get? b=some o:=fun b o hb q=>by
    rw[Heap.get?_update_other _ _ (Nat.ne_of_gt (Heap.lt_size q)),Heap.get?_update_other _ _ (Ne.symm hb)]
    exact Heap.get?_push_of_some _ q
  refine⟨fun b o hb hn _ q=>oth b o hb ((k1 b hn).trans q),fun b o hb q=>?_,Heap.get?_none_of_le (Nat.le_refl _),?_,?_,fun b hb=>absurd hb (by simp)⟩
  · obtain⟨sl,q1⟩:=u1 b o q
    exact⟨sl,oth b _ (fun z=>ne (z▸hb)) q1⟩
  · rw[Heap.get?_update_other _ _ Te,e3,z1]
  · rw[←z1]
    exact⟨_,_,t4,Obj.data_mapFields dN _,by simp[zt]⟩
theorem zkj {base:Heap}{env:Env}{outer:List Env}{L e:Addr}{oe:Obj}{vs:Array Value}{Q:Unit->Shared->Prop}
    (hfr:A.frames=some (env::outer)) (hl:s.heap.FunFrames base (env::outer)) (hf:env.frame=some L) (he:s.heap.get? e=some oe) (hd:oe.data = .fields vs) (h1:vs[1]? = some .none)
    (k:∀h',Gone (frs (env::outer)) e s.heap.objs.size [] oe vs s.heap h'->Q () { s with heap:=h' }):wpAny M A (leaving env (.ref e)) Q E s:=by
  unfold leaving noteFrame
  simp only [hf]
  refine wpAny_bind (wpAny_bind (wpAny_field he hd h1 ?_))
  rw[if_neg (by decide)]
  exact entry_new hfr hl hf he hd (Array.getElem?_eq_some_iff.mp h1).1 k
theorem zmx {base:Heap}{env:Env}{outer:List Env}{L e T:Addr}{oe oT:Obj}{vs ts:Array Value}{Q:Unit->Shared->Prop}
    (hfr:A.frames=some (env::outer)) (hl:s.heap.FunFrames base (env::outer)) (hf:env.frame=some L) (he:s.heap.get? e=some oe) (hd:oe.data = .fields vs) (h1:vs[1]? = some (.ref T))
    (hT:s.heap.get? T=some oT) (dT:oT.data = .fields ts) (h3:ts[3]? = some .none) (ne:T≠e)
    (k:∀h',Gone (frs (env::outer)) e s.heap.objs.size [T] oe vs s.heap h'->Q () { s with heap:=h' }):wpAny M A (leaving env (.ref e)) Q E s:=by
  unfold leaving noteFrame
  simp only [hf]
  refine wpAny_bind (wpAny_bind (wpAny_field he hd h1 ?_))
  rw[if_pos (show (Value.ref T != Value.none)=true from by simp)]
  refine wpAny_bind (wpAny_field hT dT h3 ?_)
  rw[if_neg (show ¬((Value.none == rawInt L)=true) from by simp[rawInt])]
  have z3:=(Array.getElem?_eq_some_iff.mp h3).1
  refine wpAny_bind (wpAny_setField hT dT z3 ?_)
  have oth:∀b,b≠T->(s.heap.update T (Obj.mapFields (·.setIfInBounds 3 Value.none))).get? b=s.heap.get? b:=fun b hb=>Heap.get?_update_other _ _ (Ne.symm hb)
  have self:=Heap.get?_update_self (Obj.mapFields (·.setIfInBounds 3 Value.none)) hT (Obj.isFreed_of_fields (Obj.data_mapFields dT _))
  have nf:T ∉ frs (env::outer):=fun hm=>by
    obtain⟨_,o,ho,hn⟩:=hl.mem hm
    rw[hT] at ho
    cases ho
    exact hn ts dT
  have sz:(s.heap.update T (Obj.mapFields (·.setIfInBounds 3 Value.none))).objs.size=s.heap.objs.size:=Heap.size_after_update ..
  refine entry_new (s:={ s with heap:=s.heap.update T (Obj.mapFields (·.setIfInBounds 3 Value.none)) }) hfr (hl.of_keeps fun b o hb hn=>⟨o,(oth b fun z=>?_).trans hb,rfl⟩) hf ((oth e ne.symm).trans he) hd (Array.getElem?_eq_some_iff.mp h1).1 fun h' G=>?_
  · subst z
    rw[hT] at hb
    cases hb
    exact hn ts dT
  · have e1:(s.heap.update T (Obj.mapFields (·.setIfInBounds 3 Value.none))).objs.size=s.heap.objs.size:=sz
    have G:=G
    dsimp only at G
    rw[e1] at G
    refine k h' ⟨fun b o hb hn hx q=>G.keep b o hb hn (by simp) ((oth b fun z=>hx (by simp[z])).trans q),fun b o hb q=>G.slot b o hb ((oth b fun z=>nf (z▸hb)).trans q),Heap.get?_none_of_le (Nat.le_refl _),G.exc,G.ent,fun b hb=>?_⟩
    rw[List.mem_singleton] at hb
    subst hb
    exact⟨_,G.keep b _ ne nf (by simp) self⟩
end
def Fly (H:Hp) (h0 h:Heap) (e:Addr) (cls:Value) (dc:Option Addr):Prop:=
  ∃(oe:Obj) (vs:Array Value) (T:Addr) (oT:Obj) (ts:Array Value),h.get? e=some oe/\oe.cls=cls/\oe.dict=dc/\oe.data = .fields vs/\vs[1]? = some (.ref T)/\T≠e/\h.get? T=some oT/\oT.data = .fields ts/\ts[3]? = some .none/\
    H e=none/\H T=none/\h0.objs.size<=e/\h0.objs.size<=T
def zxp (H:Hp) (h0 h:Heap) (e:Addr) (cls:Value) (dc:Option Addr):Prop:=
  ∃(oe:Obj) (vs:Array Value),h.get? e=some oe/\oe.cls=cls/\oe.dict=dc/\oe.data = .fields vs/\vs[1]? = some .none/\H e=none/\h0.objs.size<=e
def CX1 (P:Program) (w:World):CXT:=fun outer H s E u s'=>∃(e:Addr) (cls:Value) (dc:Option Addr) (H':Hp),u = .ref e/\s'.os=s.os/\AllBare s'.gens/\Un (frs outer) [] H H' s.heap s'.heap/\HOk P w H' s'.heap/\
  Fly H' s.heap s'.heap e cls dc/\E cls dc H'
def XeIs (X:Cx) (E:XK):Prop:=X.xe=(fun u s'=>wpAny (model X.prog X.w) X.A (leaving X.env u) (fun _ s''=>CX1 X.prog X.w X.outer X.H₀ X.s₀ E u s'') (fun u' s''=>CX1 X.prog X.w X.outer X.H₀ X.s₀ E u' s'') s')/\
  X.stack=X.env::X.outer/\X.env.frame=some X.env.locals/\X.ex = []
theorem zg8 {P:Program}{w:World}{K:PySem.W.Frag}{mg:Str->Option Value}{base:Heap}{N:List Str}{qual:Str}{scope:Scope}{f:Addr}{cd:Value}{A:Around}{outer:List Env}{s:Shared}{H:Hp}{E:XK} :
    XeIs (cxOf (CX1 P w) P w K mg base N qual scope f cd A outer s H E) E:=⟨rfl,rfl,rfl,rfl⟩
section
variable {X:Cx}{pins:List (Addr×Obj)}{σ:St}{H:Hp}{s:Shared}{E:XK}{e:Addr}{cls:Value}{dc:Option Addr}
theorem zpu {h':Heap}{T:Addr}{xs:List Addr}{oe:Obj}{vs:Array Value}(I:Inv X pins σ H s) (x:XeIs X E) (G:Gone (frs (X.env::X.outer)) e T xs oe vs s.heap h') (hc:oe.cls=cls) (hdc:oe.dict=dc) (hz:1<vs.size)
    (He:H e=none) (nz:X.s₀.heap.objs.size<=e) (hxz:∀b∈xs,H b=none/\X.s₀.heap.objs.size<=b) (hTe:T≠e) (hsz:s.heap.objs.size<=T) (hE:E cls dc H) :
    CX1 X.prog X.w X.outer X.H₀ X.s₀ E (.ref e) { s with heap:=h' }:=by
  obtain⟨x1,x2,x3,x4⟩:=x
  have ne:X.s₀.heap.get? e=none:=Heap.get?_none_of_le nz
  have hx:∀b∈xs,H b=none/\X.s₀.heap.get? b=none:=fun b hb=>⟨(hxz b hb).1,Heap.get?_none_of_le (hxz b hb).2⟩
  have nL:∀b o,X.s₀.heap.get? b=some o->b≠X.env.locals:=fun b o q z=>absurd (Heap.lt_size q) (Nat.not_lt.mpr (z▸I.ok.above))
  have fr:∀b,b∈frs (X.env::X.outer)->b=X.env.locals\/b∈frs X.outer:=fun b hb=>by
    unfold frs at hb
    rw[List.filterMap_cons,x3] at hb
    exact List.mem_cons.mp hb
  have fr2:∀b,b∈frs X.outer->b∈frs (X.env::X.outer):=fun b hb=>by
    unfold frs
    rw[List.filterMap_cons,x3]
    exact List.mem_cons_of_mem _ hb
  have notx:∀b o,X.s₀.heap.get? b=some o->b≠e/\b ∉ xs:=fun b o q=>⟨fun z=>(by rw[z,ne] at q;cases q),fun z=>(by rw[(hx b z).2] at q;cases q)⟩
  have HT:H T=none:=I.hok.fresh hsz
  have sf:∀b∈frs (X.env::X.outer),H b=none:=by
    have:=I.stkFree
    rw[x2] at this
    exact this
  refine⟨e,cls,dc,H,rfl,I.os,I.bare,?_,?_,?_,hE⟩
  · refine⟨fun b o q n nf _=>?_,fun b o q n nf _=>?_,fun b o q n _=>I.base.free b o q n (by rw[x4];simp),fun b o q _=>?_,I.base.tups,I.base.frzs,I.base.tbls⟩
    · exact G.keep b o (notx b o q).1 (fun z=>(fr b z).elim (nL b o q) nf) (notx b o q).2 (I.base.keep b o q n nf (by rw[x4];simp))
    · obtain⟨sl,z⟩:=I.base.slot b o q n nf (by rw[x4];simp)
      obtain⟨sl',z'⟩:=G.slot b _ (fr2 b nf) z
      exact⟨sl',z'⟩
    · obtain⟨o',z⟩:=I.base.there b o q (by rw[x4];simp)
      by_cases hb:b∈frs (X.env::X.outer)
      · obtain⟨sl,z'⟩:=G.slot b _ hb z
        exact⟨_,z'⟩
      · exact⟨_,G.keep b _ (notx b o q).1 hb (notx b o q).2 z⟩
  · intro a o q
    refine (I.hok a o q).stay (fun b u hb z=>?_) (fun _ z=>z) fun _ _ z=>z
    have Hb:H b≠none:=by
      rcases hb with z | z
      · rw[z,q];simp
      · rw[z];simp
    exact G.keep b u (fun z=>Hb (z▸He)) (fun z=>Hb (sf b z)) (fun z=>Hb (hx b z).1) z
  · obtain⟨oT,ts,t1,t2,t3⟩:=G.ent
    refine⟨_,_,T,oT,ts,G.exc,hc,hdc,rfl,by simp[hz],hTe,t1,t2,t3,He,HT,nz,Nat.le_trans I.sz hsz⟩
theorem zl0 (I:Inv X pins σ H s) (x:XeIs X E) (r:zxp H X.s₀.heap s.heap e cls dc) (hE:E cls dc H):X.xe (.ref e) s:=by
  obtain⟨oe,vs,he,hc,hdc,hd,h1,He,ne⟩:=r
  have x':=x
  obtain⟨x1,x2,x3,x4⟩:=x'
  rw[x1]
  have fr:=I.ok.frames
  have st:=I.stack
  rw[x2] at fr st
  exact zkj fr st x3 he hd h1 fun h' G=>zpu I x G hc hdc (Array.getElem?_eq_some_iff.mp h1).1 He ne (fun b hb=>absurd hb (by simp)) (Nat.ne_of_gt (Heap.lt_size he)) (Nat.le_refl _) hE
theorem zwh (I:Inv X pins σ H s) (x:XeIs X E) (r:Fly H X.s₀.heap s.heap e cls dc) (hE:E cls dc H):X.xe (.ref e) s:=by
  obtain⟨oe,vs,T,oT,ts,he,hc,hdc,hd,h1,hTe,hT,dT,h3,He,HT,ne,nT⟩:=r
  have x':=x
  obtain⟨x1,x2,x3,x4⟩:=x'
  rw[x1]
  have fr:=I.ok.frames
  have st:=I.stack
  rw[x2] at fr st
  refine zmx fr st x3 he hd h1 hT dT h3 hTe fun h' G=>zpu I x G hc hdc (Array.getElem?_eq_some_iff.mp h1).1 He ne (fun b hb=>?_) (Nat.ne_of_gt (Heap.lt_size he)) (Nat.le_refl _) hE
  rw[List.mem_singleton] at hb
  subst hb
  exact⟨HT,nT⟩
theorem zxq (x:XeIs X E):zhp (CX1 X.prog X.w) X E:=by
  intro pins σ H s u s' I h
  obtain⟨e,cls,dc,H',rfl,os,bare,un,hok,fl,hE⟩:=h
  have I':=I.call' os un hok bare (ch:=[]) (fun b z=>absurd z (by simp))
  obtain⟨oe,vs,T,oT,ts,he,hc,hdc,hd,h1,hTe,hT,dT,h3,He,HT,ne,nT⟩:=fl
  exact zwh I' x ⟨oe,vs,T,oT,ts,he,hc,hdc,hd,h1,hTe,hT,dT,h3,He,HT,Nat.le_trans I.sz ne,Nat.le_trans I.sz nT⟩ hE
end
def HasX (P:Program) (w:World) (K:PySem.W.Frag) (mg:Str->Option Value) (base:Heap) (x:Str) (ps:List Str) (k:Nat) (sp:Sp):Prop:=
  ∃(f:Addr) (fd:FuncData),mg x=some (.ref f)/\PySem.W.keepIn K (.ref f)=true/\(∃oc od osl,K.lookup f=some ⟨oc,od,.func fd,osl⟩)/\(∀us:List Value,us.length=ps.length->bindArgs fd ⟨us,[]⟩=pure (ps.zip us))/\FnOk P w K mg base (CX1 P w) k f fd ps sp
section
variable {P:Program}{w:World}{K:PySem.W.Frag}{mg:Str->Option Value}{base:Heap}
theorem Df.hasX {x:Str}{st:Stmt}{N ps:List Str}{k:Nat}{sp:Sp}(D:Df K mg x st ps) (S:FnScope N ps (zi st)) (len:∀vs H Q E,sp vs H Q E->vs.length=ps.length)
    (body:∀(f:Addr) (cdv:Value) (A:Around) (outer:List Env) (s:Shared) (H:Hp) (vs:List V) (Q:VK) (E:XK),Room k (A.deeper (envOfC x (zi st) s.heap.objs.size f cdv))->sp vs H Q E->
      ∃t,PSs (cxOf (CX1 P w) P w K mg base N x (zi st) f cdv A outer s H E) (zbv st) t/\t { nx:=fun _ H'=>Q .non H',rt:=Q } (start N vs) H):HasX P w K mg base x ps (k+1) sp:=by
  obtain⟨f,fd,F,a,b⟩:=D
  obtain⟨oc,od,kV,doc,pm,an,cdv,ct,osl,e,lk,hcd⟩:=id F.ex
  subst e
  exact⟨f,_,a,F.kp,⟨oc,od,osl,lk⟩,b,zvp lk hcd S len (body f cdv)⟩
theorem HasX.good {x:Str}{ps:List Str}{k:Nat}{sp sp':Sp}(F:HasX P w K mg base x ps k sp) (h:∀vs H Q E,sp' vs H Q E->sp vs H Q (fun _ _ _=>False)):Has P w K mg base x ps k sp':=by
  obtain⟨f,fd,a,kp,lk,b,G⟩:=F
  refine⟨f,fd,a,kp,lk,b,fun vs H Q E q=>G.len _ _ _ _ (h _ _ _ _ q),fun A outer s H args us vs Q E hr he hb hv hs=>?_⟩
  refine codeAny_mono (G.run A outer s H args us vs Q _ hr he hb hv (h _ _ _ _ hs)) fun r s' hq=>?_
  cases r with
  | ok fl=>
    cases fl with
    | ret u=>exact hq
    | next=>exact False.elim hq
    | brk=>exact False.elim hq
    | cont=>exact False.elim hq
  | error e=>
    obtain⟨_,_,_,_,_,_,_,_,_,_,z⟩:=hq
    exact z.elim
end
section
variable {X:Cx}{k:Nat}{ps:List Str}{sp:Sp}{E:XK}{C:Addr}{m x:Str}{p pos apos:Pos}{o e:Expr}{es:List Expr}{t:TA}{ta:TE}
theorem zs9 (F:HasX X.prog X.w X.K X.mg X.base x ps k sp) (xe:XeIs X E) (hr:Room k X.A) (hg:Gl X x) (ha:PA X (e::es) t) (hdb:(x == ("__debug__" : Str))=false:=by decide)
    (he:starEach (e::es) X.env=(false,eval e X.env)::starEach es X.env:=by rfl) (hpl:(backTo pos (starEach es X.env)).any (·.1)=false:=by rfl):PE X (.Call (.Name x p) (e::es) [] pos) (ztn sp [] E t):=by
  obtain⟨f,fd,a,kp,_,b,G⟩:=F
  exact znv G hr hg a kp (.all b) .nil (zxq xe) ha hdb he hpl
end
section
variable {prog:Program}{w:World}{A:Around}{E:Value->Shared->Prop}{h:Heap}{g:Array GenState}{d:Drawn}{t:Nat}{os:OsState}{C:Addr}{bm:List Value}
theorem zmy {M:Model}{Q:Unit->Shared->Prop}{e:Addr}{oe:Obj}{us:List Value}(U:UnderV bm) (x:XObj h C bm) (he:h.get? e=some oe) (hc:oe.cls = .ref C) (k:Q () { heap:=h,gens:=g,drawn:=d,toks:=t,os:=os }) :
    wpAny M A (checkBuiltinCall "ValueError.__init__" ⟨.ref e::us,[]⟩) Q E { heap:=h,gens:=g,drawn:=d,toks:=t,os:=os }:=by
  obtain⟨a1,a2,a3,a4,a5,a6,a7,a8,a9,b1,b2,b3,b4,b5,b6,o⟩:=x
  have F:=PySem.F.excBase_ValueError
  have c1:=zfj (C:=C) U.v
  have hs:=F.noStar
  simp only [checkBuiltinCall,F.initKind,F.initSplit,F.initRow]
  repeat (first
    | (with_reducible refine wpAny_loadPart_at he ?_;rw[hc])
    | with_reducible refine wpAny_loadPart_at o ?_
    | (with_reducible refine wpAny_isSubtype_exc o ?_;rw[c1])
    | wp_step)
  refine wpAny_onRaise ?_
  have st:∀(a b:String) (n:Nat),Bind.check ⟨.positional,"*","ValueError",.self,[⟨"args",.varPos,false⟩]⟩ a b n (List.map (fun x=>x.fst) ({ pos:=Value.ref e::us }:Args).kw)=pure ():=fun a b n=>check_star_args _ _ _ _ _ _
  rw[st]
  exact wpAny_pure k
theorem zwi {Q:Value->Shared->Prop}{e t0:Addr}{oe:Obj}{vs:Array Value}{us:List Value}(U:UnderV bm) (x:XObj h C bm) (hz:us.length<=sizeLine) (he:h.get? e=some oe) (hc:oe.cls = .ref C) (hd:oe.data = .fields vs) (h0:vs[0]? = some (.ref t0))
    (k:∀h',(∀b o,b≠e->h.get? b=some o->h'.get? b=some o)->h'.get? e=some { oe with data:=.fields (vs.setIfInBounds 0 (.ref h.objs.size)) }->Q .none { heap:=h',gens:=g,drawn:=d,toks:=t,os:=os }) :
    wpAny (model prog w) A (call (.builtin "ValueError.__init__") (.ref e::us)) Q E { heap:=h,gens:=g,drawn:=d,toks:=t,os:=os }:=by
  have F:=PySem.F.excBase_ValueError
  refine wpAny_call (codeAny_call_builtin F.init.plain F.initEntry (zmy U x he hc ?_))
  unfold Builtin.«BaseException.__init__»
  wp_walk
  rw[hd]
  refine wpAny_pure ?_
  rw[h0]
  refine wpAny_pure (wpAny_bind ?_)
  have he2:=Heap.get?_push_of_some (h:=h) { cls:=.type "tuple",data:=.seq us.toArray } he
  have z0:=(Array.getElem?_eq_some_iff.mp h0).1
  refine wpAny_setField he2 hd z0 ?_
  have e3:=Heap.get?_update_self (Obj.mapFields (·.setIfInBounds 0 (Value.ref h.objs.size))) he2 (Obj.isFreed_of_fields (Obj.data_mapFields hd _))
  rw[zgq hd] at e3
  have go:=k _ (fun b o hb q=>(Heap.get?_update_other _ _ (Ne.symm hb)).trans (Heap.get?_push_of_some _ q)) e3
  wp_walk
  exact go
end
def zf0:List Value->Bool
  | [.type a,.type b,.type c,.type d]=>a == "ValueError" && (b == "Exception" && (c == "BaseException" && d == "object"))
  | .ref _::r=>zf0 r
  | _=>false
theorem zfk:∀{l:List Value},zf0 l=true->l = [.type "ValueError",.type "Exception",.type "BaseException",.type "object"]\/∃c r,l = .ref c::r/\zf0 r=true
  | [.type a,.type b,.type c,.type d],e=>by
    simp only [zf0,Bool.and_eq_true,beq_iff_eq] at e
    obtain⟨rfl,rfl,rfl,rfl⟩:=e
    exact .inl rfl
  | .ref c::r,e=>.inr ⟨c,r,rfl,by unfold zf0 at e;exact e⟩
theorem zl1 (self:Value):∀{l:List Value},zf0 l=true->refuseLoop self "__setattr__" l=pure ()
  | [],e=>by cases e
  | v::r,e=>by
    rcases zfk e with h | ⟨c,r',h,e'⟩
    · rw[h];exact PySem.F.store_ValueError.passes self
    · cases h
      rw[refuseLoop_ref]
      exact zl1 self e'
theorem zi1:∀{l:List Value},zf0 l=true->l.contains (.type "object")=true
  | [],e=>by cases e
  | v::r,e=>by
    rcases zfk e with h | ⟨c,r',h,e'⟩
    · rw[h];decide +kernel
    · cases h
      rw[List.contains_cons,zi1 e',Bool.or_true]
def zkk (K:PySem.W.Frag) (C:Addr):Bool:=(PySem.W.clsIn K C).any fun cd=>zf0 cd.mro
structure XCls (K:PySem.W.Frag) (C:Addr):Prop where
  hd:PySem.W.hasDictIn K C=true
  po:zkk K C=true
  sa:PySem.W.findIn K (.ref C) "__setattr__" = some (some (.builtin "object.__setattr__"))
section
variable {prog:Program}{w:World}{A:Around}{E:Value->Shared->Prop}{R:Result->Shared->Prop}{s:Shared}{K:PySem.W.Frag}{x C:Addr}{name:Str}{v:Value}
theorem zpv {ox:Obj}{od:Option Obj}{tk:Tok}{r:Option Value}(X:K.In s.heap) (I:PySem.W.InstAt s.heap x ox C od) (hp:(PySem.W.clsIn K C).any (fun cd=>zf0 cd.mro)=true) (ht:PySem.W.takerIn K C name=some r)
    (h:∀b,wpAny (model prog w) A.in1 (match r with | some a=>Builtin.ObjectAttr.setByDescriptor a (.ref x) v | none=>Builtin.ObjectAttr.storeInOwnDict (.ref x) (.ref C) (.str name tk) name v b)
      (fun fin s'=>match fin with | .done f=>R (.ok f) s' | .again c'=>c'.quiet=true/\codeAny (model prog w) A c' R s') (fun e s'=>R (.error e) s') s) :
    codeAny (model prog w) A (.call (.builtin "object.__setattr__") ⟨[.ref x,.str name tk,v],[]⟩) R s:=by
  have SF:=PySem.F.store_object
  obtain⟨cd,hc,ho⟩:=PySem.W.any_some hp
  have ne:cd.mro.isEmpty=false:=by cases q:cd.mro with | nil=>rw[q] at ho;cases ho | cons _ _=>rfl
  have sub:PySem.W.Looks (model prog w) s.heap (isInstance (.ref x) (.type "object")) true:=I.type.andThen (PySem.W.looks_mroIn X (by unfold PySem.W.mroIn;rw[hc,Option.bind_some,if_neg (by rw[ne];decide),zi1 ho]))
  refine codeAny_call_builtin SF.slot.plain SF.entry (@PySem.W.check_slot (model prog w) _ _ s "object.__setattr__" "object" "__setattr__" (.ref x) [.str name tk,v] [] _ SF.kind SF.split sub (SF.args (.ref x) (.str name tk) v) ?_)
  obtain⟨attr,ha,hr⟩:=Option.bind_eq_some_iff.mp ht
  have hm:PySem.W.Looks (model prog w) s.heap (mroOf (.ref C)) cd.mro:=(PySem.W.looks_clsIn X hc).andThen .now
  have L3:PySem.W.Looks (model prog w) s.heap (Builtin.ObjectAttr.storeTaker? attr) r:=by
    cases attr with
    | none=>cases hr;exact .now
    | some a=>
      obtain⟨b,hb,rfl⟩:=Option.map_eq_some_iff.mp hr
      refine (PySem.W.looks_takesIn X hb).andThen ?_
      cases b<;>exact .now
  rw[PySem.W.osa_eq,refuse_eq]
  refine wpAny_bind (wpAny_bind (I.type.here (wpAny_bind (hm.here ?_))))
  rw[zl1 _ ho]
  refine wpAny_pure (wpAny_bind (I.type.here (wpAny_bind ((PySem.W.looks_findIn X ha).here (wpAny_bind (L3.here ?_))))))
  exact h _
theorem xset {oe:Obj}{vs:Array Value}{Q:Unit->Shared->Prop}(X:K.In s.heap) (he:s.heap.get? x=some oe) (hcl:oe.cls = .ref C) (hdn:oe.dict=none) (hdt:oe.data = .fields vs) (c:XCls K C) (ht:PySem.W.takerIn K C name=some none)
    (h:∀h' tk,(∀b o,b≠x->s.heap.get? b=some o->h'.get? b=some o)->h'.get? x=some { oe with dict:=some s.heap.objs.size }->h'.Ns1 s.heap.objs.size (fun y=>if y=name then some v else none)->Q () { s with heap:=h',toks:=tk }) :
    wpAny (model prog w) A (setAttr (.ref x) name v) Q E s:=by
  have J:PySem.W.InstAt s.heap x oe C none:=⟨he,hcl,by unfold PySem.W.notCls;rw[hdt],by rw[hdn];trivial⟩
  refine PySem.W.set_plain X J c.sa (zpv (s:={ s with toks:=s.toks+1 }) (r:=none) X J c.po ht fun b=>?_)
  obtain⟨cd,hc,hd'⟩:=PySem.W.any_some c.hd
  obtain⟨oc,od,odt,osl⟩:=oe
  dsimp only at hcl hdn hdt
  subst hcl hdn hdt
  refine wpAny_bind (wpAny_pure (wpAny_bind (wpAny_bind (wpAny_loadPart he (wpAny_bind (PySem.W.Looks.here (s:={ s with toks:=s.toks+1 }) (PySem.W.looks_clsIn X hc) ?_))))))
  rw[hd']
  have hx₁:(s.heap.push { cls:=.type "dict",data:=.dict #[] }).get? x=some { cls:=Value.ref C,data:=Data.fields vs,slots:=osl }:=Heap.get?_push_of_some _ he
  have hxs:x≠s.heap.objs.size:=Nat.ne_of_lt (Heap.lt_size he)
  rw[if_neg (by decide)]
  show wpAny (model prog w) _ (if (!true || !typeHasDict (Value.ref C))=true then pure none else _) _ _ _
  rw[if_neg (by simp[typeHasDict])]
  refine wpAny_bind (wpAny_alloc' ?_)
  refine wpAny_bind (wpAny_update' hx₁ ?_)
  refine wpAny_pure ?_
  have hgd:((s.heap.push { cls:=.type "dict",data:=.dict #[] }).update x fun o=>{ cls:=o.cls,dict:=some s.heap.objs.size,data:=o.data,slots:=o.slots }).get? s.heap.objs.size
      = some { cls:=.type "dict",data:=.dict #[] }:=
    (Heap.get?_update_ne _ _ _ _ hxs.symm).trans (Heap.get?_push_at rfl rfl)
  have hnd:((s.heap.push { cls:=.type "dict",data:=.dict #[] }).update x fun o=>{ cls:=o.cls,dict:=some s.heap.objs.size,data:=o.data,slots:=o.slots }).Ns s.heap.objs.size (fun _=>none):=
    ⟨_,#[],_,hgd,rfl,fun e he=>absurd he (by simp),fun _=>rfl⟩
  show wpAny _ _ (Builtin.ObjectAttr.storeInDict s.heap.objs.size (.str name s.toks) name v) _ _ _
  unfold Builtin.ObjectAttr.storeInDict Builtin.ObjectAttr.newKeyGuard
  refine wpAny_bind (wpAny_pure (wpAny_bind (wpAny_nsSet1 (Heap.Ns1.of_empty hnd) fun h' hn' hs=>?_)))
  obtain⟨oD,esD,epD,hoD,hdD,hcD⟩:=hn'.count (Within.cons name v Within.nil)
  refine wpAny_bind (wpAny_lookBehind hoD (by rw[hdD];exact pastItsLine_dict (Nat.le_trans hcD (by rw[List.length_cons,List.length_nil,sizeLine_eq];omega))) ?_)
  refine wpAny_pure (h h' _ (fun b o hb q=>?_) ?_ hn')
  · exact (hs.2 b (Nat.ne_of_lt (Heap.lt_size q))).trans ((Heap.get?_update_ne _ _ _ _ hb).trans (Heap.get?_push_of_some _ q))
  · exact (hs.2 x hxs).trans (Heap.get?_update_self _ hx₁ rfl)
end
def excO (e C:Addr) (dc:Option Addr):HO:=.ext fun h=>∃oe vs t0,h.get? e=some oe/\oe.cls = .ref C/\oe.dict=dc/\oe.data = .fields vs/\vs[0]? = some (.ref t0)/\vs[1]? = some .none
section
variable {X:Cx}{pins:List (Addr×Obj)}{σ:St}{H:Hp}{s:Shared}{a C:Addr}{dc:Option Addr}{f:Str}{A:Around}{E:Value->Shared->Prop}
theorem zpw {P:Program}{w:World}{h:Heap}{oe:Obj}{vs:Array Value}{t0:Addr}(h1:h.get? a=some oe) (h2:oe.cls = .ref C) (h3:oe.dict=dc) (h4:oe.data = .fields vs) (h5:vs[0]? = some (.ref t0)) (h6:vs[1]? = some .none):ObjOk P w H h a (excO a C dc):=
  ⟨⟨oe,vs,t0,h1,h2,h3,h4,h5,h6⟩,⟨oe,h1⟩,fun g1 g2 ⟨oe',vs',t0',q1,q2⟩ k=>⟨oe',vs',t0',k _ q1,q2⟩⟩
theorem zkl {y:V}{u:Value}{Q:Unit->Shared->Prop}(I:Inv X pins σ H s) (e:H a=some (excO a C none)) (c:XCls X.K C) (n:NoAttr X.K C f) (ry:RelV y u)
    (h:∀d s',H d=none->Inv X pins σ (upd (upd H d (.xd [(f,y)])) a (excO a C (some d))) s'->Q () s'):wpAny (model X.prog X.w) A (setAttr (.ref a) f u) Q E s:=by
  obtain⟨⟨oe,vs,t0,h1,h2,h3,h4,h5,h6⟩,_,_⟩:=(show ObjOk X.prog X.w H s.heap a (excO a C none) from I.hok a _ e)
  refine xset I.kIn h1 h2 h3 h4 c n.taker fun h' tk k hx hns=>?_
  have hd:=I.hok.fresh (Nat.le_refl s.heap.objs.size)
  have hne:s.heap.objs.size≠a:=Nat.ne_of_gt (Heap.lt_size h1)
  have fr:oe.isFreed=false:=Obj.isFreed_of_fields h4
  have u1:(h'.update a fun _=>oe).get? a=some oe:=Heap.get?_update_self _ hx fr
  have u2:∀b,b≠a->(h'.update a fun _=>oe).get? b=h'.get? b:=fun b hb=>Heap.get?_update_other _ _ (Ne.symm hb)
  have I1:=I.laid (a:=s.heap.objs.size) (o:=.xd [(f,y)]) (h':=h'.update a fun _=>oe) (t':=tk) (fun b o q=>by
    by_cases hb:b=a
    · subst hb
      rw[h1] at q
      cases q
      exact u1
    · rw[u2 b hb]
      exact k b o hb q) (Nat.le_refl _) ⟨_,hns.at fun o q=>by rw[u2 _ hne];exact q,fun g=>by
        by_cases hg:g=f
        · rw[if_pos hg]
          subst hg
          rw[List.lookup_cons,beq_self_eq_true]
          exact ry
        · rw[if_neg hg,List.lookup_cons,beq_eq_false_iff_ne.mpr hg]
          exact True.intro⟩
  have I2:=I1.write (x:=a) (e:=a) (o:=excO a C (some s.heap.objs.size)) (h':=h') (t':=tk) (by rw[zl hne.symm,e];exact True.intro) (.inl rfl) (fun b o hb q=>by rw[u2 b hb] at q;exact q) ⟨_,hx⟩ (zpw hx h2 rfl h4 h5 h6)
  exact h _ _ hd I2
end
structure XBase (K:PySem.W.Frag) (D:Addr):Prop where
  rd:PySem.W.readsIn K D (.type "type")=true
  ga:PySem.W.specialIn K (.ref D) "__getattribute__" = some (some (.builtin "type.__getattribute__"))
  fc:PySem.W.findCls K (.ref D) (.type "type") "__init__" = some (.val (.builtin "ValueError.__init__"))
def XObjK (K:PySem.W.Frag) (C:Addr) (bm:List Value):Prop:=∃nm q N bs hdct sn sub ab col dd k0 k1 k2 k3 k5,K.lookup C=some (excClassObj nm q C N bs bm hdct sn sub ab col dd k0 k1 k2 k3 k5 "ValueError.__new__")
theorem XObjK.in {K:PySem.W.Frag}{C:Addr}{bm:List Value}{h:Heap}(x:XObjK K C bm) (X:K.In h):XObj h C bm:=by
  obtain⟨a1,a2,a3,a4,a5,a6,a7,a8,a9,b1,b2,b3,b4,b5,b6,e⟩:=x
  exact⟨a1,a2,a3,a4,a5,a6,a7,a8,a9,b1,b2,b3,b4,b5,b6,X _ _ e⟩
def zwj (K:PySem.W.Frag) (t:TA):TE:=fun σ H Q=>t σ H fun xs H1=>∃a C dc bm rest,xs = .ref a::rest/\H1 a=some (excO a C dc)/\XObjK K C bm/\UnderV bm/\rest.length<=sizeLine/\Q .non H1
def zxr (K:PySem.W.Frag) (ta tv:TE) (f:Str):TS:=fun D σ H=>tv σ H fun y H1=>ta σ H1 fun x H2=>∃a C,x = .ref a/\H2 a=some (excO a C none)/\XCls K C/\NoAttr K C f/\
  ∀d,H2 d=none->D.nx σ (upd (upd H2 d (.xd [(f,y)])) a (excO a C (some d)))
theorem zwk {H:Hp}{a:Addr}{o:HO}(h:H a=some o):upd H a o=H:=by
  funext b
  unfold upd
  by_cases e:b=a
  · rw[if_pos e,e,h]
  · rw[if_neg e]
section
variable {X:Cx}{o e value:Expr}{es:List Expr}{x f:Str}{p pos pos' apos:Pos}{ta tv:TE}{t:TA}{D:Addr}
theorem zul (ha:PE X o ta) (hv:PE X value tv) (hs:swapsWith value (some (.Attribute o f pos')) pos.line X.env=pure false):PS X (.Assign [.Attribute o f pos'] value pos) (zxr X.K ta tv f):=by
  intro pins s σ H D I h
  refine plainObj_wpAny_Assign_Attribute (thn (hv pins s σ H _ I h) fun u s1 ⟨y,H1,I1,ry,q⟩=>thn (ha pins s1 σ H1 _ I1 q) fun ov s2 hq0=>?_) hs
  obtain⟨x,H2,I2,rx,a,C,ex,ea,c,n,q2⟩:=hq0
  subst ex
  obtain rfl:ov=Value.ref a:=rx
  exact zkl I2 ea c n ry fun d s3 hd I3=>⟨σ,_,I3,q2 d hd⟩
theorem zrt {pins:List (Addr×Obj)}{s:Shared}{σ:St}{H:Hp}{a C:Addr}{dc:Option Addr}{bm:List Value}{us:List Value}{Q:VK}(I:Inv X pins σ H s) (e:H a=some (excO a C dc)) (xo:XObjK X.K C bm) (U:UnderV bm) (hz:us.length<=sizeLine) (q:Q .non H) :
    wpAny (model X.prog X.w) X.A (call (.builtin "ValueError.__init__") (.ref a::us)) (EP X pins σ Q) X.xe s:=by
  obtain⟨⟨oe,vs,t0,h1,h2,h3,h4,h5,h6⟩,_,_⟩:=(show ObjOk X.prog X.w H s.heap a (excO a C dc) from I.hok a _ e)
  obtain⟨hp,g,d,tk,os⟩:=s
  refine zwi U (xo.in I.kIn) hz h1 h2 h4 h5 fun h' k hx=>?_
  have z0:=(Array.getElem?_eq_some_iff.mp h5).1
  have I2:=I.write (x:=a) (e:=a) (o:=excO a C dc) (h':=h') (t':=tk) (by rw[e];exact True.intro) (.inl rfl) (fun b o hb z=>k b o hb z) ⟨_,hx⟩ (zpw (t0:=hp.objs.size) hx h2 h3 rfl (by simp[z0]) (by rw[Array.getElem?_setIfInBounds_ne (by decide)];exact h6))
  rw[zwk e] at I2
  exact⟨.non,H,I2,rfl,q⟩
theorem zru {pl:Sem Bool}(hg:Gl X x) (hm:X.mg x=some (.ref D)) (b:XBase X.K D) (ha:PA X (e::es) t) (hdb:(x == ("__debug__" : Str))=false:=by decide)
    (hst:starEach (e::es) X.env=(false,eval e X.env)::starEach es X.env:=by rfl) (hpl:(backTo pos (starEach es X.env)).any (·.1)=false:=by rfl)
    (ht:eval (.Call (.Attribute (.Name x p) "__init__" apos) (e::es) [] pos) X.env=(do
      let ov ←eval (.Name x p) X.env
      standAt apos.atName
      let (f,first) ←holding [ov] (getMethod ov "__init__" pl)
      callWith pos f first (backTo pos (starEach (e::es) X.env)) (backToKw pos (keywordEach [] X.env))):=by rfl) :
    PE X (.Call (.Attribute (.Name x p) "__init__" apos) (e::es) [] pos) (zwj X.K t):=by
  intro pins s σ H Q I h
  refine PySem.W.methodCall_KW (pl:=pl) (zdc I hg hm ?_ hdb) ht
  refine PySem.W.method_cls I.kIn b.ga (PySem.W.cls_value I.kIn b.rd b.fc (by decide +kernel) ?_)
  have hA:=ha pos pins _ σ H _ (I.tok (s.toks+1)) h
  rw[hst] at hA ⊢
  refine Calls.callWith_builtin (by show (false||(backTo pos (starEach es X.env)).any (·.1))=false;rw[hpl]<;>rfl) (Calls.evalArgs_plain ?_)
  refine thn hA fun us s2 hq0=>?_
  obtain⟨vs,H2,I2,r2,a,C,dc,bm,rest,ev,ea,xo,U,hz,q⟩:=hq0
  subst ev
  cases r2 with
  | cons r1 r2=>
    cases r1
    exact zrt I2 ea xo U (by rw[←r2.length];exact hz) q
end
def del (H:Hp) (e:Addr):Hp:=fun b=>if b=e then none else H b
theorem zg9 {H:Hp}{e:Addr}:del H e e=none:=by unfold del;rw[if_pos rfl]
theorem zfl {H:Hp}{e b:Addr}(h:b≠e):del H e b=H b:=by unfold del;rw[if_neg h]
structure XMk (K:PySem.W.Frag) (C f:Addr) (bm:List Value):Prop where
  obj:XObjK K C bm
  un:UnderV bm
  init:PySem.W.findIn K (.ref C) "__init__" = some (some (.ref f))
  fn:PySem.W.isFn K (.ref f)=true
section
variable {X:Cx}{pins:List (Addr×Obj)}{σ:St}{H:Hp}{s:Shared}
theorem Inv.drop {e:Addr}{φ:Heap->Prop}(I:Inv X pins σ H s) (he:H e=some (.ext φ)):Inv X pins σ (del H e) s:=by
  refine I.un (h':=s.heap) (t':=s.toks) ⟨fun _ _ q _ _ _=>q,fun b o q _ _ _=>⟨o.slots,q⟩,fun b o _ n _=>?_,fun b o q _=>⟨o,q⟩,fun b xs q=>?_,fun b o u q=>?_,fun b ps q=>⟨#[],?_⟩⟩ fun a o q=>?_
  · by_cases z:b=e
    · rw[z];exact zg9
    · rw[zfl z];exact n
  · rw[zfl (fun z=>by rw[z,he] at q;cases q)];exact q
  · rw[zfl (fun z=>by rw[z,he] at q;cases q)];exact q
  · rw[zfl (fun z=>by rw[z,he] at q;cases q),Array.append_empty];exact q
  · have na:a≠e:=fun z=>by rw[z,zg9] at q;cases q
    rw[zfl na] at q
    refine (I.hok a o q).stay (fun _ _ _ z=>z) (fun b z=>?_) fun b xs z=>?_
    · rw[zfl (fun w=>by rw[w,he] at z;cases z)];exact z
    · rw[zfl (fun w=>by rw[w,he] at z;cases z)];exact z
end
def zta (C:Addr) (sp:Sp) (dvs:List V) (E E1:XK) (t:TA):TS:=fun _ σ H=>t σ H fun vs H1=>∀e,H1 e=none->sp (.ref e::(vs++dvs)) (upd H1 e (excO e C none)) (fun v H2=>v = .non/\∃dc,H2 e=some (excO e C dc)/\E (.ref C) dc (del H2 e)) E1
section
variable {X:Cx}{CX:CXT}{k:Nat}{f C:Addr}{fd:FuncData}{ps:List Str}{sp:Sp}{dvs:List V}{ds:List Value}{E E1:XK}{x:Str}{p pos cpos:Pos}{e:Expr}{es:List Expr}{t:TA}{bm:List Value}
theorem zrv (M:XMk X.K C f bm) (F:FnOk X.prog X.w X.K X.mg X.base CX k f fd ps sp) (hr:Room (k+1) X.A) (xe:XeIs X E) (hx:zhp CX X E1) (hg:Gl X x) (hm:X.mg x=some (.ref C)) (hb:Binds X.K fd ps ds) (hd:Vals dvs ds) (hps:ps.length<=1000) (ha:PA X (e::es) t)
    (hdb:(x == ("__debug__" : Str))=false:=by decide) (he:starEach (e::es) X.env=(false,eval e X.env)::starEach es X.env:=by rfl) (hpl:(backTo cpos (starEach es X.env)).any (·.1)=false:=by rfl) :
    PS X (.Raise (some (.Call (.Name x p) (e::es) [] cpos)) none pos) (zta C sp dvs E E1 t):=by
  intro pins s σ H D I h
  refine zmw (vI:=.ref f) M.un hr.hd he hpl (zdc I hg hm ⟨rfl,thn (ha cpos pins s σ H _ I h) fun us s2 hq0=>?_⟩ hdb)
  obtain⟨vs,H1,I1,r,q⟩:=hq0
  have fr:∀a,s2.heap.objs.size<=a->H1 a=none:=fun a h=>I1.hok.fresh h
  have q0:=q _ (fr _ (Nat.le_refl _))
  have l0:=F.len _ _ _ _ q0
  rw[List.length_cons,List.length_append] at l0
  have rl:=r.length
  refine⟨by rw[sizeLine_eq];omega,M.obj.in I1.kIn,PySem.W.looks_findIn I1.kIn M.init,fun self=>PySem.W.bind_fn I1.kIn self (beq_iff_eq.mp M.fn),fun h' ex hs hmd=>?_⟩
  have hq:=q ex (fr ex hs)
  obtain⟨t0,h1,_,_⟩:=hmd.there
  have I2:=I1.laid (a:=ex) (o:=excO ex C none) (h':=h') (t':=s2.toks) hmd.keeps hs (zpw h1 rfl rfl rfl rfl rfl)
  have r2:Vals (V.ref ex::(vs++dvs)) (Value.ref ex::(us++ds)):=.cons rfl (r.append hd)
  have hl:(Value.ref ex::us++ds).length=ps.length:=by
    have e:=r2.length
    rw[F.len _ _ _ _ hq] at e
    exact e.symm
  refine wpAny_call (codeAny_mono (F.run _ X.stack _ _ ⟨Value.ref ex::us,[]⟩ (Value.ref ex::(us++ds)) _ _ E1 (hr.make C us []) (I2.env0.make C us []) (hb _ (Value.ref ex::us) I2.kIn hl) r2 hq) fun r s' hq'=>?_)
  cases r with
  | error e=>exact hx pins σ _ _ e s' I2 hq'
  | ok fl=>
    cases fl with
    | ret u=>
      obtain⟨v,H',I3,rv,ev,dc,he',hE⟩:=I2.after hq'
      subst ev
      obtain⟨⟨oe,ws,t1,g1,g2,g3,g4,g5,g6⟩,_,_⟩:=(show ObjOk X.prog X.w H' s'.heap ex (excO ex C dc) from I3.hok ex _ he')
      have I4:=I3.drop he'
      exact⟨rv,oe,ws,M.obj.in I3.kIn,g1,g2,g4,g6,zl0 I4 xe ⟨oe,ws,g1,g2,g3,g4,g6,zg9,Nat.le_trans I1.sz hs⟩ hE⟩
    | next=>exact False.elim hq'
    | brk=>exact False.elim hq'
    | cont=>exact False.elim hq'
end
section
variable {M:Model}{A:Around}{E:Value->Shared->Prop}{s:Shared}
theorem zpx {base:Heap}{env:Env}{outer:List Env}{L e T:Addr}{oe oT:Obj}{vs ts:Array Value}{Q:Unit->Shared->Prop}
    (hfr:A.frames=some (env::outer)) (hl:s.heap.FunFrames base (env::outer)) (hf:env.frame=some L) (he:s.heap.get? e=some oe) (hd:oe.data = .fields vs) (h1:vs[1]? = some (.ref T))
    (hT:s.heap.get? T=some oT) (dT:oT.data = .fields ts) (h3:ts[3]? = some .none) (ne:T≠e)
    (k:∀h',Gone (frs (env::outer)) e s.heap.objs.size [T] oe vs s.heap h'->Q () { s with heap:=h' }) :
    wpAny M A (noteFrame (.ref e) env) (fun _ s'=>wpAny M A (setFlight (.ref e) none) Q E s') E s:=by
  unfold noteFrame
  simp only [hf]
  refine wpAny_bind (wpAny_field he hd h1 ?_)
  rw[if_pos (show (Value.ref T != Value.none)=true from by simp)]
  refine wpAny_bind (wpAny_field hT dT h3 ?_)
  rw[if_neg (show ¬((Value.none == rawInt L)=true) from by simp[rawInt])]
  have z3:=(Array.getElem?_eq_some_iff.mp h3).1
  refine wpAny_bind (wpAny_setField hT dT z3 ?_)
  have oth:∀b,b≠T->(s.heap.update T (Obj.mapFields (·.setIfInBounds 3 Value.none))).get? b=s.heap.get? b:=fun b hb=>Heap.get?_update_other _ _ (Ne.symm hb)
  have self:=Heap.get?_update_self (Obj.mapFields (·.setIfInBounds 3 Value.none)) hT (Obj.isFreed_of_fields (Obj.data_mapFields dT _))
  have nf:T ∉ frs (env::outer):=fun hm=>by
    obtain⟨_,o,ho,hn⟩:=hl.mem hm
    rw[hT] at ho
    cases ho
    exact hn ts dT
  have sz:(s.heap.update T (Obj.mapFields (·.setIfInBounds 3 Value.none))).objs.size=s.heap.objs.size:=Heap.size_after_update ..
  refine entry_new (s:={ s with heap:=s.heap.update T (Obj.mapFields (·.setIfInBounds 3 Value.none)) }) hfr (hl.of_keeps fun b o hb hn=>⟨o,(oth b fun z=>?_).trans hb,rfl⟩) hf ((oth e ne.symm).trans he) hd (Array.getElem?_eq_some_iff.mp h1).1 fun h' G=>?_
  · subst z
    rw[hT] at hb
    cases hb
    exact hn ts dT
  · have e1:(s.heap.update T (Obj.mapFields (·.setIfInBounds 3 Value.none))).objs.size=s.heap.objs.size:=sz
    have G:=G
    dsimp only at G
    rw[e1] at G
    refine k h' ⟨fun b o hb hn hx q=>G.keep b o hb hn (by simp) ((oth b fun z=>hx (by simp[z])).trans q),fun b o hb q=>G.slot b o hb ((oth b fun z=>nf (z▸hb)).trans q),Heap.get?_none_of_le (Nat.le_refl _),G.exc,G.ent,fun b hb=>?_⟩
    rw[List.mem_singleton] at hb
    subst hb
    exact⟨_,G.keep b _ ne nf (by simp) self⟩
end
def Met (X:Cx) (pins:List (Addr×Obj)) (H:Hp) (h:Heap) (e:Addr) (cls:Value) (dc:Option Addr):Prop:=
  ∃(oe:Obj) (vs:Array Value) (T:Addr) (oT:Obj) (ts:Array Value),h.get? e=some oe/\oe.cls=cls/\oe.dict=dc/\oe.data = .fields vs/\vs[1]? = some (.ref T)/\T≠e/\h.get? T=some oT/\oT.data = .fields ts/\ts[3]? = some .none/\FpOk X pins H e/\FpOk X pins H T
section
variable {X:Cx}{pins:List (Addr×Obj)}{σ:St}{H:Hp}{s:Shared}{E:XK}
theorem zum {Q:Unit->Shared->Prop}{E':Value->Shared->Prop}{u:Value}{s':Shared}(I:Inv X pins σ H s) (x2:X.stack=X.env::X.outer) (x3:X.env.frame=some X.env.locals) (h:CX1 X.prog X.w X.stack H s E u s')
    (k:∀e cls dc H' h',u = .ref e->Inv X pins σ H' { s' with heap:=h' }->Met X pins H' h' e cls dc->E cls dc H'->Q () { s' with heap:=h' }) :
    wpAny (model X.prog X.w) X.A (noteFrame u X.env) (fun _ s1=>wpAny (model X.prog X.w) X.A (setFlight u none) Q E' s1) E' s':=by
  obtain⟨e,cls,dc,H',rfl,os,bare,un,hok,fl,hE⟩:=h
  have I':=I.call' os un hok bare (ch:=[]) (fun b z=>absurd z (by simp))
  obtain⟨oe,vs,T,oT,ts,he,hc,hdc,hd,h1,hTe,hT,dT,h3,He,HT,ne,nT⟩:=fl
  have fr:=I'.ok.frames
  have st:=I'.stack
  rw[x2] at fr st
  refine zpx fr st x3 he hd h1 hT dT h3 hTe fun h' G=>?_
  have F1:FpOk X pins H' e:=I.fpOk ne He
  have F2:FpOk X pins H' T:=I.fpOk nT HT
  have sf:∀b∈frs (X.env::X.outer),H' b=none:=by
    have:=I'.stkFree
    rw[x2] at this
    exact this
  have U:Un (frs X.stack) [e,T] H' H' s'.heap h':=by
    rw[x2]
    refine⟨fun b o q n nf nx=>G.keep b o (fun z=>nx (by simp[z])) nf (fun z=>nx (by rw[List.mem_singleton.mp z];simp)) q,fun b o q n hb nx=>G.slot b o hb q,fun b o q n _=>n,fun b o q nx=>?_,fun _ _ z=>z,fun _ _ _ z=>z,fun _ ps z=>⟨#[],by rw[Array.append_empty];exact z⟩⟩
    by_cases hb:b∈frs (X.env::X.outer)
    · obtain⟨sl,z⟩:=G.slot b o hb q
      exact⟨_,z⟩
    · exact⟨o,G.keep b o (fun z=>nx (by simp[z])) hb (fun z=>nx (by rw[List.mem_singleton.mp z];simp)) q⟩
  have hok':HOk X.prog X.w H' h':=fun a o q=>by
    refine (hok a o q).stay (fun b u hb z=>?_) (fun _ z=>z) fun _ _ z=>z
    have Hb:H' b≠none:=by
      rcases hb with z | z
      · rw[z,q];simp
      · rw[z];simp
    exact G.keep b u (fun z=>Hb (z▸He)) (fun z=>Hb (sf b z)) (fun z=>Hb (by rw[List.mem_singleton.mp z];exact HT)) z
  have I2:Inv X pins σ H' { s' with heap:=h' }:=I'.call' (s':={ s' with heap:=h' }) (ch:=[e,T]) rfl U hok' I'.bare fun b hb=>by
    have F:FpOk X pins H' b:=by
      rcases List.mem_cons.mp hb with z | z
      · rw[z];exact F1
      · rw[List.mem_singleton.mp z];exact F2
    exact⟨F.2.2.2.1,F.2.1,F.2.2.2.2.1,F.2.2.2.2.2⟩
  obtain⟨oT',ts',t1,t2,t3⟩:=G.ent
  have hTn:s'.heap.objs.size≠e:=Nat.ne_of_gt (Heap.lt_size he)
  exact k e cls dc H' h' rfl I2 ⟨_,_,s'.heap.objs.size,oT',ts',G.exc,hc,hdc,rfl,by simp[(Array.getElem?_eq_some_iff.mp h1).1],hTn,t1,t2,t3,F1,I'.fpOk (Nat.le_refl _) (hok.fresh (Nat.le_refl _))⟩ hE
end
structure XCatch (K:PySem.W.Frag) (D:Addr):Prop where
  nt:PySem.W.instIn K (.ref D) (.type "tuple")=some false
  ty:PySem.W.isClsIn K D=true
  ex:PySem.W.mroIn K D (.type "BaseException")=some true
section
variable {M:Model}{A:Around}{E:Value->Shared->Prop}{s:Shared}{K:PySem.W.Frag}{e C D:Addr}{oe:Obj}{b:Bool}
theorem zrw {Q:Bool->Shared->Prop}(X:K.In s.heap) (he:s.heap.get? e=some oe) (hc:oe.cls = .ref C) (cd:XCatch K D) (hs:PySem.W.mroIn K C (.ref D)=some b) (h:Q b s):wpAny M A (excMatches (.ref e) (.ref D)) Q E s:=by
  have L1:=PySem.W.looks_instIn (M:=M) X cd.nt
  have L3:=PySem.W.looks_mroIn (M:=M) X cd.ex
  have L4:=PySem.W.looks_mroIn (M:=M) X hs
  have L5:PySem.W.Looks M s.heap (typeOf (.ref e)) (.ref C):=hc▸(PySem.W.Looks.ld he).andThen .now
  unfold excMatches
  refine wpAny_bind (L1.here ?_)
  dsimp only
  rw[if_neg (by decide)]
  refine wpAny_bind (wpAny_pure ?_)
  simp only [List.forIn_cons,List.forIn_nil]
  have L6:PySem.W.Looks M s.heap (isExcClass (.ref D)) true:=by
    unfold isExcClass
    refine PySem.W.Looks.andThen (a:=true) ?_ ?_
    · obtain⟨c,hc⟩:=Option.isSome_iff_exists.mp cd.ty
      unfold PySem.W.clsIn at hc
      split at hc
      · rename_i hk
        exact (PySem.W.Looks.ld (part:=_) (X _ _ hk)).andThen .now
      · cases hc
    · exact L3
  refine wpAny_bind (wpAny_bind (wpAny_bind (L6.here ?_)))
  rw[if_neg (by decide)]
  refine wpAny_pure (wpAny_pure (wpAny_bind (L5.here (wpAny_bind (wpAny_bind (wpAny_bind (L4.here ?_)))))))
  cases b with
  | true=>rw[if_pos rfl];exact wpAny_pure (wpAny_pure (wpAny_pure h))
  | false=>rw[if_neg (by decide)];exact wpAny_pure (wpAny_pure (wpAny_pure h))
end
section
variable {X:Cx}{pins:List (Addr×Obj)}{σ:St}{H:Hp}{s:Shared}
theorem Inv.track {a:Addr}{o:HO}(I:Inv X pins σ H s) (f:FpOk X pins H a) (xe:X.ex = []) (ok:ObjOk X.prog X.w (upd H a o) s.heap a o):Inv X pins σ (upd H a o) s:=by
  obtain⟨f1,f2,f3,f4,f5,f6⟩:=f
  have f4:X.s₀.heap.objs.size<=a:=f4.resolve_left (by rw[xe];simp)
  refine⟨I.ok,I.os,I.bare,⟨I.base.keep,I.base.slot,fun b ob q n hx=>?_,I.base.there,fun b xs q=>?_,fun b ob u q=>?_,fun b ps q=>?_⟩,I.loc,I.cell,?_,fun x c z=>?_,fun p hp=>?_,fun b ob q=>?_,I.len⟩
  · rw[zl (fun z=>absurd (Heap.lt_size q) (Nat.not_lt.mpr (by rw[z];exact f4)))]
    exact I.base.free b ob q n hx
  · have:=I.base.tups b xs q
    rw[zl (fun z=>by rw[z,f1] at this;cases this)]
    exact this
  · have:=I.base.frzs b ob u q
    rw[zl (fun z=>by rw[z,f1] at this;cases this)]
    exact this
  · obtain⟨m,this⟩:=I.base.tbls b ps q
    refine⟨m,?_⟩
    rw[zl (fun z=>by rw[z,f1] at this;cases this)]
    exact this
  · rw[zl f2.symm];exact I.free
  · rw[zl (f5 x c z)];exact I.freeC x c z
  · obtain⟨q1,q2,q3,q4,q5⟩:=I.pin p hp
    exact⟨q1,by rw[zl (f6 p hp)];exact q2,q3,q4,q5⟩
  · by_cases z:b=a
    · subst z
      rw[zb] at q
      cases q
      exact ok
    · rw[zl z] at q
      refine (I.hok b ob q).stay (fun _ _ _ z=>z) (fun c w=>?_) fun c xs w=>?_
      · rw[zl (fun z=>by rw[z,f1] at w;cases w)];exact w
      · rw[zl (fun z=>by rw[z,f1] at w;cases w)];exact w
theorem zha {M:Model}{A:Around}{E:Value->Shared->Prop}{i:Nat}{n:Str}{pos:Pos}{Q:Unit->Shared->Prop}(I:Inv X pins σ H s) (hN:X.N.Nodup) (hi:X.N[i]? = some n) (hl:X.env.scope.names.lookup n=some .local)
    (h:∀s',Inv X pins (σ.set i none) H s'->Q () s'):wpAny M A (do bindName X.env n .none;unbindBehindTheSuite X.env n pos) Q E s:=by
  have hcls:(X.env.scope.kind == .class||(X.env.scope.kind == .module&&X.env.locals != X.env.globals))=false:=by rw[I.ok.kind];rfl
  refine wpAny_bind (wpAny_bindName (zcy I hN hi (.inl hl) (v:=.non) rfl (fun s1 I1=>?_) (.inr hl)))
  unfold unbindBehindTheSuite
  refine wpAny_onRaise ?_
  unfold unbindName
  refine wpAny_bind (wpAny_point (wpAny_bind ?_))
  unfold deleteName
  obtain⟨m,hn,hl'⟩:=id I1.loc
  have hlk:X.env.kindOf n=some .local:=hl
  simp only [hlk,hcls]
  rw[if_neg (by decide)]
  have iσ:i<(σ.set i (some V.non)).length:=by rw[I1.len];exact (List.getElem?_eq_some_iff.mp hi).1
  obtain⟨u,ru,lu⟩:=hl' i n .non hi (by rw[List.getElem?_set_self (by simpa using iσ)]) (.inl hl)
  have mn:(m n).isSome=true:=by
    rcases lu with ⟨_,z⟩ | ⟨z,_⟩
    · rw[z];rfl
    · rw[hlk] at z;rcases z with z | z<;>cases z
  refine wpAny_bind (wpAny_nsDel_keeps hn fun h2 v hn2 hs2=>?_)
  rw[mn]
  simp only [if_true,Bool.not_true,Bool.false_eq_true,if_false]
  refine wpAny_pure (wpAny_point (h _ ?_))
  have cne:=I1.cne
  obtain⟨oL,_,_,hoL,_⟩:=id hn
  refine⟨I1.ok,I1.os,I1.bare,⟨fun b o e n hb hx=>?_,fun b o e n hb hx=>?_,I1.base.free,fun b o e hx=>?_,I1.base.tups,I1.base.frzs,I1.base.tbls⟩,⟨_,hn2,fun j y v' e1 e2 e3=>?_⟩,fun y c e=>?_,I1.free,I1.freeC,fun p hp=>?_,fun b ob e=>?_,by simpa using I.len⟩
  · exact (hs2.2 b (Nat.ne_of_lt (Nat.lt_of_lt_of_le (Heap.lt_size e) I1.ok.above))).trans (I1.base.keep b o e n hb hx)
  · obtain⟨sl,e1⟩:=I1.base.slot b o e n hb hx
    exact⟨sl,(hs2.2 b (Nat.ne_of_lt (Nat.lt_of_lt_of_le (Heap.lt_size e) I1.ok.above))).trans e1⟩
  · obtain⟨o',e1⟩:=I1.base.there b o e hx
    exact⟨o',(hs2.2 b (Nat.ne_of_lt (Nat.lt_of_lt_of_le (Heap.lt_size e) I1.ok.above))).trans e1⟩
  · have hj:j≠i:=fun z=>by
      subst z
      rw[List.getElem?_set_self (by simpa using iσ)] at e2
      cases e2
    rw[List.getElem?_set_ne (Ne.symm hj)] at e2
    obtain⟨u',r',q⟩:=hl' j y v' e1 (by rw[List.getElem?_set_ne (Ne.symm hj)];exact e2) e3
    refine⟨u',r',?_⟩
    rcases q with ⟨k,z⟩ | ⟨k,c,z1,z2⟩
    · refine .inl ⟨k,?_⟩
      have:y≠n:=fun z=>hj (zgr hN e1 (z▸hi))
      simp[this,z]
    · exact .inr ⟨k,c,z1,z2.sameBut hs2 (cne y c z1)⟩
  · obtain⟨w',z⟩:=I1.cell y c e
    exact⟨w',z.sameBut hs2 (cne y c e)⟩
  · obtain⟨e,n,ne,nf,d⟩:=I1.pin p hp
    exact⟨(hs2.2 p.1 ne).trans e,n,ne,nf,d⟩
  · refine (I1.hok b ob e).stay (fun c w' hc q=>(hs2.2 c ?_).trans q) (fun _ q=>q) fun _ _ q=>q
    rintro rfl
    rcases hc with rfl | hc
    · rw[I1.free] at e;cases e
    · rw[I1.free] at hc;cases hc
end
def Cx.inTry (X:Cx) (pn:List (Addr×Obj)) (xe:Value->Shared->Prop):Cx:={ X with pn:=pn,xe:=xe }
def Cx.inSuite (X:Cx) (v:Value) (xe:Value->Shared->Prop):Cx:={ X with A:=X.A.mark (some v),calm:=false,xe:=xe }
structure XFn (X:Cx):Prop where
  st:X.stack=X.env::X.outer
  fr:X.env.frame=some X.env.locals
  ex:X.ex = []
def zwl (X:Cx) (Es:St->XK):Prop:=∀(pins:List (Addr×Obj)) (σ:St) (H:Hp) (s:Shared) (u:Value) (s':Shared),Inv X pins σ H s->CX1 X.prog X.w X.stack H s (Es σ) u s'->X.xe u s'
def excH (e C:Addr) (dc:Option Addr):HO:=.ext fun h=>∃oe vs,h.get? e=some oe/\oe.cls = .ref C/\oe.dict=dc/\oe.data = .fields vs
abbrev TH:=Ends->St->Addr->Option Addr->Hp->Prop
def PH (X:Cx) (hs:List ExceptHandler) (th:TH):Prop:=
  ∀(pins:List (Addr×Obj)) (s:Shared) (σ:St) (H:Hp) (D:Ends) (e C:Addr) (dc:Option Addr),Inv X pins σ H s->Met X pins H s.heap e (.ref C) dc->th D σ C dc H->wpAny (model X.prog X.w) X.A (handleBy (.ref e) X.env hs) (SP X pins D) X.xe s
def zxs:TH:=fun _ _ _ _ _=>False
def zwm (i:Nat) (D:Ends):Ends:={ nx:=fun σ H=>D.nx (σ.set i none) H,rt:=D.rt,bk:=fun σ H=>D.bk (σ.set i none) H,ct:=fun σ H=>D.ct (σ.set i none) H }
def thAs (K:PySem.W.Frag) (i:Nat) (Dc:Addr) (ts:TS) (thr:TH):TH:=fun D σ C dc H=>∃b,PySem.W.mroIn K C (.ref Dc)=some b/\
  if b=true then ∀e,H e=none->ts (zwm i D) (σ.set i (some (.ref e))) (upd H e (excH e C dc)) else thr D σ C dc H
def sTry (tb:(St->XK)->TS) (th:TH):TS:=fun D σ H=>tb (fun σ' cls dc H'=>∃C,cls = .ref C/\th D σ' C dc H') D σ H
def zwn (sp:Sp) (dvs:List V) (Es:St->XK) (t:TA):TE:=fun σ H Q=>t σ H fun vs H1=>sp (vs++dvs) H1 Q (Es σ)
section
variable {X:Cx}{pins:List (Addr×Obj)}{σ:St}{H:Hp}{s:Shared}
theorem zi2 {v:Value}{xe:Value->Shared->Prop}(I:Inv X pins σ H s):Inv (X.inSuite v xe) pins σ H s:=
  ⟨⟨I.ok.mod,I.ok.kind,I.ok.glob,I.ok.blt,I.ok.above,I.ok.inj,I.ok.has,I.ok.cab,(fun z=>absurd z Bool.false_ne_true),I.ok.frames,I.ok.stk,I.ok.exf,I.ok.bs,I.ok.bsz,I.ok.noex,I.ok.exfs,I.ok.funs,I.ok.frf⟩,
    I.os,I.bare,I.base,I.loc,I.cell,I.free,I.freeC,I.pin,I.hok,I.len⟩
theorem zci {v:Value}{xe:Value->Shared->Prop}(ok:X.Ok) (I:Inv (X.inSuite v xe) pins σ H s):Inv X pins σ H s:=⟨ok,I.os,I.bare,I.base,I.loc,I.cell,I.free,I.freeC,I.pin,I.hok,I.len⟩
theorem zun {xe:Value->Shared->Prop}(I:Inv X pins σ H s):Inv (X.inTry (X.pn++pins) xe) [] σ H s:=
  ⟨⟨I.ok.mod,I.ok.kind,I.ok.glob,I.ok.blt,I.ok.above,I.ok.inj,I.ok.has,I.ok.cab,I.ok.hd,I.ok.frames,I.ok.stk,I.ok.exf,I.ok.bs,I.ok.bsz,I.ok.noex,I.ok.exfs,I.ok.funs,I.ok.frf⟩,
    I.os,I.bare,I.base,I.loc,I.cell,I.free,I.freeC,fun p hp=>I.pin p ((List.mem_append.mp hp).elim id fun z=>absurd z (by simp)),I.hok,I.len⟩
theorem zcv {pins':List (Addr×Obj)}{xe:Value->Shared->Prop}(ok:X.Ok) (I:Inv (X.inTry (X.pn++pins) xe) pins' σ H s):Inv X pins σ H s:=
  ⟨ok,I.os,I.bare,I.base,I.loc,I.cell,I.free,I.freeC,fun p hp=>I.pin p (List.mem_append_left _ hp),I.hok,I.len⟩
end
section
variable {X:Cx}{CX:CXT}{k i:Nat}{f Dc:Addr}{ps:List Str}{sp:Sp}{x n:Str}{p pos hpos:Pos}{e:Expr}{es:List Expr}{t:TA}{Es:St->XK}{b₀:Stmt}{suite body:List Stmt}{h₀:ExceptHandler}{rest hs:List ExceptHandler}{ts:TS}{thr th:TH}{tb:(St->XK)->TS}
theorem ztb (F:HasX X.prog X.w X.K X.mg X.base x ps k sp) (xe:zwl X Es) (hr:Room k X.A) (hg:Gl X x) (ha:PA X (e::es) t) (hdb:(x == ("__debug__" : Str))=false:=by decide)
    (he:starEach (e::es) X.env=(false,eval e X.env)::starEach es X.env:=by rfl) (hpl:(backTo pos (starEach es X.env)).any (·.1)=false:=by rfl):PE X (.Call (.Name x p) (e::es) [] pos) (zwn sp [] Es t):=by
  obtain⟨f,fd,a,kp,_,b,G⟩:=F
  intro pins s σ H Q I h
  refine wpAny_Call_Name_kw (zdc I hg a ?_ hdb)
  refine PySem.W.callWith_K (h₀:=X.base) I.ok.mod.kin kp (thn (ha pos pins s σ H _ I h) fun us s1 ⟨vs,H1,I1,r,q⟩=>⟨I1.kIn,?_⟩) he hpl
  have r2:Vals (vs++[]) (us++[]):=r.append .nil
  have hl:(us++[]).length=ps.length:=by rw[←r2.length];exact G.len _ _ _ _ q
  refine wpAny_call (codeAny_mono (G.run X.A X.stack s1 H1 ⟨us,[]⟩ (us++[]) (vs++[]) Q (Es σ) hr I1.env0 ((Binds.all b) s1 us I1.kIn hl) r2 q) fun r s' hq=>?_)
  cases r with
  | error e=>exact xe pins σ H1 s1 e s' I1 hq
  | ok fl=>
    cases fl with
    | ret u=>exact I1.after hq
    | next=>exact False.elim hq
    | brk=>exact False.elim hq
    | cont=>exact False.elim hq
theorem ztc (x:XFn X) (hb:∀pn xe (Es:St->XK),zwl (X.inTry pn xe) Es->PSs (X.inTry pn xe) body (tb Es)) (hh:PH X (h₀::hs) th):PS X (.Try body (h₀::hs) [] [] pos) (sTry tb th):=by
  intro pins s σ H D I h
  refine wpAny_Try_except ?_
  refine wpAny_mono (hb (X.pn++pins) (fun e s₁=>wpAny (model X.prog X.w) X.A (noteFrame e X.env) (fun _ s₂=>wpAny (model X.prog X.w) X.A (setFlight e none) (fun _ s₃=>wpAny (model X.prog X.w) X.A (handleBy e X.env (h₀::hs)) (SP X pins D) X.xe s₃) X.xe s₂) X.xe s₁)
    (fun σ' cls dc H'=>∃C,cls = .ref C/\th D σ' C dc H') (fun pins' σ' H' s' u s'' I' hcx=>?_) [] s σ H D (zun I) h) (fun fl s1 q=>?_) fun _ _ z=>z
  · refine zum (zcv I.ok I') x.st x.fr hcx fun e cls dc H2 h' hu I2 met hE=>?_
    subst hu
    obtain⟨C,rfl,hth⟩:=hE
    exact hh pins _ σ' H2 D e C dc I2 met hth
  · cases fl with
    | next=>
      obtain⟨σ',H',J,q⟩:=q
      exact wpAny_execs_nil ⟨σ',H',zcv I.ok J,q⟩
    | brk=>
      obtain⟨σ',H',J,q⟩:=q
      exact⟨σ',H',zcv I.ok J,q⟩
    | cont=>
      obtain⟨σ',H',J,q⟩:=q
      exact⟨σ',H',zcv I.ok J,q⟩
    | ret u=>
      obtain⟨v,σ',H',J,r,q⟩:=q
      exact⟨v,σ',H',zcv I.ok J,r,q⟩
theorem ztd:PH X [] zxs:=fun _ _ _ _ _ _ _ _ _ _ h=>h.elim
theorem zwo (xf:XFn X) (hg:Gl X x) (hm:X.mg x=some (.ref Dc)) (cd:XCatch X.K Dc) (hN:X.N.Nodup) (hi:X.N[i]? = some n) (hl:X.env.scope.names.lookup n=some .local)
    (hsu:∀v xe,PSs (X.inSuite v xe) (b₀::suite) ts) (hr:PH X rest thr) (hdb:(x == ("__debug__" : Str))=false:=by decide) :
    PH X (.ExceptHandler (some (.Name x p)) (some n) (b₀::suite) hpos::rest) (thAs X.K i Dc ts thr):=by
  intro pins s σ H D e C dc I met h
  obtain⟨oe,vs,T,oT,tvs,he,hc,hdc,hd,h1,hTe,hT,dT,h3,F1,F2⟩:=met
  obtain⟨b,hb,h⟩:=h
  refine wpAny_handleBy_cons (codeAny_handlers_test (zdc (X:=X.inSuite (.ref e) X.xe) (zi2 I) hg hm ?_ hdb)) (by intro q;cases q)
  refine zrw (K:=X.K) I.kIn he hc cd hb ?_
  cases b with
  | false=>
    rw[if_neg (by decide)] at h
    exact hr pins s σ H D e C dc I ⟨oe,vs,T,oT,tvs,he,hc,hdc,hd,h1,hTe,hT,dT,h3,F1,F2⟩ h
  | true=>
    rw[if_pos rfl] at h
    refine codeAny_handlers_suite_as ?_
    refine wpAny_setFlight_none he hd h1 hT dT (Array.getElem?_eq_some_iff.mp h3).1 ?_
    have oth:∀b,b≠T->(s.heap.update T (Obj.mapFields (·.setIfInBounds 3 .none))).get? b=s.heap.get? b:=fun b hb=>Heap.get?_update_other _ _ (Ne.symm hb)
    have I1:Inv X pins σ H { s with heap:=s.heap.update T (Obj.mapFields (·.setIfInBounds 3 .none)) }:=I.turnedL (t':=s.toks) (ch:=[T]) (fun b o hb q=>by rw[oth b (fun z=>hb (by simp[z]))];exact q) fun b hb=>by rw[List.mem_singleton.mp hb];exact F2
    have he1:=(oth e hTe.symm).trans he
    have I2:=I1.track (a:=e) (o:=excH e C dc) F1 xf.ex ⟨⟨oe,vs,he1,hc,hdc,hd⟩,⟨oe,he1⟩,fun g1 g2 ⟨oe',vs',q1,q2⟩ kk=>⟨oe',vs',kk _ q1,q2⟩⟩
    refine zcy I2 hN hi (.inl hl) (v:=.ref e) rfl (fun s2 I3=>?_) (.inr hl)
    refine thn (hsu (.ref e) _ pins s2 _ _ (zwm i D) (zi2 I3) (h e F1.1)) fun fl s3 q=>?_
    cases fl with
    | next=>
      obtain⟨σ',H',J,q⟩:=q
      exact zha (zci I.ok J) hN hi hl fun s5 J5=>⟨_,H',J5,q⟩
    | brk=>
      obtain⟨σ',H',J,q⟩:=q
      exact zha (zci I.ok J) hN hi hl fun s5 J5=>⟨_,H',J5,q⟩
    | cont=>
      obtain⟨σ',H',J,q⟩:=q
      exact zha (zci I.ok J) hN hi hl fun s5 J5=>⟨_,H',J5,q⟩
    | ret u=>
      obtain⟨v,σ',H',J,r,q⟩:=q
      exact zha (zci I.ok J) hN hi hl fun s5 J5=>⟨v,_,H',J5,r,q⟩
end
end L2
namespace L2
def XOk (K:PySem.W.Frag) (C:PySem.Addr):Prop:=∃bm,XObjK K C bm/\UnderV bm
end L2
namespace L2
open PySem
def zl2 (K:PySem.W.Frag) (C:Addr):Bool:=match K.lookup C with
  | some ⟨.type t,_,.cls cd,sl⟩=>t == "type" && ((match cd.mro with | .ref c::bm=>c == C&&(bm.contains (.type "ValueError")&&(bm.contains (.type "BaseException")&&(!bm.contains (.type "AttributeError") && !bm.contains (.type "NameError")))) | _=>false)&&(!cd.hasDel &&
      (match sl.toList with | [_,_,_,_,some (.builtin i),_]=>i == "ValueError.__new__" | _=>false)))
  | _=>false
theorem zwp {K:PySem.W.Frag}{C:Addr}(h:zl2 K C=true):XOk K C:=by
  unfold zl2 at h
  split at h
  · rename_i t dd cd sl hk
    rw[Bool.and_eq_true,Bool.and_eq_true,Bool.and_eq_true] at h
    obtain⟨h1,h2,h3,h4⟩:=h
    split at h2
    · rename_i c bm hm
      split at h4
      · rename_i k0 k1 k2 k3 i k5 hs
        simp only [Bool.and_eq_true,beq_iff_eq,Bool.not_eq_true'] at h1 h2 h3 h4
        obtain⟨rfl,a1,a2,a3,a4⟩:=h2
        subst h1 h4
        refine⟨bm,⟨cd.name,cd.qualname,cd.ns,cd.bases,cd.hasDict,cd.slotNames,cd.subclasses,cd.abstract,cd.collection,dd,k0,k1,k2,k3,k5,?_⟩,⟨a1,a2,a3,a4⟩⟩
        rw[hk]
        obtain⟨x1,x2,x3,x4,x5,x6,x7,x8,x9,y1,y2⟩:=cd
        dsimp only at hm h3
        subst hm h3
        obtain⟨l⟩:=sl
        dsimp only at hs
        subst hs
        rfl
      · cases h4
    · cases h2
  · cases h
end L2
namespace L2
open PySem PySem.Spec PyProof.Rows
structure XGet (K:PySem.W.Frag) (C:Addr):Prop where
  ga:PySem.W.findIn K (.ref C) "__getattribute__" = some (some (.builtin "BaseException.__getattribute__"))
  gn:PySem.W.findIn K (.ref C) "__getattr__" = some none
  bx:PySem.W.mroIn K C (.type "BaseException")=some true
  hd:PySem.W.hasDictIn K C=true
section
variable {prog:Program}{w:World}{A:Around}{E:Value->Shared->Prop}{s:Shared}{K:PySem.W.Frag}{x C:Addr}{ox:Obj}{od:Option Obj}{name:Str}{v:Value}{expr:Bool}{Q:Value->Shared->Prop}
theorem zpy {Qf:Prop}(X:K.In s.heap) (I:PySem.W.InstAt s.heap x ox C od) (g:XGet K C)
    (h:wpAny (model prog w) A.in1 (Builtin.«object.__getattribute__» ⟨[.ref x,.str name s.toks],[]⟩)
      (fun fin s'=>match fin with | .done (.ret v)=>wpAny (model prog w) A (handedOut v) Q E s' | _=>False) (fun _ _=>False) { s with toks:=s.toks+1 }) :
    wpAny (model prog w) A (getAttr (.ref x) name expr) Q E s:=by
  have FB:=PySem.F.attrBase_ValueError
  refine wpAny_bind (wpAny_mkText (wpAny_holding (wpAny_bind (I.type _ _ _ _ (fun _ _ e=>e) (wpAny_bind (PySem.W.looks_findIn X g.ga _ _ _ _ (fun _ _ e=>e) ?_))))))
  dsimp only
  rw[show (onTheHeap (Value.ref C)&&Value.builtin "BaseException.__getattribute__" == Value.builtin "object.__getattribute__")=false from by rw[show (Value.builtin "BaseException.__getattribute__" == Value.builtin "object.__getattribute__")=false from by decide +kernel,Bool.and_false],if_neg (by decide)]
  refine wpAny_bind (PySem.W.looks_hook (mc:=.ref C) X (r:=none) (by rw[if_pos (show onTheHeap (Value.ref C)=true from rfl)];exact g.gn) _ _ _ _ (fun _ _ e=>e) (wpAny_bind (wpAny_attempt (wpAny_holding ?_))))
  unfold callGetattribute
  rw[show (expr&&onTheHeap (Value.builtin "BaseException.__getattribute__"))=false from by cases expr<;>rfl,if_neg (by decide)]
  unfold boundAndCalled
  rw[FB.ga.bind]
  refine wpAny_bind (wpAny_pure ?_)
  show wpAny _ _ (call (.builtin "BaseException.__getattribute__") [.ref x,.str name s.toks]) _ _ _
  refine wpAny_call ?_
  refine codeAny_call_builtin FB.ga.plain PySem.F.entry_bexc_ga ?_
  refine @PySem.W.check_slot (model prog w) _ _ { s with toks:=s.toks+1 } "BaseException.__getattribute__" "BaseException" "__getattribute__" (.ref x) [.str name s.toks] [] _ (by decide +kernel) (by decide +kernel) (I.type.andThen (PySem.W.looks_mroIn X g.bx)) (PySem.F.args_bexc_ga (.ref x) (.str name s.toks)) ?_
  refine wpAny_mono h (fun fin s' z=>?_) fun _ _ z=>z.elim
  rcases fin with (_ | _ | _ | _) | _<;>first | exact z | exact z.elim
theorem zmz (X:K.In s.heap) (I:PySem.W.InstAt s.heap x ox C od) (g:XGet K C)
    (hf:PySem.W.findObj K C od name=some (.value v)) (hh:PySem.W.handedIn v=true) (h:Q v { s with toks:=s.toks+1 }):wpAny (model prog w) A (getAttr (.ref x) name expr) Q E s:=by
  refine zpy (Qf:=True) X I g ?_
  obtain⟨hh',g,d,t,os⟩:=s
  have L0:=I.type (M:=model prog w)
  have L1:=PySem.W.looks_find (M:=model prog w) X I hf
  unfold Builtin.«object.__getattribute__»
  refine wpAny_bind (wpAny_pure (wpAny_bind (wpAny_pure (wpAny_bind (L0.at (wpAny_bind (L1.at ?_)))))))
  refine wpAny_pure ?_
  show wpAny _ _ (handedOut v) _ _ _
  rw[PySem.W.handedOut_of hh];exact wpAny_pure h
end
def zwq (K:PySem.W.Frag) (ta:TE) (f:Str):TE:=fun σ H Q=>ta σ H fun x H1=>∃a C d fs v,x = .ref a/\H1 a=some (excH a C (some d))/\H1 d=some (.xd fs)/\XGet K C/\NoAttr K C f/\fs.lookup f=some v/\Q v H1
section
variable {X:Cx}{pins:List (Addr×Obj)}{σ:St}{H:Hp}{s:Shared}{a C d:Addr}{fs:List (Str×V)}{f:Str}{v:V}{A:Around}{E:Value->Shared->Prop}
theorem zkm {b:Bool}{Q:Value->Shared->Prop}(I:Inv X pins σ H s) (e:H a=some (excH a C (some d))) (ed:H d=some (.xd fs)) (c:XGet X.K C) (n:NoAttr X.K C f) (l:fs.lookup f=some v)
    (h:∀u s',Inv X pins σ H s'->RelV v u->Q u s'):wpAny (model X.prog X.w) A (getAttr (.ref a) f b) Q E s:=by
  obtain⟨⟨oe,vs,h1,h2,h3,h4⟩,_,_⟩:=(show ObjOk X.prog X.w H s.heap a (excH a C (some d)) from I.hok a _ e)
  obtain⟨mA,ns,r⟩:=(show ObjOk X.prog X.w H s.heap d (.xd fs) from I.hok d _ ed)
  obtain⟨u,hu,ru⟩:=RelO.some_of (v:=v) (o:=mA f) (by rw[←l];exact r f)
  obtain⟨od,ho,hl⟩:=zho ns
  have J:PySem.W.InstAt s.heap a oe C (some od):=⟨h1,h2,by unfold PySem.W.notCls;rw[h4],by rw[h3];exact ho⟩
  exact zmz I.kIn J c (PySem.W.findObj_own c.hd n rfl (by rw[hl,hu])) (znt ru) (h u _ (I.tok _) ru)
end
section
variable {X:Cx}{e:Expr}{f:Str}{pos:Pos}{ta:TE}
theorem zuo (he:PE X e ta) (hb:attributeBase e f X.env (eval e X.env)=eval e X.env):PE X (.Attribute e f pos) (zwq X.K ta f):=by
  intro pins s σ H Q I h
  refine ztm hb (thn (he pins s σ H _ I h) fun u s1 hq0=>?_)
  obtain⟨x,H1,I1,rx,a,C,d,fs,v,ex,ea,ed,c,n,l,q⟩:=hq0
  subst ex
  obtain rfl:u=Value.ref a:=rx
  exact zkm I1 ea ed c n l fun u' s2 I2 ru=>⟨v,H1,I2,ru,q⟩
end
structure XIsi (K:PySem.W.Frag) (C:Addr):Prop where
  ha:PySem.W.findIn K (.ref C) "__class__" = some (some (.builtin "object.__class__"))
  hn:PySem.W.specialIn K (.builtin "object.__class__") "__get__" = some (some (.builtin "getset_descriptor.__get__"))
  htk:PySem.W.takesIn K (.builtin "object.__class__")=some true
  hm:PySem.W.mroIn K C (.type "object")=some true
end L2
namespace L2
open PySem
def xchk (C:Addr) (o:Obj):Bool:=(match o with
  | ⟨.type t,_,.cls cd,sl⟩=>t == "type" && ((match cd.mro with | .ref c::bm=>c == C&&(bm.contains (.type "ValueError")&&(bm.contains (.type "BaseException")&&(!bm.contains (.type "AttributeError") && !bm.contains (.type "NameError")))) | _=>false)&&(!cd.hasDel &&
      (match sl.toList with | [_,_,_,_,some (.builtin i),_]=>i == "ValueError.__new__" | _=>false)))
  | _=>false)&&(match o.data with | .cls cd=>zf0 cd.mro | _=>false)
theorem zpz {K:PySem.W.Frag}{C:Addr}{c0:Value}{dd:Option Addr}{cd:ClassData}{sl:Array (Option Value)}(l:K.lookup C=some ⟨c0,dd,.cls cd,sl⟩) (h:xchk C ⟨c0,dd,.cls cd,sl⟩=true):zl2 K C=true/\zkk K C=true:=by
  unfold xchk at h
  rw[Bool.and_eq_true] at h
  refine⟨?_,?_⟩
  · unfold zl2
    rw[l]
    cases c0<;>first | exact h.1 | (have:=h.1;cases this)
  · unfold zkk PySem.W.clsIn
    rw[l]
    exact h.2
theorem xcls_of {K:PySem.W.Frag}{C:Addr}{c0:Value}{dd:Option Addr}{cd:ClassData}{sl:Array (Option Value)}(l:K.lookup C=some ⟨c0,dd,.cls cd,sl⟩) (h:xchk C ⟨c0,dd,.cls cd,sl⟩=true) (h1:PySem.W.hasDictIn K C=true)
    (h2:PySem.W.findIn K (.ref C) "__setattr__" = some (some (.builtin "object.__setattr__"))):XCls K C:=⟨h1,(zpz l h).2,h2⟩
theorem xok_at {K:PySem.W.Frag}{C:Addr}{c0:Value}{dd:Option Addr}{cd:ClassData}{sl:Array (Option Value)}(l:K.lookup C=some ⟨c0,dd,.cls cd,sl⟩) (h:xchk C ⟨c0,dd,.cls cd,sl⟩=true):XOk K C:=zwp (zpz l h).1
end L2
namespace L2
open PySem PySem.Spec PyProof.Rows
section
variable {X:Cx}{k:Nat}{C:Addr}{ps:List Str}{sp:Sp}{E:XK}{x:Str}{p pos cpos:Pos}{e:Expr}{es:List Expr}{t:TA}
theorem zp0 (M:HasM X.prog X.w X.K X.mg X.base C "__init__" ps k sp) (xo:XOk X.K C) (hr:Room (k+1) X.A) (xe:XeIs X E) (hg:Gl X x) (hm:X.mg x=some (.ref C)) (hps:ps.length<=1000) (ha:PA X (e::es) t)
    (hdb:(x == ("__debug__" : Str))=false:=by decide) (he:starEach (e::es) X.env=(false,eval e X.env)::starEach es X.env:=by rfl) (hpl:(backTo cpos (starEach es X.env)).any (·.1)=false:=by rfl) :
    PS X (.Raise (some (.Call (.Name x p) (e::es) [] cpos)) none pos) (zta C sp [] E (fun _ _ _=>False) t):=by
  obtain⟨f,fd,m,b,F⟩:=M
  obtain⟨bm,xo,U⟩:=xo
  exact zrv ⟨xo,U,m.at_,m.fn⟩ F hr xe (fun _ _ _ _ _ _ _ z=>z.elim) hg hm (.all b) .nil hps ha hdb he hpl
end
theorem zrx {X:Cx}{e:Expr}{f:Str}{pos:Pos}{ta:TE}(K:PySem.W.Frag) (h:X.K=K) (he:PE X e ta) (hb:attributeBase e f X.env (eval e X.env)=eval e X.env):PE X (.Attribute e f pos) (zwq K ta f):=h▸zuo he hb
section
variable {prog:Program}{w:World}{A:Around}{E:Value->Shared->Prop}{s:Shared}{env:Env}{bm:List Value}
theorem zkn {x:Str}{C:Addr}{vI:Value}{np cpos pos:Pos}{Q:Flow->Shared->Prop}(U:UnderV bm) (hh:A.handled=none)
    (k:wpAny (model prog w) A (eval (.Name x np) env) (fun f s2=>f = .ref C/\XObj s2.heap C bm/\PySem.W.Looks (model prog w) s2.heap (typeLookup (.ref C) "__init__") (some vI)/\(∀self,PySem.W.Looks (model prog w) s2.heap (bindSpecial vI self) (vI,[self]))/\
        ∀h' e,s2.heap.objs.size<=e->Heap.MadeExcOf s2.heap h' e (.ref C) []->wpAny (model prog w) (A.under (.builtin "type.__call__" ⟨[.ref C],[]⟩)) (call vI [.ref e])
          (fun r s3=>r = .none/\∃oe vs,XObj s3.heap C bm/\s3.heap.get? e=some oe/\oe.cls = .ref C/\oe.data = .fields vs/\vs[1]? = some .none/\E (.ref e) s3) E { s2 with heap:=h' }) E s) :
    wpAny (model prog w) A (exec (.Raise (some (.Call (.Name x np) [] [] cpos)) none pos) env) Q E s:=by
  rw[arm_exec_Raise]
  simp only [evalOpt,Option.map]
  refine wpAny_bind (wpAny_standAt (zgp U hh (wpAny_bind (wpAny_mono (wpAny_Call_ofName (wpAny_mono k (fun f s2 k2=>?_) fun _ _ z=>z)) (fun v s3 k3=>wpAny_bind (wpAny_standAt (wpAny_pure k3))) fun _ _ z=>z))))
  obtain⟨rfl,xo,lk,bd,go⟩:=k2
  unfold callWith
  refine wpAny_bind (wpAny_holding (PySem.evalArgs_none (wpAny_bind (wpAny_standAt ?_))))
  obtain⟨hp,g,d,tk,os⟩:=s2
  have any:(backTo cpos (starEach [] env)).any (·.1)=false:=rfl
  simp only [any]
  have xo':=xo
  obtain⟨a1,a2,a3,a4,a5,a6,a7,a8,a9,b1,b2,b3,b4,b5,b6,o⟩:=xo'
  refine wpAny_bind (wpAny_keeperOf_exc o ?_)
  refine wpAny_bind (zlz (us:=[]) U xo (Nat.zero_le _) lk bd fun h' e hs hm=>wpAny_mono (go h' e hs hm) (fun r s3 q=>?_) fun _ _ z=>z)
  obtain⟨r0,oe,vs,q⟩:=q
  exact⟨r0,wpAny_bind (wpAny_holding (wpAny_point (wpAny_pure ⟨e,C,oe,vs,rfl,q⟩)))⟩
end
def zup (C:Addr) (E:XK):TS:=fun _ _ H=>E (.ref C) none H
section
variable {X:Cx}{k:Nat}{C:Addr}{E:XK}{x:Str}{p pos cpos:Pos}
theorem zp1 (xo:XOk X.K C) (hi:PySem.W.findIn X.K (.ref C) "__init__" = some (some (.builtin "ValueError.__init__"))) (hr:Room k X.A) (xe:XeIs X E) (hg:Gl X x) (hm:X.mg x=some (.ref C)) (hdb:(x == ("__debug__" : Str))=false:=by decide) :
    PS X (.Raise (some (.Call (.Name x p) [] [] cpos)) none pos) (zup C E):=by
  obtain⟨bm,xo,U⟩:=xo
  intro pins s σ H D I h
  have F:=PySem.F.excBase_ValueError
  refine zkn (vI:=.builtin "ValueError.__init__") U hr.hd (zdc I hg hm ⟨rfl,xo.in I.kIn,PySem.W.looks_findIn I.kIn hi,fun self=>PySem.W.Looks.of_pure (F.init.bind self),fun h' e hs hmd=>?_⟩ hdb)
  obtain⟨t0,h1,_,_⟩:=hmd.there
  have I2:Inv X pins σ H { s with heap:=h' }:=I.kept (t':=s.toks) hmd.keeps
  have Fp:FpOk X pins H e:=I.fpOk hs (I.hok.fresh hs)
  obtain⟨hp,g,d,tk,os⟩:=s
  refine zwi (us:=[]) U (xo.in I2.kIn) (Nat.zero_le _) h1 rfl rfl rfl fun h'' kk hx=>?_
  have I3:Inv X pins σ H { heap:=h'',gens:=g,drawn:=d,toks:=tk,os:=os }:=I2.turnedL (t':=tk) (ch:=[e]) (fun b o hb q=>kk b o (fun z=>hb (by simp[z])) q) fun b hb=>by rw[List.mem_singleton.mp hb];exact Fp
  exact⟨rfl,_,_,xo.in I3.kIn,hx,rfl,rfl,rfl,zl0 I3 xe ⟨_,_,hx,rfl,rfl,rfl,rfl,Fp.1,Nat.le_trans I.sz hs⟩ h⟩
end
section
variable {prog:Program}{w:World}{A:Around}{E:Value->Shared->Prop}{s:Shared}{K:PySem.W.Frag}{x C:Addr}{ox:Obj}{od:Option Obj}{name:Str}{v:Value}{fill expr:Bool}{tk:Tok}
theorem zuq {Q:Value->Shared->Prop}(X:K.In s.heap) (I:PySem.W.InstAt s.heap x ox C od) (g:XGet K C)
    (h:wpAny (model prog w) A.in1 (Builtin.«object.__getattribute__» ⟨[.ref x,.str name tk],[]⟩)
      (fun fin s'=>match fin with | .done (.ret v)=>wpAny (model prog w) A (handedOut v) Q E s' | _=>False) (fun _ _=>False) s) :
    wpAny (model prog w) A (getAttrBy (.ref x) (.str name tk) fill expr) Q E s:=by
  have FB:=PySem.F.attrBase_ValueError
  unfold getAttrBy
  refine wpAny_holding (wpAny_bind (I.type _ _ _ _ (fun _ _ e=>e) (wpAny_bind (PySem.W.looks_findIn X g.ga _ _ _ _ (fun _ _ e=>e) ?_))))
  dsimp only
  rw[show (onTheHeap (Value.ref C)&&Value.builtin "BaseException.__getattribute__" == Value.builtin "object.__getattribute__")=false from by rw[show (Value.builtin "BaseException.__getattribute__" == Value.builtin "object.__getattribute__")=false from by decide +kernel,Bool.and_false],if_neg (by decide)]
  refine wpAny_bind (PySem.W.looks_hook (mc:=.ref C) X (r:=none) (by rw[if_pos (show onTheHeap (Value.ref C)=true from rfl)];exact g.gn) _ _ _ _ (fun _ _ e=>e) (wpAny_bind (wpAny_attempt (wpAny_holding ?_))))
  unfold callGetattribute
  rw[show (expr&&onTheHeap (Value.builtin "BaseException.__getattribute__"))=false from by cases expr<;>rfl,if_neg (by decide)]
  unfold boundAndCalled
  rw[FB.ga.bind]
  refine wpAny_bind (wpAny_pure ?_)
  show wpAny _ _ (call (.builtin "BaseException.__getattribute__") [.ref x,.str name tk]) _ _ _
  refine wpAny_call ?_
  refine codeAny_call_builtin FB.ga.plain PySem.F.entry_bexc_ga ?_
  refine @PySem.W.check_slot (model prog w) _ _ s "BaseException.__getattribute__" "BaseException" "__getattribute__" (.ref x) [.str name tk] [] _ (by decide +kernel) (by decide +kernel) (I.type.andThen (PySem.W.looks_mroIn X g.bx)) (PySem.F.args_bexc_ga (.ref x) (.str name tk)) ?_
  refine wpAny_mono h (fun fin s' z=>?_) fun _ _ z=>z.elim
  rcases fin with (_ | _ | _ | _) | _<;>first | exact z | exact z.elim
end
open Sem (wp)
namespace Rv
theorem slot_next:Slot "list_reverseiterator" "__next__" "list_reverseiterator.__next__":=
  .of (owner:="list_reverseiterator") (n:="__next__") (by rw[typeLookup_type,builtinLookup_eq_fast];kernel_rfl) (by decide +kernel) (by decide +kernel) (by decide +kernel)
    (by first | exact .inl (by decide +kernel) | exact .inr (by decide +kernel)) (by rw[isSubtype_type];kernel_rfl)
theorem slot_iter:Slot "list_reverseiterator" "__iter__" "list_reverseiterator.__iter__":=
  .of (owner:="list_reverseiterator") (n:="__iter__") (by rw[typeLookup_type,builtinLookup_eq_fast];kernel_rfl) (by decide +kernel) (by decide +kernel) (by decide +kernel)
    (by first | exact .inl (by decide +kernel) | exact .inr (by decide +kernel)) (by rw[isSubtype_type];kernel_rfl)
theorem entry_next:entryFor table "list_reverseiterator.__next__" = some Builtin.«list_reverseiterator.__next__»:=entryFor_of_tree (by kernel_rfl)
theorem entry_iter:entryFor table "list_reverseiterator.__iter__" = some Builtin.«dict_keyiterator.__iter__»:=
  entryFor_alias (id':="dict_keyiterator.__iter__") (by kernel_rfl) (by first | rfl | decide +kernel | (unfold String.splitOn;simp +decide [String.splitOnAux])) (by decide +kernel) (by kernel_rfl)
theorem owner:Manifest.owners.lookup (String.ofList ['r','o','t','a','r','e','t','i','e','s','r','e','v','e','r','_','t','s','i','l'].reverse)=some Manifest.sig_list_reverseiterator:=by kernel_rfl
theorem args_next (a:Value):argsOk "list_reverseiterator.__next__" ⟨[a],[]⟩:=by
  unfold argsOk
  rw[signature?_of (id:="list_reverseiterator.__next__") (n:="__txen__".toList) (o:="rotaretiesrever_tsil".toList) (by kernel_rfl) owner]
  kernel_rfl
theorem args_iter (a:Value):argsOk "list_reverseiterator.__iter__" ⟨[a],[]⟩:=by
  unfold argsOk
  rw[signature?_of (id:="list_reverseiterator.__iter__") (n:="__reti__".toList) (o:="rotaretiesrever_tsil".toList) (by kernel_rfl) owner]
  kernel_rfl
theorem mro_reversed:mroOf (.type "reversed")=pure [.type "reversed",.type "object"]:=by rw[mroOf_type];kernel_rfl
theorem zm0:typeLookup (.type "reversed") "__new__" = pure (some (.builtin "reversed.__new__")):=by rw[typeLookup_type,builtinLookup_eq_fast];kernel_rfl
theorem made:Bind.madeBy (.type "reversed")=pure (some "reversed.__new__"):=madeBy_type mro_reversed zm0 (by decide +kernel)
theorem typeCall (a:Value):checkTypeCall "reversed" ⟨[a],[]⟩=pure ():=by kernel_rfl
theorem newCall (a:Value):checkBuiltinCall "reversed.__new__" ⟨[.type "reversed",a],[]⟩=pure ():=by kernel_rfl
theorem entry_new:entryFor table "reversed.__new__" = some Builtin.«reversed.__new__»:=entryFor_of_tree (by kernel_rfl)
theorem sub_no:isSubtype (.type "list_reverseiterator") (.type "reversed")=pure false:=by rw[isSubtype_type];kernel_rfl
theorem sub_self:isSubtype (.type "reversed") (.type "reversed")=pure true:=by rw[isSubtype_type];kernel_rfl
theorem sub_dict:isSubtype (.type "dict") (.type "dict")=pure true:=by rw[isSubtype_type];kernel_rfl
end Rv
def IsRev (h:Heap) (it l:Addr) (j:Int):Prop:=∃o,h.get? it=some o/\o.cls = .type "list_reverseiterator"/\o.data = .fields #[.ref l,.int j 0]
theorem IsRev.typeIs {s:Shared}{it l:Addr}{j:Int}(x:IsRev s.heap it l j):s.TypeIs (.ref it) "list_reverseiterator":=let ⟨o,ho,hc,_⟩:=x;⟨o,ho,hc⟩
theorem IsRev.at {h h':Heap}{it l:Addr}{j:Int}(x:IsRev h it l j) (e:∀o,h.get? it=some o->h'.get? it=some o):IsRev h' it l j:=let ⟨o,ho,r⟩:=x;⟨o,e _ ho,r⟩
section
variable {prog:Program}{w:World}{A:Around}{E:Value->Shared->Prop}{s:Shared}
theorem zl3 {it l:Addr}{j:Int}{Q:Value->Shared->Prop}(hit:IsRev s.heap it l j) (h:Q (.ref it) s):wpAny (model prog w) A (pyIter (.ref it)) Q E s:=by
  refine wpAny_pyIter_slot hit.typeIs Rv.slot_iter (wpAny_call_entry Rv.slot_iter hit.typeIs Rv.entry_iter ?_ (Rv.args_iter _))
  show wpAny _ _ (ret (.ref it)) _ _ s
  exact wpAny_pure ⟨_,rfl,"list_reverseiterator",_,hit.typeIs,Rv.slot_next.lookup,h⟩
theorem zry {it l:Addr}{j:Nat}{items:Array Value}{x:Value}{Q:Option Value->Shared->Prop}(hit:IsRev s.heap it l (j:Int)) (hl:s.heap.IsList l items) (hx:items[j]? = some x)
    (hQ:∀h',IsRev h' it l ((j:Int)-1)->Heap.SameBut it s.heap h'->Q (some x) { s with heap:=h' }):wpAny (model prog w) A (pyNext (.ref it)) Q E s:=by
  obtain⟨o,ho,hc,hd⟩:=id hit
  obtain⟨ol,hol,_,nl,hdl⟩:=hl
  unfold pyNext
  refine wpAny_bind (wpAny_attempt (wpAny_callSpecial?_slot (name:=Str.ofString "__next__") hit.typeIs Rv.slot_next (wpAny_call_entry Rv.slot_next hit.typeIs Rv.entry_next ?_ (Rv.args_next _))))
  show wpAny _ _ (field (.ref it) 1 >>= _) _ _ s
  refine wpAny_bind (wpAny_field ho hd (x:=.int j 0) rfl ?_)
  show wpAny _ _ (if (j:Int)<0 then _ else _) _ _ s
  rw[if_neg (by omega)]
  show wpAny _ _ (field (.ref it) 0 >>= _) _ _ s
  refine wpAny_bind (wpAny_field ho hd (x:=.ref l) rfl ?_)
  refine wpAny_bind (wpAny_seqItems hol hdl ?_)
  simp only [Int.toNat_natCast,hx]
  refine wpAny_bind (wpAny_setField ho hd (by simp) (wpAny_pure ⟨x,rfl,wpAny_pure (hQ _ ?_ (Heap.SameBut.update ..))⟩))
  exact⟨_,Heap.get?_update_self _ ho (Obj.isFreed_of_fields (Obj.data_mapFields hd _)),(Obj.cls_mapFields ..).trans hc,by rw[Obj.data_mapFields hd];simp[rawInt]⟩
theorem zur {it l:Addr}{j:Int}{Q:Option Value->Shared->Prop}(hh:A.handled=none) (hit:IsRev s.heap it l j) (hj:j<0)
    (hQ:∀h',(∀b o,s.heap.get? b=some o->h'.get? b=some o)->Q none { s with heap:=h' }):wpAny (model prog w) A (pyNext (.ref it)) Q E s:=by
  obtain⟨o,ho,hc,hd⟩:=id hit
  unfold pyNext
  refine wpAny_bind (wpAny_attempt (wpAny_callSpecial?_slot (name:=Str.ofString "__next__") hit.typeIs Rv.slot_next (wpAny_call_entry Rv.slot_next hit.typeIs Rv.entry_next ?_ (Rv.args_next _))))
  show wpAny _ _ (field (.ref it) 1 >>= _) _ _ s
  refine wpAny_bind (wpAny_field ho hd (x:=.int j 0) rfl ?_)
  show wpAny _ _ (if j<0 then _ else _) _ _ s
  rw[if_pos hj]
  refine wpAny_bind (wpAny_rule (wpAny_bind ?_))
  show wpAny _ _ (newExc (.type "StopIteration") [] >>= _) _ _ _
  refine wpAny_bind ?_
  simp only [newExc,newTuple]
  refine wpAny_bind (wpAny_newObj_type ?_ (by size_fits))
  refine wpAny_bind (m:=firstArgMember _ _) (wpAny_of_eq (a:=Value.none) (by first | rfl | (simp only [firstArgMember];rfl)) ?_)
  refine wpAny_newObj_type ?_ (by size_fits)
  simp only [raiseNew]
  refine wpAny_bind (wpAny_handled ?_)
  rw[show A.in1.handled=none from hh]
  refine wpAny_bind (wpAny_pure (wpAny_throw ?_))
  refine wpAny_bind (wpAny_isInstance (T:="StopIteration") (b:=true) ⟨_,Heap.get?_push_size _ rfl,rfl⟩ isSubtype_stop ?_)
  exact wpAny_pure (hQ _ fun b o e=>Heap.get?_push_of_some _ (Heap.get?_push_of_some _ e))
end
def Irv (K:PySem.W.Frag) (a:Addr) (xs:List V):It:=
  ⟨fun i H=>SqL K H a xs/\i<xs.length,fun i H x H'=>H'=H/\xs.reverse[i]? = some x,fun i _=>xs.length<=i⟩
theorem zrz {P:Program}{w:World}{K:PySem.W.Frag}{tg:Expr}(a it:Addr) (xs:List V):Turn P w K tg (Irv K a xs) [it] it (fun i h=>IsRev h it a ((xs.length:Int)-1-i)) where
  mem:=by simp
  obj:=fun i h st b hb=>by
    have e:b=it:=by simpa using hb
    subst e
    obtain⟨o,e,c,d⟩:=st
    exact⟨o,e,fun v z=>by rw[d] at z;cases z⟩
  keep:=fun i h h' st k=>st.at fun o e=>k it (by simp) o e
  item:=by
    intro X hP hw hK hc i pins s σ H E I hf st hg
    subst hP hw hK
    obtain⟨hq,hi⟩:=hg
    obtain⟨its,rv,p,hz⟩:=I.list hq
    have hx:xs[xs.length-1-i]? = some (xs[xs.length-1-i]'(by omega)):=List.getElem?_eq_getElem _
    obtain⟨u,hu,ru⟩:=rv.get hx
    obtain⟨f0,f1,f2,f3,f4,f5⟩:=hf it (by simp)
    have ej:(xs.length:Int)-1-i=((xs.length-1-i:Nat):Int):=by omega
    rw[ej] at st
    refine zry st p.isList (x:=u) (by simpa using hu) fun h' st' sb=>?_
    have I1:Inv X pins σ H { s with heap:=h' }:=I.turned (t':=s.toks) (fun b o hb e=>(sb.2 b hb).trans e) f0 f1 f3 f4 f5
    obtain⟨o,e,c,d⟩:=id st'
    refine⟨u,rfl,zqx (s:={ s with heap:=h' }) e c d (by decide) ⟨_,H,I1,ru,⟨rfl,?_⟩,?_,fun b hb=>(hf b hb).1⟩⟩
    · rw[List.getElem?_reverse hi];exact hx
    · show IsRev h' it a ((xs.length:Int)-1-(i+1:Nat))
      have:(xs.length:Int)-1-(i+1:Nat)=((xs.length-1-i:Nat):Int)-1:=by omega
      rw[this]
      exact st'
  done:=by
    intro X hP hw hK hc i pins s σ H E I hf st hg
    subst hP hw hK
    have hg:xs.length<=i:=hg
    exact zur (I.ok.hd hc) st (by omega) fun h' eb=>⟨rfl,I.kept (t':=s.toks) eb⟩
  self:=fun _ _ _ _ _ st h=>zl3 st h
def zm1 (l:Addr) (n:Nat):Obj:={ cls:=.type "list_reverseiterator",data:=.fields #[.ref l,rawInt ((n:Int)-1)] }
theorem zm2 (l:Addr) (items:Array Value) :
    Meets (Builtin.«list.__reversed__» ⟨[.ref l],[]⟩) (fun _ R s=>s.heap.IsList l items/\R (.ok (.ret (.ref s.heap.objs.size))) { s with heap:=s.heap.push (zm1 l items.size) }):=
  .of_wp fun prog w A R s h=>by
    obtain⟨hl,h⟩:=h
    obtain⟨o,ho,hc,n,hd⟩:=hl
    wp_walk
    rw[hd]
    wp_walk
    exact⟨_,rfl,h⟩
theorem zp2 (l:Addr) (items:Array Value) :
    Meets (Builtin.«reversed.__new__» ⟨[.type "reversed",.ref l],[]⟩) (fun _ R s=>s.heap.IsList l items/\R (.ok (.ret (.ref s.heap.objs.size))) { s with heap:=s.heap.push (zm1 l items.size) }):=
  .of_wp fun prog w A R s h=>by
    obtain⟨hl,h⟩:=h
    have hT:=hl.typeIs
    have hk:=F.slot_list_reversed.lookup
    have hb:=F.slot_list_reversed.bind (.ref l)
    have sub:=Rv.sub_self
    wp_walk
    refine codeAny_mono (codeAny_call_builtin F.slot_list_reversed.plain F.entry_list_reversed (F.slot_list_reversed.check _ _ _ _ _ _ _ _ hT (F.args_list_reversed_1 _) (zm2 l items prog w A.in1
      (wants (fun v s1=>v = .ref s.heap.objs.size/\s1 = { s with heap:=s.heap.push (zm1 l items.size) }) (fun e s'=>R (.error e) s')) s ⟨hl,rfl,rfl⟩))) fun r s1 hr=>?_
    cases r with
    | error e=>exact hr
    | ok fl=>
      cases fl with
      | ret obj=>
        obtain⟨rfl,rfl⟩:=hr
        exact wpAny_pure ⟨_,rfl,h⟩
      | _=>exact hr.elim
section
variable {prog:Program}{w:World}{A:Around}{E:Value->Shared->Prop}{s:Shared}
theorem zr0 {l:Addr}{items:Array Value}{Q:Value->Shared->Prop}(hl:s.heap.IsList l items)
    (h:Q (.ref s.heap.objs.size) { s with heap:=s.heap.push (zm1 l items.size) }):wpAny (model prog w) A (call (.type "reversed") [.ref l]) Q E s:=by
  have hct:=Rv.typeCall (.ref l)
  have hmade:=Rv.made
  have hmro:=Rv.mro_reversed
  refine wpAny_call (codeAny_of_tree ?_)
  show wpAny (model prog w) _ (callAny (.type "reversed") _) _ _ _
  refine wpAny_pure ⟨Code.quiet_builtin _ (by decide +kernel),codeAny_builtin F.entry_type_call ?_⟩
  rw[Around.under_plain (weight_type_call_type "reversed" [.ref l] []) (units_type_call_type "reversed" [.ref l] [])]
  have h1:(Value.type "reversed" == Value.type "type")=false:=by decide +kernel
  have h2:((Manifest.find? "reversed").bind (·.mro.findSome? fun t=>(Manifest.find? t).bind fun b=>if b.noNew then some true else if b.attrs.any (·.1 == "__new__") then some false else none)).getD false=false:=by decide +kernel
  repeat (any_goals first | wp_step | assumption)
  refine codeAny_mono (codeAny_call_builtin (by decide +kernel) Rv.entry_new (wpAny_of_eq (Rv.newCall _) (zp2 l items prog w A.in1
    (wants (fun obj s1=>obj = .ref s.heap.objs.size/\s1 = { s with heap:=s.heap.push (zm1 l items.size) }) E) s ⟨hl,rfl,rfl⟩))) fun r s1 hr=>?_
  cases r with
  | error e=>exact hr
  | ok fl=>
    cases fl with
    | ret obj=>
      obtain⟨rfl,rfl⟩:=hr
      have hT:({ s with heap:=s.heap.push (zm1 l items.size) }:Shared).TypeIs (.ref s.heap.objs.size) "list_reverseiterator":=⟨_,Heap.get?_push_size _ rfl,rfl⟩
      have hsub:=Rv.sub_no
      repeat (any_goals first | wp_step | assumption)
    | _=>exact hr.elim
end
def iRev (K:PySem.W.Frag) (te:TE):TI:=fun σ H R=>te σ H fun x H1=>∃l xs,x = .ref l/\SqL K H1 l xs/\R (Irv K l xs) H1
section
variable {X:Cx}{tg:Expr}
theorem zwr {e:Expr}{te:TE}{p pos:Pos}(hg:Gl X "reversed") (hm:X.mg "reversed" = none) (he:PE X e te) (hs:starEach [e] X.env = [(false,eval e X.env)]:=by rfl) :
    PI X tg (.Call (.Name "reversed" p) [e] [] pos) (iRev X.K te):=by
  intro pins s σ H R I h
  refine Call_ (zhj I hg hm boot_reversed (PyProof.Rows.callWith_type1 (thn (za he zc hs pos pins s σ H (fun vs H1=>match vs with | [x]=>∃l xs,x = .ref l/\SqL X.K H1 l xs/\R (Irv X.K l xs) H1 | _=>False) I h) fun us s1 hq0=>?_) (by rw[hs];rfl) rfl))
  obtain⟨vs,H1,I1,r1,q1⟩:=hq0
  match vs,q1 with
  | [x],q1=>
    obtain⟨l,xs,rfl,hl,q⟩:=q1
    obtain⟨u,rfl,ru⟩:=zdd r1
    cases ru
    obtain⟨its,rv,pl,hz⟩:=I1.list hl
    have hn:=rv.length
    refine zr0 pl.isList (zl3 (j:=(its.toArray.size:Int)-1) ⟨_,Heap.get?_push_size _ rfl,rfl,rfl⟩ ?_)
    refine⟨s1.heap.objs.size,[s1.heap.objs.size],_,_,H1,rfl,I1.kept (t':=s1.toks) fun b o e=>Heap.get?_push_of_some _ e,zrz l _ xs,⟨_,Heap.get?_push_size _ rfl,rfl,?_⟩,fun b hb=>?_,q⟩
    · show Data.fields #[.ref l,rawInt ((its.toArray.size:Int)-1)] = .fields #[.ref l,.int ((xs.length:Int)-1-(0:Nat)) 0]
      rw[List.size_toArray,hn]
      simp[rawInt]
    · have e:b=s1.heap.objs.size:=by simpa using hb
      subst e
      exact I1.fpOk (Nat.le_refl _) (I1.hok.fresh (Nat.le_refl _))
theorem zus {e:Expr}{te:TE}{p pos:Pos}(K:PySem.W.Frag) (h:X.K=K) (hg:Gl X "reversed") (hm:X.mg "reversed" = none) (he:PE X e te) (hs:starEach [e] X.env = [(false,eval e X.env)]:=by rfl) :
    PI X tg (.Call (.Name "reversed" p) [e] [] pos) (iRev K te):=h▸zwr hg hm he hs
theorem zut {K:PySem.W.Frag}{a:Addr}{xs:List V}{g:TG}{tb:TS}{D:Ends}{σ:St}{H:Hp}(Pv:Nat->St->Hp->Prop) (h0:Pv 0 σ H) (hl:∀i σ H,i<=xs.length->Pv i σ H->SqL K H a xs)
    (hs:∀i x σ H,xs.reverse[i]? = some x->Pv i σ H->g x σ H fun σ2 H2=>tb { D with nx:=Pv (i+1),ct:=Pv (i+1),bk:=D.nx } σ2 H2) (hd:∀σ H,Pv xs.length σ H->D.nx σ H) :
    ∃W:Nat->Nat->St->Hp->Prop,(∃m,W 0 m σ H)/\∀i m σ H,W i m σ H->
      ((Irv K a xs).stop i H/\D.nx σ H)\/((Irv K a xs).go i H/\∃N:St->Hp->Prop,(∀σ' H',N σ' H'->∃m',m'<m/\W (i+1) m' σ' H')/\∀x H',(Irv K a xs).yld i H x H'->g x σ H' fun σ2 H2=>tb { D with nx:=N,ct:=N,bk:=D.nx } σ2 H2):=by
  refine⟨fun i m σ H=>m=xs.length-i/\i<=xs.length/\Pv i σ H,⟨xs.length,by simp,Nat.zero_le _,h0⟩,?_⟩
  rintro i m σ H ⟨rfl,hi,p⟩
  have q:=hl i σ H hi p
  by_cases hlt:i<xs.length
  · refine .inr ⟨⟨q,hlt⟩,Pv (i+1),fun σ' H' p'=>⟨xs.length-(i+1),by omega,rfl,hlt,p'⟩,fun x H' y=>?_⟩
    obtain⟨e,y⟩:=y
    subst e
    exact hs i x σ _ y p
  · have e:i=xs.length:=by omega
    subst e
    exact .inl ⟨Nat.le_refl _,hd σ H p⟩
end
theorem zp3 (a b:Addr) (ha:(a == sysModules)=false) (hb:(b == sysModules)=false) (es:Array DictEntry) (ep ep':Nat) :
    Meets (Builtin.«dict.__ne__» ⟨[.ref a,.ref b],[]⟩) (fun _ R s=>RawD s.heap a es ep/\RawD s.heap b #[] ep'/\R (.ok (.ret (.bool (!decide (es.size=0))))) s):=
  .of_wp fun prog w A R s h=>by
    obtain⟨h1,h2,h⟩:=h
    have t1:=h1.typeIs
    have t2:=h2.typeIs
    obtain⟨o1,g1,c1,d1⟩:=h1
    obtain⟨o2,g2,c2,d2⟩:=h2
    have sub:=Rv.sub_dict
    wp_walk
    rw[d1]
    refine wpAny_pure ?_
    show wpAny _ _ (dictEntries b >>= _) _ _ _
    refine wpAny_bind (wpAny_dictEntries g2 d2 ?_)
    by_cases e:es.size=0
    · rw[if_neg (by rw[e];simp)]
      rw[decide_eq_true e] at h
      have e':es = #[]:=Array.eq_empty_of_size_eq_zero e
      subst e'
      refine wpAny_bind (wpAny_dictEpoch g1 d1 ?_)
      simp
      wp_walk
      exact⟨_,rfl,h⟩
    · rw[if_pos (by simp[e])]
      rw[decide_eq_false e] at h
      refine wpAny_bind (wpAny_rule (wpAny_pure ?_))
      exact wpAny_pure ⟨_,rfl,h⟩
section
variable {X:Cx}
theorem zuu (hu:X.A.units+9<cLine):OpR X (compareOp .NotEq) (fun x y H Q=>∃p q kvs,x = .ref p/\y = .ref q/\Rd H p (.dK kvs)/\H q=some (.dK [])/\Q (.bl (!decide (kvs = []))) H):=by
  intro pins s σ H x y v u Q I rx ry h
  obtain⟨p,q,kvs,rfl,rfl,hp,hq,k⟩:=h
  cases rx
  cases ry
  obtain⟨z,hs,vs,rel,o,es,ep,e,ex,dt,kk,pr,nd⟩:=zfu I.hok hp
  obtain⟨z',hs',vs',rel',o',es',ep',e',ex',dt',kk',pr',nd'⟩:=zfu I.hok (.inl hq)
  have l1:kvs.length=vs.length:=Paired.length rel
  have l2:es.size=vs.length:=by rw[←pr.length];simp
  have l3 : [].length=vs'.length:=Paired.length rel'
  have l4:es'.size=vs'.length:=by rw[←pr'.length];simp
  have e0:es' = #[]:=Array.eq_empty_of_size_eq_zero (by rw[l4,←l3];rfl)
  subst e0
  refine richCompare_meets_room (op:=.NotEq) ⟨o,e,ex.1⟩ ⟨o',e',ex'.1⟩ PySem.F.slot_dict_ne PySem.F.entry_dict_ne (PySem.F.args_dict_ne_2 _ _) (zp3 p q hs hs' es ep ep') ⟨⟨o,e,ex,dt⟩,⟨o',e',ex',dt'⟩,?_⟩ (by omega)
  refine⟨(fun x=>nomatch x),.bl (!decide (kvs = [])),H,I,?_,k⟩
  show Value.bool _=Value.bool _
  congr 2
  exact decide_eq_decide.mpr ⟨fun z=>List.eq_nil_of_length_eq_zero (by omega),fun z=>by rw[z] at l1;simp at l1;omega⟩
end
theorem boot_ValueError:bootBuiltins "ValueError" = some (.type "ValueError"):=by decide +kernel
theorem kit_own {K:PySem.W.Frag}{C D:Addr}{b:Bool}{cd:ClassData}(h1:PySem.W.clsIn K D=some cd) (h2:PySem.W.typeIn K (.ref D)=some (.type "type")) (h3:PySem.W.subIn K (.ref C) (.ref D)=some b) (h4:(Value.ref C == Value.ref D)=true->b=true):PySem.W.kitOne K (.ref C) (.ref D)=some b:=by
  unfold PySem.W.kitOne
  split
  · rename_i h
    rw[h4 h]
  · unfold PySem.W.kitCls
    dsimp only
    rw[h1,h2,h3]
    rfl
theorem kit_typ {K:PySem.W.Frag}{C:Addr}{T:String}{b:Bool}(h1:PySem.W.kitMeta T=true) (h3:PySem.W.subIn K (.ref C) (.type T)=some b):PySem.W.kitOne K (.ref C) (.type T)=some b:=by
  unfold PySem.W.kitOne
  rw[if_neg (show ¬((Value.ref C == Value.type T)=true) from Bool.false_ne_true)]
  unfold PySem.W.kitCls
  dsimp only
  rw[if_pos h1,h3]
theorem meta_ValueError:PySem.W.kitMeta "ValueError" = true:=by decide +kernel
section
variable {prog:Program}{w:World}{A:Around}{E:Value->Shared->Prop}{s:Shared}{K:PySem.W.Frag}{x C:Addr}{ox:Obj}{name:Str}{v:Value}
theorem zko {od:Option Obj}{a g:Value}(hc:(PySem.W.clsIn K C).isSome=true) (ha:PySem.W.findIn K (.ref C) name=some (some a)) (hg:PySem.W.specialIn K a "__get__" = some (some g)) (ht:PySem.W.takesIn K a=some true):PySem.W.findObj K C od name=some (.bind g a):=by
  obtain⟨cd,hc⟩:=Option.isSome_iff_exists.mp hc
  unfold PySem.W.findObj
  rw[hc,Option.bind_some,ha,Option.bind_some]
  simp[hg,ht]
theorem zuv {Q:Option Value->Shared->Prop}(X:K.In s.heap) {od:Option Obj}(I:PySem.W.InstAt s.heap x ox C od) (g:XGet K C) (i:XIsi K C) (h:Q (some (.ref C)) { s with toks:=s.toks+1 }):wpAny (model prog w) A (getAttr? (.ref x) "__class__") Q E s:=by
  have hf:PySem.W.findObj K C od "__class__" = some (.bind (.builtin "getset_descriptor.__get__") (.builtin "object.__class__")):=zko (by obtain⟨cd,hc,_⟩:=PySem.W.any_some g.hd;rw[hc];rfl) i.ha i.hn i.htk
  refine wpAny_bind (wpAny_mkText (wpAny_bind (wpAny_attempt (zuq (s:={ s with toks:=s.toks+1 }) X I g ?_))))
  have L0:=I.type (M:=model prog w)
  have L1:=PySem.W.looks_find (M:=model prog w) X I hf
  unfold Builtin.«object.__getattribute__»
  refine wpAny_bind (wpAny_pure (wpAny_bind (wpAny_pure (wpAny_bind (L0 _ _ _ _ (fun _ _ e=>e) (wpAny_bind (L1 _ _ _ _ (fun _ _ e=>e) ?_)))))))
  show wpAny (model prog w) A.in1 (holding [.builtin "object.__class__"] (call (.builtin "getset_descriptor.__get__") [.builtin "object.__class__",.ref x,.ref C]) >>= ret) _ _ _
  refine wpAny_bind (wpAny_holding (wpAny_call (PySem.W.class_get (s:={ s with toks:=s.toks+1 }) X I i.hm ?_)))
  exact wpAny_pure (PySem.W.handed_on rfl (wpAny_pure h))
theorem zp4 {od:Option Obj}(g:XGet K C) (i:XIsi K C):PySem.W.KitX K (.ref x) (.ref C) (fun h=>PySem.W.InstAt h x ox C od) where
  ty:=fun _ _ _ I=>I.type
  it:=fun _ _ X _=>by
    obtain⟨cdD,hcD,_⟩:=PySem.W.any_some g.hd
    unfold PySem.W.clsIn at hcD
    split at hcD
    · rename_i c' d' cd' sl' ho
      intro A' Q' E' s' k q
      unfold isType loadHead
      exact wpAny_bind (wpAny_loadPart (k _ _ (X _ _ ho)) (wpAny_pure q))
    · cases hcD
  ne:=fun h tp dd its n sl X htp=>by
    obtain⟨cdD,hcD,_⟩:=PySem.W.any_some g.hd
    refine Bool.eq_false_iff.mpr fun q=>?_
    have e:C=tp:=Value.ref.inj (beq_iff_eq.mp q)
    subst e
    unfold PySem.W.clsIn at hcD
    split at hcD
    · rename_i c' d' cd' sl' ho
      have z:=(X _ _ ho).symm.trans htp
      cases z
    · cases hcD
  ca:=fun X I k=>zuv X I g i k
end
section
variable {X:Cx}
theorem zl4 {pins:List (Addr×Obj)}{σ:St}{H:Hp}{s:Shared}{a C:Addr}{c:Value}{b:Bool}{Q:VK}(I:Inv X pins σ H s) (ea:H a=some (excH a C none)) (g:XGet X.K C) (i:XIsi X.K C) (e:PySem.W.kitOne X.K (.ref C) c=some b) (q:Q (.bl b) H) :
    wpAny (model X.prog X.w) X.A (call (.builtin "isinstance") [.ref a,c]) (EP X pins σ Q) X.xe s:=by
  obtain⟨⟨oe,vs,h1,h2,h3,h4⟩,_,_⟩:=(show ObjOk X.prog X.w H s.heap a (excH a C none) from I.hok a _ ea)
  have J:PySem.W.InstAt s.heap a oe C none:=⟨h1,h2,by unfold PySem.W.notCls;rw[h4],by rw[h3];trivial⟩
  exact PySem.W.kia_one (zp4 g i) I.kIn J e (fun z=>nomatch z) fun tk=>⟨.bl b,H,I.tok tk,rfl,q⟩
theorem zkp (K:PySem.W.Frag) (h:X.K=K):zbp X (.builtin "isinstance") (fun xs H Q=>∃a C n b,xs = [.ref a,V.ty n]/\H a=some (excH a C none)/\XGet K C/\XIsi K C/\PySem.W.kitOne K (.ref C) (.type n)=some b/\Q (.bl b) H):=by
  subst h
  intro pins s σ H xs us Q I r h
  obtain⟨a,C,n,b,rfl,ea,g,i,e,q⟩:=h
  obtain⟨u,w',rfl,ru,rw'⟩:=zhn r
  cases ru
  cases rw'
  exact zl4 I ea g i e q
theorem zep (K:PySem.W.Frag) (h:X.K=K):zbp X (.builtin "isinstance") (fun xs H Q=>∃a C D b,xs = [.ref a,.ref D]/\H a=some (excH a C none)/\XGet K C/\XIsi K C/\PySem.W.kitOne K (.ref C) (.ref D)=some b/\Q (.bl b) H):=by
  subst h
  intro pins s σ H xs us Q I r h
  obtain⟨a,C,D,b,rfl,ea,g,i,e,q⟩:=h
  obtain⟨u,w',rfl,ru,rw'⟩:=zhn r
  cases ru
  cases rw'
  exact zl4 I ea g i e q
end
section
variable {X:Cx}
theorem zuw (K:PySem.W.Frag) (hK:X.K=K):OpR X (binaryOp .Add) (fun x y H Q=>∃l b xs zs,x = .ref l/\y = .ref b/\SqL K H l xs/\SqL K H b zs/\xs.length+zs.length<=sizeLine/\∀p,H p=none->Q (.ref p) (upd H p (.lst (xs++zs)))):=by
  subst hK
  intro pins s σ H x y v u Q I rx ry h
  obtain⟨l,b,xs,zs,rfl,rfl,hH,hB,hz,q⟩:=h
  cases rx
  cases ry
  obtain⟨its,r,hl,z⟩:=I.list hH
  obtain⟨its2,r2,hl2,z2⟩:=I.list hB
  have e1:=r.length
  have e2:=r2.length
  obtain⟨⟨cls,dd,data,sl⟩,ho,hc,n,hd⟩:=hl.isList
  obtain⟨⟨cls2,dd2,data2,sl2⟩,ho2,hc2,n2,hd2⟩:=hl2.isList
  simp only at hc hd hc2 hd2
  subst hc hd hc2 hd2
  have e:its.toArray++its2.toArray=(its++its2).toArray:=by simp
  refine concat_meets ⟨_,ho,rfl⟩ ⟨_,ho2,rfl⟩ noFill_list_add seq_list_add PySem.F.slot_list_add PySem.F.entry_list_add (PySem.F.args_list_add_2 _ _) (list_addW l b its.toArray its2.toArray n n2 dd dd2 sl sl2 (by rw[List.size_toArray,List.size_toArray];omega)) ⟨ho,ho2,?_⟩
  rw[e]
  exact⟨.ref _,_,I.lnew (t':=s.toks) (r.append r2) (by rw[List.length_append];omega),rfl,q _ I.fresh⟩
end
end L2
namespace LK44
open PySem L2 Dm PySem.NumText
def top (i:Nat):Stmt:=PySem.Challenge.pw_digmatrix_k44_datings.main.body.getD i (.Pass ⟨0,0,0,0⟩)
structure Tx (K:PySem.W.Frag) (mg:Str->Option Value) (w:World) (zh:Addr) (zo:Addr) (zf:Addr) (zj:Addr):Prop where
 zfp:mg "DigError" = some (.ref zh)
 zkv:XCatch K zh
 zkw:XBase K zh
 zsi:mg "Round" = some (.ref zo)
 zwz:XCls K zo
 zw0:XOk K zo
 znf:DfM K zo "Round.__init__" "__init__" (zj2 (top 2) 0) ["self","ties"]
 zsj:NoAttr K zo "ties"
 zdl:mg "NoDating" = some (.ref zf)
 zkx:XCatch K zf
 zky:XCls K zf
 zfq:XOk K zf
 zkz:XGet K zf
 zdm:DfM K zf "NoDating.__init__" "__init__" (zj2 (top 3) 0) ["self","row"]
 zcw:NoAttr K zf "row"
 zjg:mg "NoYear" = some (.ref zj)
 zqr:XOk K zj
 zd8:XGet K zj
 zd9:XIsi K zj
 zqs:PySem.W.findIn K (.ref zj) "__init__" = some (some (.builtin "ValueError.__init__"))
 zcx:PySem.W.mroIn K zf (.ref zf)=some true
 zdn:PySem.W.mroIn K zj (.ref zh)=some true
 ze2:PySem.W.kitOne K (.ref zj) (.ref zj)=some true
 zc6:PySem.W.kitOne K (.ref zj) (.type "ValueError")=some true
 zea:PySem.W.kitOne K (.ref zj) (.ref zf)=some false
 zfr:PySem.W.kitOne K (.ref zj) (.ref zo)=some false
 zk0:Df K mg "one_names" (top 6) ["units","ties"]
 zk1:Df K mg "join_ones" (top 7) ["names","first","second"]
 zwx:Df K mg "ones" (top 8) ["units","ties"]
 zf3:Df K mg "ties_beneath" (top 9) ["telling"]
 ze3:Df K mg "shortest_round" (top 11) ["telling"]
 zfs:Df K mg "round_through" (top 12) ["start","beneath"]
 zf4:Df K mg "refuse_round" (top 13) ["telling"]
 zu7:Df K mg "order" (top 14) ["telling"]
 zjh:Df K mg "least_free" (top 15) ["beneath","placed"]
 znb:Df K mg "rests_on" (top 16) ["lowers","placed"]
 zsk:Df K mg "gap_of" (top 18) ["tie"]
 zf5:Df K mg "finds_within" (top 19) ["telling"]
 zsl:Df K mg "floors" (top 20) ["telling"]
 znc:Df K mg "ceilings" (top 21) ["telling"]
 zhf:Df K mg "bare_chains" (top 22) ["bounds"]
 zsm:Df K mg "led_up" (top 23) ["chain","tie"]
 ze4:Df K mg "one_tie_longer" (top 24) ["beneath","chains"]
 ze5:Df K mg "impossible_row" (top 25) ["telling"]
 ze6:Df K mg "refuse_undated" (top 26) ["telling"]
 zk2:Df K mg "chains_up" (top 28) ["telling"]
 zhg:Df K mg "chains_down" (top 29) ["telling"]
 znd:Df K mg "led_down" (top 30) ["chain","tie"]
 zk3:Df K mg "is_dating" (top 32) ["telling","pairs"]
 zft:Df K mg "lie_in_bounds" (top 33) ["telling","years"]
 zji:Df K mg "keeps_ties" (top 34) ["lowers","years","name"]
 zu8:Df K mg "spans" (top 35) ["telling"]
 zsn:Df K mg "dating" (top 36) ["telling","name","year"]
 zf6:Df K mg "_law_cell_at" (top 38) ["_law_script","_law_k"]
 zk4:Df K mg "_law_part" (top 39) ["_law_cell","_law_k","_law_many"]
 zjj:Df K mg "_law_names" (top 40) ["_law_one","_law_other"]
 zhh:Df K mg "_law_number" (top 41) ["_law_cell"]
 zne:Df K mg "_law_tie" (top 42) ["_law_names_here","_law_places","_law_many","_law_cell","_law_around"]
 zk5:Df K mg "_law_ties" (top 43) ["_law_names_here","_law_places","_law_many","_law_cells","_law_around"]
 zjk:Df K mg "_law_frame" (top 44) ["_law_cell"]
 zjl:Df K mg "_law_finds" (top 45) ["_law_names_here","_law_many","_law_frame_here","_law_cells"]
 zf7:Df K mg "_law_telling" (top 46) ["_law_script","_law_around"]
 zk6:Df K mg "_law_copy" (top 47) ["_law_telling_here"]
 zk7:Df K mg "_law_ones" (top 48) ["_law_telling_here"]
 zjm:Df K mg "_law_links" (top 49) ["_law_telling_here"]
 zjn:Df K mg "_law_keeps" (top 50) ["_law_telling_here","_law_years"]
 zjo:Df K mg "_law_asked" (top 51) ["_law_telling_here"]
 zf8:Df K mg "_law_refused" (top 52) ["_law_telling_here","_law_name","_law_year"]
 zjp:Df K mg "_law_right" (top 53) ["_law_telling_here","_law_one","_law_name","_law_year"]
 zxt:Df K mg "law" (top 54) ["_law_script"]
 min:mg "min" = none
 list:mg "list" = none
 sorted:mg "sorted" = none
 all:mg "all" = none
 reversed:mg "reversed" = none
 dict:mg "dict" = none
 range:mg "range" = none
 len:mg "len" = none
 max:mg "max" = none
 set:mg "set" = none
 isinstance:mg "isinstance" = none
 tuple:mg "tuple" = none
 ValueError:mg "ValueError" = none
theorem Tx.ex {K:PySem.W.Frag}{mg:Str->Option Value}{w:World}{zh:Addr}{zo:Addr}{zf:Addr}{zj:Addr}(T:Tx K mg w zh zo zf zj):∃zh,∃zo,∃zf,∃zj,Tx K mg w zh zo zf zj:=⟨_,_,_,_,T⟩
theorem sc_one_names:FnScope ["units","ties","names","unit","tie"] ["units","ties"] (zi (top 6)):=⟨rfl,rfl,rfl,by decide +kernel,rfl,by decide +kernel,by decide +kernel⟩
theorem sc_join_ones:FnScope ["names","first","second","least","unit"] ["names","first","second"] (zi (top 7)):=⟨rfl,rfl,rfl,by decide +kernel,rfl,by decide +kernel,by decide +kernel⟩
theorem sc_ones:FnScope ["units","ties","names","members","unit"] ["units","ties"] (zi (top 8)):=⟨rfl,rfl,rfl,by decide +kernel,rfl,by decide +kernel,by decide +kernel⟩
theorem sc_ties_beneath:FnScope ["telling","names","beneath","members","tie"] ["telling"] (zi (top 9)):=⟨rfl,rfl,rfl,by decide +kernel,rfl,by decide +kernel,by decide +kernel⟩
theorem sc_shortest_round:FnScope ["telling","beneath","shortest","name","ties"] ["telling"] (zi (top 11)):=⟨rfl,rfl,rfl,by decide +kernel,rfl,by decide +kernel,by decide +kernel⟩
theorem sc_round_through:FnScope ["start","beneath","met","ways","longer","name","ties","lower","tie"] ["start","beneath"] (zi (top 12)):=⟨rfl,rfl,rfl,by decide +kernel,rfl,by decide +kernel,by decide +kernel⟩
theorem sc_refuse_round:FnScope ["telling","ties"] ["telling"] (zi (top 13)):=⟨rfl,rfl,rfl,by decide +kernel,rfl,by decide +kernel,by decide +kernel⟩
theorem sc_order:FnScope ["telling","beneath","placed"] ["telling"] (zi (top 14)):=⟨rfl,rfl,rfl,by decide +kernel,rfl,by decide +kernel,by decide +kernel⟩
theorem sc_least_free:FnScope ["beneath","placed","free"] ["beneath","placed"] (zi (top 15)):=⟨rfl,rfl,rfl,by decide +kernel,rfl,by decide +kernel,by decide +kernel⟩
theorem zkq:FnScope ["lowers","placed"] ["lowers","placed"] (zi (top 16)):=⟨rfl,rfl,rfl,by decide +kernel,rfl,by decide +kernel,by decide +kernel⟩
theorem zp5:FnScope ["tie"] ["tie"] (zi (top 18)):=⟨rfl,rfl,rfl,by decide +kernel,rfl,by decide +kernel,by decide +kernel⟩
theorem sc_finds_within:FnScope ["telling","names","within","members","find"] ["telling"] (zi (top 19)):=⟨rfl,rfl,rfl,by decide +kernel,rfl,by decide +kernel,by decide +kernel⟩
theorem sc_floors:FnScope ["telling","within","starts","name"] ["telling"] (zi (top 20)):=⟨rfl,rfl,rfl,by decide +kernel,rfl,by decide +kernel,by decide +kernel⟩
theorem sc_ceilings:FnScope ["telling","within","ends","name"] ["telling"] (zi (top 21)):=⟨rfl,rfl,rfl,by decide +kernel,rfl,by decide +kernel,by decide +kernel⟩
theorem sc_bare_chains:FnScope ["bounds","chains","name"] ["bounds"] (zi (top 22)):=⟨rfl,rfl,rfl,by decide +kernel,rfl,by decide +kernel,by decide +kernel⟩
theorem zp6:FnScope ["chain","tie"] ["chain","tie"] (zi (top 23)):=⟨rfl,rfl,rfl,by decide +kernel,rfl,by decide +kernel,by decide +kernel⟩
theorem sc_one_tie_longer:FnScope ["beneath","chains","longer","name","lower","tie","chain"] ["beneath","chains"] (zi (top 24)):=⟨rfl,rfl,rfl,by decide +kernel,rfl,by decide +kernel,by decide +kernel⟩
theorem sc_impossible_row:FnScope ["telling","beneath","ends","chains","name"] ["telling"] (zi (top 25)):=⟨rfl,rfl,rfl,by decide +kernel,rfl,by decide +kernel,by decide +kernel⟩
theorem sc_refuse_undated:FnScope ["telling","row"] ["telling"] (zi (top 26)):=⟨rfl,rfl,rfl,by decide +kernel,rfl,by decide +kernel,by decide +kernel⟩
theorem sc_chains_up:FnScope ["telling","beneath","chains","name","lower","tie","chain"] ["telling"] (zi (top 28)):=⟨rfl,rfl,rfl,by decide +kernel,rfl,by decide +kernel,by decide +kernel⟩
theorem sc_chains_down:FnScope ["telling","beneath","chains","name","lower","tie","chain"] ["telling"] (zi (top 29)):=⟨rfl,rfl,rfl,by decide +kernel,rfl,by decide +kernel,by decide +kernel⟩
theorem zkr:FnScope ["chain","tie"] ["chain","tie"] (zi (top 30)):=⟨rfl,rfl,rfl,by decide +kernel,rfl,by decide +kernel,by decide +kernel⟩
theorem sc_is_dating:FnScope ["telling","pairs","beneath","years"] ["telling","pairs"] (zi (top 32)):=⟨rfl,rfl,rfl,by decide +kernel,rfl,by decide +kernel,by decide +kernel⟩
theorem sc_lie_in_bounds:FnScope ["telling","years","starts","ends"] ["telling","years"] (zi (top 33)):=⟨rfl,rfl,rfl,by decide +kernel,rfl,by decide +kernel,by decide +kernel⟩
theorem zhb:FnScope ["lowers","years","name"] ["lowers","years","name"] (zi (top 34)):=⟨rfl,rfl,rfl,by decide +kernel,rfl,by decide +kernel,by decide +kernel⟩
theorem sc_spans:FnScope ["telling","ups","downs"] ["telling"] (zi (top 35)):=⟨rfl,rfl,rfl,by decide +kernel,rfl,by decide +kernel,by decide +kernel⟩
theorem sc_dating:FnScope ["telling","name","year","one","finds","chains"] ["telling","name","year"] (zi (top 36)):=⟨rfl,rfl,rfl,by decide +kernel,rfl,by decide +kernel,by decide +kernel⟩
theorem zfm:FnScope ["_law_script","_law_k"] ["_law_script","_law_k"] (zi (top 38)):=⟨rfl,rfl,rfl,by decide +kernel,rfl,by decide +kernel,by decide +kernel⟩
theorem zi3:FnScope ["_law_cell","_law_k","_law_many"] ["_law_cell","_law_k","_law_many"] (zi (top 39)):=⟨rfl,rfl,rfl,by decide +kernel,rfl,by decide +kernel,by decide +kernel⟩
theorem sc__law_names:FnScope ["_law_one","_law_other","_law_signs","_law_size","_law_at","_law_turned","_law_names_here","_law_k","_law_name","_law_j","_law_number_here"] ["_law_one","_law_other"] (zi (top 40)):=⟨rfl,rfl,rfl,by decide +kernel,rfl,by decide +kernel,by decide +kernel⟩
theorem sc__law_number:FnScope ["_law_cell","_law_some"] ["_law_cell"] (zi (top 41)):=⟨rfl,rfl,rfl,by decide +kernel,rfl,by decide +kernel,by decide +kernel⟩
theorem sc__law_tie:FnScope ["_law_names_here","_law_places","_law_many","_law_cell","_law_around","_law_a","_law_b","_law_kind"] ["_law_names_here","_law_places","_law_many","_law_cell","_law_around"] (zi (top 42)):=⟨rfl,rfl,rfl,by decide +kernel,rfl,by decide +kernel,by decide +kernel⟩
theorem sc__law_ties:FnScope ["_law_names_here","_law_places","_law_many","_law_cells","_law_around","_law_ties_here","_law_cell","_law_tie_here"] ["_law_names_here","_law_places","_law_many","_law_cells","_law_around"] (zi (top 43)):=⟨rfl,rfl,rfl,by decide +kernel,rfl,by decide +kernel,by decide +kernel⟩
theorem sc__law_frame:FnScope ["_law_cell","_law_first"] ["_law_cell"] (zi (top 44)):=⟨rfl,rfl,rfl,by decide +kernel,rfl,by decide +kernel,by decide +kernel⟩
theorem sc__law_finds:FnScope ["_law_names_here","_law_many","_law_frame_here","_law_cells","_law_finds_here","_law_k","_law_cell","_law_low","_law_high"] ["_law_names_here","_law_many","_law_frame_here","_law_cells"] (zi (top 45)):=⟨rfl,rfl,rfl,by decide +kernel,rfl,by decide +kernel,by decide +kernel⟩
theorem sc__law_telling:FnScope ["_law_script","_law_around","_law_names_here","_law_places","_law_many","_law_frame_here","_law_turn","_law_units","_law_ties_here"] ["_law_script","_law_around"] (zi (top 46)):=⟨rfl,rfl,rfl,by decide +kernel,rfl,by decide +kernel,by decide +kernel⟩
theorem zi4:FnScope ["_law_telling_here"] ["_law_telling_here"] (zi (top 47)):=⟨rfl,rfl,rfl,by decide +kernel,rfl,by decide +kernel,by decide +kernel⟩
theorem sc__law_ones:FnScope ["_law_telling_here","_law_label","_law_name","_law_k","_law_tie_here","_law_least"] ["_law_telling_here"] (zi (top 48)):=⟨rfl,rfl,rfl,by decide +kernel,rfl,by decide +kernel,by decide +kernel⟩
theorem sc__law_links:FnScope ["_law_telling_here","_law_label","_law_links_here","_law_tie_here"] ["_law_telling_here"] (zi (top 49)):=⟨rfl,rfl,rfl,by decide +kernel,rfl,by decide +kernel,by decide +kernel⟩
theorem sc__law_keeps:FnScope ["_law_telling_here","_law_years","_law_label","_law_one","_law_find","_law_link"] ["_law_telling_here","_law_years"] (zi (top 50)):=⟨rfl,rfl,rfl,by decide +kernel,rfl,by decide +kernel,by decide +kernel⟩
theorem sc__law_asked:FnScope ["_law_telling_here","_law_found","e"] ["_law_telling_here"] (zi (top 51)):=⟨rfl,rfl,rfl,by decide +kernel,rfl,by decide +kernel,by decide +kernel⟩
theorem sc__law_refused:FnScope ["_law_telling_here","_law_name","_law_year","_law_found","e"] ["_law_telling_here","_law_name","_law_year"] (zi (top 52)):=⟨rfl,rfl,rfl,by decide +kernel,rfl,by decide +kernel,by decide +kernel⟩
theorem sc__law_right:FnScope ["_law_telling_here","_law_one","_law_name","_law_year","_law_handed","_law_found","_law_names_here"] ["_law_telling_here","_law_one","_law_name","_law_year"] (zi (top 53)):=⟨rfl,rfl,rfl,by decide +kernel,rfl,by decide +kernel,by decide +kernel⟩
theorem sc_law:FnScope ["_law_script","_law_telling_here","_law_word","_law_found","_law_label","_law_k","_law_cell","_law_one","_law_low","_law_high","_law_units","_law_name","_law_year"] ["_law_script"] (zi (top 54)):=⟨rfl,rfl,rfl,by decide +kernel,rfl,by decide +kernel,by decide +kernel⟩
theorem zc5:FnScope ["self","row"] ["self","row"] (zi (zj2 (top 3) 0)):=⟨rfl,rfl,rfl,by decide +kernel,rfl,by decide +kernel,by decide +kernel⟩
section
variable {P:Program}{w:World}{K:PySem.W.Frag}{mg:Str->Option Value}{base:Heap}{zh:Addr}{zo:Addr}{zf:Addr}{zj:Addr}
local macro_rules | `(tactic| walk_at "rd")=>`(tactic| repeat (first | refine⟨_,rfl,?_⟩ | refine⟨_,_,rfl,rfl,?_⟩ | refine⟨_,_,_,rfl,?_⟩))
local macro_rules | `(tactic| walk_at "rd")=>`(tactic| repeat (first | refine⟨_,rfl,?_⟩ | refine⟨_,_,rfl,rfl,?_⟩ | refine⟨_,_,_,rfl,?_⟩))
def zux:Sp:=fun vs H Q _=>∃(a:Addr) (ns:List Int) (i:Int),vs = [.ref a,.int i]/\SqL K H a (ns.map V.int)/\0<=i/\Q (.int (zbl ns i)) H
theorem zar (T:Tx K mg w zh zo zf zj):Has P w K mg base "_law_cell_at" ["_law_script","_law_k"] 1 (zux (K:=K)):=by
 refine T.zf6.has zfm (fun vs H Q E h=>?_) (fun f cdv A outer s H vs Q E hr h=>?_)
 ·obtain⟨a,ns,i,rfl,_⟩:=h;rfl
 ·obtain⟨a,ns,i,rfl,ha,h0,k⟩:=h
  refine⟨_,(zd (za6 (zaa zl9 (pv 1) (zac (zai K rfl) (by rfl) T.len boot_len (za (pv 0) zc)) (zag _)) (zg (zy (zq (zaf K rfl) (pv 0) (pv 1) (fun _ _=>rfl)))) zad)
   (zg (zy ze))),?_⟩
  refine⟨_,rfl,_,rfl,a,_,rfl,.inl ha,_,_,rfl,rfl,_,rfl,?_⟩
  refine ite2 (fun c=>?_) (fun c=>?_)
  ·have c:=of_decide_eq_true c
   rw[List.length_map] at c
   have hi:i.toNat<ns.length:=by omega
   refine⟨_,rfl,_,rfl,a,_,i,.int (zbl ns i),rfl,rfl,ha,?_,k⟩
   have e:zbl ns i=ns[i.toNat]:=by unfold zbl;rw[List.getD_eq_getElem?_getD,List.getElem?_eq_getElem hi];rfl
   have:=zb1 (xs:=ns.map V.int) (j:=i.toNat) (v:=.int (zbl ns i)) (by rw[e];simp[hi])
   rw[Int.toNat_of_nonneg h0] at this
   exact this
  ·have c:¬i<((ns.map V.int).length:Int):=fun z=>c (decide_eq_true z)
   rw[List.length_map] at c
   have e:zbl ns i=0:=by unfold zbl;rw[List.getD_eq_getElem?_getD,List.getElem?_eq_none (by omega)];rfl
   rw[e] at k
   exact k
def zuy:Sp:=fun vs H Q _=>∃c k m:Int,vs = [.int c,.int k,.int m]/\0<m/\Q (.int (pt c k m)) H
theorem zx (T:Tx K mg w zh zo zf zj):Has P w K mg base "_law_part" ["_law_cell","_law_k","_law_many"] 1 zuy:=by
 refine T.zk4.has zi3 (fun vs H Q E h=>?_) (fun f cdv A outer s H vs Q E hr h=>?_)
 ·obtain⟨c,i,m,rfl,_⟩:=h;rfl
 ·obtain⟨c,i,m,rfl,hm,k⟩:=h
  refine⟨_,(zg (zy (zak zc7 (zak zc7 (zak zlb (zak zc7 (zak zlb (zak zba (zak zc7 (pv 0) ze) ze) (zak zba ze (zak zlb ze (pv 1)))) ze) (zak zba (pv 1) ze)) ze) (pv 2)))),?_⟩
  have b1:=Int.emod_nonneg c (show (99991:Int)≠0 by decide)
  have b2:=Int.emod_lt_of_pos c (show (0:Int)<99991 by decide)
  have b3:=Int.emod_nonneg ((c%99991+17) * (48271+7919 * i)) (show (65537:Int)≠0 by decide)
  have b4:=Int.emod_lt_of_pos ((c%99991+17) * (48271+7919 * i)) (show (0:Int)<65537 by decide)
  walk_at "rd"
  refine⟨(by decide:(0:Int)<99991),?_⟩
  walk_at "rd"
  refine⟨.inl ⟨by decide,by decide⟩,?_⟩
  walk_at "rd"
  refine⟨.inl ⟨by omega,by omega⟩,?_⟩
  walk_at "rd"
  refine⟨(by decide:(0:Int)<65537),?_⟩
  walk_at "rd"
  refine⟨.inl ⟨by omega,by omega⟩,?_⟩
  walk_at "rd"
  refine⟨(by decide:(0:Int)<8191),?_⟩
  walk_at "rd"
  exact⟨hm,k⟩
theorem c56:CPow 10 56:=⟨by decide,by decide,by decide⟩
theorem m56:(0:Int)<10 ^ (56:Int).toNat:=by decide
theorem zws (z:Int) (one at':Int) (k j:Nat) (h:z=nmI one at' k j):atI NAMES.cps.toList (z%37)=some (nmN one at' k j):=by
 obtain⟨h0,h1⟩:=ix37 z
 subst h
 have:=zb1 (xs:=co NAMES) (j:=(nmI one at' k j%37).toNat) (v:=nmN one at' k j) (by unfold nmN;rw[List.getD_eq_getElem?_getD,List.getElem?_eq_getElem h1];rfl)
 rw[Int.toNat_of_nonneg h0] at this
 exact this
def zp7:Sp:=fun vs H Q _=>∃one other:Int,vs = [.int one,.int other]/\∀(p:Addr) (xs:List Str) (H':Hp),xs.length=8->xs.Nodup->(∀x∈xs,zef x=true)->H p=none->H' p=some (.lst (xs.map V.str))->Same H H'->Q (.ref p) H'
set_option maxHeartbeats 4000000 in
theorem zi5 (T:Tx K mg w zh zo zf zj):Has P w K mg base "_law_names" ["_law_one","_law_other"] 2 zp7:=by
 refine T.zjj.has sc__law_names (fun vs H Q E h=>?_) (fun f cdv A outer s H vs Q E hr h=>?_)
 ·obtain⟨one,other,rfl,_⟩:=h;rfl
 ·obtain⟨one,other,rfl,k⟩:=h
  refine⟨_,(zd (zm (i:=2) sc__law_names.nd rfl (Or.inl rfl) za0)
   (zd (zm (i:=3) sc__law_names.nd rfl (Or.inl rfl) (zak zba ze (zw (zx T) (hr.mono (by decide)) (by rfl) (za (pv 0) (za ze (za ze zc))))))
   (zd (zm (i:=4) sc__law_names.nd rfl (Or.inl rfl) (zw (zx T) (hr.mono (by decide)) (by rfl) (za (pv 1) (za ze (za (pv 3) zc)))))
   (zd (zm (i:=5) sc__law_names.nd rfl (Or.inl rfl) (zw (zx T) (hr.mono (by decide)) (by rfl) (za (pv 1) (za ze (za ze zc)))))
   (zd (zm (i:=6) sc__law_names.nd rfl (Or.inl rfl) (zal zc))
   (zd (zaj PassesOwn.never rfl (zb5 (by rfl) T.range (za ze zc)) (zn (i:=7) sc__law_names.nd rfl (Or.inl rfl)) (zd (zm (i:=8) sc__law_names.nd rfl (Or.inl rfl) za0)
    (zd (zaj PassesOwn.never rfl (zb5 (by rfl) T.range (za ze zc)) (zn (i:=9) sc__law_names.nd rfl (Or.inl rfl)) (zd (zm (i:=10) sc__law_names.nd rfl (Or.inl rfl) (zw (zx T) (hr.mono (by decide)) (by rfl) (za (pv 0) (za (zak zba (pv 9) ze) (za ze zc)))))
     (zd (za6 (PW.pt (zf9 (zaa zdp (pv 9) (pv 4) (zag _)) (zeb (zaa zdp (pv 5) ze (zag _))))) (zg (zm (i:=10) sc__law_names.nd rfl (Or.inl rfl) (zak zba (pv 10) (pv 7)))) zad)
     (zg (zm (i:=8) sc__law_names.nd rfl (Or.inl rfl) (zak zma (pv 8) (zq zvs (pv 2) (zak zc7 (pv 10) ze) (fun _ _=>rfl))))))))
    (zg (za6 (zaa zdp (pv 5) ze (zag _)) (zg (za8 (zc8 K rfl PySem.F.plainAttrs_list PySem.F.slot_list_append PySem.F.type_list_append za9 (pv 6) (za (zcb zsw (pv 8) ze8 (zca (pv 3))) zc)))) (zg (za8 (zc8 K rfl PySem.F.plainAttrs_list PySem.F.slot_list_append PySem.F.type_list_append za9 (pv 6) (za (zcb zsw (pv 8) ze8 (zca (zak zba ze (zak zc7 (zak zba (pv 3) (pv 7)) ze)))) zc)))))))))
   (zg (zy (pv 6))))))))),?_⟩
  walk_at "rd"
  refine⟨by decide,?_⟩
  walk_at "rd"
  obtain⟨s1,s2⟩:=zbb one 0 12 (by decide)
  have hs:∃size:Nat,1+pt one 0 12=(size:Int)/\1<=size/\size<=12:=⟨(1+pt one 0 12).toNat,by omega,by omega,by omega⟩
  obtain⟨size,es,z1,z2⟩:=hs
  rw[es]
  refine⟨by omega,?_⟩
  obtain⟨a1,a2⟩:=zbb other 1 (size:Int) (by omega)
  generalize pt other 1 (size:Int)=at' at a1 a2
  walk_at "rd"
  refine⟨by decide,?_⟩
  generalize pt other 20 2=tu
  refine⟨by decide,fun p hp=>?_⟩
  refine⟨8,rfl,by decide,by decide,zcr (lo:=0) (n:=8) (fun i σ H'=>∃v7 v8 v9 v10,σ = [some (.int one),some (.int other),some (.str NAMES),some (.int size),some (.int at'),some (.int tu),some (.ref p),v7,v8,v9,v10]/\Same H H'/\
   H' p=some (.lst (((List.range i).map (nf8 one at' (decide (tu=0)) size)).map V.str))) ⟨none,none,none,none,(by rw[←es];rfl),Same.new hp,zb⟩ ?_ ?_⟩
  ·rintro i σ H1 hi ⟨v7,v8,v9,v10,rfl,q1,q2⟩
   simp only [Int.zero_add]
   refine⟨12,rfl,by decide,by decide,zcr (lo:=0) (n:=12) (fun j σ H2=>∃v9 v10,σ = [some (.int one),some (.int other),some (.str NAMES),some (.int size),some (.int at'),some (.int tu),some (.ref p),some (.int i),some (.str (zce ((List.range j).map (nmN one at' (if decide (tu=0)=true then i else 0))))),v9,v10]/\H2=H1)
    ⟨v9,v10,by rw[zv4];rfl,rfl⟩ ?_ ?_⟩
   ·rintro j σ H2 hj ⟨v9,v10,rfl,rfl⟩
    simp only [Int.zero_add]
    walk_at "rd"
    refine⟨by decide,?_⟩
    try dsimp only [zr]
    refine zdu (decide ((j:Int)=at'/\tu=0)) (fun Q' hQ=>?_) (ite2 (fun c=>?_) (fun c=>?_))
    ·refine⟨_,rfl,_,rfl,rfl,_,rfl,?_⟩
     refine ite2 (fun c=>?_) (fun c=>?_)
     ·have c:(j:Int)=at':=V.int.inj (of_decide_eq_true c)
      refine⟨_,rfl,rfl,_,rfl,?_⟩
      have e:decide (V.int tu=V.int 0)=decide ((j:Int)=at'/\tu=0):=decide_eq_decide.mpr ⟨fun z=>⟨c,V.int.inj z⟩,fun z=>by rw[z.2]⟩
      rw[e]
      exact hQ
     ·rw[decide_eq_false (fun z=>c (decide_eq_true (congrArg V.int z.1)))] at hQ
      exact hQ
    all_goals
     walk_at "rd"
     refine⟨(by decide:(0:Int)<37),NAMES,_,nmN one at' (if decide (tu=0)=true then i else 0) j,rfl,rfl,by decide,?_,?_⟩
    ·refine zws _ one at' _ j ?_
     obtain⟨c1,c2⟩:=of_decide_eq_true c
     unfold nmI
     rw[if_pos c1,if_pos (decide_eq_true c2)]
    ·refine⟨_,_,rfl,rfl,?_,some (.int j),some (.int (pt one ((j:Int)+2) 37+i)),?_,rfl⟩
     ·rw[zdv,List.length_map,List.length_range]
      exact Nat.le_trans (show j+1<=100 by omega) (by decide)
     ·rw[show (⟨#[nmN one at' (if decide (tu=0)=true then i else 0) j]⟩:Str)=zce [nmN one at' (if decide (tu=0)=true then i else 0) j] from rfl,zh8,List.range_succ,List.map_append]
      rfl
    ·refine zws _ one at' _ j ?_
     have c:¬((j:Int)=at'/\tu=0):=fun z=>c (decide_eq_true z)
     unfold nmI
     by_cases c1:(j:Int)=at'
     ·rw[if_pos c1,if_neg (fun z=>c ⟨c1,of_decide_eq_true z⟩)]
      simp
     ·rw[if_neg c1]
    ·refine⟨_,_,rfl,rfl,?_,some (.int j),some (.int (pt one ((j:Int)+2) 37)),?_,rfl⟩
     ·rw[zdv,List.length_map,List.length_range]
      exact Nat.le_trans (show j+1<=100 by omega) (by decide)
     ·rw[show (⟨#[nmN one at' (if decide (tu=0)=true then i else 0) j]⟩:Str)=zce [nmN one at' (if decide (tu=0)=true then i else 0) j] from rfl,zh8,List.range_succ,List.map_append]
      rfl
   ·rintro σ H2 ⟨v9,v10,rfl,rfl⟩
    have hlen:((zce (nmC one at' (if decide (tu=0)=true then i else 0) 12)).length:Nat)=12:=by rw[zdv,zeg]
    have hfin:∀x:Str,x=nf8 one at' (decide (tu=0)) size i->((List.range i).map (nf8 one at' (decide (tu=0)) size)).map V.str++[V.str x]=((List.range (i+1)).map (nf8 one at' (decide (tu=0)) size)).map V.str:=fun x e=>by
     rw[List.range_succ,List.map_append,List.map_append,e];rfl
    have hq2:(((List.range i).map (nf8 one at' (decide (tu=0)) size)).map V.str).length<sizeLine:=by
     rw[List.length_map,List.length_map,List.length_range]
     exact zz (by omega)
    refine⟨_,rfl,rfl,_,rfl,?_⟩
    refine ite2 (fun c=>?_) (fun c=>?_)
    ·have c:tu=0:=V.int.inj (of_decide_eq_true c)
     refine⟨_,rfl,.inl ⟨rfl,_,SqL.of q2⟩,_,rfl,_,rfl,_,rfl,_,rfl,(by show (zce (nmC one at' (if decide (tu=0)=true then i else 0) 12)).length<=sizeLine;rw[hlen];decide),p,_,_,rfl,rfl,q2,hq2,?_⟩
     refine⟨_,_,_,_,rfl,q1.upd hp,?_⟩
     rw[zb]
     congr 2
     refine hfin _ ?_
     show Txt.slice (zce (nmC one at' (if decide (tu=0)=true then i else 0) 12)) none (some (size:Int))=_
     rw[zgf _ _ (by omega) (by rw[zeg];omega)]
     unfold nf8
     rw[decide_eq_true c]
     rfl
    ·have c:¬tu=0:=fun z=>c (decide_eq_true (congrArg V.int z))
     refine⟨_,rfl,.inl ⟨rfl,_,SqL.of q2⟩,_,rfl,?_⟩
     walk_at "rd"
     refine⟨(by decide:(0:Int)<12),?_⟩
     refine⟨_,_,rfl,rfl,_,rfl,_,rfl,(by show (zce (nmC one at' (if decide (tu=0)=true then i else 0) 12)).length<=sizeLine;rw[hlen];decide),p,_,_,rfl,rfl,q2,hq2,?_⟩
     refine⟨_,_,_,_,rfl,q1.upd hp,?_⟩
     rw[zb]
     congr 2
     refine hfin _ ?_
     show Txt.slice (zce (nmC one at' (if decide (tu=0)=true then i else 0) 12)) none (some (1+((size:Int)+(i:Int))%12))=_
     have e:1+((size:Int)+(i:Int))%12=((1+(size+i)%12:Nat):Int):=by omega
     rw[e,zgf _ _ (by omega) (by rw[zeg];omega)]
     unfold nf8
     rw[decide_eq_false c]
     rfl
  ·rintro σ H1 ⟨v7,v8,v9,v10,rfl,q1,q2⟩
   obtain⟨n1,n2,n3⟩:=zov (one:=one) (tu:=decide (tu=0)) a1 a2 z1 z2
   exact⟨_,rfl,k p _ H1 n3 n1 n2 hp q2 q1⟩
def zp8:Sp:=fun vs H Q _=>∃c:Int,vs = [.int c]/\∀(z:Int) (H':Hp),0<=z->z<10 ^ 56->Same H H'->Q (.int z) H'
set_option maxHeartbeats 4000000 in
theorem zbk (T:Tx K mg w zh zo zf zj):Has P w K mg base "_law_number" ["_law_cell"] 2 zp8:=by
 refine T.zhh.has sc__law_number (fun vs H Q E h=>?_) (fun f cdv A outer s H vs Q E hr h=>?_)
 ·obtain⟨c,rfl,_⟩:=h;rfl
 ·obtain⟨c,rfl,k⟩:=h
  refine⟨_,(zd (zm (i:=1) sc__law_number.nd rfl (Or.inl rfl) (zal (za (zak zc7 (pv 0) (zak zvl ze ze)) (za (zw (zx T) (hr.mono (by decide)) (by rfl) (za (pv 0) (za ze (za ze zc)))) (za (zw (zx T) (hr.mono (by decide)) (by rfl) (za (pv 0) (za ze (za ze zc)))) zc)))))
   (zg (zy (zq (zaf K rfl) (pv 1) (zw (zx T) (hr.mono (by decide)) (by rfl) (za (pv 0) (za ze (za ze zc)))) (fun _ _=>rfl))))),?_⟩
  walk_at "rd"
  refine⟨c56,?_⟩
  walk_at "rd"
  refine⟨m56,?_⟩
  walk_at "rd"
  refine⟨by decide,?_⟩
  walk_at "rd"
  refine⟨by decide,(by show 3<=sizeLine;decide),fun p1 hp1=>?_⟩
  walk_at "rd"
  refine⟨by decide,?_⟩
  obtain⟨b1,b2⟩:=zbb c 62 3 (by decide)
  obtain⟨d1,d2⟩:=zbb c 60 7 (by decide)
  obtain⟨d3,d4⟩:=zbb c 61 2000 (by decide)
  have d5:=Int.emod_nonneg c (show (10 ^ (56:Int).toNat:Int)≠0 by decide)
  have d6:=Int.emod_lt_of_pos c m56
  have e56:(10:Int) ^ (56:Int).toNat=10 ^ 56:=rfl
  rw[e56] at d5 d6
  have h4:pt c 62 3=0\/pt c 62 3=1\/pt c 62 3=2:=by omega
  rcases h4 with h4 | h4 | h4
  all_goals
   rw[h4]
   refine⟨p1,_,_,_,rfl,rfl,SqL.of zb,rfl,k _ _ ?_ ?_ (Same.new hp1)⟩
  ·exact d5
  ·exact d6
  ·exact d1
  ·omega
  ·exact d3
  ·omega
def zi6:List V:=[.str "over",.str "cuts",.str "fills",.str "after",.str "after",.str "same",.str "over"]
theorem zr1 {i:Int}(h0:0<=i) (h1:i<7):∃kd:Str,atI zi6 i=some (.str kd)/\(kd = "after"\/kd∈zme):=by
 have h:i=0\/i=1\/i=2\/i=3\/i=4\/i=5\/i=6:=by omega
 rcases h with rfl | rfl | rfl | rfl | rfl | rfl | rfl
 ·exact⟨_,rfl,.inr (by decide +kernel)⟩
 ·exact⟨_,rfl,.inr (by decide +kernel)⟩
 ·exact⟨_,rfl,.inr (by decide +kernel)⟩
 ·exact⟨_,rfl,.inl rfl⟩
 ·exact⟨_,rfl,.inl rfl⟩
 ·exact⟨_,rfl,.inr (by decide +kernel)⟩
 ·exact⟨_,rfl,.inr (by decide +kernel)⟩
theorem zp9:(Str.ofString "same" : Str)∈zme:=by decide +kernel
theorem zqa:(Str.ofString "over" : Str)∈zme:=by decide +kernel
theorem zuz:¬(Str.ofString "over" : Str)=SAME:=by decide +kernel
def Down (pl:Str->Int) (t:Tie):Prop:=(t.k=SAME->pl t.a=pl t.b)/\(¬t.k=SAME->pl t.b<pl t.a)
theorem zi7 {ps:List Int}{i:Nat}(h:i<ps.length):atI (ps.map V.int) (i:Int)=some (.int ps[i]):=zb1 (by simp[h])
theorem zhc {xs:List Str}{i:Nat}(h:i<xs.length):atI (xs.map V.str) (i:Int)=some (.str xs[i]):=zb1 (by simp[h])
def zu0:Sp:=fun vs H Q _=>∃(pn pp:Addr) (xs:List Str) (ps:List Int) (m:Nat) (c:Int) (ar:Bool),vs = [.ref pn,.ref pp,.int m,.int c,.bl ar]/\SqL K H pn (xs.map V.str)/\SqL K H pp (ps.map V.int)/\
 xs.length=8/\xs.Nodup/\ps.length=8/\1<=m/\m<=8/\∀(p:Addr) (t:Tie) (H':Hp),TOk (xs.take m) t->(ar=false->Down (plc xs ps) t)->H p=none->H' p=some (.tup (tieV t))->Same H H'->Q (.ref p) H'
set_option maxHeartbeats 8000000 in
theorem zm3 (T:Tx K mg w zh zo zf zj):Has P w K mg base "_law_tie" ["_law_names_here","_law_places","_law_many","_law_cell","_law_around"] 3 (zu0 (K:=K)):=by
 refine T.zne.has sc__law_tie (fun vs H Q E h=>?_) (fun f cdv A outer s H vs Q E hr h=>?_)
 ·obtain⟨pn,pp,xs,ps,m,c,ar,rfl,_⟩:=h;rfl
 ·obtain⟨pn,pp,xs,ps,m,c,ar,rfl,hn,hp,lx,nd,lp,m1,m8,k⟩:=h
  refine⟨_,(zd (zm (i:=5) sc__law_tie.nd rfl (Or.inl rfl) (zw (zx T) (hr.mono (by decide)) (by rfl) (za (pv 3) (za ze (za (pv 2) zc)))))
   (zd (zm (i:=6) sc__law_tie.nd rfl (Or.inl rfl) (zw (zx T) (hr.mono (by decide)) (by rfl) (za (pv 3) (za ze (za (pv 2) zc)))))
   (zd (zm (i:=7) sc__law_tie.nd rfl (Or.inl rfl) (zq (zaf K rfl) (zal (za za0 (za za0 (za za0 (za za0 (za za0 (za za0 (za za0 zc)))))))) (zw (zx T) (hr.mono (by decide)) (by rfl) (za (pv 3) (za ze (za ze zc)))) (fun _ _=>rfl)))
   (zd (za6 (PW.pt (zf9 (zdo (ze7 (pv 4))) (zeb (zaa zl9 (zq (zaf K rfl) (pv 1) (pv 5) (fun _ _=>rfl)) (zq (zaf K rfl) (pv 1) (pv 6) (fun _ _=>rfl)) (zag _))))) (zg (zvi (i:=5) (j:=6) rfl sc__law_tie.nd rfl rfl (by decide) rfl rfl (za (pv 6) (za (pv 5) zc)) rfl)) zad)
   (zd (za6 (PW.pt (zf9 (zdo (ze7 (pv 4))) (zeb (zaa zdp (zq (zaf K rfl) (pv 1) (pv 5) (fun _ _=>rfl)) (zq (zaf K rfl) (pv 1) (pv 6) (fun _ _=>rfl)) (zag _))))) (zg (zm (i:=7) sc__law_tie.nd rfl (Or.inl rfl) za0)) (zg (za6 (PW.pt (zf9 (zdo (ze7 (pv 4))) (zeb (zaa zdp (pv 7) za0 (zag _))))) (zg (zm (i:=7) sc__law_tie.nd rfl (Or.inl rfl) za0)) zad)))
   (zd (za6 (zaa zdp (pv 7) za0 (zag _)) (zg (zy (zap (za (pv 7) (za (zq (zaf K rfl) (pv 0) (pv 5) (fun _ _=>rfl)) (za (zq (zaf K rfl) (pv 0) (pv 6) (fun _ _=>rfl)) (za (zq (zaf K rfl) (zal (za (zw (zx T) (hr.mono (by decide)) (by rfl) (za (pv 3) (za ze (za ze zc)))) (za (zw (zbk T) (hr.mono (by decide)) (by rfl) (za (pv 3) zc)) zc))) (zw (zx T) (hr.mono (by decide)) (by rfl) (za (pv 3) (za ze (za ze zc)))) (fun _ _=>rfl)) zc))))))) zad)
   (zg (zy (zap (za (pv 7) (za (zq (zaf K rfl) (pv 0) (pv 5) (fun _ _=>rfl)) (za (zq (zaf K rfl) (pv 0) (pv 6) (fun _ _=>rfl)) zc)))))))))))),?_⟩
  have hm:(0:Int)<(m:Int):=by omega
  refine⟨_,rfl,_,rfl,_,_,_,rfl,hm,?_⟩
  obtain⟨a0,ea,la⟩:∃a:Nat,pt c 30 m=(a:Int)/\a<m:=⟨(pt c 30 m).toNat,by have:=zbb c 30 m hm;omega,by have:=zbb c 30 m hm;omega⟩
  rw[ea]
  try dsimp only [zr]
  refine⟨_,rfl,_,rfl,_,_,_,rfl,hm,?_⟩
  obtain⟨b0,eb,lb⟩:∃a:Nat,pt c 31 m=(a:Int)/\a<m:=⟨(pt c 31 m).toNat,by have:=zbb c 31 m hm;omega,by have:=zbb c 31 m hm;omega⟩
  rw[eb]
  try dsimp only [zr]
  refine⟨(by show 7<=sizeLine;decide),fun p1 hp1=>?_⟩
  refine⟨_,rfl,_,_,_,rfl,by decide,?_⟩
  obtain⟨kd,ek,hk⟩:=zr1 (zbb c 33 7 (by decide)).1 (zbb c 33 7 (by decide)).2
  have s1:Same H (upd H p1 (.lst zi6)):=Same.new hp1
  refine⟨p1,zi6,_,_,rfl,rfl,SqL.of zb,ek,?_⟩
  try dsimp only [zr]
  show tSeq _ _ _ _ (upd H p1 (.lst zi6))
  generalize upd H p1 (.lst zi6)=H1 at s1
  have pa:=zi7 (ps:=ps) (i:=a0) (by omega)
  have pb:=zi7 (ps:=ps) (i:=b0) (by omega)
  refine zs2 (fun σ'=>∃a b:Nat,σ' = [some (.ref pn),some (.ref pp),some (.int m),some (.int c),some (.bl ar),some (.int a),some (.int b),some (.str kd)]/\a<m/\b<m/\(ar=false->∀(h1:a<ps.length) (h2:b<ps.length),ps[b]<=ps[a]))
   (!ar&&decide (ps[a0]<ps[b0])) (fun Q' hQ=>?_) (fun e=>⟨_,⟨b0,a0,rfl,lb,la,fun ea h1 h2=>by rw[ea] at e;have:=of_decide_eq_true e;omega⟩,fun h=>⟨_,rfl,_,rfl,_,_,rfl,h⟩⟩)
   (fun e=>⟨_,⟨a0,b0,rfl,la,lb,fun ea h1 h2=>by rw[ea] at e;have:=of_decide_eq_false e;omega⟩,fun h=>h⟩) ?_
  ·refine⟨_,rfl,ar,rfl,?_⟩
   cases ar with
   | true=>exact iteF hQ
   | false=>
    refine iteT ?_
    exact⟨_,rfl,_,rfl,pp,_,_,_,rfl,rfl,s1.seq hp,pa,_,rfl,_,rfl,pp,_,_,_,rfl,rfl,s1.seq hp,pb,_,_,rfl,rfl,_,rfl,hQ⟩
  clear pa pb la lb ea eb
  rintro σ' ⟨a,b,rfl,ham,hbm,hlt⟩
  have pa:=zi7 (ps:=ps) (i:=a) (by omega)
  have pb:=zi7 (ps:=ps) (i:=b) (by omega)
  have xa:=zhc (xs:=xs) (i:=a) (by omega)
  have xb:=zhc (xs:=xs) (i:=b) (by omega)
  have hle:ar=false->ps[b]<=ps[a]:=fun e=>hlt e _ _
  have ma:xs[a]∈xs.take m:=List.mem_take_iff_getElem.mpr ⟨a,by omega,rfl⟩
  have mb:xs[b]∈xs.take m:=List.mem_take_iff_getElem.mpr ⟨b,by omega,rfl⟩
  have la:=zsz (xs:=xs) (ps:=ps) nd (i:=a) (x:=xs[a]) (p:=ps[a]) (List.getElem?_eq_getElem _) (List.getElem?_eq_getElem _)
  have lb:=zsz (xs:=xs) (ps:=ps) nd (i:=b) (x:=xs[b]) (p:=ps[b]) (List.getElem?_eq_getElem _) (List.getElem?_eq_getElem _)
  dsimp only
  refine zs2 (fun σ'=>∃kd':Str,σ' = [some (.ref pn),some (.ref pp),some (.int m),some (.int c),some (.bl ar),some (.int a),some (.int b),some (.str kd')]/\(kd' = "after"\/kd'∈zme)/\(ar=false->(kd'=SAME->ps[a]=ps[b])/\(¬kd'=SAME->ps[b]<ps[a])))
   (!ar&&decide (ps[a]=ps[b])) (fun Q' hQ=>?_) (fun e=>?_) (fun e=>?_) ?_
  ·refine⟨_,rfl,ar,rfl,?_⟩
   cases ar with
   | true=>exact iteF hQ
   | false=>
    refine iteT ?_
    refine⟨_,rfl,_,rfl,pp,_,_,_,rfl,rfl,s1.seq hp,pa,_,rfl,_,rfl,pp,_,_,_,rfl,rfl,s1.seq hp,pb,rfl,_,rfl,?_⟩
    have e:decide (V.int ps[a]=V.int ps[b])=decide (ps[a]=ps[b]):=decide_eq_decide.mpr ⟨V.int.inj,congrArg V.int⟩
    rw[e]
    exact hQ
  ·exact⟨_,⟨"same",rfl,.inr zp9,fun ea=>⟨fun _=>by rw[ea] at e;exact of_decide_eq_true e,fun z=>absurd rfl z⟩⟩,fun h=>h⟩
  ·have c1:ar=false->¬ps[a]=ps[b]:=fun ea z=>by rw[ea] at e;exact of_decide_eq_false e z
   have tst:∀Q':Bool->Hp->Prop,Q' (!ar&&decide (kd=SAME)) H1->tAnd (tNot (tB (tVar 4))) (ztk (tOp rEq (tVar 7) (tC (V.str (Str.ofString "same"))))) [some (.ref pn),some (.ref pp),some (.int m),some (.int c),some (.bl ar),some (.int a),some (.int b),some (.str kd)] H1 Q':=fun Q' hQ=>by
    refine⟨_,rfl,ar,rfl,?_⟩
    cases ar with
    | true=>exact iteF hQ
    | false=>
     refine iteT ?_
     refine⟨_,rfl,rfl,_,rfl,?_⟩
     have e:decide (V.str kd=V.str "same")=decide (kd=SAME):=decide_eq_decide.mpr ⟨V.str.inj,congrArg V.str⟩
     rw[e]
     exact hQ
   by_cases c2:(!ar&&decide (kd=SAME))=true
   ·refine⟨_,⟨"over",rfl,.inr zqa,fun ea=>⟨fun z=>absurd z zuz,fun _=>by have:=hle ea;have:=c1 ea;omega⟩⟩,fun h=>zdu (!ar&&decide (kd=SAME)) tst ?_⟩
    rw[c2]
    exact iteT h
   ·refine⟨_,⟨kd,rfl,hk,fun ea=>⟨fun z=>absurd (by rw[ea];exact decide_eq_true z) c2,fun _=>by have:=hle ea;have:=c1 ea;omega⟩⟩,fun h=>zdu (!ar&&decide (kd=SAME)) tst ?_⟩
    rw[Bool.eq_false_iff.mpr c2]
    exact iteF h
  clear hk ek
  rintro σ' ⟨kd',rfl,hk',hdn⟩
  have fin:∀g,TieOk (xs.take m) (tieV ⟨kd',xs[a],xs[b],g⟩)->TOk (xs.take m) ⟨kd',xs[a],xs[b],g⟩/\(ar=false->Down (plc xs ps) ⟨kd',xs[a],xs[b],g⟩):=fun g h3=>
   ⟨⟨h3,ma,mb⟩,fun e=>⟨fun z=>by show plc xs ps xs[a]=plc xs ps xs[b];rw[la,lb];exact (hdn e).1 z,fun z=>by show plc xs ps xs[b]<plc xs ps xs[a];rw[la,lb];exact (hdn e).2 z⟩⟩
  refine⟨_,rfl,rfl,_,rfl,?_⟩
  refine ite2 (fun c3=>?_) (fun c3=>?_)
  ·have c3:kd' = "after":=V.str.inj (of_decide_eq_true c3)
   refine⟨_,rfl,_,rfl,_,rfl,pn,_,_,_,rfl,rfl,s1.seq hn,xa,_,rfl,_,rfl,pn,_,_,_,rfl,rfl,s1.seq hn,xb,?_⟩
   refine⟨_,rfl,_,_,_,rfl,by decide,?_⟩
   refine⟨_,rfl,c,rfl,fun z H2 z0 z1 s2=>?_⟩
   refine⟨(by show 2<=sizeLine;decide),fun p2 hp2=>?_⟩
   have s3:=Same.new (o:=.lst [.int (pt c 34 5),.int z]) hp2
   refine⟨_,rfl,_,_,_,rfl,by decide,?_⟩
   obtain⟨d1,d2⟩:=zbb c 34 5 (by decide)
   obtain⟨v,hv,hv'⟩:=zia (u:=.int (pt c 34 5)) (v:=.int z) (zbb c 35 2 (by decide)).1 (zbb c 35 2 (by decide)).2
   obtain⟨g,rfl,g0,g1⟩:∃g:Int,v = .int g/\0<=g/\zcs g:=by
    rcases hv' with rfl | rfl
    ·exact⟨_,rfl,d1,by unfold zcs;omega⟩
    ·exact⟨_,rfl,z0,by unfold zcs;omega⟩
   refine⟨p2,_,_,_,rfl,rfl,SqL.of zb,hv,(by show 4<=sizeLine;decide),fun p3 hp3=>?_⟩
   have tok:TieOk (xs.take m) (tieV ⟨kd',xs[a],xs[b],some g⟩):=by rw[c3];exact .after ma mb g0 g1
   obtain⟨f1,f2⟩:=fin (some g) tok
   exact k p3 _ _ f1 f2 (s1.free (s2.free (s3.free hp3))) zb (s1.trans (s2.trans (s3.trans (Same.new hp3))))
  ·have c3:¬kd' = "after":=fun z=>c3 (decide_eq_true (congrArg V.str z))
   refine⟨_,rfl,_,rfl,_,rfl,pn,_,_,_,rfl,rfl,s1.seq hn,xa,_,rfl,_,rfl,pn,_,_,_,rfl,rfl,s1.seq hn,xb,(by show 3<=sizeLine;decide),fun p3 hp3=>?_⟩
   have tok:TieOk (xs.take m) (tieV ⟨kd',xs[a],xs[b],none⟩):=.plain (hk'.resolve_left c3) ma mb
   obtain⟨f1,f2⟩:=fin none tok
   exact k p3 _ _ f1 f2 (s1.free hp3) zb (s1.trans (Same.new hp3))
def zr2:Sp:=fun vs H Q _=>∃(pn pp pc:Addr) (xs:List Str) (ps:List Int) (m:Nat) (cs:List Int) (ar:Bool),vs = [.ref pn,.ref pp,.int m,.ref pc,.bl ar]/\SqL K H pn (xs.map V.str)/\SqL K H pp (ps.map V.int)/\SqL K H pc (cs.map V.int)/\
 xs.length=8/\xs.Nodup/\(∀x∈xs,zef x=true)/\ps.length=8/\m<=8/\cs.length<=100/\∀(p:Addr) (ads:List Addr) (ts:List Tie) (H':Hp),(∀t∈ts,TOk (xs.take m) t)->(ar=false->∀t∈ts,Down (plc xs ps) t)->ts.Nodup->ts.length<=cs.length->
  H p=none->H' p=some (.lst (ads.map V.ref))->Tups H' ads (ts.map tieV)->Same H H'->Q (.ref p) H'
set_option maxHeartbeats 8000000 in
theorem zks (T:Tx K mg w zh zo zf zj):Has P w K mg base "_law_ties" ["_law_names_here","_law_places","_law_many","_law_cells","_law_around"] 4 (zr2 (K:=K)):=by
 refine T.zk5.has sc__law_ties (fun vs H Q E h=>?_) (fun f cdv A outer s H vs Q E hr h=>?_)
 ·obtain⟨pn,pp,pc,xs,ps,m,cs,ar,rfl,_⟩:=h;rfl
 ·obtain⟨pn,pp,pc,xs,ps,m,cs,ar,rfl,hn,hp,hc,lx,nd,nm,lp,m8,lc,k⟩:=h
  refine⟨_,(zd (zm (i:=5) sc__law_ties.nd rfl (Or.inl rfl) (zal zc))
   (zd (zaj PassesOwn.never rfl (zab K rfl (pv 3)) (zn (i:=6) sc__law_ties.nd rfl (Or.inl rfl)) (zg (za6 (zaa znr (pv 2) ze (zag _)) (zd (zm (i:=7) sc__law_ties.nd rfl (Or.inl rfl) (zw (zm3 T) (hr.mono (by decide)) (by rfl) (za (pv 0) (za (pv 1) (za (pv 2) (za (pv 6) (za (pv 4) zc)))))))
     (zg (za6 (zaa (zgd K rfl (hu11 hr)) (pv 7) (pv 5) (by with_unfolding_all rfl)) (zg (za8 (zc8 K rfl PySem.F.plainAttrs_list PySem.F.slot_list_append PySem.F.type_list_append za9 (pv 5) (za (pv 7) zc)))) zad))) zad)))
   (zg (zy (pv 5))))),?_⟩
  refine⟨by decide,fun p hp0=>?_⟩
  have nmm:∀x∈xs.take m,zef x=true:=fun x hx=>nm x (List.mem_of_mem_take hx)
  refine⟨_,rfl,pc,rfl,⟨_,(Same.new hp0).seq hc⟩,zah (xs:=cs.map V.int) (fun i σ H'=>∃v6 v7 ads ts,σ = [some (.ref pn),some (.ref pp),some (.int m),some (.ref pc),some (.bl ar),some (.ref p),v6,v7]/\Same H H'/\H' p=some (.lst (ads.map V.ref))/\Tups H' ads (ts.map tieV)/\
   (∀t∈ts,TOk (xs.take m) t)/\(ar=false->∀t∈ts,Down (plc xs ps) t)/\ts.Nodup/\ts.length<=i)
   ⟨none,none,[],[],rfl,Same.new hp0,zb,.nil,by simp,by simp,by simp,Nat.le_refl _⟩ (fun i σ H' _ h=>by obtain⟨_,_,_,_,_,q,_⟩:=h;exact q.seq hc) ?_ ?_⟩
  ·rintro i x σ H1 hx ⟨v6,v7,ads,ts,rfl,q,hp1,tp,hok,hdn,tnd,hlt⟩
   have hi:=zam hx
   rw[List.length_map] at hi
   have hlen:ads.length=ts.length:=by have:=tp.len;rw[List.length_map] at this;exact this
   obtain⟨c,rfl⟩:∃z,x=V.int z:=by
    rw[List.getElem?_map] at hx
    cases e:cs[i]? with
    | none=>rw[e] at hx;cases hx
    | some z=>rw[e] at hx;exact⟨z,(Option.some.inj hx).symm⟩
   try dsimp only [zr]
   refine⟨_,rfl,_,_,rfl,rfl,_,rfl,?_⟩
   refine ite2 (fun c1=>?_) (fun c1=>?_)
   ·have c1:=of_decide_eq_true c1
    refine⟨_,rfl,_,rfl,_,rfl,_,rfl,_,rfl,pn,pp,xs,ps,m,c,ar,rfl,q.seq hn,q.seq hp,lx,nd,lp,by omega,m8,fun p4 t H4 tok dn fp4 e4 s4=>?_⟩
    have q4:=q.trans s4
    have tp4:=tp.same s4
    have hp4:=s4 _ _ hp1
    have hw:∀vs∈ts.map tieV,∀v∈vs,Wd v:=fun vs hv=>by
     obtain⟨u,hu,rfl⟩:=List.mem_map.mp hv
     exact ((hok u hu).ok.words nmm).1
    try dsimp only [zr]
    refine⟨_,rfl,_,rfl,p,_,_,rfl,.inl (SqL.of hp4),tp4.deq (n:=7) hw e4 (tok.ok.words nmm).1,_,rfl,?_⟩
    rw[if_pos rfl,tp4.anyE]
    refine ite2 (fun c3=>?_) (fun c3=>?_)
    ·have c3:tieV t ∉ ts.map tieV:=by simpa using c3
     refine⟨_,rfl,.inl ⟨rfl,_,SqL.of hp4⟩,_,rfl,p,_,_,rfl,rfl,hp4,by rw[List.length_map];exact zz (by omega),?_⟩
     refine⟨_,_,ads++[p4],ts++[t],rfl,q4.upd hp0,?_,?_,?_,?_,?_,?_⟩
     ·rw[zb,List.map_append];rfl
     ·rw[List.map_append]
      exact Tups.snoc (tp4.stay (zaw hp4)) (zaw hp4 _ _ e4)
     ·intro u hu
      rcases List.mem_append.mp hu with hu | hu
      ·exact hok u hu
      ·have:u=t:=by simpa using hu
       subst this;exact tok
     ·intro e u hu
      rcases List.mem_append.mp hu with hu | hu
      ·exact hdn e u hu
      ·have:u=t:=by simpa using hu
       subst this;exact dn e
     ·rw[List.nodup_append]
      refine⟨tnd,by simp,fun a ha b hb e=>?_⟩
      simp at hb
      subst hb
      subst e
      exact c3 (List.mem_map.mpr ⟨a,ha,rfl⟩)
     ·rw[List.length_append];exact Nat.succ_le_succ hlt
    ·exact⟨_,_,ads,ts,rfl,q4,hp4,tp4,hok,hdn,tnd,by omega⟩
   ·exact⟨_,_,ads,ts,rfl,q,hp1,tp,hok,hdn,tnd,by omega⟩
  ·rintro σ H1 ⟨v6,v7,ads,ts,rfl,q,hp1,tp,hok,hdn,tnd,hlt⟩
   rw[List.length_map] at hlt
   exact⟨_,rfl,k p ads ts _ hok hdn tnd hlt hp0 hp1 tp q⟩
def zqb:Sp:=fun vs H Q _=>∃c:Int,vs = [.int c]/\∀(p:Addr) (lo hi:Int) (H':Hp),lo<=hi->lo.natAbs<10 ^ 56->zcs hi->H p=none->H' p=some (.tup [.int lo,.int hi])->Same H H'->Q (.ref p) H'
set_option maxHeartbeats 4000000 in
theorem zi8 (T:Tx K mg w zh zo zf zj):Has P w K mg base "_law_frame" ["_law_cell"] 3 zqb:=by
 refine T.zjk.has sc__law_frame (fun vs H Q E h=>?_) (fun f cdv A outer s H vs Q E hr h=>?_)
 ·obtain⟨c,rfl,_⟩:=h;rfl
 ·obtain⟨c,rfl,k⟩:=h
  refine⟨_,(zd (zm (i:=1) sc__law_frame.nd rfl (Or.inl rfl) (zak zlb (zw (zbk T) (hr.mono (by decide)) (by rfl) (za (pv 0) zc)) (zq (zaf K rfl) (zal (za ze (za (zw6 zvm ze) zc))) (zw (zx T) (hr.mono (by decide)) (by rfl) (za (pv 0) (za ze (za ze zc)))) (fun _ _=>rfl))))
   (zg (zy (zap (za (pv 1) (za (zak zba (pv 1) (zq (zaf K rfl) (zal (za (zw (zx T) (hr.mono (by decide)) (by rfl) (za (pv 0) (za ze (za ze zc)))) (za (zw (zbk T) (hr.mono (by decide)) (by rfl) (za (zak zba (pv 0) ze) zc)) zc))) (zw (zx T) (hr.mono (by decide)) (by rfl) (za (pv 0) (za ze (za ze zc)))) (fun _ _=>rfl))) zc)))))),?_⟩
  refine⟨_,rfl,c,rfl,fun z H1 z0 z1 s1=>?_⟩
  refine⟨_,rfl,(by show 2<=sizeLine;decide),fun p1 hp1=>?_⟩
  refine⟨_,rfl,_,_,_,rfl,by decide,?_⟩
  obtain⟨v,hv,hv'⟩:=zia (u:=.int 1) (v:=.int (-1)) (zbb c 50 2 (by decide)).1 (zbb c 50 2 (by decide)).2
  obtain⟨j,rfl,hj⟩:∃j:Int,v = .int j/\(j=1\/j = -1):=by
   rcases hv' with rfl | rfl
   ·exact⟨_,rfl,.inl rfl⟩
   ·exact⟨_,rfl,.inr rfl⟩
  refine⟨p1,_,_,_,rfl,rfl,SqL.of zb,hv,?_⟩
  refine⟨_,_,rfl,rfl,.inr (by rcases hj with rfl | rfl<;>exact⟨by decide,by decide⟩),?_⟩
  have s2:=s1.trans (Same.new (o:=.lst [.int 1,.int (-1)]) hp1)
  try dsimp only [zr]
  obtain⟨lo,elo⟩:∃lo,lo=z * j:=⟨_,rfl⟩
  rw[←elo]
  have blo:lo.natAbs<10 ^ 56:=by rcases hj with rfl | rfl<;>omega
  refine⟨_,rfl,_,rfl,_,rfl,_,_,_,rfl,by decide,?_⟩
  refine⟨_,rfl,_,_,rfl,rfl,_,rfl,fun y H2 y0 y1 s3=>?_⟩
  refine⟨(by show 2<=sizeLine;decide),fun p2 hp2=>?_⟩
  have s4:=Same.new (o:=.lst [.int (pt c 51 12),.int y]) hp2
  refine⟨_,rfl,_,_,_,rfl,by decide,?_⟩
  obtain⟨d1,d2⟩:=zbb c 51 12 (by decide)
  obtain⟨v,hv,hv'⟩:=zia (u:=.int (pt c 51 12)) (v:=.int y) (zbb c 52 2 (by decide)).1 (zbb c 52 2 (by decide)).2
  obtain⟨g,rfl,g0,g1⟩:∃g:Int,v = .int g/\0<=g/\g<10 ^ 56:=by
   rcases hv' with rfl | rfl
   ·exact⟨_,rfl,d1,by omega⟩
   ·exact⟨_,rfl,y0,y1⟩
  refine⟨p2,_,_,_,rfl,rfl,SqL.of zb,hv,_,_,rfl,rfl,(by show 2<=sizeLine;decide),fun p3 hp3=>?_⟩
  refine k p3 lo (lo+g) _ (by omega) blo (by unfold zcs;omega) (s2.free (s3.free (s4.free hp3))) zb (s2.trans (s3.trans (s4.trans (Same.new hp3))))
def zqc:Sp:=fun vs H Q _=>∃(pn pm pc:Addr) (xs:List Str) (m:Nat) (lo hi:Int) (cs:List Int),vs = [.ref pn,.int m,.ref pm,.ref pc]/\SqL K H pn (xs.map V.str)/\SqT K H pm [.int lo,.int hi]/\SqL K H pc (cs.map V.int)/\
 xs.length=8/\xs.Nodup/\(∀x∈xs,zef x=true)/\m<=8/\cs.length<=6/\lo.natAbs<10 ^ 56/\∀(p:Addr) (ads:List Addr) (fs:List Fnd) (H':Hp),(∀f∈fs,FOk (xs.take m) f)->(fs.map Fnd.n).Nodup->fs.length<=cs.length->
  H p=none->H' p=some (.lst (ads.map V.ref))->Tups H' ads (fs.map fndV)->Same H H'->Q (.ref p) H'
set_option maxHeartbeats 8000000 in
theorem zi9 (T:Tx K mg w zh zo zf zj):Has P w K mg base "_law_finds" ["_law_names_here","_law_many","_law_frame_here","_law_cells"] 3 (zqc (K:=K)):=by
 refine T.zjl.has sc__law_finds (fun vs H Q E h=>?_) (fun f cdv A outer s H vs Q E hr h=>?_)
 ·obtain⟨pn,pm,pc,xs,m,lo,hi,cs,rfl,_⟩:=h;rfl
 ·obtain⟨pn,pm,pc,xs,m,lo,hi,cs,rfl,hn,hm,hc,lx,nd,nm,m8,lc,blo,k⟩:=h
  refine⟨_,(zd (zm (i:=4) sc__law_finds.nd rfl (Or.inl rfl) (zal zc))
   (zd (zaj PassesOwn.never rfl (zb5 (by rfl) T.range (za (zac (zai K rfl) (by rfl) T.len boot_len (za (pv 3) zc)) zc)) (zn (i:=5) sc__law_finds.nd rfl (Or.inl rfl)) (zd (zm (i:=6) sc__law_finds.nd rfl (Or.inl rfl) (zq (zaf K rfl) (pv 3) (pv 5) (fun _ _=>rfl)))
    (zg (za6 (zaa znr (pv 1) ze (zag _)) (zd (zm (i:=7) sc__law_finds.nd rfl (Or.inl rfl) (zak zba (zq (zk K rfl) (pv 2) ze (fun _ _=>rfl)) (zq (zaf K rfl) (zal (za (zak zla (zw (zx T) (hr.mono (by decide)) (by rfl) (za (pv 6) (za ze (za ze zc)))) ze) (za (zw (zbk T) (hr.mono (by decide)) (by rfl) (za (pv 6) zc)) zc))) (zw (zx T) (hr.mono (by decide)) (by rfl) (za (pv 6) (za ze (za ze zc)))) (fun _ _=>rfl))))
     (zd (zm (i:=8) sc__law_finds.nd rfl (Or.inl rfl) (zak zba (pv 7) (zq (zaf K rfl) (zal (za (zw (zx T) (hr.mono (by decide)) (by rfl) (za (pv 6) (za ze (za ze zc)))) (za (zw (zbk T) (hr.mono (by decide)) (by rfl) (za (zak zba (pv 6) ze) zc)) zc))) (zw (zx T) (hr.mono (by decide)) (by rfl) (za (pv 6) (za ze (za ze zc)))) (fun _ _=>rfl))))
     (zg (za8 (zc8 K rfl PySem.F.plainAttrs_list PySem.F.slot_list_append PySem.F.type_list_append za9 (pv 4) (za (zap (za (zq (zaf K rfl) (pv 0) (pv 5) (fun _ _=>rfl)) (za (zq (zaf K rfl) (pv 0) (zw (zx T) (hr.mono (by decide)) (by rfl) (za (pv 6) (za ze (za (pv 1) zc)))) (fun _ _=>rfl)) (za (pv 7) (za (pv 8) zc))))) zc)))))) zad))))
   (zg (zy (pv 4))))),?_⟩
  refine⟨by decide,fun p hp0=>?_⟩
  have lcc:(cs.map V.int).length=cs.length:=List.length_map _
  refine⟨_,rfl,pc,_,rfl,.inl ((Same.new hp0).seq hc),((cs.map V.int).length:Int),rfl,by omega,by omega,zcr (lo:=0) (n:=(cs.map V.int).length) (fun i σ H'=>∃v5 v6 v7 v8 ads fs,σ = [some (.ref pn),some (.int m),some (.ref pm),some (.ref pc),some (.ref p),v5,v6,v7,v8]/\Same H H'/\H' p=some (.lst (ads.map V.ref))/\Tups H' ads (fs.map fndV)/\
   (∀f∈fs,FOk (xs.take m) f)/\fs.map Fnd.n=xs.take fs.length/\fs.length<=i/\(1<=m->fs.length=i))
   ⟨none,none,none,none,[],[],rfl,Same.new hp0,zb,.nil,by simp,by simp,Nat.le_refl _,fun _=>rfl⟩ ?_ ?_⟩
  ·rintro i σ H1 hi ⟨v5,v6,v7,v8,ads,fs,rfl,q,hp1,tp,hok,hnm,hlt,hle⟩
   rw[lcc] at hi
   have hlen:ads.length=fs.length:=by have:=tp.len;rw[List.length_map] at this;exact this
   have ec:=zi7 (ps:=cs) (i:=i) hi
   rw[←Int.zero_add (i:Int)] at ec
   try dsimp only [zr]
   refine⟨_,rfl,_,rfl,pc,_,_,_,rfl,rfl,q.seq hc,ec,?_⟩
   try dsimp only [zr]
   generalize cs[i]=c
   refine⟨_,rfl,_,_,rfl,rfl,_,rfl,?_⟩
   refine ite2 (fun c1=>?_) (fun c1=>?_)
   ·have c1:=of_decide_eq_true c1
    have hm0:(0:Int)<(m:Int):=by omega
    refine⟨_,rfl,pm,_,_,_,rfl,rfl,q.tup hm,zod,?_⟩
    refine⟨_,rfl,_,_,_,rfl,by decide,_,_,rfl,rfl,?_⟩
    refine⟨_,rfl,c,rfl,fun z H2 z0 z1 s2=>?_⟩
    refine⟨(by show 2<=sizeLine;decide),fun p2 hp2=>?_⟩
    have s3:=Same.new (o:=.lst [.int (pt c 41 12-3),.int z]) hp2
    refine⟨_,rfl,_,_,_,rfl,by decide,?_⟩
    obtain⟨d1,d2⟩:=zbb c 41 12 (by decide)
    obtain⟨v,hv,hv'⟩:=zia (u:=.int (pt c 41 12-3)) (v:=.int z) (zbb c 42 2 (by decide)).1 (zbb c 42 2 (by decide)).2
    obtain⟨g,rfl,g0,g1⟩:∃g:Int,v = .int g/\-3<=g/\g<10 ^ 56:=by
     rcases hv' with rfl | rfl
     ·exact⟨_,rfl,by omega,by omega⟩
     ·exact⟨_,rfl,by omega,z1⟩
    refine⟨p2,_,_,_,rfl,rfl,SqL.of zb,hv,_,_,rfl,rfl,?_⟩
    have q3:=q.trans (s2.trans s3)
    have t3:=s2.trans s3
    try dsimp only [zr]
    obtain⟨low,elow⟩:∃low,low=lo+g:=⟨_,rfl⟩
    rw[←elow]
    refine⟨_,rfl,_,rfl,_,_,_,rfl,by decide,?_⟩
    refine⟨_,rfl,_,_,rfl,rfl,_,rfl,fun y H4 y0 y1 s4=>?_⟩
    refine⟨(by show 2<=sizeLine;decide),fun p5 hp5=>?_⟩
    have s5:=Same.new (o:=.lst [.int (pt c 43 12),.int y]) hp5
    refine⟨_,rfl,_,_,_,rfl,by decide,?_⟩
    obtain⟨d3,d4⟩:=zbb c 43 12 (by decide)
    obtain⟨v,hv,hv'⟩:=zia (u:=.int (pt c 43 12)) (v:=.int y) (zbb c 44 2 (by decide)).1 (zbb c 44 2 (by decide)).2
    obtain⟨g',rfl,g0',g1'⟩:∃g:Int,v = .int g/\0<=g/\g<10 ^ 56:=by
     rcases hv' with rfl | rfl
     ·exact⟨_,rfl,d3,by omega⟩
     ·exact⟨_,rfl,y0,y1⟩
    refine⟨p5,_,_,_,rfl,rfl,SqL.of zb,hv,_,_,rfl,rfl,?_⟩
    have t5:=t3.trans (s4.trans s5)
    have q5:=q.trans t5
    try dsimp only [zr]
    have hi8:i<xs.length:=by omega
    have en:=zhc (xs:=xs) (i:=i) hi8
    rw[←Int.zero_add (i:Int)] at en
    obtain⟨b,eb,lb⟩:∃a:Nat,pt c 40 m=(a:Int)/\a<m:=⟨(pt c 40 m).toNat,by have:=zbb c 40 m hm0;omega,by have:=zbb c 40 m hm0;omega⟩
    have eu:=zhc (xs:=xs) (i:=b) (by omega)
    have hp5':=t5 _ _ hp1
    refine⟨_,rfl,.inl ⟨rfl,_,SqL.of hp5'⟩,_,rfl,_,rfl,pn,_,_,_,rfl,rfl,q5.seq hn,en,_,rfl,_,rfl,_,rfl,_,_,_,rfl,hm0,?_⟩
    rw[eb]
    refine⟨pn,_,_,_,rfl,rfl,q5.seq hn,eu,_,rfl,_,rfl,(by show 4<=sizeLine;decide),fun p6 hp6=>?_⟩
    have s6:=Same.new (o:=.tup (fndV ⟨xs[i],xs[b],low,low+g'⟩)) hp6
    refine⟨p,_,_,rfl,rfl,s6 _ _ hp5',by rw[List.length_map];exact zz (by omega),?_⟩
    have hfi:=hle (by omega)
    refine⟨_,_,_,_,ads++[p6],fs++[⟨xs[i],xs[b],low,low+g'⟩],rfl,(q5.trans s6).upd hp0,?_,?_,?_,?_,?_,?_⟩
    ·rw[zb,List.map_append];rfl
    ·rw[List.map_append]
     exact Tups.snoc (((tp.same t5).same s6).stay (zaw (s6 _ _ hp5'))) (zaw (s6 _ _ hp5') _ _ zb)
    ·intro f hf
     rcases List.mem_append.mp hf with hf | hf
     ·exact hok f hf
     ·have:f=⟨xs[i],xs[b],low,low+g'⟩:=by simpa using hf
      subst this
      refine⟨nm _ (List.getElem_mem _),List.mem_take_iff_getElem.mpr ⟨b,by omega,rfl⟩,?_,?_,?_⟩
      ·show low<=low+g';omega
      ·show low.natAbs<10 ^ 60;omega
      ·show (low+g').natAbs<10 ^ 60;omega
    ·rw[List.map_append,List.length_append,hnm,hfi]
     show xs.take i++[xs[i]]=xs.take (i+1)
     rw[List.take_add_one,List.getElem?_eq_getElem hi8];rfl
    ·rw[List.length_append];exact Nat.succ_le_succ hlt
    ·intro _
     rw[List.length_append,hfi];rfl
   ·have c1:¬(0:Int)<(m:Int):=fun z=>c1 (decide_eq_true z)
    exact⟨_,_,_,_,ads,fs,rfl,q,hp1,tp,hok,hnm,by omega,fun z=>by omega⟩
  ·rintro σ H1 ⟨v5,v6,v7,v8,ads,fs,rfl,q,hp1,tp,hok,hnm,hlt,hle⟩
   rw[lcc] at hlt
   exact⟨_,rfl,k p ads fs _ hok (by rw[hnm];exact nd.sublist (List.take_sublist _ _)) hlt hp0 hp1 tp q⟩
def plcF (c:Int):V->V
 | .int z=>.int (pt c (70+z) 6)
 | _=>.non
def zr3:Sp:=fun vs H Q _=>∃(a:Addr) (ns:List Int) (ar:Bool),vs = [.ref a,.bl ar]/\SqL K H a (ns.map V.int)/\ns.length<=63/\
 ∀(p pm pu pt pf:Addr) (lo hi:Int) (us:List Str) (ts:List Tie) (fs:List Fnd) (at' af:List Addr) (H':Hp),Tll lo hi us ts fs->(ar=false->∃pl:Str->Int,∀t∈ts,Down pl t)->
  H' p=some (.tup [.ref pm,.ref pu,.ref pt,.ref pf])->TlAt K H' p pm pu pt pf lo hi us ts fs at' af->Same H H'->Q (.ref p) H'
set_option maxHeartbeats 8000000 in
theorem zf1 (T:Tx K mg w zh zo zf zj):Has P w K mg base "_law_telling" ["_law_script","_law_around"] 5 (zr3 (K:=K)):=by
 refine T.zf7.has sc__law_telling (fun vs H Q E h=>?_) (fun f cdv A outer s H vs Q E hr h=>?_)
 ·obtain⟨a,ns,ar,rfl,_⟩:=h;rfl
 ·obtain⟨a,ns,ar,rfl,ha,hl,k⟩:=h
  refine⟨_,(zd (zm (i:=2) sc__law_telling.nd rfl (Or.inr rfl) (zw (zi5 T) (hr.mono (by decide)) (by rfl) (za (zw (zar T) (hr.mono (by decide)) (by rfl) (za (pv 0) (za ze zc))) (za (zw (zar T) (hr.mono (by decide)) (by rfl) (za (pv 0) (za ze zc))) zc))))
   (zd (zgx (i:=3) (own:=["_law_k"]) (cap:=["_law_script"]) (ix:=[0]) (osc:=zi (top 46)) rfl sc__law_telling.nd rfl rfl rfl ⟨rfl,by decide +kernel,by decide +kernel,by decide +kernel,by decide +kernel⟩ rfl (zb5 (by rfl) T.range (za ze zc)) (fun _ _ _ _=>zn (i:=0) (show List.Nodup (["_law_k","_law_script"]:List Str) by decide +kernel) rfl (Or.inl rfl)) (fun _ _ _ _=>zbr) (fun _ _ _ _=>(zw (zx T) (hr.mono (by decide)) (by rfl) (za (zw (zar T) (hr.mono (by decide)) (by rfl) (za (pv 1) (za ze zc))) (za (zak zba ze (pv 0)) (za ze zc))))))
   (zd (zm (i:=4) sc__law_telling.nd rfl (Or.inr rfl) (zw (zx T) (hr.mono (by decide)) (by rfl) (za (zw (zar T) (hr.mono (by decide)) (by rfl) (za (pv 0) (za ze zc))) (za ze (za ze zc)))))
   (zd (zm (i:=5) sc__law_telling.nd rfl (Or.inl rfl) (zw (zi8 T) (hr.mono (by decide)) (by rfl) (za (zw (zar T) (hr.mono (by decide)) (by rfl) (za (pv 0) (za ze zc))) zc)))
   (zd (zm (i:=6) sc__law_telling.nd rfl (Or.inl rfl) (zw (zx T) (hr.mono (by decide)) (by rfl) (za (zw (zar T) (hr.mono (by decide)) (by rfl) (za (pv 0) (za ze zc))) (za ze (za ze zc)))))
   (zd (zgx (i:=7) (own:=["_law_name"]) (cap:=["_law_names_here","_law_many"]) (ix:=[2,4]) (osc:=zi (top 46)) rfl sc__law_telling.nd rfl rfl rfl ⟨rfl,by decide +kernel,by decide +kernel,by decide +kernel,by decide +kernel⟩ rfl (zab K rfl (zak ze9 (zcb (zdt K rfl) (pv 2) (zca (pv 6)) ze8) (zcb (zdt K rfl) (pv 2) ze8 (zca (pv 6))))) (fun _ _ _ _=>zn (i:=0) (show List.Nodup (["_law_name","_law_names_here","_law_many"]:List Str) by decide +kernel) rfl (Or.inl rfl)) (fun _ _ _ _=>zj3 (zaa (zed K rfl) (pv 0) (zcb (zdt K rfl) (pv 1) ze8 (zca (pv 2))) (by with_unfolding_all rfl))) (fun _ _ _ _=>(pv 0)))
   (zd (zm (i:=8) sc__law_telling.nd rfl (Or.inl rfl) (zw (zks T) (hr.mono (by decide)) (by rfl) (za (pv 2) (za (pv 3) (za (pv 4) (za (zcb (zdt K rfl) (pv 0) (zca ze) (zca ze)) (za (pv 1) zc)))))))
   (zg (zy (zap (za (pv 5) (za (pv 7) (za (pv 8) (za (zw (zi9 T) (hr.mono (by decide)) (by rfl) (za (pv 2) (za (pv 4) (za (pv 5) (za (zcb (zdt K rfl) (pv 0) (zca ze) (zca ze)) zc))))) zc)))))))))))))),?_⟩
  refine⟨_,rfl,a,ns,_,rfl,ha,by decide,_,rfl,a,ns,_,rfl,ha,by decide,_,_,rfl,fun pn xs H1 x1 x2 x3 fpn hn s1=>?_⟩
  try dsimp only [zr]
  refine⟨8,rfl,by decide,by decide,fun D hD=>?_⟩
  have sD:∀ys,Same H1 (upd H1 D (.lst ys)):=fun ys=>Same.new hD
  refine zn4 (ztz (lo:=0) (n:=8)) (fun _=>true) (plcF (zbl ns 2)) (fun _=>trivial) (by decide) (fun v hv ys Q' q=>q) (fun v hv _ ys Q' q=>?_) ?_
  ·obtain⟨z,hz,rfl⟩:=List.mem_map.mp hv
   exact⟨_,rfl,a,ns,_,rfl,(s1.trans (sD ys)).seq ha,by decide,_,rfl,_,_,rfl,rfl,_,_,_,rfl,by decide,q⟩
  have eps:((((List.range 8).map fun i=>V.int (0+(i:Nat))).filter fun _=>true).map (plcF (zbl ns 2)))=((List.range 8).map fun i=>pt (zbl ns 2) (70+(0+(i:Nat))) 6).map V.int:=by
   rw[List.filter_eq_self.mpr (fun _ _=>rfl),List.map_map,List.map_map];rfl
  rw[eps]
  have lps:((List.range 8).map fun i=>pt (zbl ns 2) (70+(0+(i:Nat))) 6).length=8:=by simp
  generalize ((List.range 8).map fun i=>pt (zbl ns 2) (70+(0+(i:Nat))) 6)=ps at lps
  have s2:Same H1 (upd H1 D (.lst (ps.map V.int))):=sD _
  have eD:upd H1 D (.lst (ps.map V.int)) D=some (.lst (ps.map V.int)):=zb
  generalize upd H1 D (.lst (ps.map V.int))=H2 at s2 eD
  have q2:=s1.trans s2
  try dsimp only [zr]
  refine⟨_,rfl,a,ns,_,rfl,q2.seq ha,by decide,_,_,_,rfl,by decide,?_⟩
  obtain⟨m,em,lm⟩:∃m:Nat,pt (zbl ns 3) 0 9=(m:Int)/\m<=8:=⟨(pt (zbl ns 3) 0 9).toNat,by have:=zbb (zbl ns 3) 0 9 (by decide);omega,by have:=zbb (zbl ns 3) 0 9 (by decide);omega⟩
  rw[em]
  try dsimp only [zr]
  refine⟨_,rfl,a,ns,_,rfl,q2.seq ha,by decide,_,rfl,fun pm lo hi H3 hlh blo yhi fpm hpm s3=>?_⟩
  have q3:=q2.trans s3
  try dsimp only [zr]
  refine⟨_,rfl,a,ns,_,rfl,q3.seq ha,by decide,_,_,_,rfl,by decide,?_⟩
  obtain⟨tu,et,lt⟩:∃m:Nat,pt (zbl ns 3) 1 8=(m:Int)/\m<8:=⟨(pt (zbl ns 3) 1 8).toNat,by have:=zbb (zbl ns 3) 1 8 (by decide);omega,by have:=zbb (zbl ns 3) 1 8 (by decide);omega⟩
  rw[et]
  try dsimp only [zr]
  have hn3:=s3 _ _ (s2 _ _ hn)
  have lxm:(xs.map V.str).length=8:=by rw[List.length_map,x1]
  refine⟨_,rfl,_,rfl,_,rfl,pn,_,rfl,SqL.of hn3,fun p1 hp1=>?_⟩
  rw[zow (by omega) (by rw[lxm];omega)]
  have t1:=Same.new (o:=.lst ((xs.map V.str).drop (tu:Int).toNat)) hp1
  refine⟨_,rfl,_,rfl,_,rfl,pn,_,rfl,SqL.of (t1 _ _ hn3),fun p2 hp2=>?_⟩
  rw[zon (by omega) (by rw[lxm];omega)]
  have t2:=Same.new (o:=.lst ((xs.map V.str).take (tu:Int).toNat)) hp2
  refine⟨p1,p2,_,_,rfl,rfl,t2 _ _ zb,zb,(by rw[List.length_drop,List.length_take,lxm];exact zav (by omega)),fun p3 hp3=>?_⟩
  have erot:(xs.map V.str).drop (tu:Int).toNat++(xs.map V.str).take (tu:Int).toNat=(xs.drop tu++xs.take tu).map V.str:=by
   rw[Int.toNat_natCast,←List.map_drop,←List.map_take,←List.map_append]
  rw[erot]
  have t3:=Same.new (o:=.lst ((xs.drop tu++xs.take tu).map V.str)) hp3
  have lrot:(xs.drop tu++xs.take tu).length=8:=by rw[List.length_append,List.length_drop,List.length_take];omega
  refine⟨p3,rfl,⟨_,SqL.of zb⟩,fun D2 hD2=>?_⟩
  have t123:=t1.trans (t2.trans t3)
  have e3:upd (upd (upd H3 p1 (.lst ((xs.map V.str).drop (tu:Int).toNat))) p2 (.lst ((xs.map V.str).take (tu:Int).toNat))) p3 (.lst ((xs.drop tu++xs.take tu).map V.str)) p3=some (.lst ((xs.drop tu++xs.take tu).map V.str)):=zb
  generalize upd (upd (upd H3 p1 (.lst ((xs.map V.str).drop (tu:Int).toNat))) p2 (.lst ((xs.map V.str).take (tu:Int).toNat))) p3 (.lst ((xs.drop tu++xs.take tu).map V.str))=H4 at t123 e3 hD2
  have hn4:=t123 _ _ hn3
  refine za7 (zbt (K:=K) (a:=p3) (xs:=(xs.drop tu++xs.take tu).map V.str)) (fun i σ' ys H'=>∃w0,σ' = [w0,some (.ref pn),some (.int m)]/\ys=(((xs.drop tu++xs.take tu).take i).filter fun x=>decide (x∈xs.take m)).map V.str/\Same H4 H'/\H' D2=some (.lst ys))
   ⟨none,rfl,by simp,Same.new hD2,zb⟩ (fun i σ' ys H' h=>?_) (by rw[List.length_map,lrot];decide) ?_ ?_
  ·obtain⟨_,_,rfl,q,hd⟩:=h
   refine⟨SqL.of (q _ _ e3),hd,?_⟩
   rw[List.length_map]
   exact Nat.le_trans (List.length_filter_le _ _) (by rw[List.length_take];omega)
  ·rintro i v σ' ys H' hx ⟨w0,rfl,rfl,q,hd⟩
   rw[List.getElem?_map] at hx
   cases ex:(xs.drop tu++xs.take tu)[i]? with
   | none=>rw[ex] at hx;cases hx
   | some x=>
    rw[ex] at hx
    cases hx
    have hix:=zam ex
    try dsimp only [zr]
    refine⟨_,rfl,_,rfl,_,rfl,_,rfl,pn,_,rfl,SqL.of (q _ _ hn4),fun p6 hp6=>?_⟩
    rw[zon (by omega) (by rw[lxm];omega),Int.toNat_natCast,←List.map_take]
    have t6:=Same.new (o:=.lst ((xs.take m).map V.str)) hp6
    refine⟨p6,_,rfl,.inl (SqL.of zb),rfl,?_⟩
    refine⟨by rw[List.all_map];exact List.all_eq_true.mpr fun _ _=>rfl,_,rfl,?_⟩
    rw[if_neg Bool.false_ne_true,zly]
    have hd6:=t6 _ _ hd
    refine ite2 (fun c=>?_) (fun c=>?_)
    ·refine⟨_,rfl,hd6,zcd (by rw[List.length_map];exact hix) ⟨_,rfl,?_,(q.trans t6).upd hD2,zb⟩⟩
     rw[List.take_add_one,ex,List.filter_append,List.map_append]
     simp[of_decide_eq_true c]
    ·refine⟨hd6,zcd (by rw[List.length_map];exact hix) ⟨_,rfl,?_,q.trans t6,hd6⟩⟩
     have c:¬x∈xs.take m:=fun z=>c (decide_eq_true z)
     rw[List.take_add_one,ex,List.filter_append,List.map_append]
     simp[c]
  rintro σ' ys H5 ⟨w0,rfl,rfl,t5,hd⟩
  rw[List.length_map,List.take_length] at hd
  obtain⟨und,umem⟩:=zmf (xs:=xs) x2 tu m
  generalize ((xs.drop tu++xs.take tu).filter fun x=>decide (x∈xs.take m))=us at hd und umem
  have ul:us.length<=8:=by
   have:=zbm und (us:=xs.take m) fun x hx=>(umem x).mp hx
   rw[List.length_take] at this
   omega
  have t35:=t123.trans t5
  have q5:=q3.trans t35
  try dsimp only [zr]
  obtain⟨cs,ec,lc⟩:=zh9 ns (some 6) (some 22)
  have lc16:cs.length<=16:=by
   have e2:=congrArg List.length ec
   rw[List.length_map] at e2
   rw[←e2]
   unfold cutV HT.sIx
   rw[List.length_take]
   simp
   omega
  refine⟨_,rfl,_,rfl,_,rfl,_,rfl,_,rfl,_,rfl,a,_,rfl,q5.seq ha,fun pc hpc=>?_⟩
  rw[ec]
  have s6:=Same.new (o:=.lst (cs.map V.int)) hpc
  have t36:=t35.trans s6
  refine⟨_,rfl,pn,D,pc,xs,ps,m,cs,ar,rfl,SqL.of (t36 _ _ hn3),SqL.of (t36 _ _ (s3 _ _ eD)),SqL.of zb,x1,x2,x3,lps,lm,by omega,fun pt' ads ts H7 tok dn tnd tl fpt hpt tt s7=>?_⟩
  have t37:=t36.trans s7
  have q7:=q3.trans t37
  try dsimp only [zr]
  obtain⟨cs2,ec2,lc2⟩:=zh9 ns (some 22) (some 28)
  have lc6:cs2.length<=6:=by
   have e2:=congrArg List.length ec2
   rw[List.length_map] at e2
   rw[←e2]
   unfold cutV HT.sIx
   rw[List.length_take]
   simp
   omega
  refine⟨_,rfl,_,rfl,_,rfl,_,rfl,_,rfl,_,rfl,_,rfl,_,rfl,_,rfl,a,_,rfl,q7.seq ha,fun pc2 hpc2=>?_⟩
  rw[ec2]
  have s8:=Same.new (o:=.lst (cs2.map V.int)) hpc2
  have t38:=t37.trans s8
  refine⟨pn,pm,pc2,xs,m,lo,hi,cs2,rfl,SqL.of (t38 _ _ hn3),SqT.of (t38 _ _ hpm),SqL.of zb,x1,x2,x3,lm,lc6,blo,fun pf af fs H9 fok fnd fl fpf hpf ft s9=>?_⟩
  refine⟨(by show 4<=sizeLine;decide),fun p hp=>?_⟩
  have s10:=Same.new (o:=.tup [.ref pm,.ref D2,.ref pt',.ref pf]) hp
  have t79:=s8.trans (s9.trans s10)
  have sub:∀x∈xs.take m,x∈us:=fun x hx=>(umem x).mpr hx
  have dat:Tll lo hi us ts fs:=⟨hlh,by unfold zcs;omega,yhi,und,fun x hx=>x3 x (List.mem_of_mem_take ((umem x).mp hx)),ul,fun t ht=>(tok t ht).mono sub,tnd,by omega,fun f hf=>(fok f hf).mono sub,fnd,by omega⟩
  refine k p pm D2 pt' pf lo hi us ts fs ads af _ dat (fun e=>⟨_,dn e⟩) zb ⟨SqT.of zb,SqT.of (t79 _ _ (t37 _ _ hpm)),SqL.of (t79 _ _ (s7 _ _ (s6 _ _ hd))),SqL.of (t79 _ _ hpt),tt.same t79,SqL.of (s10 _ _ hpf),ft.same s10⟩ (q7.trans t79)
def zu1:Sp:=fun vs H Q _=>∃(p pm pu pt pf:Addr) (lo hi:Int) (us:List Str) (ts:List Tie) (fs:List Fnd) (at' af:List Addr),vs = [.ref p]/\TlAt K H p pm pu pt pf lo hi us ts fs at' af/\
 ∀(p' pu' pt' pf':Addr) (H':Hp),H' p'=some (.tup [.ref pm,.ref pu',.ref pt',.ref pf'])->TlAt K H' p' pm pu' pt' pf' lo hi us ts fs at' af->Same H H'->Q (.ref p') H'
set_option maxHeartbeats 4000000 in
theorem zdi (T:Tx K mg w zh zo zf zj):Has P w K mg base "_law_copy" ["_law_telling_here"] 1 (zu1 (K:=K)):=by
 refine T.zk6.has zi4 (fun vs H Q E h=>?_) (fun f cdv A outer s H vs Q E hr h=>?_)
 ·obtain⟨p,pm,pu,pt,pf,lo,hi,us,ts,fs,at',af,rfl,_⟩:=h;rfl
 ·obtain⟨p,pm,pu,pt,pf,lo,hi,us,ts,fs,at',af,rfl,h,k⟩:=h
  refine⟨_,(zg (zy (zap (za (zq (zk K rfl) (pv 0) ze (fun _ _=>rfl)) (za (za2 (zbu K rfl) (by rfl) T.list PyProof.Rows.boot_list (za (zq (zk K rfl) (pv 0) ze (fun _ _=>rfl)) zc)) (za (za2 (zbu K rfl) (by rfl) T.list PyProof.Rows.boot_list (za (zq (zk K rfl) (pv 0) ze (fun _ _=>rfl)) zc)) (za (za2 (zbu K rfl) (by rfl) T.list PyProof.Rows.boot_list (za (zq (zk K rfl) (pv 0) ze (fun _ _=>rfl)) zc)) zc))))))),?_⟩
  refine⟨_,rfl,p,_,_,_,rfl,rfl,h.p,rfl,?_⟩
  refine⟨_,rfl,p,_,_,_,rfl,rfl,h.p,rfl,pu,_,rfl,.inl h.at'.u,fun b1 hb1=>?_⟩
  have t1:=Same.new (o:=.lst (us.map V.str)) hb1
  have h1:=h.same t1
  refine⟨_,rfl,p,_,_,_,rfl,rfl,h1.p,rfl,pt,_,rfl,.inl h1.at'.t,fun b2 hb2=>?_⟩
  have t2:=Same.new (o:=.lst (at'.map V.ref)) hb2
  have h2:=h1.same t2
  refine⟨_,rfl,p,_,_,_,rfl,rfl,h2.p,rfl,pf,_,rfl,.inl h2.at'.f,fun b3 hb3=>?_⟩
  have t3:=Same.new (o:=.lst (af.map V.ref)) hb3
  refine⟨(by show 4<=sizeLine;decide),fun ph hph=>?_⟩
  have t4:=Same.new (o:=.tup [.ref pm,.ref b1,.ref b2,.ref b3]) hph
  have q:=t1.trans (t2.trans (t3.trans t4))
  have hq:=h.same q
  exact k ph b1 b2 b3 _ zb ⟨SqT.of zb,hq.at'.m,SqL.of (t4 _ _ (t3 _ _ (t2 _ _ zb))),SqL.of (t4 _ _ (t3 _ _ zb)),hq.at'.tt,SqL.of (t4 _ _ zb),hq.at'.ft⟩ q
def zu2:Sp:=fun vs H Q _=>∃(pd:Addr) (us:List Str) (lab:Str->Str) (f s:Str),vs = [.ref pd,.str f,.str s]/\H pd=some (.dK (dN us lab))/\us.Nodup/\us.length<=1000/\
 ∀H':Hp,H' pd=some (.dK (dN us (jn lab f s)))->(∀b o,b≠pd->H b=some o->H' b=some o)->Q .non H'
set_option maxHeartbeats 4000000 in
theorem zkt (T:Tx K mg w zh zo zf zj):Has P w K mg base "join_ones" ["names","first","second"] 1 zu2:=by
 refine T.zk1.has sc_join_ones (fun vs H Q E h=>?_) (fun f cdv A outer s H vs Q E hr h=>?_)
 ·obtain⟨pd,us,lab,f,s,rfl,_⟩:=h;rfl
 ·obtain⟨pd,us,lab,f,s',rfl,hd,nd,hl,k⟩:=h
  have hu:=zbq hr
  refine⟨_,(zd (zm (i:=3) sc_join_ones.nd rfl (Or.inl rfl) (zac (zgm rfl) (by rfl) T.min PyProof.Rows.boot_min (za (pv 1) (za (pv 2) zc))))
   (zg (zaj PassesOwn.never rfl (zab K rfl (za2 (zes rfl) (by rfl) T.list PyProof.Rows.boot_list (za (pv 0) zc))) (zn (i:=4) sc_join_ones.nd rfl (Or.inl rfl)) (zg (za6 (zaa (zed K rfl) (zv hu (pv 0) (pv 4) (fun _ _=>rfl)) (zap (za (pv 1) (za (pv 2) zc))) (by with_unfolding_all rfl)) (zg (zbf hu (pv 0) (pv 4) (pv 3) rfl)) zad))))),?_⟩
  refine⟨_,rfl,_,rfl,_,_,rfl,?_⟩
  refine⟨_,rfl,pd,_,rfl,hd,fun l hl'=>?_⟩
  rw[zt6]
  have npl:pd≠l:=zp hd hl'
  refine⟨l,rfl,⟨_,SqL.of zb⟩,zah (xs:=us.map V.str) (fun i σ H'=>∃v4,σ = [some (.ref pd),some (.str f),some (.str s'),some (.str (minS f s')),v4]/\(∀b o,b≠pd->H b=some o->H' b=some o)/\H' l=some (.lst (us.map V.str))/\
   H' pd=some (.dK (dN us fun x=>if x∈us.take i then jn lab f s' x else lab x)))
   ⟨none,rfl,fun b o _ e=>Same.new hl' _ _ e,zb,?_⟩ (fun i σ H' _ h=>by obtain⟨_,_,_,q,_⟩:=h;exact SqL.of q) ?_ ?_⟩
  ·rw[zl npl,hd,zc1 (f:=fun x=>if x∈us.take 0 then jn lab f s' x else lab x) (g:=lab) fun x _=>by simp]
  ·rintro i x σ H1 hx ⟨v4,rfl,kp,hl1,hd1⟩
   rw[List.getElem?_map] at hx
   cases eu:us[i]? with
   | none=>rw[eu] at hx;cases hx
   | some u=>
    rw[eu] at hx
    cases hx
    have hu':u∈us:=List.mem_of_getElem? eu
    have hi:=zam eu
    have hfr:u ∉ us.take i:=by
     have:=za4 nd i hi
     rw[show us[i]=u from (List.getElem?_eq_some_iff.mp eu).2] at this
     exact this
    have hg:=DGet.k (k:=Sum.inr u) hd1
    rw[zbz hu',if_neg hfr] at hg
    dsimp only [zr]
    refine zby (decide (lab u=f\/lab u=s')) (fun Q' hQ=>?_) (fun H2 t2=>?_)
    ·refine⟨_,rfl,_,rfl,pd,_,rfl,hg,_,rfl,_,rfl,(by show 2<=sizeLine;decide),fun p hp=>?_⟩
     refine⟨p,_,rfl,.inr (SqT.of zb),rfl,rfl,_,rfl,?_⟩
     have e:inV (.str (lab u)) [.str f,.str s']=decide (lab u=f\/lab u=s'):=by
      rw[show ([.str f,.str s']:List V) = [f,s'].map V.str from rfl,zly]
      apply decide_eq_decide.mpr
      simp
     show Q' (inV (.str (lab u)) [.str f,.str s']) _
     rw[e]
     exact hQ _ (Same.new hp)
    ·have hd2:=t2 _ _ hd1
     have kp2:∀b o,b≠pd->H b=some o->H2 b=some o:=fun b o n e=>t2 _ _ (kp b o n e)
     refine ite2 (fun c=>?_) (fun c=>?_)
     ·have c:=of_decide_eq_true c
      refine⟨_,rfl,_,rfl,_,rfl,pd,_,rfl,DPut.k (k:=Sum.inr u) hd2 (by rw[zic];exact zz hl),?_⟩
      refine⟨_,rfl,fun b o n e=>by rw[zl n];exact kp2 b o n e,?_,?_⟩
      ·rw[zl npl.symm];exact t2 _ _ hl1
      ·rw[zb,zor hu']
       congr 2
       refine zc1 fun z hz=>?_
       have ht:z∈us.take (i+1)↔z∈us.take i\/z=u:=by
        rw[List.take_add_one,eu];simp
       by_cases e:z=u
       ·subst e
        rw[if_pos rfl,if_pos (ht.mpr (.inr rfl))]
        exact (if_pos c).symm
       ·rw[if_neg e]
        by_cases e2:z∈us.take i
        ·rw[if_pos e2,if_pos (ht.mpr (.inl e2))]
        ·rw[if_neg e2,if_neg (fun q=>(ht.mp q).elim e2 e)]
     ·have c:¬(lab u=f\/lab u=s'):=fun z=>c (decide_eq_true z)
      refine⟨_,rfl,kp2,t2 _ _ hl1,?_⟩
      rw[hd2]
      congr 2
      refine zc1 fun z hz=>?_
      have ht:z∈us.take (i+1)↔z∈us.take i\/z=u:=by
       rw[List.take_add_one,eu];simp
      by_cases e:z=u
      ·subst e
       rw[if_neg hfr,if_pos (ht.mpr (.inr rfl))]
       exact (if_neg c).symm
      ·by_cases e2:z∈us.take i
       ·rw[if_pos e2,if_pos (ht.mpr (.inl e2))]
       ·rw[if_neg e2,if_neg (fun q=>(ht.mp q).elim e2 e)]
  ·rintro σ H1 ⟨v4,rfl,kp,hl1,hd1⟩
   refine k _ ?_ kp
   rw[hd1,List.length_map,List.take_length]
   congr 2
   exact zc1 fun z hz=>if_pos hz
def zwt:Sp:=fun vs H Q _=>∃(pu pt:Addr) (us:List Str) (ads:List Addr) (ts:List Tie),vs = [.ref pu,.ref pt]/\SqL K H pu (us.map V.str)/\SqL K H pt (ads.map V.ref)/\Tups H ads (ts.map tieV)/\
 us.Nodup/\us.length<=1000/\(∀t∈ts,t.a∈us/\t.b∈us)/\
 ∀(pd:Addr) (H':Hp),H pd=none->H' pd=some (.dK (dN us (labs ts)))->Same H H'->Q (.ref pd) H'
set_option maxHeartbeats 4000000 in
theorem zcj (T:Tx K mg w zh zo zf zj):Has P w K mg base "one_names" ["units","ties"] 2 (zwt (K:=K)):=by
 refine T.zk0.has sc_one_names (fun vs H Q E h=>?_) (fun f cdv A outer s H vs Q E hr h=>?_)
 ·obtain⟨pu,pt,us,ads,ts,rfl,_⟩:=h;rfl
 ·obtain⟨pu,pt,us,ads,ts,rfl,hu1,ht1,tp,nd,hl,hts,k⟩:=h
  have hu:=zbq hr
  refine⟨_,(zd (zm (i:=2) sc_one_names.nd rfl (Or.inl rfl) zbd)
   (zd (zaj PassesOwn.never rfl (zab K rfl (pv 0)) (zn (i:=3) sc_one_names.nd rfl (Or.inl rfl)) (zg (zbf hu (pv 2) (pv 3) (pv 3) rfl)))
   (zd (zaj PassesOwn.never rfl (zab K rfl (pv 1)) (zn (i:=4) sc_one_names.nd rfl (Or.inl rfl)) (zg (za6 (zaa zdp (zq (zk K rfl) (pv 4) ze (fun _ _=>rfl)) za0 (zag _)) (zg (za8 (zw (zkt T) (hr.mono (by decide)) (by rfl) (za (pv 2) (za (zv hu (pv 2) (zq (zk K rfl) (pv 4) ze (fun _ _=>rfl)) (fun _ _=>rfl)) (za (zv hu (pv 2) (zq (zk K rfl) (pv 4) ze (fun _ _=>rfl)) (fun _ _=>rfl)) zc)))))) zad)))
   (zg (zy (pv 2)))))),?_⟩
  have hlen:ads.length=ts.length:=by have:=tp.len;rw[List.length_map] at this;exact this
  refine fun pd hpd=>?_
  have s0:=Same.new (o:=.dK []) hpd
  refine⟨_,rfl,pu,rfl,⟨_,s0.seq hu1⟩,zah (xs:=us.map V.str) (fun i σ H'=>∃v3,σ = [some (.ref pu),some (.ref pt),some (.ref pd),v3,none]/\Same H H'/\H' pd=some (.dK (dN (us.take i) id)))
   ⟨none,rfl,s0,zb⟩ (fun i σ H' _ h=>by obtain⟨_,_,q,_⟩:=h;exact q.seq hu1) ?_ ?_⟩
  ·rintro i x σ H1 hx ⟨v3,rfl,q,hd⟩
   rw[List.getElem?_map] at hx
   cases eu:us[i]? with
   | none=>rw[eu] at hx;cases hx
   | some u=>
    rw[eu] at hx
    cases hx
    have hi:=zam eu
    have hfr:u ∉ us.take i:=by
     have:=za4 nd i hi
     rw[show us[i]=u from (List.getElem?_eq_some_iff.mp eu).2] at this
     exact this
    dsimp only [zr]
    refine⟨_,rfl,_,rfl,_,rfl,pd,_,rfl,DPut.k (k:=Sum.inr u) hd (by rw[zic,List.length_take];exact zz (by omega)),?_⟩
    refine⟨_,rfl,q.upd hpd,?_⟩
    rw[zb,List.take_add_one,eu]
    congr 2
    exact zsy hfr
  ·rintro σ H1 ⟨v3,rfl,q,hd⟩
   rw[List.length_map,List.take_length] at hd
   refine⟨_,rfl,pt,rfl,⟨_,q.seq ht1⟩,zah (xs:=ads.map V.ref) (fun i σ H'=>∃v4,σ = [some (.ref pu),some (.ref pt),some (.ref pd),v3,v4]/\Same H H'/\H' pd=some (.dK (dN us (labs (ts.take i)))))
    ⟨none,rfl,q,hd⟩ (fun i σ H' _ h=>by obtain⟨_,_,q,_⟩:=h;exact q.seq ht1) ?_ ?_⟩
   ·rintro i x σ H2 hx ⟨v4,rfl,q2,hd2⟩
    obtain⟨r,t,rfl,ht,_,hr⟩:=zdg tp hx
    have hr2:=q2 _ _ hr
    have hab:=hts t (List.mem_of_getElem? ht)
    dsimp only [zr]
    refine⟨_,rfl,r,_,_,_,rfl,rfl,SqT.of hr2,zgg t,rfl,_,rfl,?_⟩
    refine ite2 (fun c=>?_) (fun c=>?_)
    ·have c:t.k=SAME:=V.str.inj (of_decide_eq_true c)
     have g1:=DGet.k (k:=Sum.inr t.a) hd2
     have g2:=DGet.k (k:=Sum.inr t.b) hd2
     rw[zbz hab.1] at g1
     rw[zbz hab.2] at g2
     refine⟨_,rfl,_,rfl,_,rfl,r,_,_,_,rfl,rfl,SqT.of hr2,zgh t,pd,_,rfl,g1,_,rfl,_,rfl,r,_,_,_,rfl,rfl,SqT.of hr2,zgi t,pd,_,rfl,g2,?_⟩
     refine⟨pd,us,_,_,_,rfl,hd2,nd,hl,fun H3 hd3 kp=>?_⟩
     refine⟨_,rfl,fun b o e=>kp b o (zp e hpd) (q2 b o e),?_⟩
     rw[hd3,zib ht]
     unfold stp
     rw[if_pos c]
    ·have c:¬t.k=SAME:=fun z=>c (decide_eq_true (congrArg V.str z))
     refine⟨_,rfl,q2,?_⟩
     rw[hd2,zib ht]
     unfold stp
     rw[if_neg c]
   ·rintro σ H2 ⟨v4,rfl,q2,hd2⟩
    rw[List.length_map,hlen,List.take_length] at hd2
    exact⟨_,rfl,k pd _ hpd hd2 q2⟩
abbrev Lsts (H:Hp):List Addr->List (List Str)->Prop:=Paired fun a g=>H a=some (.lst (g.map V.str))
theorem zqd {H:Hp}{ad:Str->Addr}{g:Str->List Str}:∀{ks:List Str},(∀k∈ks,H (ad k)=some (.lst ((g k).map V.str)))->Lsts H (ks.map ad) (ks.map g)
 | [],_=>.nil
 | k::r,h=>.cons (h k (by simp)) (zqd fun z hz=>h z (List.mem_cons_of_mem _ hz))
def zu3:Sp:=fun vs H Q _=>∃(pu pt:Addr) (us:List Str) (ads:List Addr) (ts:List Tie),vs = [.ref pu,.ref pt]/\SqL K H pu (us.map V.str)/\SqL K H pt (ads.map V.ref)/\Tups H ads (ts.map tieV)/\
 us.Nodup/\us.length<64/\(∀t∈ts,t.a∈us/\t.b∈us)/\
 ∀(p:Addr) (as:List Addr) (H':Hp),H p=none->(∀a∈as,H a=none)->p ∉ as->as.Nodup->H' p=some (.lst (as.map V.ref))->Lsts H' as (zcm us ts)->Same H H'->Q (.ref p) H'
set_option maxHeartbeats 8000000 in
theorem zte (T:Tx K mg w zh zo zf zj):Has P w K mg base "ones" ["units","ties"] 3 (zu3 (K:=K)):=by
 refine T.zwx.has sc_ones (fun vs H Q E h=>?_) (fun f cdv A outer s H vs Q E hr h=>?_)
 ·obtain⟨pu,pt,us,ads,ts,rfl,_⟩:=h;rfl
 ·obtain⟨pu,pt,us,ads,ts,rfl,hu1,ht1,tp,nd,hl,hts,k⟩:=h
  have hu:=zbq hr
  refine⟨_,(zd (zm (i:=2) sc_ones.nd rfl (Or.inl rfl) (zw (zcj T) (hr.mono (by decide)) (by rfl) (za (pv 0) (za (pv 1) zc))))
   (zd (zm (i:=3) sc_ones.nd rfl (Or.inl rfl) zbd)
   (zd (zaj PassesOwn.never rfl (zab K rfl (zac (zik (K:=K) rfl) (by rfl) T.sorted PyProof.Rows.boot_sorted (za (pv 0) zc))) (zn (i:=4) sc_ones.nd rfl (Or.inl rfl)) (zg (za8 (zc8 K rfl PySem.F.plainAttrs_list PySem.F.slot_list_append PySem.F.type_list_append za9 (zmh (pv 3) (zv hu (pv 2) (pv 4) (fun _ _=>rfl)) (zal zc) ⟨rfl,rfl,rfl,rfl⟩) (za (pv 4) zc)))))
   (zg (zy (za2 (zet rfl) (by rfl) T.list PyProof.Rows.boot_list (za (zoc K rfl PySem.F.plainAttrs_dict PySem.F.slot_dict_values PySem.F.type_dict_values zh6 (pv 3)) zc))))))),?_⟩
  refine⟨_,rfl,_,rfl,pu,pt,us,ads,ts,rfl,hu1,ht1,tp,nd,by omega,hts,fun pn H1 fpn hn s1=>?_⟩
  try dsimp only [zr]
  refine fun pd hpd=>?_
  have s2:=Same.new (o:=.dK []) hpd
  refine⟨_,rfl,pu,us,rfl,(s1.trans s2).seq hu1,hl,fun l ms hl' pm rs=>?_⟩
  have em:=zln pm rs
  subst em
  have s3:=Same.new (o:=.lst ((srt us).map V.str)) hl'
  have fpd:H pd=none:=s1.free hpd
  have fl:H l=none:=(s1.trans s2).free hl'
  have n1:pd≠l:=zp zb hl'
  have n2:pn≠pd:=zp hn hpd
  have n3:pn≠l:=zp (s2 _ _ hn) hl'
  refine⟨l,rfl,⟨_,SqL.of zb⟩,zah (xs:=(srt us).map V.str) (fun i σ H'=>∃v4 ad,σ = [some (.ref pu),some (.ref pt),some (.ref pn),some (.ref pd),v4]/\Same H H'/\H' l=some (.lst ((srt us).map V.str))/\H' pn=some (.dK (dN us (labs ts)))/\
   H' pd=some (.dK (dV (keysOf ts ((srt us).take i)) fun k=>.ref (ad k)))/\(∀k∈keysOf ts ((srt us).take i),H' (ad k)=some (.lst ((zcq ts ((srt us).take i) k).map V.str))/\H (ad k)=none/\ad k≠pd/\ad k≠l/\ad k≠pn)/\
   (∀k∈keysOf ts ((srt us).take i),∀k'∈keysOf ts ((srt us).take i),ad k=ad k'->k=k'))
   ⟨none,fun _=>0,rfl,s1.trans (s2.trans s3),zb,s3 _ _ (s2 _ _ hn),s3 _ _ zb,(fun k hk=>by simp[keysOf] at hk),fun k hk=>by simp[keysOf] at hk⟩ (fun i σ H' _ h=>by obtain⟨_,_,_,_,q,_⟩:=h;exact SqL.of q) ?_ ?_⟩
  ·rintro i v σ H2 hx ⟨v4,ad,rfl,q,hl2,hn2,hd2,hk2,hin⟩
   rw[List.getElem?_map] at hx
   cases eu:(srt us)[i]? with
   | none=>rw[eu] at hx;cases hx
   | some u=>
    rw[eu] at hx
    cases hx
    have hu':u∈us:=srt_mem.mp (List.mem_of_getElem? eu)
    have hi:=zam eu
    have hkl:(keysOf ts ((srt us).take i)).length<=63:=by
     have h1:(keysOf ts ((srt us).take i)).length<=((srt us).take i).length:=List.length_filter_le _ _
     have h2:((srt us).take i).length<=(srt us).length:=by rw[List.length_take];omega
     rw[zj8] at h2
     omega
    have hgl:∀k,(zcq ts ((srt us).take i) k).length<=63:=fun k=>by
     have h1:(zcq ts ((srt us).take i) k).length<=((srt us).take i).length:=List.length_filter_le _ _
     have h2:((srt us).take i).length<=(srt us).length:=by rw[List.length_take];omega
     rw[zj8] at h2
     omega
    have g:=DGet.k (k:=Sum.inr u) hn2
    rw[zbz hu'] at g
    obtain⟨knew,gnew⟩:=zt9 (ts:=ts) nd eu
    try dsimp only [zr]
    refine⟨_,rfl,pd,rfl,.inl ⟨_,.inl hd2⟩,_,rfl,_,rfl,pn,_,rfl,g,by decide,fun q0 hq0=>?_⟩
    have t0:=Same.new (o:=.lst []) hq0
    have hd3:=t0 _ _ hd2
    have nq:pd≠q0:=zp hd2 hq0
    refine⟨_,Sum.inr (labs ts u),hd3,rfl,by rw[zaq];exact zz (by omega),fun v hv=>?_,fun hv=>?_⟩
    ·have hmem:labs ts u∈keysOf ts ((srt us).take i):=Decidable.byContradiction fun z=>by rw[zeh z] at hv;cases hv
     rw[zb0 hmem] at hv
     cases hv
     obtain⟨h1,h2,h3,h4,h5⟩:=hk2 _ hmem
     have hne:¬labs ts u=u:=fun e=>by rw[e] at hmem;exact knew hmem
     have h1':=t0 _ _ h1
     refine⟨.inl ⟨rfl,_,SqL.of h1'⟩,_,rfl,ad (labs ts u),_,_,rfl,rfl,h1',by rw[List.length_map];exact zz (by have:=hgl (labs ts u);omega),?_⟩
     have ks:keysOf ts ((srt us).take (i+1))=keysOf ts ((srt us).take i):=by rw[zie eu,if_neg hne,List.append_nil]
     refine⟨_,ad,rfl,(q.trans t0).upd h2,?_,?_,?_,?_,?_⟩
     ·rw[zl (Ne.symm h4)];exact t0 _ _ hl2
     ·rw[zl (Ne.symm h5)];exact t0 _ _ hn2
     ·rw[zl (Ne.symm h3),ks];exact hd3
     ·rw[ks]
      intro k hk
      obtain⟨b1,b2,b3,b4,b5⟩:=hk2 k hk
      refine⟨?_,b2,b3,b4,b5⟩
      rw[zg0 eu]
      by_cases e:labs ts u=k
      ·subst e
       rw[if_pos rfl,zb,List.map_append];rfl
      ·rw[if_neg e,List.append_nil,zl (fun z=>e (hin _ hmem _ hk z.symm))]
       exact t0 _ _ b1
     ·rw[ks];exact hin
    ·have hmem:labs ts u ∉ keysOf ts ((srt us).take i):=fun z=>by rw[zb0 z] at hv;cases hv
     have he:labs ts u=u:=Decidable.byContradiction fun z=>hmem (zt8 nd hts eu z)
     rw[he]
     rw[he] at hmem
     have e3:upd (upd H2 q0 (.lst [])) pd (.dK (putK (dV (keysOf ts ((srt us).take i)) fun k=>.ref (ad k)) (Sum.inr u) (.ref q0))) q0=some (.lst []):=by rw[zl (Ne.symm nq),zb]
     refine⟨.inl ⟨rfl,_,SqL.of e3⟩,_,rfl,q0,_,_,rfl,rfl,e3,by decide,?_⟩
     have ks:keysOf ts ((srt us).take (i+1))=keysOf ts ((srt us).take i)++[u]:=by rw[zie eu,if_pos he]
     have nl:l≠q0:=zp hl2 hq0
     have nn:pn≠q0:=zp hn2 hq0
     have fq0:H q0=none:=q.free hq0
     refine⟨_,fun z=>if z=u then q0 else ad z,rfl,((q.trans t0).upd fpd).upd fq0,?_,?_,?_,?_,?_⟩
     ·rw[zl nl,zl (Ne.symm n1)];exact t0 _ _ hl2
     ·rw[zl nn,zl n2];exact t0 _ _ hn2
     ·rw[zl nq,zb,zdy hmem,ks]
      congr 2
      refine zbi fun z hz=>?_
      dsimp only
      by_cases e:z=u
      ·rw[if_pos e,if_pos e]
      ·rw[if_neg e,if_neg e]
     ·rw[ks]
      intro k hk
      dsimp only
      by_cases e:k=u
      ·subst e
       rw[if_pos rfl]
       refine⟨?_,fq0,Ne.symm nq,Ne.symm nl,Ne.symm nn⟩
       rw[zb,zg0 eu,if_pos he,gnew he]
       rfl
      ·rw[if_neg e]
       have hk':k∈keysOf ts ((srt us).take i):=by
        rcases List.mem_append.mp hk with h | h
        ·exact h
        ·exact absurd (by simpa using h) e
       obtain⟨b1,b2,b3,b4,b5⟩:=hk2 k hk'
       refine⟨?_,b2,b3,b4,b5⟩
       have nk:ad k≠q0:=zp b1 hq0
       rw[zl nk,zl b3,zg0 eu,if_neg (fun z=>e (z.symm.trans he)),List.append_nil]
       exact t0 _ _ b1
     ·rw[ks]
      intro k hk k' hk' z
      dsimp only at z
      have inold:∀z,z∈keysOf ts ((srt us).take i)++[u]->z≠u->z∈keysOf ts ((srt us).take i):=fun z hz e=>by
       rcases List.mem_append.mp hz with h | h
       ·exact h
       ·exact absurd (by simpa using h) e
      by_cases e:k=u
      ·by_cases e':k'=u
       ·rw[e,e']
       ·rw[if_pos e,if_neg e'] at z
        have:=(hk2 k' (inold _ hk' e')).1
        exact absurd z.symm (zp this hq0)
      ·by_cases e':k'=u
       ·rw[if_neg e,if_pos e'] at z
        have:=(hk2 k (inold _ hk e)).1
        exact absurd z (zp this hq0)
       ·rw[if_neg e,if_neg e'] at z
        exact hin k (inold _ hk e) k' (inold _ hk' e') z
  ·rintro σ H2 ⟨v4,ad,rfl,q,hl2,hn2,hd2,hk2,hin⟩
   rw[List.length_map,List.take_length] at hd2 hk2 hin
   refine⟨_,rfl,.inr (.inr (.inl ⟨rfl,.inl ⟨_,hd2⟩⟩)),pd,_,rfl,rfl,hd2,fun pv hpv=>?_⟩
   have s3:=Same.new (o:=vwO pv pd) hpv
   refine⟨pv,pd,_,rfl,zb,s3 _ _ hd2,fun pf hpf=>?_⟩
   rw[zt7]
   have em:(keysOf ts (srt us)).map (fun k=>V.ref (ad k))=((keysOf ts (srt us)).map ad).map V.ref:=by rw[List.map_map];rfl
   rw[em]
   have s4:=Same.new (o:=.lst (((keysOf ts (srt us)).map ad).map V.ref)) hpf
   have q4:=s3.trans s4
   have knd:(keysOf ts (srt us)).Nodup:=(zfg nd).sublist (List.filter_sublist ..)
   refine k pf ((keysOf ts (srt us)).map ad) _ (q.free (s3.free hpf)) (fun a ha=>?_) (fun z=>?_) ?_ zb (zqd fun x hx=>q4 _ _ (hk2 x hx).1) (q.trans q4)
   ·obtain⟨x,hx,rfl⟩:=List.mem_map.mp ha
    exact (hk2 x hx).2.1
   ·obtain⟨x,hx,e⟩:=List.mem_map.mp z
    have:=s3 _ _ (hk2 x hx).1
    rw[e,hpf] at this
    cases this
   ·clear hk2 hd2 s4 q4 em
    generalize keysOf ts (srt us)=ks at hin knd
    induction ks with
    | nil=>exact List.nodup_nil
    | cons x r ih=>
     rw[List.nodup_cons] at knd
     rw[List.map_cons,List.nodup_cons]
     refine⟨fun z=>?_,ih (fun a ha b hb=>hin a (List.mem_cons_of_mem _ ha) b (List.mem_cons_of_mem _ hb)) knd.2⟩
     obtain⟨y,hy,e⟩:=List.mem_map.mp z
     have:=hin y (List.mem_cons_of_mem _ hy) x (by simp) e
     subst this
     exact knd.1 hy
def zr4:Sp:=fun vs H Q _=>∃(p pu pt:Addr) (x y:V) (us:List Str) (ads:List Addr) (ts:List Tie),vs = [.ref p]/\Tel K H p pu pt x y us ads ts/\
 ∀(pd:Addr) (ob:Obj) (ad:Str->Addr) (bs:Str->List Addr) (H':Hp),Same H H'->H pd=none->Bn H' pd ob (keysOf ts (srt us)) (za1 ts (ts.zip ads)) ad bs->Q (.ref pd) H'
set_option maxHeartbeats 8000000 in
theorem za5 (T:Tx K mg w zh zo zf zj):Has P w K mg base "ties_beneath" ["telling"] 4 (zr4 (K:=K)):=by
 refine T.zf3.has sc_ties_beneath (fun vs H Q E h=>?_) (fun f cdv A outer s H vs Q E hr h=>?_)
 ·obtain⟨p,pu,pt,x,y,us,ads,ts,rfl,_⟩:=h;rfl
 ·obtain⟨p,pu,pt,x,y,us,ads,ts,rfl,hT,k⟩:=h
  have hu:=zbq hr
  refine⟨_,(zd (zm (i:=1) sc_ties_beneath.nd rfl (Or.inl rfl) (zw (zcj T) (hr.mono (by decide)) (by rfl) (za (zq (zk K rfl) (pv 0) ze (fun _ _=>rfl)) (za (zq (zk K rfl) (pv 0) ze (fun _ _=>rfl)) zc))))
   (zd (zm (i:=2) sc_ties_beneath.nd rfl (Or.inl rfl) zbd)
   (zd (zaj PassesOwn.never rfl (zab K rfl (zw (zte T) (hr.mono (by decide)) (by rfl) (za (zq (zk K rfl) (pv 0) ze (fun _ _=>rfl)) (za (zq (zk K rfl) (pv 0) ze (fun _ _=>rfl)) zc)))) (zn (i:=3) sc_ties_beneath.nd rfl (Or.inl rfl)) (zg (zbf hu (pv 2) (zq (zaf K rfl) (pv 3) ze (fun _ _=>rfl)) (zal zc) rfl)))
   (zd (zaj PassesOwn.never rfl (zab K rfl (zq (zk K rfl) (pv 0) ze (fun _ _=>rfl))) (zn (i:=4) sc_ties_beneath.nd rfl (Or.inl rfl)) (zg (za6 (zaa zvn (zq (zk K rfl) (pv 4) ze (fun _ _=>rfl)) za0 (zag _)) (zg (za8 (zc8 K rfl PySem.F.plainAttrs_list PySem.F.slot_list_append PySem.F.type_list_append za9 (zv hu (pv 2) (zv hu (pv 1) (zq (zk K rfl) (pv 4) ze (fun _ _=>rfl)) (fun _ _=>rfl)) (fun _ _=>rfl)) (za (zap (za (zv hu (pv 1) (zq (zk K rfl) (pv 4) ze (fun _ _=>rfl)) (fun _ _=>rfl)) (za (pv 4) zc))) zc)))) zad)))
   (zg (zew (zy (pv 2)))))))),?_⟩
  have hts:=hT.ends
  obtain⟨hp,hu1,ht1,tp,nd,hl,tl,_⟩:=hT
  have hlen:ads.length=ts.length:=by have:=tp.len;rw[List.length_map] at this;exact this
  refine⟨_,rfl,p,_,_,_,rfl,rfl,hp,rfl,_,rfl,p,_,_,_,rfl,rfl,hp,rfl,pu,pt,us,ads,ts,rfl,hu1,ht1,tp,nd,by omega,hts,fun pn H1 fpn hn s1=>?_⟩
  try dsimp only [zr]
  refine fun pd hpd=>?_
  have s2:=Same.new (o:=.dK []) hpd
  have q2:=s1.trans s2
  refine⟨_,rfl,p,_,_,_,rfl,rfl,q2.tup hp,rfl,_,rfl,p,_,_,_,rfl,rfl,q2.tup hp,rfl,pu,pt,us,ads,ts,rfl,q2.seq hu1,q2.seq ht1,tp.same q2,nd,hl,hts,fun po as H3 fpo fas npo asnd hpo hls s3=>?_⟩
  have hn3:=s3 _ _ (s2 _ _ hn)
  have hd3:=s3 _ _ (zb (H:=H1) (a:=pd) (o:=.dK []))
  have q3:=q2.trans s3
  have fpd:H pd=none:=s1.free hpd
  have npd:pn≠pd:=zp hn hpd
  have lk:as.length=(keysOf ts (srt us)).length:=by have:=Paired.length hls;unfold zcm at this;rw[List.length_map] at this;exact this
  have lk63:(keysOf ts (srt us)).length<=63:=by
   have:=zg1 (us:=us) (ts:=ts) nd
   unfold zcm at this
   rw[List.length_map] at this
   omega
  have hz:∀{i:Nat}{t:Tie}{r:Addr},ts[i]? = some t->ads[i]? = some r->(ts.zip ads)[i]? = some (t,r):=fun h1 h2=>List.getElem?_zip_eq_some.mpr ⟨h1,h2⟩
  generalize ek:keysOf ts (srt us)=keys at lk lk63 k
  have knd:keys.Nodup:=ek▸zay nd
  have hgs:zcm us ts=keys.map (zcq ts (srt us)):=by unfold zcm;rw[ek]
  refine⟨po,rfl,⟨_,SqL.of hpo⟩,zah (xs:=as.map V.ref) (fun i σ H'=>∃(v3:Option V) (ad:Str->Addr),σ = [some (.ref p),some (.ref pn),some (.ref pd),v3,none]/\(∀b o,b≠pd->H3 b=some o->H' b=some o)/\
   H' pd=some (.dK (dV (keys.take i) fun k=>.ref (ad k)))/\(∀k∈keys.take i,H' (ad k)=some (.lst [])/\H3 (ad k)=none)/\(∀k∈keys.take i,∀k'∈keys.take i,ad k=ad k'->k=k'))
   ⟨none,fun _=>0,rfl,fun b o _ e=>e,hd3,(fun k hk=>by simp at hk),fun k hk=>by simp at hk⟩ (fun i σ H' _ h=>by obtain⟨_,_,_,q,_⟩:=h;exact SqL.of (q _ _ (zc3 hpo hd3 (by simp)) hpo)) ?_ ?_⟩
  ·rintro i v σ H4 hx ⟨v3,ad,rfl,kp,hd4,hk4,inj⟩
   obtain⟨r,g,rfl,hg,har,hr⟩:=zbe hls hx
   rw[hgs,List.getElem?_map] at hg
   cases eu:keys[i]? with
   | none=>rw[eu] at hg;cases hg
   | some u=>
    rw[eu] at hg
    cases hg
    have hu':u∈keys:=List.mem_of_getElem? eu
    have hi:=zam eu
    have hfr:u ∉ keys.take i:=by
     have:=za4 knd i hi
     rw[show keys[i]=u from (List.getElem?_eq_some_iff.mp eu).2] at this
     exact this
    obtain⟨gr,egr⟩:=zlp (us:=us) (ts:=ts) nd (k:=u) (ek▸hu')
    rw[egr] at hr
    have hr4:=kp _ _ (zc3 hr hd3 (by simp)) hr
    try dsimp only [zr]
    refine⟨by decide,fun q0 hq0=>?_⟩
    have t0:=Same.new (o:=.lst []) hq0
    have hd5:=t0 _ _ hd4
    have nq:pd≠q0:=zp hd4 hq0
    refine⟨_,rfl,_,rfl,r,_,_,_,rfl,rfl,SqL.of (t0 _ _ hr4),zod,pd,_,rfl,DPut.k (k:=Sum.inr u) hd5 (by rw[zaq,List.length_take];exact zz (by omega)),?_⟩
    have fq:H3 q0=none:=by
     cases e:H3 q0 with
     | none=>rfl
     | some o=>rw[kp _ _ (Ne.symm nq) e] at hq0;cases hq0
    refine⟨_,fun z=>if z=u then q0 else ad z,rfl,fun b o n e=>by rw[zl n];exact t0 _ _ (kp b o n e),?_,?_,?_⟩
    ·rw[zb,zdy hfr,List.take_add_one,eu]
     congr 2
     refine zbi fun z hz=>?_
     dsimp only
     by_cases e:z=u
     ·rw[if_pos e,if_pos e]
     ·rw[if_neg e,if_neg e]
    ·intro k hk
     rw[List.take_add_one,eu,List.mem_append] at hk
     dsimp only
     by_cases e:k=u
     ·rw[if_pos e]
      exact⟨by rw[zl (Ne.symm nq),zb],fq⟩
     ·rw[if_neg e]
      have hk':k∈keys.take i:=hk.elim id fun z=>absurd (by simpa using z) e
      obtain⟨h1,h2⟩:=hk4 k hk'
      refine⟨?_,h2⟩
      rw[zl (fun z=>by rw[z,hd4] at h1;cases h1)]
      exact t0 _ _ h1
    ·intro k hk k' hk' e
     rw[List.take_add_one,eu,List.mem_append] at hk hk'
     dsimp only at e
     by_cases c1:k=u<;>by_cases c2:k'=u
     ·rw[c1,c2]
     ·rw[if_pos c1,if_neg c2] at e
      have h2:=(hk4 k' (hk'.elim id fun z=>absurd (by simpa using z) c2)).1
      rw[←e,hq0] at h2
      cases h2
     ·rw[if_neg c1,if_pos c2] at e
      have h2:=(hk4 k (hk.elim id fun z=>absurd (by simpa using z) c1)).1
      rw[e,hq0] at h2
      cases h2
     ·rw[if_neg c1,if_neg c2] at e
      exact inj k (hk.elim id fun z=>absurd (by simpa using z) c1) k' (hk'.elim id fun z=>absurd (by simpa using z) c2) e
  ·rintro σ H4 ⟨v3,ad,rfl,kp,hd4,hk4,inj⟩
   rw[List.length_map,lk,List.take_length] at hd4 hk4 inj
   have sq4:∀{H':Hp},(∀b o,b≠pd->H3 b=some o->H' b=some o)->Same H H':=fun kp' b o e=>kp' b o (zp e fpd) (q3 _ _ e)
   have q4:=sq4 kp
   refine⟨_,rfl,p,_,_,_,rfl,rfl,q4.tup hp,rfl,pt,rfl,⟨_,q4.seq ht1⟩,zah (xs:=ads.map V.ref) (fun i σ H'=>∃(v4:Option V) (bs:Str->List Addr),σ = [some (.ref p),some (.ref pn),some (.ref pd),v3,v4]/\(∀b o,b≠pd->H3 b=some o->H' b=some o)/\
    H' pd=some (.dK (dV keys fun k=>.ref (ad k)))/\∀k∈keys,H' (ad k)=some (.lst ((bs k).map V.ref))/\Paired (fun b (p:Str×Addr)=>H' b=some (.tup [.str p.1,.ref p.2])) (bs k) (za1 ts ((ts.zip ads).take i) k))
    ⟨none,fun _=>[],rfl,kp,hd4,fun k hk=>⟨(hk4 k hk).1,.nil⟩⟩ (fun i σ H' _ h=>by obtain⟨_,_,_,q,_⟩:=h;exact (sq4 q).seq ht1) ?_ ?_⟩
   ·rintro i x σ H5 hx ⟨v4,bs,rfl,kp5,hd5,hb5⟩
    obtain⟨r,t,rfl,ht,har,hr⟩:=zdg tp hx
    have q5:=sq4 kp5
    have hr5:=q5 _ _ hr
    have hab:=hts t (List.mem_of_getElem? ht)
    have hit:=zam ht
    have hzi:=hz ht har
    try dsimp only [zr]
    refine⟨_,rfl,r,_,_,_,rfl,rfl,SqT.of hr5,zgg t,rfl,_,rfl,?_⟩
    refine ite2 (fun c=>?_) (fun c=>?_)
    ·have c:t.k≠SAME:=by
      intro z
      simp[z,SAME] at c
     have g1:=DGet.k (k:=Sum.inr t.a) (kp5 _ _ npd hn3)
     have g2:=DGet.k (k:=Sum.inr t.b) (kp5 _ _ npd hn3)
     rw[zbz hab.1] at g1
     rw[zbz hab.2] at g2
     have hka:labs ts t.a∈keys:=ek▸zbn hts hab.1
     have g3:=DGet.k (k:=Sum.inr (labs ts t.a)) hd5
     rw[zb0 hka] at g3
     obtain⟨hb1,hb2⟩:=hb5 _ hka
     refine⟨_,rfl,_,rfl,_,rfl,r,_,_,_,rfl,rfl,SqT.of hr5,zgh t,pn,_,rfl,g1,pd,_,rfl,g3,?_⟩
     refine⟨.inl ⟨rfl,_,SqL.of hb1⟩,_,rfl,_,rfl,r,_,_,_,rfl,rfl,SqT.of hr5,zgi t,pn,_,rfl,g2,_,rfl,(by show 2<=sizeLine;decide),fun b0 hb0=>?_⟩
     have t0:=Same.new (o:=.tup [.str (labs ts t.b),.ref r]) hb0
     have hb1':=t0 _ _ hb1
     have lb:(bs (labs ts t.a)).length<=900:=by
      have h1:=Paired.length hb2
      have h2:=zka (ts:=ts) (z:=(ts.zip ads).take i) (k:=labs ts t.a)
      rw[List.length_take,List.length_zip] at h2
      omega
     refine⟨ad (labs ts t.a),_,_,rfl,rfl,hb1',by rw[List.length_map];exact zz (by omega),?_⟩
     have st:∀b vs,H5 b=some (.tup vs)->upd (upd H5 b0 (.tup [.str (labs ts t.b),.ref r])) (ad (labs ts t.a)) (.lst ((bs (labs ts t.a)).map V.ref++[.ref b0])) b=some (.tup vs):=fun b vs e=>zaw hb1' _ _ (t0 _ _ e)
     refine⟨_,fun z=>if z=labs ts t.a then bs z++[b0] else bs z,rfl,fun b o n e=>?_,?_,fun k hk=>?_⟩
     ·rw[zl (fun z=>by rw[z,(hk4 _ hka).2] at e;cases e)]
      exact t0 _ _ (kp5 b o n e)
     ·rw[zl (fun z=>by rw[←z,hd5] at hb1;cases hb1)]
      exact t0 _ _ hd5
     ·obtain⟨b1,b2⟩:=hb5 k hk
      have b2':=Paired.mapP b2 fun b p e=>st b _ e
      rw[zlr hzi]
      dsimp only
      by_cases e:k=labs ts t.a
      ·subst e
       rw[if_pos rfl,if_pos ⟨c,rfl⟩]
       refine⟨by rw[zb,List.map_append];rfl,Paired.snoc b2' ?_⟩
       exact zaw hb1' _ _ zb
      ·rw[if_neg e,if_neg (fun z=>e z.2.symm),List.append_nil]
       refine⟨?_,b2'⟩
       rw[zl (fun z=>e (inj _ hk _ hka z))]
       exact t0 _ _ b1
    ·have c:t.k=SAME:=by
      simpa[SAME] using c
     refine⟨_,bs,rfl,kp5,hd5,fun k hk=>?_⟩
     rw[zlr hzi,if_neg (fun z=>z.1 c),List.append_nil]
     exact hb5 k hk
   ·rintro σ H5 ⟨v4,bs,rfl,kp5,hd5,hb5⟩
    rw[List.length_map] at hb5
    have ez:(ts.zip ads).take ads.length=ts.zip ads:=List.take_of_length_le (by rw[List.length_zip];omega)
    rw[ez] at hb5
    refine .inr ⟨pd,_,hd5,fun ob=>⟨_,rfl,k pd ob ad bs _ ?_ fpd ⟨zb,fun k hk=>?_,fun k hk=>?_⟩⟩⟩
    ·exact (sq4 kp5).upd fpd
    ·obtain⟨b1,b2⟩:=hb5 k hk
     rw[zl (fun z=>by rw[z,hd5] at b1;cases b1)]
     exact b1
    ·obtain⟨b1,b2⟩:=hb5 k hk
     refine Paired.mapP b2 fun b p e=>?_
     rw[zl (fun z=>by rw[z,hd5] at e;cases e)]
     exact e
def zm4:Sp:=fun vs H Q _=>∃(s:Str) (pd:Addr) (ob:Obj) (keys:List Str) (ln:Ln) (ad:Str->Addr) (bs:Str->List Addr),vs = [.str s,.ref pd]/\Bn H pd ob keys ln ad bs/\s∈keys/\
 (∀k∈keys,∀l r,(l,r)∈ln k->l∈keys)/\keys.length<=63/\∀(p:Addr) (rs:List Addr) (H':Hp),Same H H'->H p=none->H' p=some (.lst (rs.map V.ref))->rs.length<=64->Shr ln s rs->Q (.ref p) H'
set_option maxHeartbeats 8000000 in
theorem zfn (T:Tx K mg w zh zo zf zj):Has P w K mg base "round_through" ["start","beneath"] 1 zm4:=by
 refine T.zfs.has sc_round_through (fun vs H Q E h=>?_) (fun f cdv A outer s H vs Q E hr h=>?_)
 ·obtain⟨s',pd,ob,keys,ln,ad,bs,rfl,_⟩:=h;rfl
 ·obtain⟨s',pd,ob,keys,ln,ad,bs,rfl,hB,hs,hc,hk,k⟩:=h
  have hu:=zbq hr
  refine⟨_,(zd (zm (i:=2) sc_round_through.nd rfl (Or.inl rfl) zbd)
   (zd (zm (i:=3) sc_round_through.nd rfl (Or.inl rfl) (zal (za (zap (za (pv 0) (za (zal zc) zc))) zc)))
   (zd (zgs PassesOwn.never (zaa (zee K rfl (hu10 hr)) (pv 3) (zal zc) (zag _)) (zd (zm (i:=4) sc_round_through.nd rfl (Or.inl rfl) (zal zc))
    (zd (zaj PassesOwn.never rfl (zab K rfl (pv 3)) (zcc K rfl rfl (zan (zn (i:=5) sc_round_through.nd rfl (Or.inl rfl)) (zan (zn (i:=6) sc_round_through.nd rfl (Or.inl rfl)) zb9))) (zg (zaj PassesOwn.never rfl (zab K rfl (zv hu (pv 1) (pv 5) (fun _ _=>rfl))) (zcc K rfl rfl (zan (zn (i:=7) sc_round_through.nd rfl (Or.inl rfl)) (zan (zn (i:=8) sc_round_through.nd rfl (Or.inl rfl)) zb9))) (zd (za6 (zaa zdp (pv 7) (pv 0) (zag _)) (zg (zy (zak ze9 (pv 6) (zal (za (pv 8) zc))))) zad)
      (zg (za6 (zhk (zfa hu (pv 7) (pv 2))) (zd (zbf hu (pv 2) (pv 7) zb4 rfl)
       (zg (za8 (zc8 K rfl PySem.F.plainAttrs_list PySem.F.slot_list_append PySem.F.type_list_append za9 (pv 4) (za (zap (za (pv 7) (za (zak ze9 (pv 6) (zal (za (pv 8) zc))) zc))) zc))))) zad))))))
    (zg (zm (i:=3) sc_round_through.nd rfl (Or.inl rfl) (pv 4))))))
   (zg (zy (zal zc)))))),?_⟩
  refine fun pm hpm=>?_
  have s0:=Same.new (o:=.dK []) hpm
  try dsimp only [zr]
  refine⟨_,rfl,by decide,fun l0 hl0=>?_⟩
  have s1:=Same.new (o:=.lst []) hl0
  refine⟨(by show 2<=sizeLine;decide),fun b0 hb0=>?_⟩
  have s2:=Same.new (o:=.tup [.str s',.ref l0]) hb0
  refine⟨(by show 1<=sizeLine;decide),fun pw hpw=>?_⟩
  have s3:=Same.new (o:=.lst [.ref b0]) hpw
  have q3:=s0.trans (s1.trans (s2.trans s3))
  have hm3:=s3 _ _ (s2 _ _ (s1 _ _ (zb (H:=H) (a:=pm) (o:=.dK []))))
  have hl3:=s3 _ _ (s2 _ _ (zb (H:=upd H pm (.dK [])) (a:=l0) (o:=.lst [])))
  have hb3:=s3 _ _ (zb (H:=upd (upd H pm (.dK [])) l0 (.lst [])) (a:=b0) (o:=.tup [.str s',.ref l0]))
  have hw3:=zb (H:=upd (upd (upd H pm (.dK [])) l0 (.lst [])) b0 (.tup [.str s',.ref l0])) (a:=pw) (o:=.lst [.ref b0])
  generalize upd (upd (upd (upd H pm (.dK [])) l0 (.lst [])) b0 (.tup [.str s',.ref l0])) pw (.lst [.ref b0])=H3 at q3 hm3 hl3 hb3 hw3
  refine⟨fun m σ H'=>∃(v4 v5 v6 v7 v8:Option V) (pw:Addr) (wl:List Addr) (es:List (Str×List Addr)) (d:Nat) (M:List Str),σ = [some (.str s'),some (.ref pd),some (.ref pm),some (.ref pw),v4,v5,v6,v7,v8]/\Same H H'/\H' pm=some (.dK (dV M tru))/\
   H' pw=some (.lst (wl.map V.ref))/\Paired (zv8 H') wl es/\(∀e∈es,Wk ln s' e.2 e.1/\e.2.length=d/\e.1∈keys)/\M.Nodup/\(∀v∈M,v∈keys)/\Bf ln s' d M (es.map Prod.fst)/\(es≠[]->d<=M.length)/\
   m=2 * (keys.length-M.length)+(if es = [] then 0 else 1),⟨_,none,none,none,none,none,pw,[b0],[(s',[])],0,[],rfl,q3,hm3,hw3,.cons ⟨l0,hb3,hl3⟩ .nil,?_,by simp,by simp,Bf.zero,fun _=>Nat.le_refl _,rfl⟩,?_⟩
  ·intro e he
   have:e=(s',[]):=by simpa using he
   subst this
   exact⟨.nil,rfl,hs⟩
  rintro m σ H4 ⟨v4,v5,v6,v7,v8,pw,wl,es,d,M,rfl,q4,hm4,hw4,pr4,ok4,nd4,sub4,bf,dle,rfl⟩
  have lM:M.length<=63:=by have:=zbm nd4 sub4;omega
  refine⟨_,rfl,by decide,fun le hle=>?_⟩
  have t5:=Same.new (o:=.lst []) hle
  refine⟨pw,le,_,rfl,rfl,DEq.nilL (SqL.of (t5 _ _ hw4)) (SqL.of zb),_,rfl,?_⟩
  have lw:wl.length=es.length:=Paired.length pr4
  have q5:=q4.trans t5
  have hm5:=t5 _ _ hm4
  have hw5:=t5 _ _ hw4
  have pr5:Paired (zv8 (upd H4 le (.lst []))) wl es:=Paired.mapP pr4 fun _ _ ⟨q,h1,h2⟩=>⟨q,t5 _ _ h1,t5 _ _ h2⟩
  have t5':=t5
  generalize upd H4 le (.lst [])=H5 at q5 hm5 hw5 pr5 t5'
  refine ite2 (fun c=>?_) (fun c=>?_)
  ·have hes:es≠[]:=fun z=>by
    subst z
    have:wl = []:=List.length_eq_zero_iff.mp (by simpa using lw)
    subst this
    simp at c
   have dM:=dle hes
   refine⟨fun σ' H'=>∃m',m'<2 * (keys.length-M.length)+(if es = [] then 0 else 1)/\_,fun σ' H' h=>h,?_⟩
   try dsimp only [zr]
   refine⟨by decide,fun pl hpl=>?_⟩
   have t6:=Same.new (o:=.lst []) hpl
   have npl:pl≠pm:=Ne.symm (zp hm5 hpl)
   have npw:pw≠pm:=zc3 hw5 hm5 (by simp)
   have Bk:∀{H':Hp},(∀b o,b≠pm->H5 b=some o->H' b=some o)->Same H H':=fun kp b o e=>kp b o (zp e hpm) (q5 _ _ e)
   refine⟨_,rfl,pw,rfl,⟨_,SqL.of (t6 _ _ hw5)⟩,zah (xs:=wl.map V.ref) (fun i σ H'=>∃(v5 v6 v7 v8:Option V) (ml:List Addr) (fs:List (Str×List Addr)),σ = [some (.str s'),some (.ref pd),some (.ref pm),some (.ref pw),some (.ref pl),v5,v6,v7,v8]/\
    Grow H5 H' pm pl ln s' keys M d ml fs/\∀u∈(es.take i).map Prod.fst,∀v r,(v,r)∈ln u->v≠s'/\v∈M++fs.map Prod.fst)
    ⟨v5,v6,v7,v8,[],[],rfl,⟨fun b o _ e=>t6 _ _ e,?_,zb,.nil,(fun e he=>(List.not_mem_nil he).elim),by simpa using nd4⟩,fun u hu=>by simp at hu⟩ (fun i σ H' _ h=>by obtain⟨_,_,_,_,_,_,_,g,_⟩:=h;exact SqL.of (g.kp _ _ npw hw5)) ?_ ?_⟩
   ·rw[List.map_nil,List.append_nil];exact t6 _ _ hm5
   ·rintro i x σ H6 hx ⟨u5,u6,u7,u8,ml,fs,rfl,g,cond⟩
    obtain⟨b,e,rfl,he,hbw,q,hb,hq⟩:=zbe pr5 hx
    have hie:=zam he
    have hem:e∈es:=List.mem_of_getElem? he
    obtain⟨wk,elen,ek⟩:=ok4 e hem
    have nb:b≠pm:=zc3 hb hm5 (by simp)
    have nq:q≠pm:=zc3 hq hm5 (by simp)
    refine⟨b,_,rfl,SqT.of (g.kp _ _ nb hb),rfl,_,_,rfl,_,_,rfl,rfl,?_⟩
    have B6:=hB.same (Bk g.kp)
    refine⟨_,rfl,_,rfl,pd,_,rfl,B6.get ek,ad e.1,rfl,⟨_,SqL.of (B6.l _ ek)⟩,zah (xs:=(bs e.1).map V.ref) (fun j σ H'=>∃(v7 v8:Option V) (ml:List Addr) (fs:List (Str×List Addr)),σ = [some (.str s'),some (.ref pd),some (.ref pm),some (.ref pw),some (.ref pl),some (.str e.1),some (.ref q),v7,v8]/\
     Grow H5 H' pm pl ln s' keys M d ml fs/\(∀u∈(es.take i).map Prod.fst,∀v r,(v,r)∈ln u->v≠s'/\v∈M++fs.map Prod.fst)/\∀p∈(ln e.1).take j,p.1≠s'/\p.1∈M++fs.map Prod.fst)
     ⟨u7,u8,ml,fs,rfl,g,cond,by simp⟩ (fun j σ H' _ h=>by obtain⟨_,_,_,_,_,g,_⟩:=h;exact SqL.of ((hB.same (Bk g.kp)).l _ ek)) ?_ ?_⟩
    ·rintro j x σ H7 hx ⟨u7,u8,ml,fs,rfl,g,cond,cond2⟩
     have B7:=hB.same (Bk g.kp)
     obtain⟨b',⟨l,r⟩,rfl,hlr,hb',hbt⟩:=zbe (B7.e _ ek) hx
     have hlm:(l,r)∈ln e.1:=List.mem_of_getElem? hlr
     have hlk:l∈keys:=hc _ ek l r hlm
     refine⟨b',_,rfl,SqT.of hbt,rfl,_,_,rfl,_,_,rfl,rfl,?_⟩
     have hq7:=g.kp _ _ nq hq
     have lfs:(M++fs.map Prod.fst).length<=63:=by
      have:=zbm g.nd (us:=keys) fun v hv=>(List.mem_append.mp hv).elim (sub4 v) fun z=>by
       obtain⟨e',h1,rfl⟩:=List.mem_map.mp z
       exact (g.ok e' h1).2.2
      omega
     try dsimp only [zr]
     refine⟨_,rfl,_,rfl,rfl,_,rfl,?_⟩
     refine ite2 (fun c1=>?_) (fun c1=>?_)
     ·have c1:l=s':=V.str.inj (of_decide_eq_true c1)
      refine⟨_,rfl,_,rfl,(by show 1<=sizeLine;decide),fun p1 hp1=>?_⟩
      have w1:=Same.new (o:=.lst [.ref r]) hp1
      refine⟨q,p1,_,_,rfl,rfl,w1 _ _ hq7,zb,by rw[List.length_map];exact zav (by show e.2.length+1<=1000;omega),fun p2 hp2=>?_⟩
      have w2:=Same.new (o:=.lst (e.2.map V.ref++[.ref r])) hp2
      have q7:Same H _:=(Bk g.kp).trans (w1.trans w2)
      refine k p2 (e.2++[r]) _ q7 (((Bk g.kp).trans w1).free hp2) (by rw[zb,List.map_append];rfl) (by rw[List.length_append];show e.2.length+1<=64;omega) (.inr ⟨by simp,c1▸wk.snoc hlm,fun j h1 h2=>bf.no j h1 ?_⟩)
      rw[List.length_append] at h2
      have h2:j<e.2.length+1:=h2
      omega
     ·have c1:¬l=s':=fun z=>c1 (decide_eq_true (congrArg V.str z))
      have g1:=DGet.k (k:=Sum.inr l) g.m
      refine⟨_,rfl,_,rfl,pm,_,rfl,g1,_,rfl,?_⟩
      refine ite2 (fun c2=>?_) (fun c2=>?_)
      ·have hv:l ∉ M++fs.map Prod.fst:=fun z=>by
        rw[zb0 z] at c2
        cases c2
       refine⟨_,rfl,_,rfl,pm,_,rfl,DPut.k (k:=Sum.inr l) g.m (by rw[zaq];exact zz (by omega)),?_⟩
       rw[zs0 hv]
       have hl8:upd H7 pm (.dK (dV (M++fs.map Prod.fst++[l]) tru)) pl=some (.lst (ml.map V.ref)):=by rw[zl npl];exact g.l
       have hq8:upd H7 pm (.dK (dV (M++fs.map Prod.fst++[l]) tru)) q=some (.lst (e.2.map V.ref)):=by rw[zl nq];exact hq7
       try dsimp only [zr]
       refine⟨_,rfl,.inl ⟨rfl,_,SqL.of hl8⟩,_,rfl,_,rfl,_,rfl,(by show 1<=sizeLine;decide),fun p1 hp1=>?_⟩
       have w1:=Same.new (o:=.lst [.ref r]) hp1
       refine⟨q,p1,_,_,rfl,rfl,w1 _ _ hq8,zb,by rw[List.length_map];exact zav (by show e.2.length+1<=1000;omega),fun p2 hp2=>?_⟩
       have w2:=Same.new (o:=.lst (e.2.map V.ref++[.ref r])) hp2
       refine⟨(by show 2<=sizeLine;decide),fun b9 hb9=>?_⟩
       have w3:=Same.new (o:=.tup [.str l,.ref p2]) hb9
       have w:=w1.trans (w2.trans w3)
       have ml63:ml.length<=63:=by
        have h1:ml.length=fs.length:=Paired.length g.w
        rw[List.length_append,List.length_map] at lfs
        omega
       refine⟨pl,_,_,rfl,rfl,w _ _ hl8,by rw[List.length_map];exact zz (by omega),?_⟩
       have g':=g.add hpl npl hv w (rs:=e.2++[r]) (q:=p2) (b:=b9) (by rw[List.map_append];exact w3 _ _ zb) (Ne.symm (zp (w1 _ _ hl8) hp2)) zb ⟨wk.snoc hlm,by rw[List.length_append,elen];rfl,hlk⟩
       have mm:∀v,v∈M++fs.map Prod.fst->v∈M++(fs++[(l,e.2++[r])]).map Prod.fst:=fun v h=>by
        rw[List.map_append,←List.append_assoc];exact List.mem_append_left _ h
       refine⟨_,_,_,_,rfl,g',fun u hu v r' h=>⟨(cond u hu v r' h).1,mm _ (cond u hu v r' h).2⟩,zll hlr (fun p hp=>⟨(cond2 p hp).1,mm _ (cond2 p hp).2⟩) ⟨c1,?_⟩⟩
       rw[List.map_append,←List.append_assoc]
       simp
      ·have hv:l∈M++fs.map Prod.fst:=Decidable.byContradiction fun z=>by
        rw[zeh z] at c2
        exact c2 rfl
       exact⟨_,_,ml,fs,rfl,g,cond,zll hlr cond2 ⟨c1,hv⟩⟩
    ·rintro σ H7 ⟨u7,u8,ml,fs,rfl,g,cond,cond2⟩
     have B7:=hB.same (Bk g.kp)
     have lb:(bs e.1).length=(ln e.1).length:=Paired.length (B7.e _ ek)
     rw[List.length_map,lb,List.take_length] at cond2
     refine⟨_,_,_,_,ml,fs,rfl,g,fun u hu v r h=>?_⟩
     rw[List.map_take,List.take_add_one,List.getElem?_map,he,List.mem_append] at hu
     rcases hu with hu | hu
     ·exact cond u (by rw[List.map_take];exact hu) v r h
     ·have:u=e.1:=by simpa using hu
      subst this
      exact cond2 (v,r) h
   ·rintro σ H6 ⟨u5,u6,u7,u8,ml,fs,rfl,g,cond⟩
    rw[List.length_map,lw,List.take_length] at cond
    refine⟨_,rfl,?_⟩
    try dsimp only [zr]
    have subN:∀v∈M++fs.map Prod.fst,v∈keys:=fun v hv=>(List.mem_append.mp hv).elim (sub4 v) fun z=>by
     obtain⟨e',h1,rfl⟩:=List.mem_map.mp z
     exact (g.ok e' h1).2.2
    have lN:=zbm g.nd subN
    refine⟨_,?_,_,_,_,_,_,pl,ml,fs,d+1,M++fs.map Prod.fst,rfl,Bk g.kp,g.m,g.l,Paired.mapP g.w fun _ _ ⟨q,_,h1,h2⟩=>⟨q,h1,h2⟩,g.ok,g.nd,subN,bf.succ (fun v hv=>?_) cond,fun hf=>?_,rfl⟩
    ·rw[if_neg hes,List.length_append,List.length_map] at *
     cases fs with
     | nil=>simp
     | cons a r=>
      rw[if_neg (by simp)]
      simp only [List.length_cons] at *
      omega
    ·obtain⟨e',h1,rfl⟩:=List.mem_map.mp hv
     exact⟨e'.2,(g.ok e' h1).1,(g.ok e' h1).2.1⟩
    ·rw[List.length_append,List.length_map]
     have:=List.length_pos_iff.mpr hf
     omega
  ·have hes:es = []:=by
    have:wl = []:=by simpa using c
    subst this
    exact List.length_eq_zero_iff.mp lw.symm
   subst hes
   refine⟨by decide,fun p hp=>?_⟩
   exact k p [] _ (q5.trans (Same.new hp)) (q5.free hp) zb (by simp) (.inl ⟨rfl,bf.done⟩)
def zr5:Sp:=fun vs H Q _=>∃(p pu pt:Addr) (x y:V) (us:List Str) (ads:List Addr) (ts:List Tie),vs = [.ref p]/\Tel K H p pu pt x y us ads ts/\
 ∀(q:Addr) (rs:List Addr) (H':Hp),Same H H'->H q=none->H' q=some (.lst (rs.map V.ref))->rs.length<=64->Rnd (za1 ts (ts.zip ads)) (keysOf ts (srt us)) rs->Q (.ref q) H'
set_option maxHeartbeats 8000000 in
theorem zez (T:Tx K mg w zh zo zf zj):Has P w K mg base "shortest_round" ["telling"] 5 (zr5 (K:=K)):=by
 refine T.ze3.has sc_shortest_round (fun vs H Q E h=>?_) (fun f cdv A outer s H vs Q E hr h=>?_)
 ·obtain⟨p,pu,pt,x,y,us,ads,ts,rfl,_⟩:=h;rfl
 ·obtain⟨p,pu,pt,x,y,us,ads,ts,rfl,hT,k⟩:=h
  refine⟨_,(zd (zm (i:=1) sc_shortest_round.nd rfl (Or.inl rfl) (zw (za5 T) (hr.mono (by decide)) (by rfl) (za (pv 0) zc)))
   (zd (zm (i:=2) sc_shortest_round.nd rfl (Or.inl rfl) (zal zc))
   (zd (zaj PassesOwn.never rfl (zbs (pv 1)) (zn (i:=3) sc_shortest_round.nd rfl (Or.inl rfl)) (zd (zm (i:=4) sc_shortest_round.nd rfl (Or.inl rfl) (zw (zfn T) (hr.mono (by decide)) (by rfl) (za (pv 3) (za (pv 1) zc))))
    (zg (za6 (PW.pt (zf9 (zaa (zee K rfl (hu10 hr)) (pv 4) (zal zc) (zag _)) (zeb (PW.pt (zqu (zaa (zob K rfl (hu10 hr)) (pv 2) (zal zc) (zag _)) (zk9 (zaa zl9 (zac (zai K rfl) (by rfl) T.len boot_len (za (pv 4) zc)) (zac (zai K rfl) (by rfl) T.len boot_len (za (pv 2) zc)) (zag _)))))))) (zg (zm (i:=2) sc_shortest_round.nd rfl (Or.inl rfl) (pv 4))) zad))))
   (zg (zy (pv 2)))))),?_⟩
  have hts:=hT.ends
  refine⟨_,rfl,p,pu,pt,x,y,us,ads,ts,rfl,hT,fun pd ob ad bs H1 s1 fpd hB=>?_⟩
  have cl:=zei (us:=us) (ts:=ts) (ads:=ads) hts
  have lk:=hT.klen
  generalize keysOf ts (srt us)=keys at hB cl lk k
  generalize za1 ts (ts.zip ads)=ln at hB cl k
  try dsimp only [zr]
  refine⟨by decide,fun ps hps=>?_⟩
  have s2:=Same.new (o:=.lst []) hps
  refine⟨_,rfl,pd,ob,_,rfl,s2 _ _ hB.d,zch (fun i σ H'=>∃(v3 v4:Option V) (ps:Addr) (rs:List Addr),σ = [some (.ref p),some (.ref pd),some (.ref ps),v3,v4]/\Same H1 H'/\H ps=none/\H' ps=some (.lst (rs.map V.ref))/\rs.length<=64/\Rnd ln (keys.take i) rs)
   ⟨none,none,ps,[],rfl,s2,s1.free hps,zb,by simp,by simpa using Rnd.nil⟩ (fun i σ H' _ h=>by obtain⟨_,_,_,_,_,q,_⟩:=h;exact q _ _ hB.d) ?_ ?_⟩
  ·rintro i kk vv σ H3 hx ⟨v3,v4,ps,rs,rfl,q3,fps,hps3,lr,hR⟩
   obtain⟨u,hu,rfl,_⟩:=zkb hx
   have huk:u∈keys:=List.mem_of_getElem? hu
   try dsimp only [zr]
   refine⟨_,rfl,_,rfl,u,pd,ob,keys,ln,ad,bs,rfl,hB.same q3,huk,cl,lk,fun pr xs H4 s4 fpr hpr lx hS=>?_⟩
   have q4:=q3.trans s4
   have hps4:=s4 _ _ hps3
   try dsimp only [zr]
   refine zby (decide (xs≠[]/\(rs = []\/xs.length<rs.length))) (fun Q' hQ=>?_) (fun H5 t5=>?_)
   ·refine⟨_,rfl,by decide,fun e1 he1=>?_⟩
    have w1:=Same.new (o:=.lst []) he1
    refine⟨pr,e1,_,rfl,rfl,DEq.nilL (SqL.of (w1 _ _ hpr)) (SqL.of zb),_,rfl,?_⟩
    refine ite2 (fun c=>?_) (fun c=>?_)
    ·have c:xs≠[]:=by simpa using c
     refine⟨_,rfl,by decide,fun e2 he2=>?_⟩
     have w2:=Same.new (o:=.lst []) he2
     have w12:=w1.trans w2
     refine⟨ps,e2,_,rfl,rfl,DEq.nilL (SqL.of (w12 _ _ hps4)) (SqL.of zb),_,rfl,?_⟩
     refine ite2 (fun c2=>?_) (fun c2=>?_)
     ·have c2:rs = []:=by simpa using c2
      rw[show true=decide (xs≠[]/\(rs = []\/xs.length<rs.length)) from (decide_eq_true ⟨c,.inl c2⟩).symm]
      exact hQ _ w12
     ·have c2:¬rs = []:=by simpa using c2
      refine⟨_,rfl,pr,_,rfl,.inl (SqL.of (w12 _ _ hpr)),_,rfl,ps,_,rfl,.inl (SqL.of (w12 _ _ hps4)),_,_,rfl,rfl,_,rfl,?_⟩
      have:decide (((xs.map V.ref).length:Int)<((rs.map V.ref).length:Int))=decide (xs≠[]/\(rs = []\/xs.length<rs.length)):=by
       rw[List.length_map,List.length_map]
       apply decide_eq_decide.mpr
       constructor
       ·intro z;exact⟨c,.inr (by omega)⟩
       ·rintro ⟨_,z | z⟩
        ·exact absurd z c2
        ·omega
      rw[←this] at hQ
      exact hQ _ w12
    ·have c:xs = []:=by simpa using c
     rw[show false=decide (xs≠[]/\(rs = []\/xs.length<rs.length)) from (decide_eq_false fun z=>z.1 c).symm]
     exact hQ _ w1
   ·have:=hR.step hS
    rw[show keys.take i++[u]=keys.take (i+1) by rw[List.take_add_one,hu];rfl] at this
    refine ite2 (fun c=>?_) (fun c=>?_)
    ·have c:=of_decide_eq_true c
     rw[if_pos c] at this
     exact⟨_,rfl,_,_,pr,xs,rfl,q4.trans t5,(s1.trans q3).free fpr,t5 _ _ hpr,lx,this⟩
    ·have c:¬(xs≠[]/\(rs = []\/xs.length<rs.length)):=fun z=>c (decide_eq_true z)
     rw[if_neg c] at this
     exact⟨_,_,ps,rs,rfl,q4.trans t5,fps,t5 _ _ hps4,lr,this⟩
  ·rintro σ H3 ⟨v3,v4,ps,rs,rfl,q3,fps,hps3,lr,hR⟩
   rw[zaq,List.take_length] at hR
   exact⟨_,rfl,k ps rs _ (s1.trans q3) fps hps3 lr hR⟩
theorem zm5 {α:Type}(f:α->Bool) (l:List α):(l.map f).all id=l.all f:=by rw[List.all_map];rfl
def zr6:Sp:=fun vs H Q _=>∃(pl pp:Addr) (bs:List Addr) (L:List (Str×Addr)) (M:List Str),vs = [.ref pl,.ref pp]/\SqL K H pl (bs.map V.ref)/\Paired (fun b (p:Str×Addr)=>H b=some (.tup [.str p.1,.ref p.2])) bs L/\H pp=some (.dK (dV M tru))/\L.length<=900/\
 ∀H',Same H H'->Q (.bl (zey M L)) H'
set_option maxHeartbeats 4000000 in
theorem zm6 (T:Tx K mg w zh zo zf zj):Has P w K mg base "rests_on" ["lowers","placed"] 1 (zr6 (K:=K)):=by
 refine T.znb.has zkq (fun vs H Q E h=>?_) (fun f cdv A outer s H vs Q E hr h=>?_)
 ·obtain⟨pl,pp,bs,L,M,rfl,_⟩:=h;rfl
 ·obtain⟨pl,pp,bs,L,M,rfl,hl,pr,hm,lL,k⟩:=h
  have hu:=zbq hr
  refine⟨_,(zg (zy (zac (zc0 K rfl rfl) (by rfl) T.all PyProof.Rows.boot_all (za (zbw (own:=["lower","tie"]) (cap:=["placed"]) (ix:=[1]) (osc:=zi (top 16)) rfl ⟨rfl,by decide +kernel,by decide +kernel,by decide +kernel,by decide +kernel⟩ rfl (zab K rfl (pv 0)) (fun _ _ _ _=>zcc (n:=2) K rfl rfl (zan (zn (i:=0) (show List.Nodup (["lower","tie","placed"]:List Str) by decide +kernel) rfl (Or.inl rfl)) (zan (zn (i:=1) (show List.Nodup (["lower","tie","placed"]:List Str) by decide +kernel) rfl (Or.inl rfl)) zb9))) (fun _ _ _ _=>zbr) (fun _ _ _ _=>(zvf (zsu hu (pv 0) (pv 2))))) zc)))),?_⟩
  have lb:bs.length=L.length:=Paired.length pr
  refine⟨_,rfl,pl,rfl,⟨_,hl⟩,fun D hD=>?_⟩
  refine za7 (zbt (K:=K) (a:=pl) (xs:=bs.map V.ref)) (fun i σ' ys H'=>∃w0 w1,σ' = [w0,w1,some (.ref pp)]/\ys=((L.take i).map fun p=>decide (p.1∈M)).map V.bl/\Same H H'/\H' D=some (.lst ys))
   ⟨none,none,rfl,by simp,Same.new hD,zb⟩ (fun i σ' ys H' h=>?_) (by rw[List.length_map];exact zav (by omega)) ?_ ?_
  ·obtain⟨_,_,_,rfl,q,hd⟩:=h
   refine⟨q.seq hl,hd,?_⟩
   rw[List.length_map,List.length_map,List.length_take]
   omega
  ·rintro i v σ' ys H' hx ⟨w0,w1,rfl,rfl,q,hd⟩
   obtain⟨b,⟨l,r⟩,rfl,hlr,_,hb⟩:=zbe pr hx
   have hix:=zam hx
   refine⟨b,_,rfl,SqT.of (q _ _ hb),rfl,_,_,rfl,_,_,rfl,rfl,?_⟩
   try dsimp only [zr]
   unfold tYes
   dsimp only
   rw[if_pos rfl]
   have g:=DGet.k (k:=Sum.inr l) (q _ _ hm)
   refine⟨_,rfl,_,rfl,pp,_,rfl,g,hd,zcd hix ⟨_,_,rfl,?_,q.upd hD,zb⟩⟩
   rw[List.take_add_one,hlr,List.map_append,List.map_append]
   congr 1
   show [V.bl (valV (dV M tru) (Sum.inr l)).isSome] = [V.bl (decide (l∈M))]
   by_cases c:l∈M
   ·rw[zb0 c,decide_eq_true c];rfl
   ·rw[zeh c,decide_eq_false c];rfl
  rintro σ' ys H1 ⟨w0,w1,rfl,rfl,q,hd⟩
  rw[List.length_map,lb,List.take_length] at hd
  refine⟨D,_,rfl,SqL.of hd,?_⟩
  rw[zm5]
  exact k _ q
def zr7:Sp:=fun vs H Q _=>∃(pd pp:Addr) (ob:Obj) (keys:List Str) (ln:Ln) (ad:Str->Addr) (bs:Str->List Addr) (M:List Str) (u:Str) (r:List Str),vs = [.ref pd,.ref pp]/\Bn H pd ob keys ln ad bs/\H pp=some (.dK (dV M tru))/\keys.length<=63/\(∀k∈keys,(ln k).length<=900)/\
 zej ln keys M=u::r/\∀H',Same H H'->Q (.str u) H'
set_option maxHeartbeats 4000000 in
theorem zja (T:Tx K mg w zh zo zf zj):Has P w K mg base "least_free" ["beneath","placed"] 2 zr7:=by
 refine T.zjh.has sc_least_free (fun vs H Q E h=>?_) (fun f cdv A outer s H vs Q E hr h=>?_)
 ·obtain⟨pd,pp,ob,keys,ln,ad,bs,M,u,r,rfl,_⟩:=h;rfl
 ·obtain⟨pd,pp,ob,keys,ln,ad,bs,M,u,r,rfl,hB,hm,lk,ll,hf,k⟩:=h
  have hu:=zbq hr
  refine⟨_,(zd (zgx (i:=2) (own:=["name"]) (cap:=["placed","beneath"]) (ix:=[1,0]) (osc:=zi (top 15)) rfl sc_least_free.nd rfl rfl rfl ⟨rfl,by decide +kernel,by decide +kernel,by decide +kernel,by decide +kernel⟩ rfl (zbs (pv 0)) (fun _ _ _ _=>zn (i:=0) (show List.Nodup (["name","placed","beneath"]:List Str) by decide +kernel) rfl (Or.inl rfl)) (fun _ _ _ _=>zj3 (PW.pt (zf9 (zhk (zfa hu (pv 0) (pv 1))) (zeb (ze7 (zw (zm6 T) (hr.mono (by decide)) (by rfl) (za (zv hu (pv 2) (pv 0) (fun _ _=>rfl)) (za (pv 1) zc)))))))) (fun _ _ _ _=>(pv 0)))
   (zg (zy (zq (zaf K rfl) (pv 2) ze (fun _ _=>rfl))))),?_⟩
  refine⟨_,rfl,pd,ob,_,rfl,hB.d,fun D hD=>?_⟩
  refine za7 (zd3 (a:=pd) (ob:=ob) (kvs:=dV keys fun k=>.ref (ad k))) (fun i σ' ys H'=>∃w0,σ' = [w0,some (.ref pp),some (.ref pd)]/\ys=((keys.take i).filter fun x=>decide (x ∉ M)&&zey M (ln x)).map V.str/\Same H H'/\H' D=some (.lst ys))
   ⟨none,rfl,by simp,Same.new hD,zb⟩ (fun i σ' ys H' h=>?_) (by rw[List.length_map,zaq];exact zav (by omega)) ?_ ?_
  ·obtain⟨_,_,rfl,q,hd⟩:=h
   refine⟨q _ _ hB.d,hd,?_⟩
   rw[List.length_map]
   exact Nat.le_trans (List.length_filter_le _ _) (by rw[List.length_take];omega)
  ·rintro i v σ' ys H1 hx ⟨w0,rfl,rfl,q,hd⟩
   have hix:=zam hx
   rw[zdh,List.getElem?_map] at hx
   cases eu:keys[i]? with
   | none=>rw[eu] at hx;cases hx
   | some z=>
    rw[eu] at hx
    cases hx
    have hz:z∈keys:=List.mem_of_getElem? eu
    have B1:=hB.same q
    have g:=DGet.k (k:=Sum.inr z) (q _ _ hm)
    have no:∀(H2:Hp),Same H1 H2->(decide (z ∉ M)&&zey M (ln z))=false->∃w0',[some (V.str z),some (V.ref pp),some (V.ref pd)] = [w0',some (.ref pp),some (.ref pd)]/\((keys.take i).filter fun x=>decide (x ∉ M)&&zey M (ln x)).map V.str=((keys.take (i+1)).filter fun x=>decide (x ∉ M)&&zey M (ln x)).map V.str/\Same H H2/\H2 D=some (.lst (((keys.take i).filter fun x=>decide (x ∉ M)&&zey M (ln x)).map V.str)):=fun H2 t e=>by
     refine⟨_,rfl,?_,q.trans t,t _ _ hd⟩
     rw[List.take_add_one,eu,List.filter_append,List.map_append]
     have:(some z).toList.filter (fun x=>decide (x ∉ M)&&zey M (ln x)) = []:=by
      show [z].filter _ = []
      rw[List.filter_cons_of_neg (by rw[e];exact Bool.false_ne_true)]
      rfl
     rw[this,List.map_nil,List.append_nil]
    try dsimp only [zr]
    refine⟨_,rfl,_,rfl,pp,_,rfl,g,_,rfl,?_⟩
    refine ite2 (fun c=>?_) (fun c=>?_)
    ·have c1:z ∉ M:=fun y=>by rw[zb0 y] at c;cases c
     refine⟨_,rfl,_,rfl,pd,_,rfl,B1.get hz,_,rfl,ad z,pp,bs z,ln z,M,rfl,SqL.of (B1.l z hz),B1.e z hz,q _ _ hm,ll z hz,fun H2 t2=>⟨_,rfl,?_⟩⟩
     refine ite2 (fun c2=>?_) (fun c2=>?_)
     ·refine⟨_,rfl,t2 _ _ hd,zcd hix ⟨_,rfl,?_,(q.trans t2).upd hD,zb⟩⟩
      rw[List.take_add_one,eu,List.filter_append,List.map_append]
      congr 1
      have:(some z).toList.filter (fun x=>decide (x ∉ M)&&zey M (ln x)) = [z]:=by
       show [z].filter _ = [z]
       rw[List.filter_cons_of_pos (by rw[decide_eq_true c1,c2];rfl)]
       rfl
      rw[this]
      rfl
     ·have c2:zey M (ln z)=false:=by simpa using c2
      exact⟨t2 _ _ hd,zcd hix (no H2 t2 (by rw[c2,Bool.and_false]))⟩
    ·have c1:z∈M:=Decidable.byContradiction fun y=>by
      rw[zeh y] at c
      exact c rfl
     refine⟨hd,zcd hix (no H1 (Same.refl _) ?_)⟩
     rw[show decide (z ∉ M)=false from decide_eq_false (fun y=>y c1),Bool.false_and]
  rintro σ' ys H1 ⟨w0,rfl,rfl,q,hd⟩
  rw[List.length_map,zaq,List.take_length] at hd
  have hd:H1 D=some (.lst ((zej ln keys M).map V.str)):=hd
  rw[hf] at hd
  try dsimp only [zr]
  exact⟨_,rfl,D,_,_,_,rfl,rfl,SqL.of hd,zod,k _ q⟩
def zqe:Sp:=fun vs H Q _=>∃(p pu pt:Addr) (x y:V) (us:List Str) (ads:List Addr) (ts:List Tie),vs = [.ref p]/\Tel K H p pu pt x y us ads ts/\NoR (za1 ts (ts.zip ads)) (keysOf ts (srt us))/\∀H',Same H H'->Q .non H'
theorem zda (T:Tx K mg w zh zo zf zj):Has P w K mg base "refuse_round" ["telling"] 6 (zqe (K:=K)):=by
 refine T.zf4.has sc_refuse_round (fun vs H Q E h=>?_) (fun f cdv A outer s H vs Q E hr h=>?_)
 ·obtain⟨p,pu,pt,x,y,us,ads,ts,rfl,_⟩:=h;rfl
 ·obtain⟨p,pu,pt,x,y,us,ads,ts,rfl,hT,nr,k⟩:=h
  refine⟨_,(zd (zm (i:=1) sc_refuse_round.nd rfl (Or.inl rfl) (zw (zez T) (hr.mono (by decide)) (by rfl) (za (pv 0) zc)))
   (zg (za6 (zaa (zee K rfl (hu10 hr)) (pv 1) (zal zc) (zag _)) (zg zqw) zad))),?_⟩
  refine⟨_,rfl,p,pu,pt,x,y,us,ads,ts,rfl,hT,fun q rs H1 s1 fq hq lr R=>?_⟩
  have e:rs = []:=Decidable.byContradiction fun z=>by
   obtain⟨s',hs,j,hj,r⟩:=R.nil_iff.mp z
   exact nr s' hs j hj r
  subst e
  try dsimp only [zr]
  refine⟨_,rfl,by decide,fun e he=>?_⟩
  have s2:=Same.new (o:=.lst []) he
  refine⟨q,e,_,rfl,rfl,DEq.nilL (SqL.of (s2 _ _ hq)) (SqL.of zb),_,rfl,iteF ?_⟩
  exact k _ (s1.trans s2)
def zr8:Sp:=fun vs H Q _=>∃(p pu pt:Addr) (x y:V) (us:List Str) (ads:List Addr) (ts:List Tie),vs = [.ref p]/\Tel K H p pu pt x y us ads ts/\NoR (za1 ts (ts.zip ads)) (keysOf ts (srt us))/\
 ∀(q:Addr) (os:List Str) (H':Hp),Same H H'->H q=none->H' q=some (.lst (os.map V.str))->Ord (za1 ts (ts.zip ads)) (keysOf ts (srt us)) os->os.Perm (keysOf ts (srt us))->Q (.ref q) H'
set_option maxHeartbeats 4000000 in
theorem zqf (T:Tx K mg w zh zo zf zj):Has P w K mg base "order" ["telling"] 7 (zr8 (K:=K)):=by
 refine T.zu7.has sc_order (fun vs H Q E h=>?_) (fun f cdv A outer s H vs Q E hr h=>?_)
 ·obtain⟨p,pu,pt,x,y,us,ads,ts,rfl,_⟩:=h;rfl
 ·obtain⟨p,pu,pt,x,y,us,ads,ts,rfl,hT,nr,k⟩:=h
  have hu:=zbq hr
  refine⟨_,(zd (za8 (zw (zda T) (hr.mono (by decide)) (by rfl) (za (pv 0) zc)))
   (zd (zm (i:=1) sc_order.nd rfl (Or.inl rfl) (zw (za5 T) (hr.mono (by decide)) (by rfl) (za (pv 0) zc)))
   (zd (zm (i:=2) sc_order.nd rfl (Or.inl rfl) zbd)
   (zd (zgs PassesOwn.never (zaa zl9 (zac zn3 (by rfl) T.len boot_len (za (pv 2) zc)) (zac zmm (by rfl) T.len boot_len (za (pv 1) zc)) (zag _)) (zg (zbf hu (pv 2) (zw (zja T) (hr.mono (by decide)) (by rfl) (za (pv 1) (za (pv 2) zc))) zb4 rfl)))
   (zg (zy (za2 (zes rfl) (by rfl) T.list PyProof.Rows.boot_list (za (pv 2) zc)))))))),?_⟩
  refine⟨_,rfl,p,pu,pt,x,y,us,ads,ts,rfl,hT,nr,fun H1 s1=>?_⟩
  refine⟨_,rfl,p,pu,pt,x,y,us,ads,ts,rfl,hT.same s1,fun pd ob ad bs H2 s2 fpd hB=>?_⟩
  have cl:=zei (us:=us) (ts:=ts) (ads:=ads) hT.ends
  have lk:=hT.klen
  have kn:=zay (ts:=ts) hT.nd
  have kl:=zou (ts:=ts) hT.nd
  have ll:∀k∈keysOf ts (srt us),(za1 ts (ts.zip ads) k).length<=900:=fun k _=>by
   have h1:=zka (ts:=ts) (z:=ts.zip ads) (k:=k)
   have h2:=hT.tl
   rw[List.length_zip] at h1
   omega
  generalize keysOf ts (srt us)=keys at hB cl lk k nr kn kl ll
  generalize za1 ts (ts.zip ads)=ln at hB cl k nr ll
  have q2:=s1.trans s2
  try dsimp only [zr]
  refine fun pp hpp=>?_
  have s3:=Same.new (o:=.dK []) hpp
  refine⟨fun m σ H'=>∃os,σ = [some (.ref p),some (.ref pd),some (.ref pp)]/\Same H2 H'/\H' pp=some (.dK (dV os tru))/\Ord ln keys os/\m=keys.length-os.length,⟨_,[],rfl,s3,zb,Ord.nil,rfl⟩,?_⟩
  rintro m σ H4 ⟨os,rfl,q4,hp4,O,rfl⟩
  have B4:=hB.same q4
  have lo:=zbm O.nd O.sub
  refine⟨_,rfl,pp,_,rfl,hp4,_,rfl,pd,_,rfl,.inr ⟨_,B4.d⟩,_,_,rfl,rfl,_,rfl,?_⟩
  rw[zaq,zaq]
  refine ite2 (fun c=>?_) (fun c=>?_)
  ·have c:=of_decide_eq_true c
   have hx:∃x∈keys,x ∉ os:=Classical.byContradiction fun hn=>by
    have:=zbm (us:=os) kn fun x hx=>Decidable.byContradiction fun z=>hn ⟨x,hx,z⟩
    omega
   obtain⟨u,r,hu'⟩:∃u r,zej ln keys os=u::r:=by
    cases e:zej ln keys os with
    | nil=>exact absurd e (zrj cl nr hx)
    | cons u r=>exact⟨u,r,rfl⟩
   obtain⟨m1,m2,m3⟩:=frees_mem.mp (show u∈zej ln keys os by rw[hu'];simp)
   refine⟨fun σ' H'=>∃m',m'<keys.length-os.length/\_,fun σ' H' h=>h,?_⟩
   refine⟨_,rfl,_,rfl,_,rfl,pd,pp,ob,keys,ln,ad,bs,os,u,r,rfl,B4,hp4,lk,ll,hu',fun H5 s5=>?_⟩
   refine⟨pp,_,rfl,DPut.k (k:=Sum.inr u) (s5 _ _ hp4) (by rw[zaq];exact zz (by omega)),?_⟩
   rw[zs0 m2]
   refine⟨_,?_,os++[u],rfl,(q4.trans s5).upd hpp,zb,O.snoc kl hu',rfl⟩
   rw[List.length_append]
   show keys.length-(os.length+1)<_
   omega
  ·have c:¬((os.length:Int)<(keys.length:Int)):=fun z=>c (decide_eq_true z)
   have e:os.length=keys.length:=by omega
   refine⟨_,rfl,pp,_,rfl,hp4,fun q hq=>?_⟩
   rw[zdh]
   exact k q os _ (q2.trans (q4.trans (Same.new hq))) ((q2.trans q4).free hq) zb O (O.perm kn e)
def zwu:Sp:=fun vs H Q _=>∃(r:Addr) (t:Tie) (us:List Str),vs = [.ref r]/\H r=some (.tup (tieV t))/\TOk us t/\∀H',Same H H'->Q (.int (zae t)) H'
theorem zhd (T:Tx K mg w zh zo zf zj):Has P w K mg base "gap_of" ["tie"] 1 zwu:=by
 refine T.zsk.has zp5 (fun vs H Q E h=>?_) (fun f cdv A outer s H vs Q E hr h=>?_)
 ·obtain⟨r,t,us,rfl,_⟩:=h;rfl
 ·obtain⟨r,t,us,rfl,hr,tok,k⟩:=h
  refine⟨_,(zg (zy (zqv (zaa zdp (zq (zk K rfl) (pv 0) ze (fun _ _=>rfl)) za0 (zag _)) (zq (zk K rfl) (pv 0) ze (fun _ _=>rfl)) ze))),?_⟩
  refine⟨_,rfl,r,_,_,_,rfl,rfl,SqT.of hr,zgg t,rfl,_,rfl,?_⟩
  refine ite2 (fun c=>?_) (fun c=>?_)
  ·have c:t.k=zmg:=V.str.inj (of_decide_eq_true c)
   exact⟨_,rfl,r,_,_,_,rfl,rfl,SqT.of hr,tok.after c,k _ (Same.refl _)⟩
  ·have c:¬t.k=zmg:=fun z=>c (decide_eq_true (congrArg V.str z))
   have:=k _ (Same.refl H)
   rw[tok.plain c] at this
   exact this
def zqg:Sp:=fun vs H Q _=>∃(p pm pu pt pf:Addr) (lo hi:Int) (us:List Str) (ads:List Addr) (ts:List Tie) (af:List Addr) (fs:List Fnd),vs = [.ref p]/\TelF K H p pm pu pt pf lo hi us ads ts af fs/\
 ∀(pd:Addr) (ob:Obj) (ad:Str->Addr) (H':Hp),Same H H'->H pd=none->Fw H' pd ob (keysOf ts (srt us)) (fwOf ts (fs.zip af)) ad->Q (.ref pd) H'
set_option maxHeartbeats 8000000 in
theorem zdb (T:Tx K mg w zh zo zf zj):Has P w K mg base "finds_within" ["telling"] 4 (zqg (K:=K)):=by
 refine T.zf5.has sc_finds_within (fun vs H Q E h=>?_) (fun f cdv A outer s H vs Q E hr h=>?_)
 ·obtain⟨p,pm,pu,pt,pf,lo,hi,us,ads,ts,af,fs,rfl,_⟩:=h;rfl
 ·obtain⟨p,pm,pu,pt,pf,lo,hi,us,ads,ts,af,fs,rfl,hF,k⟩:=h
  have hu:=zbq hr
  refine⟨_,(zd (zm (i:=1) sc_finds_within.nd rfl (Or.inl rfl) (zw (zcj T) (hr.mono (by decide)) (by rfl) (za (zq (zk K rfl) (pv 0) ze (fun _ _=>rfl)) (za (zq (zk K rfl) (pv 0) ze (fun _ _=>rfl)) zc))))
   (zd (zm (i:=2) sc_finds_within.nd rfl (Or.inl rfl) zbd)
   (zd (zaj PassesOwn.never rfl (zab K rfl (zw (zte T) (hr.mono (by decide)) (by rfl) (za (zq (zk K rfl) (pv 0) ze (fun _ _=>rfl)) (za (zq (zk K rfl) (pv 0) ze (fun _ _=>rfl)) zc)))) (zn (i:=3) sc_finds_within.nd rfl (Or.inl rfl)) (zg (zbf hu (pv 2) (zq (zaf K rfl) (pv 3) ze (fun _ _=>rfl)) (zal zc) rfl)))
   (zd (zaj PassesOwn.never rfl (zab K rfl (zq (zk K rfl) (pv 0) ze (fun _ _=>rfl))) (zn (i:=4) sc_finds_within.nd rfl (Or.inl rfl)) (zg (za8 (zc8 K rfl PySem.F.plainAttrs_list PySem.F.slot_list_append PySem.F.type_list_append za9 (zv hu (pv 2) (zv hu (pv 1) (zq (zk K rfl) (pv 4) ze (fun _ _=>rfl)) (fun _ _=>rfl)) (fun _ _=>rfl)) (za (pv 4) zc)))))
   (zg (zew (zy (pv 2)))))))),?_⟩
  have hts:=hF.tel.ends
  have hfl:=hF.flen
  have fl60:=hF.fl
  have hfu:=hF.fu
  have hff:=hF.f
  have hft:=hF.ft
  obtain⟨hp,hu1,ht1,tp,nd,hl,tl,_⟩:=hF.tel
  have hlen:ads.length=ts.length:=by have:=tp.len;rw[List.length_map] at this;exact this
  refine⟨_,rfl,p,_,_,_,rfl,rfl,hp,rfl,_,rfl,p,_,_,_,rfl,rfl,hp,rfl,pu,pt,us,ads,ts,rfl,hu1,ht1,tp,nd,by omega,hts,fun pn H1 fpn hn s1=>?_⟩
  try dsimp only [zr]
  refine fun pd hpd=>?_
  have s2:=Same.new (o:=.dK []) hpd
  have q2:=s1.trans s2
  refine⟨_,rfl,p,_,_,_,rfl,rfl,q2.tup hp,rfl,_,rfl,p,_,_,_,rfl,rfl,q2.tup hp,rfl,pu,pt,us,ads,ts,rfl,q2.seq hu1,q2.seq ht1,tp.same q2,nd,hl,hts,fun po as H3 fpo fas npo asnd hpo hls s3=>?_⟩
  have hn3:=s3 _ _ (s2 _ _ hn)
  have hd3:=s3 _ _ (zb (H:=H1) (a:=pd) (o:=.dK []))
  have q3:=q2.trans s3
  have fpd:H pd=none:=s1.free hpd
  have npd:pn≠pd:=zp hn hpd
  have lk:as.length=(keysOf ts (srt us)).length:=by have:=Paired.length hls;unfold zcm at this;rw[List.length_map] at this;exact this
  have lk63:(keysOf ts (srt us)).length<=63:=by
   have:=zg1 (us:=us) (ts:=ts) nd
   unfold zcm at this
   rw[List.length_map] at this
   omega
  have hz:∀{i:Nat}{f:Fnd}{r:Addr},fs[i]? = some f->af[i]? = some r->(fs.zip af)[i]? = some (f,r):=fun h1 h2=>List.getElem?_zip_eq_some.mpr ⟨h1,h2⟩
  generalize ek:keysOf ts (srt us)=keys at lk lk63 k
  have knd:keys.Nodup:=ek▸zay nd
  have hgs:zcm us ts=keys.map (zcq ts (srt us)):=by unfold zcm;rw[ek]
  refine⟨po,rfl,⟨_,SqL.of hpo⟩,zah (xs:=as.map V.ref) (fun i σ H'=>∃(v3:Option V) (ad:Str->Addr),σ = [some (.ref p),some (.ref pn),some (.ref pd),v3,none]/\(∀b o,b≠pd->H3 b=some o->H' b=some o)/\
   H' pd=some (.dK (dV (keys.take i) fun k=>.ref (ad k)))/\(∀k∈keys.take i,H' (ad k)=some (.lst [])/\H3 (ad k)=none)/\(∀k∈keys.take i,∀k'∈keys.take i,ad k=ad k'->k=k'))
   ⟨none,fun _=>0,rfl,fun b o _ e=>e,hd3,(fun k hk=>by simp at hk),fun k hk=>by simp at hk⟩ (fun i σ H' _ h=>by obtain⟨_,_,_,q,_⟩:=h;exact SqL.of (q _ _ (zc3 hpo hd3 (by simp)) hpo)) ?_ ?_⟩
  ·rintro i v σ H4 hx ⟨v3,ad,rfl,kp,hd4,hk4,inj⟩
   obtain⟨r,g,rfl,hg,har,hr⟩:=zbe hls hx
   rw[hgs,List.getElem?_map] at hg
   cases eu:keys[i]? with
   | none=>rw[eu] at hg;cases hg
   | some u=>
    rw[eu] at hg
    cases hg
    have hu':u∈keys:=List.mem_of_getElem? eu
    have hi:=zam eu
    have hfr:u ∉ keys.take i:=by
     have:=za4 knd i hi
     rw[show keys[i]=u from (List.getElem?_eq_some_iff.mp eu).2] at this
     exact this
    obtain⟨gr,egr⟩:=zlp (us:=us) (ts:=ts) nd (k:=u) (ek▸hu')
    rw[egr] at hr
    have hr4:=kp _ _ (zc3 hr hd3 (by simp)) hr
    try dsimp only [zr]
    refine⟨by decide,fun q0 hq0=>?_⟩
    have t0:=Same.new (o:=.lst []) hq0
    have hd5:=t0 _ _ hd4
    have nq:pd≠q0:=zp hd4 hq0
    refine⟨_,rfl,_,rfl,r,_,_,_,rfl,rfl,SqL.of (t0 _ _ hr4),zod,pd,_,rfl,DPut.k (k:=Sum.inr u) hd5 (by rw[zaq,List.length_take];exact zz (by omega)),?_⟩
    have fq:H3 q0=none:=by
     cases e:H3 q0 with
     | none=>rfl
     | some o=>rw[kp _ _ (Ne.symm nq) e] at hq0;cases hq0
    refine⟨_,fun z=>if z=u then q0 else ad z,rfl,fun b o n e=>by rw[zl n];exact t0 _ _ (kp b o n e),?_,?_,?_⟩
    ·rw[zb,zdy hfr,List.take_add_one,eu]
     congr 2
     refine zbi fun z hz=>?_
     dsimp only
     by_cases e:z=u
     ·rw[if_pos e,if_pos e]
     ·rw[if_neg e,if_neg e]
    ·intro k hk
     rw[List.take_add_one,eu,List.mem_append] at hk
     dsimp only
     by_cases e:k=u
     ·rw[if_pos e]
      exact⟨by rw[zl (Ne.symm nq),zb],fq⟩
     ·rw[if_neg e]
      have hk':k∈keys.take i:=hk.elim id fun z=>absurd (by simpa using z) e
      obtain⟨h1,h2⟩:=hk4 k hk'
      refine⟨?_,h2⟩
      rw[zl (fun z=>by rw[z,hd4] at h1;cases h1)]
      exact t0 _ _ h1
    ·intro k hk k' hk' e
     rw[List.take_add_one,eu,List.mem_append] at hk hk'
     dsimp only at e
     by_cases c1:k=u<;>by_cases c2:k'=u
     ·rw[c1,c2]
     ·rw[if_pos c1,if_neg c2] at e
      have h2:=(hk4 k' (hk'.elim id fun z=>absurd (by simpa using z) c2)).1
      rw[←e,hq0] at h2
      cases h2
     ·rw[if_neg c1,if_pos c2] at e
      have h2:=(hk4 k (hk.elim id fun z=>absurd (by simpa using z) c1)).1
      rw[e,hq0] at h2
      cases h2
     ·rw[if_neg c1,if_neg c2] at e
      exact inj k (hk.elim id fun z=>absurd (by simpa using z) c1) k' (hk'.elim id fun z=>absurd (by simpa using z) c2) e
  ·rintro σ H4 ⟨v3,ad,rfl,kp,hd4,hk4,inj⟩
   rw[List.length_map,lk,List.take_length] at hd4 hk4 inj
   have sq4:∀{H':Hp},(∀b o,b≠pd->H3 b=some o->H' b=some o)->Same H H':=fun kp' b o e=>kp' b o (zp e fpd) (q3 _ _ e)
   have q4:=sq4 kp
   refine⟨_,rfl,p,_,_,_,rfl,rfl,q4.tup hp,rfl,pf,rfl,⟨_,q4.seq hff⟩,zah (xs:=af.map V.ref) (fun i σ H'=>∃(v4:Option V),σ = [some (.ref p),some (.ref pn),some (.ref pd),v3,v4]/\(∀b o,b≠pd->H3 b=some o->H' b=some o)/\
    H' pd=some (.dK (dV keys fun k=>.ref (ad k)))/\∀k∈keys,H' (ad k)=some (.lst ((fwOf ts ((fs.zip af).take i) k).map fun p=>V.ref p.2)))
    ⟨none,rfl,kp,hd4,fun k hk=>by rw[List.take_zero];exact (hk4 k hk).1⟩ (fun i σ H' _ h=>by obtain⟨_,_,q,_⟩:=h;exact (sq4 q).seq hff) ?_ ?_⟩
   ·rintro i x σ H5 hx ⟨v4,rfl,kp5,hd5,hb5⟩
    obtain⟨r,f,rfl,hf,har,hr⟩:=zdg hft hx
    have q5:=sq4 kp5
    have hr5:=q5 _ _ hr
    have hab:=hfu f (List.mem_of_getElem? hf)
    have hit:=zam hf
    have hzi:=hz hf har
    have g1:=DGet.k (k:=Sum.inr f.u) (kp5 _ _ npd hn3)
    rw[zbz hab] at g1
    have hka:labs ts f.u∈keys:=ek▸zbn hts hab
    have g3:=DGet.k (k:=Sum.inr (labs ts f.u)) hd5
    rw[zb0 hka] at g3
    have hb1:=hb5 _ hka
    have lb:(fwOf ts ((fs.zip af).take i) (labs ts f.u)).length<=60:=by
     have h2:=zpf (ts:=ts) (z:=(fs.zip af).take i) (k:=labs ts f.u)
     rw[List.length_take,List.length_zip] at h2
     omega
    try dsimp only [zr]
    refine⟨_,rfl,_,rfl,_,rfl,r,_,_,_,rfl,rfl,SqT.of hr5,zs4 f,pn,_,rfl,g1,pd,_,rfl,g3,?_⟩
    refine⟨.inl ⟨rfl,_,SqL.of hb1⟩,_,rfl,ad (labs ts f.u),_,_,rfl,rfl,hb1,by rw[List.length_map];exact zz (by omega),?_⟩
    refine⟨_,rfl,fun b o n e=>?_,?_,fun k hk=>?_⟩
    ·rw[zl (fun z=>by rw[z,(hk4 _ hka).2] at e;cases e)]
     exact kp5 b o n e
    ·rw[zl (fun z=>by rw[←z,hd5] at hb1;cases hb1)]
     exact hd5
    ·rw[zug hzi]
     by_cases e:labs ts f.u=k
     ·subst e
      rw[if_pos rfl,zb,List.map_append]
      rfl
     ·rw[if_neg e,List.append_nil,zl (fun z=>e (inj _ hka _ hk z.symm))]
      exact hb5 k hk
   ·rintro σ H5 ⟨v4,rfl,kp5,hd5,hb5⟩
    rw[List.length_map] at hb5
    have ez:(fs.zip af).take af.length=fs.zip af:=List.take_of_length_le (by rw[List.length_zip];omega)
    rw[ez] at hb5
    refine .inr ⟨pd,_,hd5,fun ob=>⟨_,rfl,k pd ob ad _ ?_ fpd ⟨zb,fun k hk=>?_⟩⟩⟩
    ·exact (sq4 kp5).upd fpd
    ·have b1:=hb5 k hk
     rw[zl (fun z=>by rw[z,hd5] at b1;cases b1)]
     exact b1
def zqh:Sp:=fun vs H Q _=>∃(p pm pu pt pf:Addr) (lo hi:Int) (us:List Str) (ads:List Addr) (ts:List Tie) (af:List Addr) (fs:List Fnd),vs = [.ref p]/\TelF K H p pm pu pt pf lo hi us ads ts af fs/\
 ∀(pd:Addr) (ob:Obj) (v:Str->IS) (ad:Str->Addr) (H':Hp),Same H H'->H pd=none->Bd H' pd ob (keysOf ts (srt us)) v ad->(∀k∈keysOf ts (srt us),MaxP (loL lo (fwOf ts (fs.zip af) k)) (v k))->Q (.ref pd) H'
set_option maxHeartbeats 8000000 in
theorem zhe (T:Tx K mg w zh zo zf zj):Has P w K mg base "floors" ["telling"] 5 (zqh (K:=K)):=by
 refine T.zsl.has sc_floors (fun vs H Q E h=>?_) (fun f cdv A outer s H vs Q E hr h=>?_)
 ·obtain⟨p,pm,pu,pt,pf,lo,hi,us,ads,ts,af,fs,rfl,_⟩:=h;rfl
 ·obtain⟨p,pm,pu,pt,pf,lo,hi,us,ads,ts,af,fs,rfl,hF,k⟩:=h
  have hu:=zbq hr
  refine⟨_,(zd (zm (i:=1) sc_floors.nd rfl (Or.inl rfl) (zw (zdb T) (hr.mono (by decide)) (by rfl) (za (pv 0) zc)))
   (zd (zm (i:=2) sc_floors.nd rfl (Or.inl rfl) zbd)
   (zd (zaj PassesOwn.never rfl (zbs (pv 1)) (zn (i:=3) sc_floors.nd rfl (Or.inl rfl)) (zg (zbf hu (pv 2) (pv 3) (zac (zpa (K:=K) rfl rfl hu) (by rfl) T.max PyProof.Rows.boot_max (za (zak ze9 (zal (za (zap (za (zq (zk K rfl) (zq (zk K rfl) (pv 0) ze (fun _ _=>rfl)) ze (fun _ _=>rfl)) (za za0 zc))) zc)) (zbw (own:=["find"]) (cap:=[]) (ix:=[]) (osc:=zi (top 20)) rfl ⟨rfl,by decide +kernel,by decide +kernel,by decide +kernel,by decide +kernel⟩ rfl (zab K rfl (zv hu (pv 1) (pv 3) (fun _ _=>rfl))) (fun _ _ _ _=>zn (i:=0) (show List.Nodup (["find"]:List Str) by decide +kernel) rfl (Or.inl rfl)) (fun _ _ _ _=>zbr) (fun _ _ _ _=>(zap (za (zq (zk K rfl) (pv 0) ze (fun _ _=>rfl)) (za (zq (zk K rfl) (pv 0) ze (fun _ _=>rfl)) zc)))))) zc)) rfl)))
   (zg (zew (zy (pv 2))))))),?_⟩
  have nd:=hF.tel.nd
  have lk:=hF.tel.klen
  have fl60:=hF.fl
  have hft:=hF.ft
  refine⟨_,rfl,p,pm,pu,pt,pf,lo,hi,us,ads,ts,af,fs,rfl,hF,fun pw ow aw H1 s1 fpw hW=>?_⟩
  have knd:=zay (ts:=ts) nd
  have fwl:∀k,(fwOf ts (fs.zip af) k).length<=60:=fun k=>by
   have h2:=zpf (ts:=ts) (z:=fs.zip af) (k:=k)
   rw[List.length_zip] at h2
   omega
  have fwt:∀k,∀q∈fwOf ts (fs.zip af) k,H q.2=some (.tup (fndV q.1)):=fun k q hq=>by
   have:=(List.mem_filter.mp hq).1
   obtain⟨i,hi⟩:=List.mem_iff_getElem?.mp this
   obtain⟨h1,h2⟩:=List.getElem?_zip_eq_some.mp hi
   exact zaz hft h2 (by rw[List.getElem?_map,h1];rfl)
  generalize keysOf ts (srt us)=keys at hW lk k knd
  generalize fwOf ts (fs.zip af)=fw at hW k fwl fwt
  try dsimp only [zr]
  refine fun pd hpd=>?_
  have s2:=Same.new (o:=.dK []) hpd
  refine⟨_,rfl,pw,ow,_,rfl,s2 _ _ hW.d,zch (fun i σ H'=>∃(v3:Option V) (v:Str->IS) (ad:Str->Addr),σ = [some (.ref p),some (.ref pw),some (.ref pd),v3]/\Same H1 H'/\H' pd=some (.dK (dV (keys.take i) fun k=>.ref (ad k)))/\
    ∀k∈keys.take i,H' (ad k)=some (.tup [.int (v k).1,.str (v k).2])/\MaxP (loL lo (fw k)) (v k))
   ⟨none,fun _=>(0,""),fun _=>0,rfl,s2,zb,fun k hk=>by simp at hk⟩ (fun i σ H' _ h=>by obtain⟨_,_,_,_,q,_⟩:=h;exact q _ _ hW.d) ?_ ?_⟩
  ·rintro i kk vv σ H3 hx ⟨v3,v,ad,rfl,q3,hd3,hk3⟩
   obtain⟨u,hu',rfl,_⟩:=zkb hx
   have huk:u∈keys:=List.mem_of_getElem? hu'
   have F3:=hF.same (s1.trans q3)
   have W3:=hW.same q3
   try dsimp only [zr]
   refine⟨_,rfl,p,_,_,_,rfl,rfl,F3.tel.p,rfl,pm,_,_,_,rfl,rfl,F3.m,rfl,(by show 2<=sizeLine;decide),fun b0 hb0=>?_⟩
   have t1:=Same.new (o:=.tup [.int lo,.str ""]) hb0
   refine⟨by show 1<=sizeLine;decide,fun l0 hl0=>?_⟩
   have t2:=Same.new (o:=.lst [.ref b0]) hl0
   have q5:=q3.trans (t1.trans t2)
   have hb5:=t2 _ _ (zb (H:=H3) (a:=b0) (o:=.tup [.int lo,.str ""]))
   have hl5:upd (upd H3 b0 (.tup [.int lo,.str ""])) l0 (.lst [.ref b0]) l0=some (.lst [.ref b0]):=zb
   have e35:=t1.trans t2
   generalize upd (upd H3 b0 (.tup [.int lo,.str ""])) l0 (.lst [.ref b0])=H5 at q5 hb5 hl5 t2 e35
   have W5:=hW.same q5
   have lL:=fwl u
   have tL:=fwt u
   have hlW:=W5.l u huk
   generalize eL:fw u=L at lL tL hlW
   refine⟨_,rfl,_,rfl,pw,_,rfl,zao W5.d huk,aw u,rfl,⟨_,SqL.of hlW⟩,fun D hD=>?_⟩
   refine za7 (zbt (K:=K) (a:=aw u) (xs:=L.map fun p=>V.ref p.2)) (fun i' σ' ys H'=>∃(w0:Option V) (bs:List Addr),σ' = [w0]/\ys=bs.map V.ref/\Paired (fun a (p:IS)=>H' a=some (.tup [.int p.1,.str p.2])) bs ((L.take i').map fun p=>(p.1.lo,p.1.n))/\Same H5 H'/\H' D=some (.lst ys))
    ⟨none,[],rfl,rfl,.nil,Same.new hD,zb⟩ (fun i' σ' ys H' h=>?_) (by rw[List.length_map];exact zav (by omega)) ?_ ?_
   ·obtain⟨_,bs,_,rfl,pb,q,hd⟩:=h
    refine⟨SqL.of (q _ _ hlW),hd,?_⟩
    have:=Paired.length pb
    rw[List.length_map,List.length_take] at this
    rw[List.length_map]
    omega
   ·rintro i' v' σ' ys H' hx ⟨w0,bs,rfl,rfl,pb,q,hd⟩
    have hix:=zam hx
    rw[List.getElem?_map] at hx
    cases ef:L[i']? with
    | none=>rw[ef] at hx;cases hx
    | some f=>
     rw[ef] at hx
     cases hx
     have hf:=q _ _ (q5 _ _ (s1 _ _ (tL f (List.mem_of_getElem? ef))))
     try dsimp only [zr]
     unfold tYes
     dsimp only
     rw[if_pos rfl]
     refine⟨_,rfl,f.2,_,_,_,rfl,rfl,SqT.of hf,zs5 f.1,_,rfl,f.2,_,_,_,rfl,rfl,SqT.of hf,zs3 f.1,(by show 2<=sizeLine;decide),fun b1 hb1=>?_⟩
     have w1:=Same.new (o:=.tup [.int f.1.lo,.str f.1.n]) hb1
     have hd1:=w1 _ _ hd
     refine⟨hd1,zcd hix ⟨_,bs++[b1],rfl,by rw[List.map_append];rfl,?_,(q.trans w1).upd hD,zb⟩⟩
     rw[List.take_add_one,ef,List.map_append]
     exact Paired.snoc (Paired.mapP pb fun a z e=>zaw hd1 _ _ (w1 _ _ e)) (zaw hd1 _ _ zb)
   rintro σ' ys H6 ⟨w0,bs,rfl,rfl,pb,t6,hd6⟩
   rw[List.length_map,List.take_length] at pb
   have lb:=Paired.length pb
   rw[List.length_map] at lb
   have hl6:=t6 _ _ hl5
   refine⟨l0,D,_,_,rfl,rfl,hl6,hd6,by rw[List.length_map];exact zav (show 1+_<=1000 by omega),fun l hl=>?_⟩
   have t7:=Same.new (o:=.lst ([V.ref b0]++bs.map V.ref)) hl
   have pr:Paired (fun a (p:IS)=>H6 a=some (.tup [.int p.1,.str p.2])) (b0::bs) (loL lo L):=.cons (t6 _ _ hb5) pb
   have pr7:=Paired.mapP pr fun a z e=>t7 _ _ e
   refine⟨l,b0::bs,loL lo L,rfl,SqL.of zb,Paired.mapP pr7 fun a z e=>SqT.of e,by unfold loL;simp,fun j a m ha hm hmax=>?_⟩
   have ham:=zaz pr7 ha hm
   have q7:=q5.trans (t6.trans t7)
   have e37:=e35.trans (t6.trans t7)
   have hd7:=e37 _ _ hd3
   have hfr:u ∉ keys.take i:=by
    have hi:=zam hu'
    have:=za4 knd i hi
    rw[show keys[i]=u from (List.getElem?_eq_some_iff.mp hu').2] at this
    exact this
   refine⟨_,rfl,_,rfl,pd,_,rfl,DPut.k (k:=Sum.inr u) hd7 (by rw[zaq,List.length_take];exact zz (by omega)),?_⟩
   have tst:∀b vs,upd H6 l (.lst ([V.ref b0]++bs.map V.ref)) b=some (.tup vs)->upd (upd H6 l (.lst ([V.ref b0]++bs.map V.ref))) pd (.dK (putK (dV (keys.take i) fun k=>.ref (ad k)) (Sum.inr u) (.ref a))) b=some (.tup vs):=fun b vs e=>by
    rw[zl (zc3 e hd7 (by intro z;cases z))]
    exact e
   refine⟨_,fun z=>if z=u then m else v z,fun z=>if z=u then a else ad z,rfl,q7.upd hpd,?_,fun k hk=>?_⟩
   ·rw[zb,zdy hfr,List.take_add_one,hu']
    congr 2
    refine zbi fun z hz=>?_
    try dsimp only
    by_cases e:z=u
    ·rw[if_pos e,if_pos e]
    ·rw[if_neg e,if_neg e]
   ·rw[List.take_add_one,hu',List.mem_append] at hk
    try dsimp only
    by_cases e:k=u
    ·rw[if_pos e,if_pos e]
     refine⟨tst _ _ ham,?_⟩
     rw[e,eL]
     exact⟨List.mem_of_getElem? hm,hmax⟩
    ·rw[if_neg e,if_neg e]
     obtain⟨h1,h2⟩:=hk3 k (hk.elim id fun z=>absurd (by simpa using z) e)
     exact⟨tst _ _ (e37 _ _ h1),h2⟩
  ·rintro σ H3 ⟨v3,v,ad,rfl,q3,hd3,hk3⟩
   rw[zaq,List.take_length] at hd3 hk3
   refine .inr ⟨pd,_,hd3,fun ob=>⟨_,rfl,k pd ob v ad _ ((s1.trans q3).upd (s1.free hpd)) (s1.free hpd) ⟨zb,fun k hk=>?_⟩ fun k hk=>(hk3 k hk).2⟩⟩
   have b1:=(hk3 k hk).1
   rw[zl (fun z=>by rw[z,hd3] at b1;cases b1)]
   exact b1
def zu4:Sp:=fun vs H Q _=>∃(p pm pu pt pf:Addr) (lo hi:Int) (us:List Str) (ads:List Addr) (ts:List Tie) (af:List Addr) (fs:List Fnd),vs = [.ref p]/\TelF K H p pm pu pt pf lo hi us ads ts af fs/\
 ∀(pd:Addr) (ob:Obj) (v:Str->IS) (ad:Str->Addr) (H':Hp),Same H H'->H pd=none->Bd H' pd ob (keysOf ts (srt us)) v ad->(∀k∈keysOf ts (srt us),MinP (hiL hi (fwOf ts (fs.zip af) k)) (v k))->Q (.ref pd) H'
set_option maxHeartbeats 8000000 in
theorem zeq (T:Tx K mg w zh zo zf zj):Has P w K mg base "ceilings" ["telling"] 5 (zu4 (K:=K)):=by
 refine T.znc.has sc_ceilings (fun vs H Q E h=>?_) (fun f cdv A outer s H vs Q E hr h=>?_)
 ·obtain⟨p,pm,pu,pt,pf,lo,hi,us,ads,ts,af,fs,rfl,_⟩:=h;rfl
 ·obtain⟨p,pm,pu,pt,pf,lo,hi,us,ads,ts,af,fs,rfl,hF,k⟩:=h
  have hu:=zbq hr
  refine⟨_,(zd (zm (i:=1) sc_ceilings.nd rfl (Or.inl rfl) (zw (zdb T) (hr.mono (by decide)) (by rfl) (za (pv 0) zc)))
   (zd (zm (i:=2) sc_ceilings.nd rfl (Or.inl rfl) zbd)
   (zd (zaj PassesOwn.never rfl (zbs (pv 1)) (zn (i:=3) sc_ceilings.nd rfl (Or.inl rfl)) (zg (zbf hu (pv 2) (pv 3) (zac (zpc (K:=K) rfl rfl hu) (by rfl) T.min PyProof.Rows.boot_min (za (zak ze9 (zal (za (zap (za (zq (zk K rfl) (zq (zk K rfl) (pv 0) ze (fun _ _=>rfl)) ze (fun _ _=>rfl)) (za za0 zc))) zc)) (zbw (own:=["find"]) (cap:=[]) (ix:=[]) (osc:=zi (top 21)) rfl ⟨rfl,by decide +kernel,by decide +kernel,by decide +kernel,by decide +kernel⟩ rfl (zab K rfl (zv hu (pv 1) (pv 3) (fun _ _=>rfl))) (fun _ _ _ _=>zn (i:=0) (show List.Nodup (["find"]:List Str) by decide +kernel) rfl (Or.inl rfl)) (fun _ _ _ _=>zbr) (fun _ _ _ _=>(zap (za (zq (zk K rfl) (pv 0) ze (fun _ _=>rfl)) (za (zq (zk K rfl) (pv 0) ze (fun _ _=>rfl)) zc)))))) zc)) rfl)))
   (zg (zew (zy (pv 2))))))),?_⟩
  have nd:=hF.tel.nd
  have lk:=hF.tel.klen
  have fl60:=hF.fl
  have hft:=hF.ft
  refine⟨_,rfl,p,pm,pu,pt,pf,lo,hi,us,ads,ts,af,fs,rfl,hF,fun pw ow aw H1 s1 fpw hW=>?_⟩
  have knd:=zay (ts:=ts) nd
  have fwl:∀k,(fwOf ts (fs.zip af) k).length<=60:=fun k=>by
   have h2:=zpf (ts:=ts) (z:=fs.zip af) (k:=k)
   rw[List.length_zip] at h2
   omega
  have fwt:∀k,∀q∈fwOf ts (fs.zip af) k,H q.2=some (.tup (fndV q.1)):=fun k q hq=>by
   have:=(List.mem_filter.mp hq).1
   obtain⟨i,hi⟩:=List.mem_iff_getElem?.mp this
   obtain⟨h1,h2⟩:=List.getElem?_zip_eq_some.mp hi
   exact zaz hft h2 (by rw[List.getElem?_map,h1];rfl)
  generalize keysOf ts (srt us)=keys at hW lk k knd
  generalize fwOf ts (fs.zip af)=fw at hW k fwl fwt
  try dsimp only [zr]
  refine fun pd hpd=>?_
  have s2:=Same.new (o:=.dK []) hpd
  refine⟨_,rfl,pw,ow,_,rfl,s2 _ _ hW.d,zch (fun i σ H'=>∃(v3:Option V) (v:Str->IS) (ad:Str->Addr),σ = [some (.ref p),some (.ref pw),some (.ref pd),v3]/\Same H1 H'/\H' pd=some (.dK (dV (keys.take i) fun k=>.ref (ad k)))/\
    ∀k∈keys.take i,H' (ad k)=some (.tup [.int (v k).1,.str (v k).2])/\MinP (hiL hi (fw k)) (v k))
   ⟨none,fun _=>(0,""),fun _=>0,rfl,s2,zb,fun k hk=>by simp at hk⟩ (fun i σ H' _ h=>by obtain⟨_,_,_,_,q,_⟩:=h;exact q _ _ hW.d) ?_ ?_⟩
  ·rintro i kk vv σ H3 hx ⟨v3,v,ad,rfl,q3,hd3,hk3⟩
   obtain⟨u,hu',rfl,_⟩:=zkb hx
   have huk:u∈keys:=List.mem_of_getElem? hu'
   have F3:=hF.same (s1.trans q3)
   have W3:=hW.same q3
   try dsimp only [zr]
   refine⟨_,rfl,p,_,_,_,rfl,rfl,F3.tel.p,rfl,pm,_,_,_,rfl,rfl,F3.m,rfl,(by show 2<=sizeLine;decide),fun b0 hb0=>?_⟩
   have t1:=Same.new (o:=.tup [.int hi,.str ""]) hb0
   refine⟨by show 1<=sizeLine;decide,fun l0 hl0=>?_⟩
   have t2:=Same.new (o:=.lst [.ref b0]) hl0
   have q5:=q3.trans (t1.trans t2)
   have hb5:=t2 _ _ (zb (H:=H3) (a:=b0) (o:=.tup [.int hi,.str ""]))
   have hl5:upd (upd H3 b0 (.tup [.int hi,.str ""])) l0 (.lst [.ref b0]) l0=some (.lst [.ref b0]):=zb
   have e35:=t1.trans t2
   generalize upd (upd H3 b0 (.tup [.int hi,.str ""])) l0 (.lst [.ref b0])=H5 at q5 hb5 hl5 t2 e35
   have W5:=hW.same q5
   have lL:=fwl u
   have tL:=fwt u
   have hlW:=W5.l u huk
   generalize eL:fw u=L at lL tL hlW
   refine⟨_,rfl,_,rfl,pw,_,rfl,zao W5.d huk,aw u,rfl,⟨_,SqL.of hlW⟩,fun D hD=>?_⟩
   refine za7 (zbt (K:=K) (a:=aw u) (xs:=L.map fun p=>V.ref p.2)) (fun i' σ' ys H'=>∃(w0:Option V) (bs:List Addr),σ' = [w0]/\ys=bs.map V.ref/\Paired (fun a (p:IS)=>H' a=some (.tup [.int p.1,.str p.2])) bs ((L.take i').map fun p=>(p.1.hi,p.1.n))/\Same H5 H'/\H' D=some (.lst ys))
    ⟨none,[],rfl,rfl,.nil,Same.new hD,zb⟩ (fun i' σ' ys H' h=>?_) (by rw[List.length_map];exact zav (by omega)) ?_ ?_
   ·obtain⟨_,bs,_,rfl,pb,q,hd⟩:=h
    refine⟨SqL.of (q _ _ hlW),hd,?_⟩
    have:=Paired.length pb
    rw[List.length_map,List.length_take] at this
    rw[List.length_map]
    omega
   ·rintro i' v' σ' ys H' hx ⟨w0,bs,rfl,rfl,pb,q,hd⟩
    have hix:=zam hx
    rw[List.getElem?_map] at hx
    cases ef:L[i']? with
    | none=>rw[ef] at hx;cases hx
    | some f=>
     rw[ef] at hx
     cases hx
     have hf:=q _ _ (q5 _ _ (s1 _ _ (tL f (List.mem_of_getElem? ef))))
     try dsimp only [zr]
     unfold tYes
     dsimp only
     rw[if_pos rfl]
     refine⟨_,rfl,f.2,_,_,_,rfl,rfl,SqT.of hf,zs6 f.1,_,rfl,f.2,_,_,_,rfl,rfl,SqT.of hf,zs3 f.1,(by show 2<=sizeLine;decide),fun b1 hb1=>?_⟩
     have w1:=Same.new (o:=.tup [.int f.1.hi,.str f.1.n]) hb1
     have hd1:=w1 _ _ hd
     refine⟨hd1,zcd hix ⟨_,bs++[b1],rfl,by rw[List.map_append];rfl,?_,(q.trans w1).upd hD,zb⟩⟩
     rw[List.take_add_one,ef,List.map_append]
     exact Paired.snoc (Paired.mapP pb fun a z e=>zaw hd1 _ _ (w1 _ _ e)) (zaw hd1 _ _ zb)
   rintro σ' ys H6 ⟨w0,bs,rfl,rfl,pb,t6,hd6⟩
   rw[List.length_map,List.take_length] at pb
   have lb:=Paired.length pb
   rw[List.length_map] at lb
   have hl6:=t6 _ _ hl5
   refine⟨l0,D,_,_,rfl,rfl,hl6,hd6,by rw[List.length_map];exact zav (show 1+_<=1000 by omega),fun l hl=>?_⟩
   have t7:=Same.new (o:=.lst ([V.ref b0]++bs.map V.ref)) hl
   have pr:Paired (fun a (p:IS)=>H6 a=some (.tup [.int p.1,.str p.2])) (b0::bs) (hiL hi L):=.cons (t6 _ _ hb5) pb
   have pr7:=Paired.mapP pr fun a z e=>t7 _ _ e
   refine⟨l,b0::bs,hiL hi L,rfl,SqL.of zb,Paired.mapP pr7 fun a z e=>SqT.of e,by unfold hiL;simp,fun j a m ha hm hmax=>?_⟩
   have ham:=zaz pr7 ha hm
   have q7:=q5.trans (t6.trans t7)
   have e37:=e35.trans (t6.trans t7)
   have hd7:=e37 _ _ hd3
   have hfr:u ∉ keys.take i:=by
    have hi:=zam hu'
    have:=za4 knd i hi
    rw[show keys[i]=u from (List.getElem?_eq_some_iff.mp hu').2] at this
    exact this
   refine⟨_,rfl,_,rfl,pd,_,rfl,DPut.k (k:=Sum.inr u) hd7 (by rw[zaq,List.length_take];exact zz (by omega)),?_⟩
   have tst:∀b vs,upd H6 l (.lst ([V.ref b0]++bs.map V.ref)) b=some (.tup vs)->upd (upd H6 l (.lst ([V.ref b0]++bs.map V.ref))) pd (.dK (putK (dV (keys.take i) fun k=>.ref (ad k)) (Sum.inr u) (.ref a))) b=some (.tup vs):=fun b vs e=>by
    rw[zl (zc3 e hd7 (by intro z;cases z))]
    exact e
   refine⟨_,fun z=>if z=u then m else v z,fun z=>if z=u then a else ad z,rfl,q7.upd hpd,?_,fun k hk=>?_⟩
   ·rw[zb,zdy hfr,List.take_add_one,hu']
    congr 2
    refine zbi fun z hz=>?_
    try dsimp only
    by_cases e:z=u
    ·rw[if_pos e,if_pos e]
    ·rw[if_neg e,if_neg e]
   ·rw[List.take_add_one,hu',List.mem_append] at hk
    try dsimp only
    by_cases e:k=u
    ·rw[if_pos e,if_pos e]
     refine⟨tst _ _ ham,?_⟩
     rw[e,eL]
     exact⟨List.mem_of_getElem? hm,hmax⟩
    ·rw[if_neg e,if_neg e]
     obtain⟨h1,h2⟩:=hk3 k (hk.elim id fun z=>absurd (by simpa using z) e)
     exact⟨tst _ _ (e37 _ _ h1),h2⟩
  ·rintro σ H3 ⟨v3,v,ad,rfl,q3,hd3,hk3⟩
   rw[zaq,List.take_length] at hd3 hk3
   refine .inr ⟨pd,_,hd3,fun ob=>⟨_,rfl,k pd ob v ad _ ((s1.trans q3).upd (s1.free hpd)) (s1.free hpd) ⟨zb,fun k hk=>?_⟩ fun k hk=>(hk3 k hk).2⟩⟩
   have b1:=(hk3 k hk).1
   rw[zl (fun z=>by rw[z,hd3] at b1;cases b1)]
   exact b1
def zr9:Sp:=fun vs H Q _=>∃(pl py:Addr) (oy:Obj) (bs:List Addr) (L:List (Str×Addr)) (tL:List Tie) (us keys:List Str) (yr:Str->Int) (nm:Str),vs = [.ref pl,.ref py,.str nm]/\SqL K H pl (bs.map V.ref)/\Paired (fun b (p:Str×Addr)=>H b=some (.tup [.str p.1,.ref p.2])) bs L/\
 Paired (fun (p:Str×Addr) (t:Tie)=>H p.2=some (.tup (tieV t))/\TOk us t) L tL/\(∀p∈L,p.1∈keys)/\nm∈keys/\YrAt H py oy keys yr/\L.length<=900/\∀H',Same H H'->Q (.bl (zmu yr nm (L.zip tL))) H'
set_option maxHeartbeats 8000000 in
theorem zjb (T:Tx K mg w zh zo zf zj):Has P w K mg base "keeps_ties" ["lowers","years","name"] 2 (zr9 (K:=K)):=by
 refine T.zji.has zhb (fun vs H Q E h=>?_) (fun f cdv A outer s H vs Q E hr h=>?_)
 ·obtain⟨pl,py,oy,bs,L,tL,us,keys,yr,nm,rfl,_⟩:=h;rfl
 ·obtain⟨pl,py,oy,bs,L,tL,us,keys,yr,nm,rfl,hl,pb,pt,hk,hn,hy,lL,k⟩:=h
  have hu:=zbq hr
  refine⟨_,(zg (zy (zac (zc0 K rfl rfl) (by rfl) T.all PyProof.Rows.boot_all (za (zbw (own:=["lower","tie"]) (cap:=["years","name"]) (ix:=[1,2]) (osc:=zi (top 34)) rfl ⟨rfl,by decide +kernel,by decide +kernel,by decide +kernel,by decide +kernel⟩ rfl (zab K rfl (pv 0)) (fun _ _ _ _=>zcc (n:=2) K rfl rfl (zan (zn (i:=0) (show List.Nodup (["lower","tie","years","name"]:List Str) by decide +kernel) rfl (Or.inl rfl)) (zan (zn (i:=1) (show List.Nodup (["lower","tie","years","name"]:List Str) by decide +kernel) rfl (Or.inl rfl)) zb9))) (fun _ _ _ _=>zbr) (fun _ _ _ _=>(zjv zw7 (zv hu (pv 2) (pv 3) (fun _ _=>rfl)) (zak zba (zv hu (pv 2) (pv 0) (fun _ _=>rfl)) (zw (zhd T) (hr.mono (by decide)) (by rfl) (za (pv 1) zc))) (zag _)))) zc)))),?_⟩
  have lb:bs.length=L.length:=Paired.length pb
  have lt:L.length=tL.length:=Paired.length pt
  have lz:(L.zip tL).length=L.length:=by rw[List.length_zip];omega
  refine⟨_,rfl,pl,rfl,⟨_,hl⟩,fun D hD=>?_⟩
  refine za7 (zbt (K:=K) (a:=pl) (xs:=bs.map V.ref)) (fun i σ' ys H'=>∃w0 w1,σ' = [w0,w1,some (.ref py),some (.str nm)]/\ys=(((L.zip tL).take i).map fun q=>decide (yr q.1.1+zae q.2<=yr nm)).map V.bl/\Same H H'/\H' D=some (.lst ys))
   ⟨none,none,rfl,by simp,Same.new hD,zb⟩ (fun i σ' ys H' h=>?_) (by rw[List.length_map];exact zav (by omega)) ?_ ?_
  ·obtain⟨_,_,_,rfl,q,hd⟩:=h
   refine⟨q.seq hl,hd,?_⟩
   rw[List.length_map,List.length_map,List.length_take]
   omega
  ·rintro i v σ' ys H' hx ⟨w0,w1,rfl,rfl,q,hd⟩
   obtain⟨b,⟨l,r⟩,rfl,hlr,_,hb⟩:=zbe pb hx
   have hix:=zam hx
   have hil:=zam hlr
   have ht:tL[i]? = some tL[i]:=List.getElem?_eq_getElem (by omega)
   obtain⟨hr,tok⟩:=zaz pt hlr ht
   have hz:(L.zip tL)[i]? = some ((l,r),tL[i]):=List.getElem?_zip_eq_some.mpr ⟨hlr,ht⟩
   generalize tL[i]=t at ht hr tok hz
   have hlk:=hk (l,r) (List.mem_of_getElem? hlr)
   have hy':=q _ _ hy
   refine⟨b,_,rfl,SqT.of (q _ _ hb),rfl,_,_,rfl,_,_,rfl,rfl,?_⟩
   try dsimp only [zr]
   unfold tYes
   dsimp only
   rw[if_pos rfl]
   refine⟨_,rfl,_,rfl,py,_,rfl,zao hy' hn,_,rfl,_,rfl,py,_,rfl,zao hy' hlk,_,rfl,r,t,us,rfl,q _ _ hr,tok,fun H2 s2=>?_⟩
   refine⟨_,_,rfl,rfl,_,_,rfl,rfl,s2 _ _ hd,zcd hix ⟨_,_,rfl,?_,(q.trans s2).upd hD,zb⟩⟩
   rw[List.take_add_one,hz,List.map_append,List.map_append]
   rfl
  rintro σ' ys H1 ⟨w0,w1,rfl,rfl,q,hd⟩
  rw[List.length_map,lb,←lz,List.take_length] at hd
  refine⟨D,_,rfl,SqL.of hd,?_⟩
  rw[zg6]
  exact k _ q
def zqi:Sp:=fun vs H Q _=>∃(p pm pu pt pf:Addr) (lo hi:Int) (us:List Str) (ads:List Addr) (ts:List Tie) (af:List Addr) (fs:List Fnd) (py:Addr) (oy:Obj) (yr:Str->Int),vs = [.ref p,.ref py]/\TelF K H p pm pu pt pf lo hi us ads ts af fs/\YrAt H py oy (keysOf ts (srt us)) yr/\
 ∀H',Same H H'->Q (.bl ((keysOf ts (srt us)).all fun k=>inB lo hi (fwOf ts (fs.zip af) k) (yr k))) H'
set_option maxHeartbeats 8000000 in
theorem zfo (T:Tx K mg w zh zo zf zj):Has P w K mg base "lie_in_bounds" ["telling","years"] 6 (zqi (K:=K)):=by
 refine T.zft.has sc_lie_in_bounds (fun vs H Q E h=>?_) (fun f cdv A outer s H vs Q E hr h=>?_)
 ·obtain⟨p,pm,pu,pt,pf,lo,hi,us,ads,ts,af,fs,py,oy,yr,rfl,_⟩:=h;rfl
 ·obtain⟨p,pm,pu,pt,pf,lo,hi,us,ads,ts,af,fs,py,oy,yr,rfl,hF,hy,k⟩:=h
  have hu:=zbq hr
  refine⟨_,(zd (zm (i:=2) sc_lie_in_bounds.nd rfl (Or.inr rfl) (zw (zhe T) (hr.mono (by decide)) (by rfl) (za (pv 0) zc)))
   (zd (zm (i:=3) sc_lie_in_bounds.nd rfl (Or.inr rfl) (zw (zeq T) (hr.mono (by decide)) (by rfl) (za (pv 0) zc)))
   (zg (zy (zac (zc0 K rfl rfl) (by rfl) T.all PyProof.Rows.boot_all (za (zbw (own:=["name"]) (cap:=["years","starts","ends"]) (ix:=[1,2,3]) (osc:=zi (top 33)) rfl ⟨rfl,by decide +kernel,by decide +kernel,by decide +kernel,by decide +kernel⟩ rfl (zbs (pv 1)) (fun _ _ _ _=>zn (i:=0) (show List.Nodup (["name","years","starts","ends"]:List Str) by decide +kernel) rfl (Or.inl rfl)) (fun _ _ _ _=>zbr) (fun _ _ _ _=>(zqz zhm zhm (zq (zk K rfl) (zv hu (pv 2) (pv 0) (fun _ _=>rfl)) ze (fun _ _=>rfl)) (zv hu (pv 1) (pv 0) (fun _ _=>rfl)) (zq (zk K rfl) (zv hu (pv 3) (pv 0) (fun _ _=>rfl)) ze (fun _ _=>rfl))))) zc)))))),?_⟩
  have lk:=hF.tel.klen
  refine⟨_,rfl,p,pm,pu,pt,pf,lo,hi,us,ads,ts,af,fs,rfl,hF,fun ps os vs as' H1 s1 fps hS hmx=>?_⟩
  try dsimp only [zr]
  refine⟨_,rfl,p,pm,pu,pt,pf,lo,hi,us,ads,ts,af,fs,rfl,hF.same s1,fun pe oe ve ae H2 s2 fpe hE hmn=>?_⟩
  have hin:∀k∈keysOf ts (srt us),(decide ((vs k).1<=yr k)&&decide (yr k<=(ve k).1))=inB lo hi (fwOf ts (fs.zip af) k) (yr k):=fun k hk=>zwc (hmx k hk) (hmn k hk) (yr k)
  generalize keysOf ts (srt us)=keys at hy lk hS hE hin k
  have q2:=s1.trans s2
  have hy2:H2 py=some (.frz oy (.dK (dV keys fun k=>.int (yr k)))):=q2 _ _ hy
  have S2:=hS.same s2
  try dsimp only [zr]
  refine⟨_,rfl,py,oy,_,rfl,hy2,fun D hD=>?_⟩
  refine za7 (zd3 (a:=py) (ob:=oy) (kvs:=dV keys fun k=>.int (yr k))) (fun i σ' ys H'=>∃w0,σ' = [w0,some (.ref py),some (.ref ps),some (.ref pe)]/\ys=((keys.take i).map fun k=>inB lo hi (fwOf ts (fs.zip af) k) (yr k)).map V.bl/\Same H2 H'/\H' D=some (.lst ys))
   ⟨none,rfl,by simp,Same.new hD,zb⟩ (fun i σ' ys H' h=>?_) (by rw[List.length_map,zaq];exact zav (by omega)) ?_ ?_
  ·obtain⟨_,_,rfl,q,hd⟩:=h
   refine⟨q _ _ hy2,hd,?_⟩
   rw[List.length_map,List.length_map,List.length_take]
   omega
  ·rintro i v σ' ys H3 hx ⟨w0,rfl,rfl,q,hd⟩
   have hix:=zam hx
   rw[zdh,List.getElem?_map] at hx
   cases eu:keys[i]? with
   | none=>rw[eu] at hx;cases hx
   | some u=>
    rw[eu] at hx
    cases hx
    have huk:u∈keys:=List.mem_of_getElem? eu
    have S3:=S2.same q
    have E3:=hE.same q
    have hy3:=q _ _ hy2
    try dsimp only [zr]
    unfold tYes
    dsimp only
    rw[if_pos rfl]
    refine⟨_,rfl,_,rfl,ps,_,rfl,zao S3.d huk,as' u,_,_,_,rfl,rfl,SqT.of (S3.e u huk),rfl,_,rfl,_,rfl,py,_,rfl,zao hy3 huk,?_⟩
    have ex:=hin u huk
    have fin:∀b:Bool,b=inB lo hi (fwOf ts (fs.zip af) u) (yr u)->∃w0_1,[some (V.str u),some (V.ref py),some (V.ref ps),some (V.ref pe)] = [w0_1,some (V.ref py),some (V.ref ps),some (V.ref pe)]/\
      ((keys.take i).map fun k=>inB lo hi (fwOf ts (fs.zip af) k) (yr k)).map V.bl++[V.bl b]=((keys.take (i+1)).map fun k=>inB lo hi (fwOf ts (fs.zip af) k) (yr k)).map V.bl/\
      Same H2 (upd H3 D (.lst (((keys.take i).map fun k=>inB lo hi (fwOf ts (fs.zip af) k) (yr k)).map V.bl++[V.bl b])))/\upd H3 D (.lst (((keys.take i).map fun k=>inB lo hi (fwOf ts (fs.zip af) k) (yr k)).map V.bl++[V.bl b])) D=some (.lst (((keys.take i).map fun k=>inB lo hi (fwOf ts (fs.zip af) k) (yr k)).map V.bl++[V.bl b])):=fun b e=>by
     refine⟨_,rfl,?_,q.upd hD,zb⟩
     rw[List.take_add_one,eu,List.map_append,List.map_append,e]
     rfl
    refine⟨_,_,rfl,rfl,_,rfl,?_⟩
    refine ite2 (fun c=>?_) (fun c=>?_)
    ·refine⟨_,rfl,_,rfl,pe,_,rfl,zao E3.d huk,ae u,_,_,_,rfl,rfl,SqT.of (E3.e u huk),rfl,_,_,rfl,rfl,hd,zcd hix (fin _ ?_)⟩
     rw[c,Bool.true_and] at ex
     exact ex
    ·refine⟨hd,zcd hix (fin _ ?_)⟩
     have c:decide ((vs u).1<=yr u)=false:=by simpa using c
     rw[c,Bool.false_and] at ex
     exact ex
  rintro σ' ys H3 ⟨w0,rfl,rfl,q,hd⟩
  rw[List.length_map,zaq,List.take_length] at hd
  refine⟨D,_,rfl,SqL.of hd,?_⟩
  rw[zg6]
  exact k _ (q2.trans q)
def zqj:Sp:=fun vs H Q _=>∃(p pm pu pt pf:Addr) (lo hi:Int) (us:List Str) (ads:List Addr) (ts:List Tie) (af:List Addr) (fs:List Fnd) (pp:Addr) (ap:List Addr) (yr:Str->Int),vs = [.ref p,.ref pp]/\TelF K H p pm pu pt pf lo hi us ads ts af fs/\SqL K H pp (ap.map V.ref)/\Paired (fun a k=>SqT K H a [.str k,.int (yr k)]) ap (keysOf ts (srt us))/\
 ∀H',Same H H'->Q (.bl (((keysOf ts (srt us)).all fun k=>inB lo hi (fwOf ts (fs.zip af) k) (yr k))&&(keysOf ts (srt us)).all fun k=>zmu yr k ((za1 ts (ts.zip ads) k).zip (lnkT ts (ts.zip ads) k)))) H'
set_option maxHeartbeats 8000000 in
theorem zku (T:Tx K mg w zh zo zf zj):Has P w K mg base "is_dating" ["telling","pairs"] 7 (zqj (K:=K)):=by
 refine T.zk3.has sc_is_dating (fun vs H Q E h=>?_) (fun f cdv A outer s H vs Q E hr h=>?_)
 ·obtain⟨p,pm,pu,pt,pf,lo,hi,us,ads,ts,af,fs,pp,ap,yr,rfl,_⟩:=h;rfl
 ·obtain⟨p,pm,pu,pt,pf,lo,hi,us,ads,ts,af,fs,pp,ap,yr,rfl,hF,hpp,pr,k⟩:=h
  have hu:=zbq hr
  refine⟨_,(zd (zm (i:=2) sc_is_dating.nd rfl (Or.inr rfl) (zw (za5 T) (hr.mono (by decide)) (by rfl) (za (pv 0) zc)))
   (zd (za6 (zaa (zee K rfl (hu10 hr)) (zbw (own:=["pair"]) (cap:=[]) (ix:=[]) (osc:=zi (top 32)) rfl ⟨rfl,by decide +kernel,by decide +kernel,by decide +kernel,by decide +kernel⟩ rfl (zab K rfl (pv 1)) (fun _ _ _ _=>zn (i:=0) (show List.Nodup (["pair"]:List Str) by decide +kernel) rfl (Or.inl rfl)) (fun _ _ _ _=>zbr) (fun _ _ _ _=>(zq (zk K rfl) (pv 0) ze (fun _ _=>rfl)))) (za2 (zg4 rfl) (by rfl) T.list PyProof.Rows.boot_list (za (pv 2) zc)) (zag _)) (zg (zy zb4)) zad)
   (zd (zm (i:=3) sc_is_dating.nd rfl (Or.inr rfl) (za2 (zgo (K:=K) rfl rfl) (by rfl) T.dict PyProof.Rows.boot_dict (za (pv 1) zc)))
   (zg (zy (znl (zw (zfo T) (hr.mono (by decide)) (by rfl) (za (pv 0) (za (pv 3) zc))) (znk (zac (zc0 K rfl rfl) (by rfl) T.all PyProof.Rows.boot_all (za (zbw (own:=["name"]) (cap:=["years","beneath"]) (ix:=[3,2]) (osc:=zi (top 32)) rfl ⟨rfl,by decide +kernel,by decide +kernel,by decide +kernel,by decide +kernel⟩ rfl (zbs (pv 2)) (fun _ _ _ _=>zn (i:=0) (show List.Nodup (["name","years","beneath"]:List Str) by decide +kernel) rfl (Or.inl rfl)) (fun _ _ _ _=>zbr) (fun _ _ _ _=>(zw (zjb T) (hr.mono (by decide)) (by rfl) (za (zv hu (pv 2) (pv 0) (fun _ _=>rfl)) (za (pv 1) (za (pv 0) zc)))))) zc))))))))),?_⟩
  have lk:=hF.tel.klen
  have knd:=zay (ts:=ts) hF.tel.nd
  have lpr:ap.length=(keysOf ts (srt us)).length:=Paired.length pr
  refine⟨_,rfl,p,pu,pt,_,_,us,ads,ts,rfl,hF.tel,fun pd ob ad bs H1 s1 fpd hB=>?_⟩
  have F1:=hF.same s1
  have cl:=zei (us:=us) (ts:=ts) (ads:=ads) hF.tel.ends
  have llk:∀k,(za1 ts (ts.zip ads) k).length<=900:=fun k=>by
   have h1:=zka (ts:=ts) (z:=ts.zip ads) (k:=k)
   have h2:=hF.tel.tl
   rw[List.length_zip] at h1
   omega
  have ltp:=fun k=>zpi F1.tel.tt F1.tel.ok k
  try dsimp only [zr]
  have pr1:Paired (fun a k=>SqT K H1 a [.str k,.int (yr k)]) ap (keysOf ts (srt us)):=Paired.mapP pr fun a k e=>s1.tup e
  refine zby false (fun Q' hQ=>?_) (fun H2 s2=>iteF ?_)
  ·refine⟨_,rfl,pp,rfl,⟨_,s1.seq hpp⟩,fun D hD=>?_⟩
   refine za7 (zbt (K:=K) (a:=pp) (xs:=ap.map V.ref)) (fun i σ' ys H'=>∃w0,σ' = [w0]/\ys=((keysOf ts (srt us)).take i).map V.str/\Same H1 H'/\H' D=some (.lst ys))
    ⟨none,rfl,by simp,Same.new hD,zb⟩ (fun i σ' ys H' h=>?_) (by rw[List.length_map];exact zav (by omega)) ?_ ?_
   ·obtain⟨_,_,rfl,q,hd⟩:=h
    refine⟨q.seq (s1.seq hpp),hd,?_⟩
    rw[List.length_map,List.length_take]
    omega
   ·rintro i v σ' ys H' hx ⟨w0,rfl,rfl,q,hd⟩
    obtain⟨a,u,rfl,hu',_,ha⟩:=zbe pr1 hx
    have hix:=zam hx
    try dsimp only [zr]
    unfold tYes
    dsimp only
    rw[if_pos rfl]
    refine⟨_,rfl,a,_,_,_,rfl,rfl,q.tup ha,rfl,hd,zcd hix ⟨_,rfl,?_,q.upd hD,zb⟩⟩
    rw[List.take_add_one,hu',List.map_append]
    rfl
   rintro σ' ys H2 ⟨w0,rfl,rfl,q,hd⟩
   rw[List.length_map,lpr,List.take_length] at hd
   refine⟨_,rfl,pd,_,rfl,.inr ⟨ob,q _ _ hB.d⟩,fun l hl=>?_⟩
   rw[zdh]
   have t1:=Same.new (o:=.lst ((keysOf ts (srt us)).map V.str)) hl
   refine⟨D,l,_,rfl,rfl,DEq.sameL (SqL.of (t1 _ _ hd)) (SqL.of zb) zii,_,rfl,?_⟩
   exact hQ _ (q.trans t1)
  have B2:=hB.same s2
  have q2:=s1.trans s2
  have ekv:Paired (fun a (p:Key×V)=>SqT K H2 a [kV p.1,p.2]) ap (dV (keysOf ts (srt us)) fun k=>.int (yr k)):=by
   have:=Paired.mapP pr1 fun a k e=>s2.tup e
   clear pr pr1 lpr hpp
   unfold dV
   generalize keysOf ts (srt us)=ks at this
   induction this with
   | nil=>exact .nil
   | cons h _ ih=>exact .cons h ih
  try dsimp only [zr]
  refine⟨_,rfl,pp,ap,_,rfl,q2.seq hpp,ekv,by rw[zaq];omega,fun py oy hpy=>?_⟩
  rw[ziy knd]
  have s3:=Same.new (o:=.frz oy (.dK (dV (keysOf ts (srt us)) fun k=>.int (yr k)))) hpy
  have hy3:YrAt (upd H2 py (.frz oy (.dK (dV (keysOf ts (srt us)) fun k=>.int (yr k))))) py oy (keysOf ts (srt us)) yr:=zb
  generalize upd H2 py (.frz oy (.dK (dV (keysOf ts (srt us)) fun k=>.int (yr k))))=H3 at s3 hy3
  have q3:=q2.trans s3
  try dsimp only [zr]
  refine⟨_,rfl,_,rfl,p,pm,pu,pt,pf,lo,hi,us,ads,ts,af,fs,py,oy,yr,rfl,hF.same q3,hy3,fun H4 s4=>⟨_,rfl,?_⟩⟩
  refine ite2 (fun c=>?_) (fun c=>?_)
  ·rw[c,Bool.true_and] at k
   have B4:=(B2.same s3).same s4
   have hy4:YrAt H4 py oy (keysOf ts (srt us)) yr:=s4 _ _ hy3
   have ltp4:=fun k=>Paired.mapP (ltp k) fun (p:Str×Addr) (t:Tie) (e:H1 p.2=some (.tup (tieV t))/\TOk us t)=>(⟨s4 _ _ (s3 _ _ (s2 _ _ e.1)),e.2⟩:H4 p.2=some (.tup (tieV t))/\TOk us t)
   have q4:=q3.trans s4
   generalize keysOf ts (srt us)=keys at k lk B4 hy4 cl
   generalize za1 ts (ts.zip ads)=ln at B4 k cl llk ltp4
   generalize lnkT ts (ts.zip ads)=lt at k ltp4
   refine⟨_,rfl,pd,ob,_,rfl,B4.d,fun D hD=>?_⟩
   refine za7 (zd3 (a:=pd) (ob:=ob) (kvs:=dV keys fun k=>.ref (ad k))) (fun i σ' ys H'=>∃w0,σ' = [w0,some (.ref py),some (.ref pd)]/\ys=((keys.take i).map fun k=>zmu yr k ((ln k).zip (lt k))).map V.bl/\Same H4 H'/\H' D=some (.lst ys))
    ⟨none,rfl,by simp,Same.new hD,zb⟩ (fun i σ' ys H' h=>?_) (by rw[List.length_map,zaq];exact zav (by omega)) ?_ ?_
   ·obtain⟨_,_,rfl,q,hd⟩:=h
    refine⟨q _ _ B4.d,hd,?_⟩
    rw[List.length_map,List.length_map,List.length_take]
    omega
   ·rintro i v σ' ys H5 hx ⟨w0,rfl,rfl,q,hd⟩
    have hix:=zam hx
    rw[zdh,List.getElem?_map] at hx
    cases eu:keys[i]? with
    | none=>rw[eu] at hx;cases hx
    | some u=>
     rw[eu] at hx
     cases hx
     have huk:u∈keys:=List.mem_of_getElem? eu
     have B5:=B4.same q
     try dsimp only [zr]
     unfold tYes
     dsimp only
     rw[if_pos rfl]
     refine⟨_,rfl,_,rfl,pd,_,rfl,B5.get huk,_,rfl,_,rfl,ad u,py,oy,bs u,ln u,lt u,us,keys,yr,u,rfl,SqL.of (B5.l u huk),B5.e u huk,Paired.mapP (ltp4 u) fun p t e=>⟨q _ _ e.1,e.2⟩,fun p hp=>cl u huk p.1 p.2 hp,huk,q _ _ hy4,llk u,fun H6 s6=>?_⟩
     refine⟨s6 _ _ hd,zcd hix ⟨_,rfl,?_,(q.trans s6).upd hD,zb⟩⟩
     rw[List.take_add_one,eu,List.map_append,List.map_append]
     rfl
   rintro σ' ys H5 ⟨w0,rfl,rfl,q,hd⟩
   rw[List.length_map,zaq,List.take_length] at hd
   refine⟨D,_,rfl,SqL.of hd,?_⟩
   rw[zg6]
   exact k _ (q4.trans q)
  ·have c:((keysOf ts (srt us)).all fun k=>inB lo hi (fwOf ts (fs.zip af) k) (yr k))=false:=by simpa using c
   rw[c,Bool.false_and] at k
   exact k _ (q3.trans s4)
theorem zqk {H H':Hp}{a:Addr}{xs:List V}(e:Same H H') (h:SqT K H a xs):SqT K H' a xs:=by
 rcases h with (h | ⟨o,h⟩) | h
 ·exact .inl (.inl (e _ _ h))
 ·exact .inl (.inr ⟨o,e _ _ h⟩)
 ·exact .inr h
def zsa (C:Addr):Sp:=fun vs H Q _=>∃(e p p1:Addr) (x0 x2:V) (xs:List V),vs = [.ref e,.ref p]/\H e=some (excO e C none)/\SqT K H p [x0,.ref p1,x2]/\SqL K H p1 xs/\xs.length<=1000/\
 ∀(q r d:Addr),q≠e->r≠e->d≠e->H q=none->H r=none->H d=none->r≠q->d≠q->d≠r->Q .non (upd (upd (upd (upd H q (.lst xs)) r (.tup [x0,.ref q,x2])) d (.xd [("row",.ref r)])) e (excO e C (some d)))
set_option maxHeartbeats 8000000 in
theorem zdj (T:Tx K mg w zh zo zf zj):HasM P w K mg base zf "__init__" ["self","row"] 1 (zsa (K:=K) zf):=by
 refine T.zdm.has zc5 (fun vs H Q E h=>?_) (fun f cdv A outer s H vs Q E hr h=>?_)
 ·obtain⟨e,p,p1,x0,x2,xs,rfl,_⟩:=h;rfl
 ·obtain⟨e,p,p1,x0,x2,xs,rfl,he,hp,hp1,hl,k⟩:=h
  refine⟨_,(zd (za8 (zru (by rfl) T.zfp T.zkw (za (pv 0) (za za0 zc))))
   (zg (zul (pv 0) (zap (za (zq (zk K rfl) (pv 1) ze (fun _ _=>rfl)) (za (za2 (zbu K rfl) (by rfl) T.list PyProof.Rows.boot_list (za (zq (zk K rfl) (pv 1) ze (fun _ _=>rfl)) zc)) (za (zq (zk K rfl) (pv 1) ze (fun _ _=>rfl)) zc)))) rfl))),?_⟩
  obtain⟨bm,xo,U⟩:=T.zfq
  refine⟨_,rfl,e,zf,none,bm,_,rfl,he,xo,U,(by show 1<=sizeLine;decide),?_⟩
  try dsimp only
  refine⟨_,rfl,p,_,_,x0,rfl,rfl,hp,rfl,_,rfl,p,_,_,.ref p1,rfl,rfl,hp,rfl,p1,xs,rfl,.inl hp1,fun q hq=>?_⟩
  have t1:=Same.new (o:=.lst xs) hq
  refine⟨_,rfl,p,_,_,x2,rfl,rfl,zqk t1 hp,rfl,(by show 3<=sizeLine;decide),fun r hr=>?_⟩
  have ne:q≠e:=fun z=>by rw[z,he] at hq;cases hq
  have nr:r≠q:=fun z=>by rw[z,zb] at hr;cases hr
  rw[zl nr] at hr
  have nre:r≠e:=fun z=>by rw[z,he] at hr;cases hr
  refine⟨_,rfl,e,zf,rfl,by rw[zl nre.symm,zl ne.symm];exact he,T.zky,T.zcw,fun d hd=>?_⟩
  have d1:d≠r:=fun z=>by rw[z,zb] at hd;cases hd
  rw[zl d1] at hd
  have d2:d≠q:=fun z=>by rw[z,zb] at hd;cases hd
  rw[zl d2] at hd
  exact k q r d ne nre (fun z=>by rw[z,he] at hd;cases hd) hq hr hd nr d2 d1
def zu5:Sp:=fun vs H Q _=>∃(pb:Addr) (ob:Obj) (keys:List Str) (v:Str->IS) (ab:Str->Addr) (fz:Bool),vs = [.ref pb]/\Bd H pb ob keys v ab/\keys.Nodup/\keys.length<=63/\
 ∀(pd:Addr) (o:Obj) (ad:Str->Addr) (H':Hp),Same H H'->H pd=none->H' pd=some (cdO fz o keys ad)->(∀k∈keys,ChAt H H' (ad k) ((v k).1,(v k).2,[]))->Q (.ref pd) H'
set_option maxHeartbeats 8000000 in
theorem zck (T:Tx K mg w zh zo zf zj):Has P w K mg base "bare_chains" ["bounds"] 1 zu5:=by
 refine T.zhf.has sc_bare_chains (fun vs H Q E h=>?_) (fun f cdv A outer s H vs Q E hr h=>?_)
 ·obtain⟨pb,ob,keys,v,ab,fz,rfl,_⟩:=h;rfl
 ·obtain⟨pb,ob,keys,v,ab,fz,rfl,hB,knd,lk,k⟩:=h
  have hu:=zbq hr
  refine⟨_,(zd (zm (i:=1) sc_bare_chains.nd rfl (Or.inl rfl) zbd)
   (zd (zaj PassesOwn.never rfl (zbs (pv 0)) (zn (i:=2) sc_bare_chains.nd rfl (Or.inl rfl)) (zg (zbf hu (pv 1) (pv 2) (zak (zq6 K rfl) (zv hu (pv 0) (pv 2) (fun _ _=>rfl)) (zap (za (zal zc) zc))) rfl)))
   (zg (zew (zy (pv 1)))))),?_⟩
  try dsimp only [zr]
  refine fun pd hpd=>?_
  have s1:=Same.new (o:=.dK []) hpd
  refine⟨_,rfl,pb,ob,_,rfl,s1 _ _ hB.d,zch (fun i σ H'=>∃(v2:Option V) (ad:Str->Addr),σ = [some (.ref pb),some (.ref pd),v2]/\Same H H'/\H' pd=some (.dK (dV (keys.take i) fun k=>.ref (ad k)))/\∀k∈keys.take i,ChAt H H' (ad k) ((v k).1,(v k).2,[]))
   ⟨none,fun _=>0,rfl,s1,zb,fun k hk=>by simp at hk⟩ (fun i σ H' _ h=>by obtain⟨_,_,_,q,_⟩:=h;exact q _ _ hB.d) ?_ ?_⟩
  ·rintro i kk vv σ H3 hx ⟨v2,ad,rfl,q3,hd3,hk3⟩
   obtain⟨u,hu',rfl,_⟩:=zkb hx
   have huk:u∈keys:=List.mem_of_getElem? hu'
   have B3:=hB.same q3
   try dsimp only [zr]
   refine⟨_,rfl,_,rfl,pb,_,rfl,zao B3.d huk,by show 0<=sizeLine;decide,fun l0 hl0=>?_⟩
   have t1:=Same.new (o:=.lst []) hl0
   refine⟨by show 1<=sizeLine;decide,fun b0 hb0=>?_⟩
   have t2:=Same.new (o:=.tup [.ref l0]) hb0
   refine⟨ab u,b0,_,_,rfl,rfl,SqT.of (t2 _ _ (t1 _ _ (B3.e u huk))),SqT.of zb,by simp,by show 3<=sizeLine;decide,fun z=>by simp at z,fun _ p hp=>?_⟩
   have t3:=Same.new (o:=.tup [.int (v u).1,.str (v u).2,.ref l0]) hp
   have e36:=t1.trans (t2.trans t3)
   have hd6:=e36 _ _ hd3
   have hfr:u ∉ keys.take i:=by
    have hi:=zam hu'
    have:=za4 knd i hi
    rw[show keys[i]=u from (List.getElem?_eq_some_iff.mp hu').2] at this
    exact this
   have hc:ChAt H (upd (upd (upd H3 l0 (.lst [])) b0 (.tup [.ref l0])) p (.tup [.int (v u).1,.str (v u).2,.ref l0])) p ((v u).1,(v u).2,[]):=⟨l0,zb,t3 _ _ (t2 _ _ zb),q3.free hl0⟩
   refine⟨_,rfl,_,rfl,pd,_,rfl,DPut.k (k:=Sum.inr u) hd6 (by rw[zaq,List.length_take];exact zz (by omega)),?_⟩
   refine⟨_,fun z=>if z=u then p else ad z,rfl,(q3.trans e36).upd hpd,?_,fun k hk=>?_⟩
   ·rw[zb,zdy hfr,List.take_add_one,hu']
    congr 2
    refine zbi fun z hz=>?_
    try dsimp only
    by_cases e:z=u
    ·rw[if_pos e,if_pos e]
    ·rw[if_neg e,if_neg e]
   ·rw[List.take_add_one,hu',List.mem_append] at hk
    try dsimp only
    by_cases e:k=u
    ·rw[if_pos e,e]
     exact hc.put hd6
    ·rw[if_neg e]
     exact ((hk3 k (hk.elim id fun z=>absurd (by simpa using z) e)).same e36).put hd6
  ·rintro σ H3 ⟨v2,ad,rfl,q3,hd3,hk3⟩
   rw[zaq,List.take_length] at hd3 hk3
   cases fz with
   | false=>exact .inl ⟨_,rfl,k pd ob ad _ q3 hpd hd3 hk3⟩
   | true=>exact .inr ⟨pd,_,hd3,fun ob'=>⟨_,rfl,k pd ob' ad _ (q3.upd hpd) hpd zb fun k hk=>(hk3 k hk).put hd3⟩⟩
def zsb:Sp:=fun vs H Q _=>∃(a r:Addr) (c:Chn) (t:Tie) (us:List Str),vs = [.ref a,.ref r]/\ChAt (fun _=>none) H a c/\H r=some (.tup (tieV t))/\TOk us t/\c.2.2.length<=900/\
 ∀(q:Addr) (H':Hp),Same H H'->H q=none->ChAt H H' q (c.1+zae t,c.2.1,c.2.2++[(t,r)])->Q (.ref q) H'
set_option maxHeartbeats 4000000 in
theorem zl5 (T:Tx K mg w zh zo zf zj):Has P w K mg base "led_up" ["chain","tie"] 2 zsb:=by
 refine T.zsm.has zp6 (fun vs H Q E h=>?_) (fun f cdv A outer s H vs Q E hr h=>?_)
 ·obtain⟨a,r,c,t,us,rfl,_⟩:=h;rfl
 ·obtain⟨a,r,c,t,us,rfl,⟨l,ha,hl,_⟩,hr',tok,lc,k⟩:=h
  refine⟨_,(zg (zy (zap (za (zak zba (zq (zk K rfl) (pv 0) ze (fun _ _=>rfl)) (zw (zhd T) (hr.mono (by decide)) (by rfl) (za (pv 1) zc))) (za (zq (zk K rfl) (pv 0) ze (fun _ _=>rfl)) (za (zak ze9 (zq (zk K rfl) (pv 0) ze (fun _ _=>rfl)) (zal (za (pv 1) zc))) zc)))))),?_⟩
  refine⟨_,rfl,a,_,_,_,rfl,rfl,SqT.of ha,rfl,_,rfl,r,t,us,rfl,hr',tok,fun H1 s1=>?_⟩
  refine⟨_,_,rfl,rfl,_,rfl,a,_,_,_,rfl,rfl,SqT.of (s1 _ _ ha),rfl,_,rfl,a,_,_,_,rfl,rfl,SqT.of (s1 _ _ ha),rfl,_,rfl,by show 1<=sizeLine;decide,fun l1 hl1=>?_⟩
  have t1:=Same.new (o:=.lst [.ref r]) hl1
  refine⟨l,l1,_,_,rfl,rfl,t1 _ _ (s1 _ _ hl),zb,by rw[List.length_map];exact zav (show _+1<=1000 by omega),fun l2 hl2=>?_⟩
  have t2:=Same.new (o:=.lst (c.2.2.map (fun p=>V.ref p.2)++[.ref r])) hl2
  refine⟨by show 3<=sizeLine;decide,fun b hb=>?_⟩
  have t3:=Same.new (o:=.tup [.int (c.1+zae t),.str c.2.1,.ref l2]) hb
  refine k b _ (s1.trans (t1.trans (t2.trans t3))) ((s1.trans (t1.trans t2)).free hb) ⟨l2,zb,?_,(s1.trans t1).free hl2⟩
  rw[t3 _ _ zb,List.map_append]
  rfl
def zm7:Sp:=fun vs H Q _=>∃(a r:Addr) (c:Chn) (t:Tie) (us:List Str),vs = [.ref a,.ref r]/\ChAt (fun _=>none) H a c/\H r=some (.tup (tieV t))/\TOk us t/\c.2.2.length<=900/\
 ∀(q:Addr) (H':Hp),Same H H'->H q=none->ChAt H H' q (c.1-zae t,c.2.1,(t,r)::c.2.2)->Q (.ref q) H'
set_option maxHeartbeats 4000000 in
theorem zm8 (T:Tx K mg w zh zo zf zj):Has P w K mg base "led_down" ["chain","tie"] 2 zm7:=by
 refine T.znd.has zkr (fun vs H Q E h=>?_) (fun f cdv A outer s H vs Q E hr h=>?_)
 ·obtain⟨a,r,c,t,us,rfl,_⟩:=h;rfl
 ·obtain⟨a,r,c,t,us,rfl,⟨l,ha,hl,_⟩,hr',tok,lc,k⟩:=h
  refine⟨_,(zg (zy (zap (za (zak zla (zq (zk K rfl) (pv 0) ze (fun _ _=>rfl)) (zw (zhd T) (hr.mono (by decide)) (by rfl) (za (pv 1) zc))) (za (zq (zk K rfl) (pv 0) ze (fun _ _=>rfl)) (za (zak ze9 (zal (za (pv 1) zc)) (zq (zk K rfl) (pv 0) ze (fun _ _=>rfl))) zc)))))),?_⟩
  refine⟨_,rfl,a,_,_,_,rfl,rfl,SqT.of ha,rfl,_,rfl,r,t,us,rfl,hr',tok,fun H1 s1=>?_⟩
  refine⟨_,_,rfl,rfl,_,rfl,a,_,_,_,rfl,rfl,SqT.of (s1 _ _ ha),rfl,_,rfl,by show 1<=sizeLine;decide,fun l1 hl1=>?_⟩
  have t1:=Same.new (o:=.lst [.ref r]) hl1
  refine⟨_,rfl,a,_,_,_,rfl,rfl,SqT.of (t1 _ _ (s1 _ _ ha)),rfl,?_⟩
  refine⟨l1,l,_,_,rfl,rfl,zb,t1 _ _ (s1 _ _ hl),by rw[List.length_map];exact zav (show 1+_<=1000 by omega),fun l2 hl2=>?_⟩
  have t2:=Same.new (o:=.lst ([V.ref r]++c.2.2.map (fun p=>V.ref p.2))) hl2
  refine⟨by show 3<=sizeLine;decide,fun b hb=>?_⟩
  have t3:=Same.new (o:=.tup [.int (c.1-zae t),.str c.2.1,.ref l2]) hb
  refine k b _ (s1.trans (t1.trans (t2.trans t3))) ((s1.trans (t1.trans t2)).free hb) ⟨l2,zb,?_,(s1.trans t1).free hl2⟩
  rw[t3 _ _ zb]
  rfl
def zql:Sp:=fun vs H Q _=>∃(pb pc:Addr) (ob oc:Obj) (keys:List Str) (R:Rw) (adb:Str->Addr) (bs:Str->List Addr) (M:List Str) (v:Str->Chn) (adc:Str->Addr),vs = [.ref pb,.ref pc]/\Bn H pb ob keys (lnR R) adb bs/\
 H pc=some (.frz oc (.dK (dV M fun k=>.ref (adc k))))/\(∀k∈M,ChAt (fun _=>none) H (adc k) (v k))/\(∀k l b,(l,b)∈R k->H b.2=some (.tup (tieV b.1))/\∃us,TOk us b.1)/\keys.Nodup/\keys.length<=63/\(∀k,(R k).length<=900)/\(∀k∈M,(v k).2.2.length<=900)/\
 ∀(pd:Addr) (o:Obj) (M':List Str) (v':Str->Chn) (ad:Str->Addr) (H':Hp),Same H H'->H pd=none->H' pd=some (.frz o (.dK (dV M' fun k=>.ref (ad k))))->(∀k∈M',ChAt H H' (ad k) (v' k))->M'.Nodup->(∀k∈M',k∈keys)->(∀k∈keys,Grw R M v k (R k) (k∈M') (v' k))->Q (.ref pd) H'
set_option maxHeartbeats 16000000 in
theorem ze0 (T:Tx K mg w zh zo zf zj):Has P w K mg base "one_tie_longer" ["beneath","chains"] 3 zql:=by
 refine T.ze4.has sc_one_tie_longer (fun vs H Q E h=>?_) (fun f cdv A outer s H vs Q E hr h=>?_)
 ·obtain⟨pb,pc,ob,oc,keys,R,adb,bs,M,v,adc,rfl,_⟩:=h;rfl
 ·obtain⟨pb,pc,ob,oc,keys,R,adb,bs,M,v,adc,rfl,hB,hC,hM,hR,knd,lk,lR,lM,k⟩:=h
  have hu:=zbq hr
  refine⟨_,(zd (zm (i:=2) sc_one_tie_longer.nd rfl (Or.inl rfl) zbd)
   (zd (zaj PassesOwn.never rfl (zbs (pv 0)) (zn (i:=3) sc_one_tie_longer.nd rfl (Or.inl rfl)) (zg (zaj PassesOwn.never rfl (zab K rfl (zv hu (pv 0) (pv 3) (fun _ _=>rfl))) (zcc K rfl rfl (zan (zn (i:=4) sc_one_tie_longer.nd rfl (Or.inl rfl)) (zan (zn (i:=5) sc_one_tie_longer.nd rfl (Or.inl rfl)) zb9))) (zg (za6 (zhk (zsu hu (pv 4) (pv 1))) (zd (zm (i:=6) sc_one_tie_longer.nd rfl (Or.inl rfl) (zw (zl5 T) (hr.mono (by decide)) (by rfl) (za (zv hu (pv 1) (pv 4) (fun _ _=>rfl)) (za (pv 5) zc))))
      (zg (za6 (PW.pt (zqu (zhk (zfa hu (pv 3) (pv 2))) (zk9 (zaa znr (zq (zk K rfl) (pv 6) ze (fun _ _=>rfl)) (zq (zk K rfl) (zv hu (pv 2) (pv 3) (fun _ _=>rfl)) ze (fun _ _=>rfl)) (zag _))))) (zg (zbf hu (pv 2) (pv 3) (pv 6) rfl)) zad))) zad)))))
   (zg (zew (zy (pv 2)))))),?_⟩
  try dsimp only [zr]
  refine fun pd hpd=>?_
  have s1:=Same.new (o:=.dK []) hpd
  refine⟨_,rfl,pb,ob,_,rfl,s1 _ _ hB.d,zch (fun i σ H'=>∃(v3 v4 v5 v6:Option V) (M':List Str) (v':Str->Chn) (ad:Str->Addr),σ = [some (.ref pb),some (.ref pc),some (.ref pd),v3,v4,v5,v6]/\Same H H'/\H' pd=some (.dK (dV M' fun k=>.ref (ad k)))/\(∀k∈M',ChAt H H' (ad k) (v' k))/\M'.Nodup/\(∀k∈M',k∈keys.take i)/\∀k∈keys.take i,Grw R M v k (R k) (k∈M') (v' k))
   ⟨none,none,none,none,[],fun _=>(0,"",[]),fun _=>0,rfl,s1,zb,fun k hk=>by simp at hk,List.nodup_nil,fun k hk=>by simp at hk,fun k hk=>by simp at hk⟩ (fun i σ H' _ h=>by obtain⟨_,_,_,_,_,_,_,_,q,_⟩:=h;exact q _ _ hB.d) ?_ ?_⟩
  ·rintro i kk vv σ H3 hx ⟨v3,v4,v5,v6,M',v',ad,rfl,q3,hd3,hk3,nd3,sb3,gr3⟩
   obtain⟨u,hu',rfl,_⟩:=zkb hx
   have huk:u∈keys:=List.mem_of_getElem? hu'
   have B3:=hB.same q3
   have lbs:(bs u).length=(R u).length:=(Paired.length (hB.e u huk)).trans zki
   have hfr:u ∉ keys.take i:=by
    have hi:=zam hu'
    have:=za4 knd i hi
    rw[show keys[i]=u from (List.getElem?_eq_some_iff.mp hu').2] at this
    exact this
   have tk:keys.take (i+1)=keys.take i++[u]:=by rw[List.take_add_one,hu'];rfl
   try dsimp only [zr]
   refine⟨_,rfl,_,rfl,pb,_,rfl,B3.get huk,adb u,rfl,⟨_,SqL.of (B3.l u huk)⟩,zah (xs:=(bs u).map V.ref) (fun j σ H'=>∃(v4 v5 v6:Option V) (M':List Str) (v':Str->Chn) (ad:Str->Addr),σ = [some (.ref pb),some (.ref pc),some (.ref pd),some (.str u),v4,v5,v6]/\Same H H'/\H' pd=some (.dK (dV M' fun k=>.ref (ad k)))/\(∀k∈M',ChAt H H' (ad k) (v' k))/\M'.Nodup/\(∀k∈M',k∈keys.take i++[u])/\
     (∀k∈keys.take i,Grw R M v k (R k) (k∈M') (v' k))/\Grw R M v u ((R u).take j) (u∈M') (v' u))
    ⟨v4,v5,v6,M',v',ad,rfl,q3,hd3,hk3,nd3,fun k hk=>List.mem_append_left _ (sb3 k hk),gr3,Grw.nil fun z=>hfr (sb3 u z)⟩ (fun j σ H' _ h=>by obtain⟨_,_,_,_,_,_,_,q,_⟩:=h;exact SqL.of ((hB.same q).l u huk)) ?_ ?_⟩
   ·clear hk3 nd3 sb3 gr3 hd3 q3 B3
    rintro j x σ H4 hx ⟨v4,v5,v6,M',v',ad,rfl,q4,hd4,hk4,nd4,sb4,gr4,gu4⟩
    have B4:=hB.same q4
    obtain⟨b,⟨l,r⟩,rfl,hlr,_,hb⟩:=zbe (B4.e u huk) hx
    obtain⟨t,ht⟩:=zpm hlr
    have htm:(l,(t,r))∈R u:=List.mem_of_getElem? ht
    obtain⟨htr,us,tok⟩:=hR u l (t,r) htm
    have rt:(R u).take (j+1)=(R u).take j++[(l,(t,r))]:=by rw[List.take_add_one,ht];rfl
    have hC4:=q4 _ _ hC
    refine⟨b,_,rfl,SqT.of hb,rfl,_,_,rfl,_,_,rfl,rfl,?_⟩
    try dsimp only [zr]
    refine zdu (decide (l∈M)) (fun Q' hQ=>?_) ?_
    ·by_cases c:l∈M
     ·refine⟨_,rfl,_,rfl,pc,_,rfl,zao hC4 c,?_⟩
      rw[decide_eq_true c] at hQ
      exact⟨_,rfl,hQ⟩
     ·refine⟨_,rfl,_,rfl,pc,none,rfl,zrq hC4 c,?_⟩
      rw[decide_eq_false c] at hQ
      exact⟨_,rfl,hQ⟩
    refine ite2 (fun c=>?_) (fun c=>?_)
    ·have c:=of_decide_eq_true c
     refine⟨_,rfl,_,rfl,pc,_,rfl,zao hC4 c,_,rfl,adc l,r,v l,t,us,rfl,(hM l c).same q4,q4 _ _ htr,tok,lM l c,fun q H5 s5 fq hq=>?_⟩
     have q5:=q4.trans s5
     have hd5:=s5 _ _ hd4
     have hq5:ChAt H H5 q ((v l).1+zae t,(v l).2.1,(v l).2.2++[(t,r)]):=hq.old q4
     have hk5:∀k∈M',ChAt H H5 (ad k) (v' k):=fun k hk=>(hk4 k hk).same s5
     try dsimp only [zr]
     refine zdu (decide (u ∉ M'\/(v' u).1<(v l).1+zae t)) (fun Q' hQ=>?_) ?_
     ·by_cases c2:u∈M'
      ·have g:=DGet.k (k:=Sum.inr u) hd5
       rw[zb0 c2] at g
       obtain⟨lq,h1,_⟩:=hq5
       obtain⟨lu,h2,_⟩:=hk5 u c2
       refine⟨_,rfl,_,rfl,pd,_,rfl,g,_,rfl,iteF ⟨_,rfl,q,_,_,_,rfl,rfl,SqT.of h1,rfl,_,rfl,_,rfl,pd,_,rfl,g,ad u,_,_,_,rfl,rfl,SqT.of h2,rfl,_,_,rfl,rfl,_,rfl,?_⟩⟩
       rw[show decide (u ∉ M'\/(v' u).1<(v l).1+zae t)=decide ((v l).1+zae t > (v' u).1) from decide_eq_decide.mpr ⟨fun z=>z.elim (fun z=>absurd c2 z) id,fun z=>.inr z⟩] at hQ
       exact hQ
      ·have g:=DGet.k (k:=Sum.inr u) hd5
       rw[zeh c2] at g
       refine⟨_,rfl,_,rfl,pd,_,rfl,g,_,rfl,iteT ?_⟩
       rw[decide_eq_true (Or.inl c2)] at hQ
       exact hQ
     refine ite2 (fun c2=>?_) (fun c2=>?_)
     ·have c2:=of_decide_eq_true c2
      have lM':M'.length<=63:=by
       have:=zbm (us:=keys) nd4 fun k hk=>by
        rcases List.mem_append.mp (sb4 k hk) with z | z
        ·exact List.mem_of_mem_take z
        ·rw[show k=u by simpa using z];exact huk
       omega
      refine⟨_,rfl,_,rfl,_,rfl,pd,_,rfl,DPut.k (k:=Sum.inr u) hd5 (by rw[zaq];exact zz (by omega)),?_⟩
      have adq:∀k,k≠u->(if k=u then q else ad k)=ad k:=fun k n=>if_neg n
      have ek:∀(L:List Str),(dV L fun z=>if z=u then V.ref q else V.ref (ad z))=dV L fun k=>V.ref (if k=u then q else ad k):=fun L=>zbi fun z _=>by split<;>rfl
      have hk6:∀(kv:List (Key×V)),∀k,(k=u\/k∈M')->ChAt H (upd H5 pd (.dK kv)) (if k=u then q else ad k) (if k=u then ((v l).1+zae t,(v l).2.1,(v l).2.2++[(t,r)]) else v' k):=fun kv k hk=>by
       by_cases e:k=u
       ·rw[if_pos e,if_pos e];exact hq5.put hd5
       ·rw[if_neg e,if_neg e];exact (hk5 k (hk.resolve_left e)).put hd5
      have gu5:∀(hs:Prop),hs->Grw R M v u ((R u).take (j+1)) hs (if u=u then ((v l).1+zae t,(v l).2.1,(v l).2.2++[(t,r)]) else v' u):=fun hs hh=>by
       rw[if_pos rfl,rt]
       exact gu4.take c hh (fun z=>c2.elim (fun y=>absurd z y) id) rfl
      by_cases c3:u∈M'
      ·rw[zot c3,ek]
       refine⟨_,_,_,M',fun k=>if k=u then ((v l).1+zae t,(v l).2.1,(v l).2.2++[(t,r)]) else v' k,fun k=>if k=u then q else ad k,rfl,q5.upd hpd,zb,fun k hk=>hk6 _ k (.inr hk),nd4,sb4,fun k hk=>?_,gu5 _ c3⟩
       exact (gr4 k hk).congr Iff.rfl (by dsimp only;rw[if_neg (fun z=>hfr (z▸hk):¬k=u)])
      ·rw[zdy c3,ek]
       refine⟨_,_,_,M'++[u],fun k=>if k=u then ((v l).1+zae t,(v l).2.1,(v l).2.2++[(t,r)]) else v' k,fun k=>if k=u then q else ad k,rfl,q5.upd hpd,zb,fun k hk=>hk6 _ k ?_,?_,fun k hk=>?_,fun k hk=>?_,gu5 _ (by simp)⟩
       ·rcases zax hk with z | z
        ·exact .inr z
        ·exact .inl z
       ·rw[List.nodup_append]
        refine⟨nd4,by simp,fun a ha b hb e=>?_⟩
        have hb:b=u:=by simpa using hb
        exact c3 (hb▸e▸ha)
       ·rcases zax hk with z | z
        ·exact sb4 k z
        ·rw[z];simp
       ·have ne:k≠u:=fun z=>hfr (z▸hk)
        refine (gr4 k hk).congr ⟨fun z=>List.mem_append_left _ z,fun z=>?_⟩ (by dsimp only;rw[if_neg ne])
        rcases zax z with z | z
        ·exact z
        ·exact absurd z ne
     ·have c2:¬(u ∉ M'\/(v' u).1<(v l).1+zae t):=fun z=>c2 (decide_eq_true z)
      have c3:u∈M':=Decidable.byContradiction fun z=>c2 (.inl z)
      refine⟨_,_,_,M',v',ad,rfl,q5,hd5,hk5,nd4,sb4,gr4,?_⟩
      rw[rt]
      exact gu4.stay c3 (by have:¬((v' u).1<(v l).1+zae t):=fun z=>c2 (.inr z);show (v l).1+zae t<=_;omega)
    ·have c:l ∉ M:=fun z=>c (decide_eq_true z)
     refine⟨_,_,_,M',v',ad,rfl,q4,hd4,hk4,nd4,sb4,gr4,?_⟩
     rw[rt]
     exact gu4.skip c
   ·rintro σ H4 ⟨v4,v5,v6,M',v',ad,rfl,q4,hd4,hk4,nd4,sb4,gr4,gu4⟩
    rw[List.length_map,lbs,List.take_length] at gu4
    refine⟨_,_,_,_,M',v',ad,rfl,q4,hd4,hk4,nd4,by rw[tk];exact sb4,fun k hk=>?_⟩
    rw[tk] at hk
    rcases zax hk with z | z
    ·exact gr4 k z
    ·rw[z];exact gu4
  ·rintro σ H3 ⟨v3,v4,v5,v6,M',v',ad,rfl,q3,hd3,hk3,nd3,sb3,gr3⟩
   rw[zaq,List.take_length] at sb3 gr3
   exact .inr ⟨pd,_,hd3,fun ob'=>⟨_,rfl,k pd ob' M' v' ad _ (q3.upd hpd) hpd zb (fun k hk=>(hk3 k hk).put hd3) nd3 sb3 gr3⟩⟩
def zqm:Sp:=fun vs H Q _=>∃(p pm pu pt pf:Addr) (lo hi:Int) (us:List Str) (ads:List Addr) (ts:List Tie) (af:List Addr) (fs:List Fnd),vs = [.ref p]/\TelF K H p pm pu pt pf lo hi us ads ts af fs/\NoR (za1 ts (ts.zip ads)) (keysOf ts (srt us))/\
 (∀H',Same H H'->zd6 lo hi us ads ts af fs->Q .non H')/\∀(q:Addr) (c:Chn) (w:Str) (H':Hp),Same H H'->zrr H' q c w->zi0 lo hi us ads ts af fs c w->Q (.ref q) H'
set_option maxHeartbeats 16000000 in
theorem ze1 (T:Tx K mg w zh zo zf zj):Has P w K mg base "impossible_row" ["telling"] 6 (zqm (K:=K)):=by
 refine T.ze5.has sc_impossible_row (fun vs H Q E h=>?_) (fun f cdv A outer s H vs Q E hr h=>?_)
 ·obtain⟨p,pm,pu,pt,pf,lo,hi,us,ads,ts,af,fs,rfl,_⟩:=h;rfl
 ·obtain⟨p,pm,pu,pt,pf,lo,hi,us,ads,ts,af,fs,rfl,hF,nr,kN,kR⟩:=h
  have hu:=zbq hr
  refine⟨_,(zd (zm (i:=1) sc_impossible_row.nd rfl (Or.inl rfl) (zw (za5 T) (hr.mono (by decide)) (by rfl) (za (pv 0) zc)))
   (zd (zm (i:=2) sc_impossible_row.nd rfl (Or.inl rfl) (zw (zeq T) (hr.mono (by decide)) (by rfl) (za (pv 0) zc)))
   (zd (zm (i:=3) sc_impossible_row.nd rfl (Or.inl rfl) (zw (zck T) (hr.mono (by decide)) (by rfl) (za (zw (zhe T) (hr.mono (by decide)) (by rfl) (za (pv 0) zc)) zc)))
   (zd (zgs PassesOwn.never (zaa (zuu (hu10 hr)) (pv 3) zbd (zag _)) (zd (zaj PassesOwn.never rfl (zbs (pv 3)) (zn (i:=4) sc_impossible_row.nd rfl (Or.inl rfl)) (zg (za6 (zaa znr (zq (zk K rfl) (zv hu (pv 3) (pv 4) (fun _ _=>rfl)) ze (fun _ _=>rfl)) (zq (zk K rfl) (zv hu (pv 2) (pv 4) (fun _ _=>rfl)) ze (fun _ _=>rfl)) (zag _)) (zg (zy (zap (za (zq (zk K rfl) (zv hu (pv 3) (pv 4) (fun _ _=>rfl)) ze (fun _ _=>rfl)) (za (zq (zk K rfl) (zv hu (pv 3) (pv 4) (fun _ _=>rfl)) ze (fun _ _=>rfl)) (za (zq (zk K rfl) (zv hu (pv 2) (pv 4) (fun _ _=>rfl)) ze (fun _ _=>rfl)) zc)))))) zad)))
    (zg (zm (i:=3) sc_impossible_row.nd rfl (Or.inl rfl) (zw (ze0 T) (hr.mono (by decide)) (by rfl) (za (pv 1) (za (pv 3) zc)))))))
   (zg (zy zve)))))),?_⟩
  have knd:=zay (ts:=ts) hF.tel.nd
  have lk:=hF.tel.klen
  have lf:=hF.flen
  have cl:=zmv (ads:=ads) hF.tel.ends
  have lR:∀k,(rwOf ts (ts.zip ads) k).length<=900:=fun k=>by
   have h1:=zwf (ts:=ts) (z:=ts.zip ads) (k:=k)
   have h2:=hF.tel.tl
   rw[List.length_zip] at h1
   omega
  have hR:∀k l b,(l,b)∈rwOf ts (ts.zip ads) k->H b.2=some (.tup (tieV b.1))/\TOk us b.1:=fun k l b h=>zpl hF.tel h
  have uF:∀k m m',FlF ts lo (fs.zip af) k m->FlF ts lo (fs.zip af) k m'->m.1=m'.1:=fun k m m' h h'=>by rw[h.low lf,h'.low lf]
  have uG:∀k m m',CeF ts hi (fs.zip af) k m->CeF ts hi (fs.zip af) k m'->m.1=m'.1:=fun k m m' h h'=>by rw[h.high lf,h'.high lf]
  rw[zb3] at nr
  refine⟨_,rfl,p,pu,pt,_,_,us,ads,ts,rfl,hF.tel,fun pb ob adb bs H1 s1 fpb hB=>?_⟩
  rw[zb3] at hB
  try dsimp only [zr]
  refine⟨_,rfl,p,pm,pu,pt,pf,lo,hi,us,ads,ts,af,fs,rfl,hF.same s1,fun pe oe ve ae H2 s2 fpe hE hEm=>?_⟩
  try dsimp only [zr]
  refine⟨_,rfl,p,pm,pu,pt,pf,lo,hi,us,ads,ts,af,fs,rfl,hF.same (s1.trans s2),fun pl ol vl al H3 s3 fpl hL hLm=>?_⟩
  refine⟨pl,ol,_,vl,al,true,rfl,hL,knd,lk,fun pc oc adc H4 s4 fpc hC hCh=>?_⟩
  have hC:H4 pc=some (.frz oc (.dK (dV (keysOf ts (srt us)) fun k=>.ref (adc k)))):=hC
  have s24:=s3.trans s4
  have s14:=s2.trans s24
  have s04:=s1.trans s14
  have hEm:∀k∈keysOf ts (srt us),CeF ts hi (fs.zip af) k (ve k):=hEm
  have hLm:∀k∈keysOf ts (srt us),FlF ts lo (fs.zip af) k (vl k):=hLm
  unfold zd6 at kN
  unfold zi0 at kR
  generalize keysOf ts (srt us)=keys at *
  generalize rwOf ts (ts.zip ads)=R at *
  generalize FlF ts lo (fs.zip af)=F at *
  generalize CeF ts hi (fs.zip af)=G at *
  have R0:Rung R F keys 0 keys (fun k=>((vl k).1,(vl k).2,[])):=Rung.zero knd (fun k hk=>⟨rfl,hLm k hk⟩) uF
  try dsimp only [zr]
  refine⟨fun m σ H'=>∃(n:Nat) (pc:Addr) (oc:Obj) (M:List Str) (v:Str->Chn) (adc:Str->Addr) (v4:Option V),σ = [some (.ref p),some (.ref pb),some (.ref pe),some (.ref pc),v4]/\Same H4 H'/\H' pc=some (.frz oc (.dK (dV M fun k=>.ref (adc k))))/\(∀k∈M,ChAt (fun _=>none) H' (adc k) (v k))/\Rung R F keys n M v/\
    (∀k∈keys,∀c m,Up R F k c->G k m->c.2.2.length<n->c.1<=m.1)/\m=keys.length-n,
   ⟨_,0,pc,oc,keys,_,adc,none,rfl,Same.refl _,hC,fun k hk=>(hCh k hk).any,R0,fun k hk c m _ _ z=>absurd z (Nat.not_lt_zero _),rfl⟩,?_⟩
  rintro m σ H5 ⟨n,pc,oc,M,v,adc,v4,rfl,q5,hC5,hM5,Rn,sm,rfl⟩
  refine⟨_,rfl,fun e he=>?_⟩
  have t6:=Same.new (o:=.dK []) he
  have q6:=q5.trans t6
  have hC6:=t6 _ _ hC5
  refine⟨pc,e,_,rfl,rfl,.inr ⟨oc,hC6⟩,zb,_,rfl,?_⟩
  have hM6:∀k∈M,ChAt (fun _=>none) (upd H5 e (.dK [])) (adc k) (v k):=fun k hk=>(hM5 k hk).same t6
  clear hC5 hM5
  generalize upd H5 e (.dK [])=H6 at q6 hC6 hM6 t6
  refine ite2 (fun c=>?_) (fun c=>?_)
  ·have ne:M≠[]:=fun z=>by rw[z] at c;simp[dV] at c
   obtain⟨k0,hk0⟩:=List.exists_mem_of_ne_nil _ ne
   have hn:n<keys.length:=by
    have:=(Rn.is k0 hk0).1.short cl nr (Rn.sub k0 hk0)
    rw[(Rn.is k0 hk0).2] at this
    exact this
   refine⟨fun σ' H'=>∃m',m'<keys.length-n/\_,fun σ' H' h=>h,?_⟩
   refine⟨_,rfl,pc,oc,_,rfl,hC6,zch (fun i σ H'=>∃(v4:Option V),σ = [some (.ref p),some (.ref pb),some (.ref pe),some (.ref pc),v4]/\Same H6 H'/\∀k∈M.take i,(v k).1<=(ve k).1)
    ⟨_,rfl,Same.refl _,fun k hk=>by simp at hk⟩ (fun i σ H' _ h=>by obtain⟨_,_,q,_⟩:=h;exact q _ _ hC6) ?_ ?_⟩
   ·rintro i kk vv σ H7 hx ⟨v4,rfl,q7,le7⟩
    obtain⟨u,hu',rfl,_⟩:=zkb hx
    have huM:u∈M:=List.mem_of_getElem? hu'
    have huk:u∈keys:=Rn.sub u huM
    have E7:=hE.same (s3.trans (s4.trans (q6.trans q7)))
    obtain⟨l,h1,h2,_⟩:=(hM6 u huM).same q7
    have hC7:=q7 _ _ hC6
    try dsimp only [zr]
    refine⟨_,rfl,_,rfl,pc,_,rfl,zao hC7 huM,adc u,_,_,_,rfl,rfl,SqT.of h1,rfl,_,rfl,_,rfl,pe,_,rfl,zao E7.d huk,ae u,_,_,_,rfl,rfl,SqT.of (E7.e u huk),rfl,_,_,rfl,rfl,_,rfl,?_⟩
    refine ite2 (fun c2=>?_) (fun c2=>?_)
    ·have c2:(ve u).1<(v u).1:=of_decide_eq_true c2
     refine⟨_,rfl,_,rfl,pc,_,rfl,zao hC7 huM,adc u,_,_,_,rfl,rfl,SqT.of h1,rfl,_,rfl,_,rfl,pc,_,rfl,zao hC7 huM,adc u,_,_,_,rfl,rfl,SqT.of h1,rfl,_,rfl,_,rfl,pe,_,rfl,zao E7.d huk,ae u,_,_,_,rfl,rfl,SqT.of (E7.e u huk),rfl,by show 3<=sizeLine;decide,fun q hq=>?_⟩
     have t8:=Same.new (o:=.tup [.str (v u).2.1,.ref l,.str (ve u).2]) hq
     refine kR q (v u) (ve u).2 _ (s04.trans (q6.trans (q7.trans t8))) ⟨l,zb,t8 _ _ h2⟩ ⟨u,ve u,huk,(Rn.is u huM).1,hEm u huk,rfl,c2,fun k' hk' c' m' u' g' lt=>sm k' hk' c' m' u' g' ?_⟩
     rw[(Rn.is u huM).2] at lt
     exact lt
    ·have c2:¬((v u).1 > (ve u).1):=fun z=>c2 (decide_eq_true z)
     refine⟨_,rfl,q7,fun k hk=>?_⟩
     rw[List.take_add_one,hu'] at hk
     rcases zax hk with z | z
     ·exact le7 k z
     ·rw[z];omega
   ·rintro σ H7 ⟨v4,rfl,q7,le7⟩
    rw[zaq,List.take_length] at le7
    have q47:=q6.trans q7
    have B7:=hB.same (s14.trans q47)
    have hC7:=q7 _ _ hC6
    refine⟨_,rfl,_,rfl,pb,pc,ob,oc,keys,R,adb,bs,M,v,adc,rfl,B7,hC7,fun k hk=>(hM6 k hk).same q7,fun k l b h=>⟨q47 _ _ (s04 _ _ (hR k l b h).1),us,(hR k l b h).2⟩,knd,lk,lR,fun k hk=>by
     have:=(Rn.is k hk).1.short cl nr (Rn.sub k hk)
     omega,fun pd o M' v' ad H8 s8 fpd hd8 hk8 nd8 sb8 gr8=>?_⟩
    refine⟨keys.length-(n+1),by omega,n+1,pd,o,M',v',ad,_,rfl,q47.trans s8,hd8,fun k hk=>(hk8 k hk).any,Rn.next cl nd8 sb8 gr8,fun k hk c m u g lt=>?_,rfl⟩
    by_cases e:c.2.2.length=n
    ·obtain⟨h1,h2⟩:=Rn.all k hk c u e
     have h3:=le7 k h1
     rw[uG k m (ve k) g (hEm k hk)]
     omega
    ·exact sm k hk c m u g (by omega)
  ·have e:M = []:=by
    cases M with
    | nil=>rfl
    | cons a b=>simp[dV] at c
   subst e
   have st:=Rn.stop cl
   exact kN _ (s04.trans q6) fun k hk c m u g=>sm k hk c m u g (st k hk c u)
def zwv:Sp:=fun vs H Q _=>∃(p pm pu pt pf:Addr) (lo hi:Int) (us:List Str) (ads:List Addr) (ts:List Tie) (af:List Addr) (fs:List Fnd),vs = [.ref p]/\TelF K H p pm pu pt pf lo hi us ads ts af fs/\NoR (za1 ts (ts.zip ads)) (keysOf ts (srt us))/\
 ∀(pd:Addr) (o:Obj) (v:Str->Chn) (ad:Str->Addr) (H':Hp),Same H H'->H pd=none->H' pd=some (.frz o (.dK (dV (keysOf ts (srt us)) fun k=>.ref (ad k))))->(∀k∈keysOf ts (srt us),ChAt H H' (ad k) (v k))->
  (∀k∈keysOf ts (srt us),Up (rwOf ts (ts.zip ads)) (FlF ts lo (fs.zip af)) k (v k)/\LoIs (rwOf ts (ts.zip ads)) (FlF ts lo (fs.zip af)) k (v k).1)->Q (.ref pd) H'
set_option maxHeartbeats 16000000 in
theorem zdk (T:Tx K mg w zh zo zf zj):Has P w K mg base "chains_up" ["telling"] 8 (zwv (K:=K)):=by
 refine T.zk2.has sc_chains_up (fun vs H Q E h=>?_) (fun f cdv A outer s H vs Q E hr h=>?_)
 ·obtain⟨p,pm,pu,pt,pf,lo,hi,us,ads,ts,af,fs,rfl,_⟩:=h;rfl
 ·obtain⟨p,pm,pu,pt,pf,lo,hi,us,ads,ts,af,fs,rfl,hF,nr0,k⟩:=h
  have hu:=zbq hr
  refine⟨_,(zd (zm (i:=1) sc_chains_up.nd rfl (Or.inl rfl) (zw (za5 T) (hr.mono (by decide)) (by rfl) (za (pv 0) zc)))
   (zd (zm (i:=2) sc_chains_up.nd rfl (Or.inl rfl) (zw (zck T) (hr.mono (by decide)) (by rfl) (za (zw (zhe T) (hr.mono (by decide)) (by rfl) (za (pv 0) zc)) zc)))
   (zd (zaj PassesOwn.never rfl (zab K rfl (zw (zqf T) (hr.mono (by decide)) (by rfl) (za (pv 0) zc))) (zn (i:=3) sc_chains_up.nd rfl (Or.inl rfl)) (zg (zaj PassesOwn.never rfl (zab K rfl (zv hu (pv 1) (pv 3) (fun _ _=>rfl))) (zcc K rfl rfl (zan (zn (i:=4) sc_chains_up.nd rfl (Or.inl rfl)) (zan (zn (i:=5) sc_chains_up.nd rfl (Or.inl rfl)) zb9))) (zd (zm (i:=6) sc_chains_up.nd rfl (Or.inl rfl) (zw (zl5 T) (hr.mono (by decide)) (by rfl) (za (zv hu (pv 2) (pv 4) (fun _ _=>rfl)) (za (pv 5) zc))))
     (zg (za6 (zaa znr (zq (zk K rfl) (pv 6) ze (fun _ _=>rfl)) (zq (zk K rfl) (zv hu (pv 2) (pv 3) (fun _ _=>rfl)) ze (fun _ _=>rfl)) (zag _)) (zg (zbf hu (pv 2) (pv 3) (pv 6) rfl)) zad))))))
   (zg (zew (zy (pv 2))))))),?_⟩
  have knd:=zay (ts:=ts) hF.tel.nd
  have lk:=hF.tel.klen
  have lf:=hF.flen
  have cl:=zmv (ads:=ads) hF.tel.ends
  have hR:∀k l b,(l,b)∈rwOf ts (ts.zip ads) k->H b.2=some (.tup (tieV b.1))/\TOk us b.1:=fun k l b h=>zpl hF.tel h
  have uF:∀k m m',FlF ts lo (fs.zip af) k m->FlF ts lo (fs.zip af) k m'->m.1=m'.1:=fun k m m' h h'=>by rw[h.low lf,h'.low lf]
  have nr:=nr0
  rw[zb3] at nr
  refine⟨_,rfl,p,pu,pt,_,_,us,ads,ts,rfl,hF.tel,fun pb ob adb bs H1 s1 fpb hB=>?_⟩
  rw[zb3] at hB
  try dsimp only [zr]
  refine⟨_,rfl,p,pm,pu,pt,pf,lo,hi,us,ads,ts,af,fs,rfl,hF.same s1,fun pl ol vl al H2 s2 fpl hL hLm=>?_⟩
  refine⟨pl,ol,_,vl,al,false,rfl,hL,knd,lk,fun pc oc adc H3 s3 fpc hC hCh=>?_⟩
  have hC:H3 pc=some (.dK (dV (keysOf ts (srt us)) fun k=>.ref (adc k))):=hC
  have s13:=s2.trans s3
  have s03:=s1.trans s13
  try dsimp only [zr]
  refine⟨_,rfl,p,pu,pt,_,_,us,ads,ts,rfl,(hF.same s03).tel,nr0,fun po os H4 s4 fpo hpo O pmo=>?_⟩
  have hB4:=hB.same (s13.trans s4)
  have hC4:=s4 _ _ hC
  have s04:=s03.trans s4
  have fpc0:H pc=none:=(s1.trans s2).free fpc
  have npo:po≠pc:=fun z=>by rw[z,hC] at fpo;cases fpo
  have hCh4:∀k∈keysOf ts (srt us),ChAt H H4 (adc k) ((vl k).1,(vl k).2,[]):=fun k hk=>((hCh k hk).same s4).old (s1.trans s2)
  have hLm:∀k∈keysOf ts (srt us),FlF ts lo (fs.zip af) k (vl k):=hLm
  rw[zb3] at O
  clear nr0 hB hC hCh
  generalize keysOf ts (srt us)=keys at *
  generalize rwOf ts (ts.zip ads)=R at *
  generalize FlF ts lo (fs.zip af)=F at *
  have U0:UpSt R F keys [] (fun k=>((vl k).1,(vl k).2,[])):=⟨fun k hk=>Up.bare (hLm k hk),fun k hk m hm=>Int.le_of_eq (uF k m (vl k) hm (hLm k hk)),fun k hk=>by simp at hk⟩
  have hh:∀{H':Hp},(∀b o,b≠pc->H4 b=some o->H' b=some o)->Same H H':=fun kp b o e=>kp b o (zp e fpc0) (s04 _ _ e)
  refine⟨po,rfl,⟨_,SqL.of hpo⟩,zah (xs:=os.map V.str) (fun i σ H'=>∃(v3 v4 v5 v6:Option V) (v:Str->Chn) (ad:Str->Addr),σ = [some (.ref p),some (.ref pb),some (.ref pc),v3,v4,v5,v6]/\(∀b o,b≠pc->H4 b=some o->H' b=some o)/\H' pc=some (.dK (dV keys fun k=>.ref (ad k)))/\(∀k∈keys,ChAt H H' (ad k) (v k))/\UpSt R F keys (os.take i) v)
   ⟨none,none,none,none,_,adc,rfl,fun b o _ e=>e,hC4,hCh4,by simpa using U0⟩ (fun i σ H' _ h=>by obtain⟨_,_,_,_,_,_,_,q,_⟩:=h;exact SqL.of (q _ _ npo hpo)) ?_ ?_⟩
  ·rintro i x σ H5 hx ⟨v3,v4,v5,v6,v,ad,rfl,kp5,hd5,hk5,U5⟩
   rw[List.getElem?_map] at hx
   cases eu:os[i]? with
   | none=>rw[eu] at hx;cases hx
   | some u=>
    rw[eu] at hx
    cases hx
    have huk:u∈keys:=O.sub u (List.mem_of_getElem? eu)
    obtain⟨fr,nlu,low⟩:=zpn O eu
    have B5:=hB4.keep hC4 kp5
    have lbs:(bs u).length=(R u).length:=(Paired.length (hB4.e u huk)).trans zki
    have tk:os.take (i+1)=os.take i++[u]:=by rw[List.take_add_one,eu];rfl
    try dsimp only [zr]
    refine⟨_,rfl,_,rfl,pb,_,rfl,B5.get huk,adb u,rfl,⟨_,SqL.of (B5.l u huk)⟩,zah (xs:=(bs u).map V.ref) (fun j σ H'=>∃(v4 v5 v6:Option V) (v:Str->Chn) (ad:Str->Addr),σ = [some (.ref p),some (.ref pb),some (.ref pc),some (.str u),v4,v5,v6]/\(∀b o,b≠pc->H4 b=some o->H' b=some o)/\H' pc=some (.dK (dV keys fun k=>.ref (ad k)))/\(∀k∈keys,ChAt H H' (ad k) (v k))/\UpSt R F keys (os.take i) v/\∀l b,(l,b)∈(R u).take j->(v l).1+zae b.1<=(v u).1)
     ⟨v4,v5,v6,v,ad,rfl,kp5,hd5,hk5,U5,fun l b h=>by simp at h⟩ (fun j σ H' _ h=>by obtain⟨_,_,_,_,_,_,q,_⟩:=h;exact SqL.of ((hB4.keep hC4 q).l u huk)) ?_ ?_⟩
    ·clear hk5 hd5 U5 B5 kp5
     rintro j x σ H6 hx ⟨v4,v5,v6,v,ad,rfl,kp6,hd6,hk6,U6,le6⟩
     have B6:=hB4.keep hC4 kp6
     have q6:Same H H6:=hh kp6
     obtain⟨b,⟨l,r⟩,rfl,hlr,_,hb⟩:=zbe (B6.e u huk) hx
     obtain⟨t,ht⟩:=zpm hlr
     have htm:(l,(t,r))∈R u:=List.mem_of_getElem? ht
     obtain⟨htr,tok⟩:=hR u l (t,r) htm
     have hlk:l∈keys:=(cl _ _ _ htm).2
     have nl:l≠u:=nlu l r (zcu htm)
     have rt:(R u).take (j+1)=(R u).take j++[(l,(t,r))]:=by rw[List.take_add_one,ht];rfl
     refine⟨b,_,rfl,SqT.of hb,rfl,_,_,rfl,_,_,rfl,rfl,?_⟩
     try dsimp only [zr]
     have gl:=DGet.k (k:=Sum.inr l) hd6
     rw[zb0 hlk] at gl
     have lv:(v l).2.2.length<=900:=by
      have:=(U6.is l hlk).short cl nr hlk
      omega
     refine⟨_,rfl,_,rfl,pc,_,rfl,gl,_,rfl,ad l,r,v l,t,us,rfl,(hk6 l hlk).any,q6 _ _ htr,tok,lv,fun q H7 s7 fq hq=>?_⟩
     have hd7:=s7 _ _ hd6
     have kp7:∀b o,b≠pc->H4 b=some o->H7 b=some o:=fun b o n e=>s7 _ _ (kp6 b o n e)
     have hk7:∀k∈keys,ChAt H H7 (ad k) (v k):=fun k hk=>(hk6 k hk).same s7
     have hq7:=hq.old q6
     have gu:=DGet.k (k:=Sum.inr u) hd7
     rw[zb0 huk] at gu
     obtain⟨lq,h1,_⟩:=id hq7
     obtain⟨lu,h2,_⟩:=hk7 u huk
     try dsimp only [zr]
     refine⟨_,rfl,q,_,_,_,rfl,rfl,SqT.of h1,rfl,_,rfl,_,rfl,pc,_,rfl,gu,ad u,_,_,_,rfl,rfl,SqT.of h2,rfl,_,_,rfl,rfl,_,rfl,?_⟩
     refine ite2 (fun c=>?_) (fun c=>?_)
     ·have c:(v u).1<(v l).1+zae t:=of_decide_eq_true c
      refine⟨_,rfl,_,rfl,_,rfl,pc,_,rfl,DPut.k (k:=Sum.inr u) hd7 (by rw[zaq];exact zz (by omega)),?_⟩
      rw[zot huk,show (dV keys fun z=>if z=u then V.ref q else V.ref (ad z))=dV keys fun k=>V.ref (if k=u then q else ad k) from zbi fun z _=>by split<;>rfl]
      refine⟨_,_,_,fun k=>if k=u then ((v l).1+zae t,(v l).2.1,(v l).2.2++[(t,r)]) else v k,fun k=>if k=u then q else ad k,rfl,fun b o n e=>by rw[zl n];exact kp7 b o n e,zb,fun k hk=>?_,U6.set fr (fun k hk l b hb=>low k hk l b.2 (zcu hb)) ((U6.is l hlk).up htm) (Int.le_of_lt c),fun l' b' h'=>?_⟩
      ·dsimp only
       by_cases e:k=u
       ·rw[if_pos e,if_pos e];exact hq7.put hd7
       ·rw[if_neg e,if_neg e];exact (hk7 k hk).put hd7
      ·dsimp only
       rw[if_pos rfl]
       show _<=(v l).1+zae t
       rw[rt] at h'
       rcases zax h' with z | z
       ·rw[if_neg (nlu l' b'.2 (zcu (List.mem_of_mem_take z)))]
        have:=le6 l' b' z
        omega
       ·cases z
        rw[if_neg nl]
        exact Int.le_refl _
     ·have c:¬((v l).1+zae t > (v u).1):=fun z=>c (decide_eq_true z)
      refine⟨_,_,_,v,ad,rfl,kp7,hd7,hk7,U6,fun l' b' h'=>?_⟩
      rw[rt] at h'
      rcases zax h' with z | z
      ·exact le6 l' b' z
      ·cases z
       show (v l).1+zae t<=_
       omega
    ·rintro σ H6 ⟨v4,v5,v6,v,ad,rfl,kp6,hd6,hk6,U6,le6⟩
     rw[List.length_map,lbs,List.take_length] at le6
     exact⟨_,_,_,_,v,ad,rfl,kp6,hd6,hk6,by rw[tk];exact U6.snoc le6⟩
  ·rintro σ H5 ⟨v3,v4,v5,v6,v,ad,rfl,kp5,hd5,hk5,U5⟩
   rw[List.length_map,List.take_length] at U5
   have all:∀k∈keys,k∈os:=fun k hk=>pmo.mem_iff.mpr hk
   exact .inr ⟨pc,_,hd5,fun ob'=>⟨_,rfl,k pc ob' v ad _ ((hh kp5).upd fpc0) fpc0 zb (fun k hk=>(hk5 k hk).put hd5) fun k hk=>⟨U5.is k hk,U5.lo cl all hk⟩⟩⟩
def zww:Sp:=fun vs H Q _=>∃(p pm pu pt pf:Addr) (lo hi:Int) (us:List Str) (ads:List Addr) (ts:List Tie) (af:List Addr) (fs:List Fnd),vs = [.ref p]/\TelF K H p pm pu pt pf lo hi us ads ts af fs/\NoR (za1 ts (ts.zip ads)) (keysOf ts (srt us))/\
 ∀(pd:Addr) (o:Obj) (v:Str->Chn) (ad:Str->Addr) (H':Hp),Same H H'->H pd=none->H' pd=some (.frz o (.dK (dV (keysOf ts (srt us)) fun k=>.ref (ad k))))->(∀k∈keysOf ts (srt us),ChAt H H' (ad k) (v k))->
  (∀k∈keysOf ts (srt us),Dn (rwOf ts (ts.zip ads)) (CeF ts hi (fs.zip af)) k (v k)/\HiIs (rwOf ts (ts.zip ads)) (CeF ts hi (fs.zip af)) k (v k).1)->Q (.ref pd) H'
set_option maxHeartbeats 16000000 in
theorem zd7 (T:Tx K mg w zh zo zf zj):Has P w K mg base "chains_down" ["telling"] 8 (zww (K:=K)):=by
 refine T.zhg.has sc_chains_down (fun vs H Q E h=>?_) (fun f cdv A outer s H vs Q E hr h=>?_)
 ·obtain⟨p,pm,pu,pt,pf,lo,hi,us,ads,ts,af,fs,rfl,_⟩:=h;rfl
 ·obtain⟨p,pm,pu,pt,pf,lo,hi,us,ads,ts,af,fs,rfl,hF,nr0,k⟩:=h
  have hu:=zbq hr
  refine⟨_,(zd (zm (i:=1) sc_chains_down.nd rfl (Or.inl rfl) (zw (za5 T) (hr.mono (by decide)) (by rfl) (za (pv 0) zc)))
   (zd (zm (i:=2) sc_chains_down.nd rfl (Or.inl rfl) (zw (zck T) (hr.mono (by decide)) (by rfl) (za (zw (zeq T) (hr.mono (by decide)) (by rfl) (za (pv 0) zc)) zc)))
   (zd (zaj PassesOwn.never rfl (zus K rfl (by rfl) T.reversed (zw (zqf T) (hr.mono (by decide)) (by rfl) (za (pv 0) zc))) (zn (i:=3) sc_chains_down.nd rfl (Or.inl rfl)) (zg (zaj PassesOwn.never rfl (zab K rfl (zv hu (pv 1) (pv 3) (fun _ _=>rfl))) (zcc K rfl rfl (zan (zn (i:=4) sc_chains_down.nd rfl (Or.inl rfl)) (zan (zn (i:=5) sc_chains_down.nd rfl (Or.inl rfl)) zb9))) (zd (zm (i:=6) sc_chains_down.nd rfl (Or.inl rfl) (zw (zm8 T) (hr.mono (by decide)) (by rfl) (za (zv hu (pv 2) (pv 3) (fun _ _=>rfl)) (za (pv 5) zc))))
     (zg (za6 (zaa zl9 (zq (zk K rfl) (pv 6) ze (fun _ _=>rfl)) (zq (zk K rfl) (zv hu (pv 2) (pv 4) (fun _ _=>rfl)) ze (fun _ _=>rfl)) (zag _)) (zg (zbf hu (pv 2) (pv 4) (pv 6) rfl)) zad))))))
   (zg (zew (zy (pv 2))))))),?_⟩
  have knd:=zay (ts:=ts) hF.tel.nd
  have lk:=hF.tel.klen
  have lf:=hF.flen
  have cl:=zmv (ads:=ads) hF.tel.ends
  have hR:∀k l b,(l,b)∈rwOf ts (ts.zip ads) k->H b.2=some (.tup (tieV b.1))/\TOk us b.1:=fun k l b h=>zpl hF.tel h
  have uF:∀k m m',CeF ts hi (fs.zip af) k m->CeF ts hi (fs.zip af) k m'->m.1=m'.1:=fun k m m' h h'=>by rw[h.high lf,h'.high lf]
  have nr:=nr0
  rw[zb3] at nr
  refine⟨_,rfl,p,pu,pt,_,_,us,ads,ts,rfl,hF.tel,fun pb ob adb bs H1 s1 fpb hB=>?_⟩
  rw[zb3] at hB
  try dsimp only [zr]
  refine⟨_,rfl,p,pm,pu,pt,pf,lo,hi,us,ads,ts,af,fs,rfl,hF.same s1,fun pl ol vl al H2 s2 fpl hL hLm=>?_⟩
  refine⟨pl,ol,_,vl,al,false,rfl,hL,knd,lk,fun pc oc adc H3 s3 fpc hC hCh=>?_⟩
  have hC:H3 pc=some (.dK (dV (keysOf ts (srt us)) fun k=>.ref (adc k))):=hC
  have s13:=s2.trans s3
  have s03:=s1.trans s13
  try dsimp only [zr]
  refine⟨_,rfl,p,pu,pt,_,_,us,ads,ts,rfl,(hF.same s03).tel,nr0,fun po os H4 s4 fpo hpo O pmo=>?_⟩
  have hB4:=hB.same (s13.trans s4)
  have hC4:=s4 _ _ hC
  have s04:=s03.trans s4
  have fpc0:H pc=none:=(s1.trans s2).free fpc
  have npo:po≠pc:=fun z=>by rw[z,hC] at fpo;cases fpo
  have hCh4:∀k∈keysOf ts (srt us),ChAt H H4 (adc k) ((vl k).1,(vl k).2,[]):=fun k hk=>((hCh k hk).same s4).old (s1.trans s2)
  have hLm:∀k∈keysOf ts (srt us),CeF ts hi (fs.zip af) k (vl k):=hLm
  rw[zb3] at O
  clear nr0 hB hC hCh
  generalize keysOf ts (srt us)=keys at *
  generalize rwOf ts (ts.zip ads)=R at *
  generalize CeF ts hi (fs.zip af)=F at *
  have U0:DnSt R F keys [] (fun k=>((vl k).1,(vl k).2,[])):=⟨fun k hk=>Dn.bare (hLm k hk),fun k hk m hm=>Int.le_of_eq (uF k m (vl k) hm (hLm k hk)).symm,fun k hk=>by simp at hk⟩
  have hh:∀{H':Hp},(∀b o,b≠pc->H4 b=some o->H' b=some o)->Same H H':=fun kp b o e=>kp b o (zp e fpc0) (s04 _ _ e)
  refine⟨po,os.map V.str,rfl,SqL.of hpo,zut (xs:=os.map V.str) (fun i σ H'=>∃(v3 v4 v5 v6:Option V) (v:Str->Chn) (ad:Str->Addr),σ = [some (.ref p),some (.ref pb),some (.ref pc),v3,v4,v5,v6]/\(∀b o,b≠pc->H4 b=some o->H' b=some o)/\H' pc=some (.dK (dV keys fun k=>.ref (ad k)))/\(∀k∈keys,ChAt H H' (ad k) (v k))/\DnSt R F keys (os.reverse.take i) v)
   ⟨none,none,none,none,_,adc,rfl,fun b o _ e=>e,hC4,hCh4,by simpa using U0⟩ (fun i σ H' _ h=>by obtain⟨_,_,_,_,_,_,_,q,_⟩:=h;exact SqL.of (q _ _ npo hpo)) ?_ ?_⟩
  ·rintro i x σ H5 hx ⟨v3,v4,v5,v6,v,ad,rfl,kp5,hd5,hk5,U5⟩
   rw[←List.map_reverse,List.getElem?_map] at hx
   cases eu:os.reverse[i]? with
   | none=>rw[eu] at hx;cases hx
   | some u=>
    rw[eu] at hx
    cases hx
    have huk:u∈keys:=O.sub u (List.mem_reverse.mp (List.mem_of_getElem? eu))
    obtain⟨fr,low⟩:=zuj O eu
    have B5:=hB4.keep hC4 kp5
    have lbs:(bs u).length=(R u).length:=(Paired.length (hB4.e u huk)).trans zki
    have tk:os.reverse.take (i+1)=os.reverse.take i++[u]:=by rw[List.take_add_one,eu];rfl
    try dsimp only [zr]
    refine⟨_,rfl,_,rfl,pb,_,rfl,B5.get huk,adb u,rfl,⟨_,SqL.of (B5.l u huk)⟩,zah (xs:=(bs u).map V.ref) (fun j σ H'=>∃(v4 v5 v6:Option V) (v:Str->Chn) (ad:Str->Addr),σ = [some (.ref p),some (.ref pb),some (.ref pc),some (.str u),v4,v5,v6]/\(∀b o,b≠pc->H4 b=some o->H' b=some o)/\H' pc=some (.dK (dV keys fun k=>.ref (ad k)))/\(∀k∈keys,ChAt H H' (ad k) (v k))/\DnSt R F keys (os.reverse.take i) v/\∀l b,(l,b)∈(R u).take j->(v l).1<=(v u).1-zae b.1)
     ⟨v4,v5,v6,v,ad,rfl,kp5,hd5,hk5,U5,fun l b h=>by simp at h⟩ (fun j σ H' _ h=>by obtain⟨_,_,_,_,_,_,q,_⟩:=h;exact SqL.of ((hB4.keep hC4 q).l u huk)) ?_ ?_⟩
    ·clear hk5 hd5 U5 B5 kp5
     rintro j x σ H6 hx ⟨v4,v5,v6,v,ad,rfl,kp6,hd6,hk6,U6,le6⟩
     have B6:=hB4.keep hC4 kp6
     have q6:Same H H6:=hh kp6
     obtain⟨b,⟨l,r⟩,rfl,hlr,_,hb⟩:=zbe (B6.e u huk) hx
     obtain⟨t,ht⟩:=zpm hlr
     have htm:(l,(t,r))∈R u:=List.mem_of_getElem? ht
     obtain⟨htr,tok⟩:=hR u l (t,r) htm
     have hlk:l∈keys:=(cl _ _ _ htm).2
     obtain⟨frl,nl⟩:=low l r (zcu htm)
     have rt:(R u).take (j+1)=(R u).take j++[(l,(t,r))]:=by rw[List.take_add_one,ht];rfl
     refine⟨b,_,rfl,SqT.of hb,rfl,_,_,rfl,_,_,rfl,rfl,?_⟩
     try dsimp only [zr]
     have gu:=DGet.k (k:=Sum.inr u) hd6
     rw[zb0 huk] at gu
     have lv:(v u).2.2.length<=900:=by
      have:=(U6.is u huk).short cl nr huk
      omega
     refine⟨_,rfl,_,rfl,pc,_,rfl,gu,_,rfl,ad u,r,v u,t,us,rfl,(hk6 u huk).any,q6 _ _ htr,tok,lv,fun q H7 s7 fq hq=>?_⟩
     have hd7:=s7 _ _ hd6
     have kp7:∀b o,b≠pc->H4 b=some o->H7 b=some o:=fun b o n e=>s7 _ _ (kp6 b o n e)
     have hk7:∀k∈keys,ChAt H H7 (ad k) (v k):=fun k hk=>(hk6 k hk).same s7
     have hq7:=hq.old q6
     have gl:=DGet.k (k:=Sum.inr l) hd7
     rw[zb0 hlk] at gl
     obtain⟨lq,h1,_⟩:=id hq7
     obtain⟨lu,h2,_⟩:=hk7 l hlk
     try dsimp only [zr]
     refine⟨_,rfl,q,_,_,_,rfl,rfl,SqT.of h1,rfl,_,rfl,_,rfl,pc,_,rfl,gl,ad l,_,_,_,rfl,rfl,SqT.of h2,rfl,_,_,rfl,rfl,_,rfl,?_⟩
     refine ite2 (fun c=>?_) (fun c=>?_)
     ·have c:(v u).1-zae t<(v l).1:=of_decide_eq_true c
      refine⟨_,rfl,_,rfl,_,rfl,pc,_,rfl,DPut.k (k:=Sum.inr l) hd7 (by rw[zaq];exact zz (by omega)),?_⟩
      rw[zot hlk,show (dV keys fun z=>if z=l then V.ref q else V.ref (ad z))=dV keys fun k=>V.ref (if k=l then q else ad k) from zbi fun z _=>by split<;>rfl]
      refine⟨_,_,_,fun k=>if k=l then ((v u).1-zae t,(v u).2.1,(t,r)::(v u).2.2) else v k,fun k=>if k=l then q else ad k,rfl,fun b o n e=>by rw[zl n];exact kp7 b o n e,zb,fun k hk=>?_,U6.set frl ((U6.is u huk).dn htm) (Int.le_of_lt c),fun l' b' h'=>?_⟩
      ·dsimp only
       by_cases e:k=l
       ·rw[if_pos e,if_pos e];exact hq7.put hd7
       ·rw[if_neg e,if_neg e];exact (hk7 k hk).put hd7
      ·dsimp only
       rw[if_neg (Ne.symm nl)]
       rw[rt] at h'
       rcases zax h' with z | z
       ·have h8:=le6 l' b' z
        by_cases e:l'=l
        ·rw[if_pos e]
         rw[e] at h8
         show (v u).1-zae t<=_
         omega
        ·rw[if_neg e];exact h8
       ·cases z
        rw[if_pos rfl]
        exact Int.le_refl _
     ·have c:¬((v u).1-zae t<(v l).1):=fun z=>c (decide_eq_true z)
      refine⟨_,_,_,v,ad,rfl,kp7,hd7,hk7,U6,fun l' b' h'=>?_⟩
      rw[rt] at h'
      rcases zax h' with z | z
      ·exact le6 l' b' z
      ·cases z
       show (v l).1<=(v u).1-zae t
       omega
    ·rintro σ H6 ⟨v4,v5,v6,v,ad,rfl,kp6,hd6,hk6,U6,le6⟩
     rw[List.length_map,lbs,List.take_length] at le6
     exact⟨_,_,_,_,v,ad,rfl,kp6,hd6,hk6,by rw[tk];exact U6.snoc le6⟩
  ·rintro σ H5 ⟨v3,v4,v5,v6,v,ad,rfl,kp5,hd5,hk5,U5⟩
   rw[List.length_map,←List.length_reverse (as:=os),List.take_length] at U5
   have all:∀k∈keys,k∈os.reverse:=fun k hk=>List.mem_reverse.mpr (pmo.mem_iff.mpr hk)
   exact .inr ⟨pc,_,hd5,fun ob'=>⟨_,rfl,k pc ob' v ad _ ((hh kp5).upd fpc0) fpc0 zb (fun k hk=>(hk5 k hk).put hd5) fun k hk=>⟨U5.is k hk,U5.hi cl all hk⟩⟩⟩
theorem zsc {H H':Hp}{e:Addr}(he:H e=none) (s:∀b o,b≠e->H b=some o->H' b=some o):Same H (del H' e):=fun b o h=>by
 have n:=zp h he
 unfold del
 rw[if_neg n]
 exact s b o n h
def zqn (C:Addr):Sp:=fun vs H Q E=>∃(p pm pu pt pf:Addr) (lo hi:Int) (us:List Str) (ads:List Addr) (ts:List Tie) (af:List Addr) (fs:List Fnd),vs = [.ref p]/\TelF K H p pm pu pt pf lo hi us ads ts af fs/\NoR (za1 ts (ts.zip ads)) (keysOf ts (srt us))/\
 (∀H',Same H H'->zd6 lo hi us ads ts af fs->Q .non H')/\∀(d r:Addr) (c:Chn) (w:Str) (H':Hp),Same H H'->H' d=some (.xd [("row",.ref r)])->zrr H' r c w->zi0 lo hi us ads ts af fs c w->E (.ref C) (some d) H'
set_option maxHeartbeats 8000000 in
theorem zcp (T:Tx K mg w zh zo zf zj):HasX P w K mg base "refuse_undated" ["telling"] 7 (zqn (K:=K) zf):=by
 refine T.ze6.hasX sc_refuse_undated (fun vs H Q E h=>?_) (fun f cdv A outer s H vs Q E hr h=>?_)
 ·obtain⟨p,pm,pu,pt,pf,lo,hi,us,ads,ts,af,fs,rfl,_⟩:=h;rfl
 ·obtain⟨p,pm,pu,pt,pf,lo,hi,us,ads,ts,af,fs,rfl,hF,nr,kN,kR⟩:=h
  refine⟨_,(zd (za8 (zw (zda T) (hr.mono (by decide)) (by rfl) (za (pv 0) zc)))
   (zd (zm (i:=1) sc_refuse_undated.nd rfl (Or.inl rfl) (zw (ze1 T) (hr.mono (by decide)) (by rfl) (za (pv 0) zc)))
   (zg (za6 (zhk (zti (pv 1))) (zg (zp0 (zdj T) T.zfq (hr.mono (by decide)) zg8 (by rfl) T.zdl (by decide) (za (pv 1) zc))) zad)))),?_⟩
  refine⟨_,rfl,p,pu,pt,_,_,us,ads,ts,rfl,hF.tel,nr,fun H1 s1=>?_⟩
  try dsimp only [zr]
  refine⟨_,rfl,p,pm,pu,pt,pf,lo,hi,us,ads,ts,af,fs,rfl,hF.same s1,nr,fun H2 s2 no=>?_,fun q c w H2 s2 ra ri=>?_⟩
  ·try dsimp only [zr]
   refine⟨_,rfl,_,rfl,iteF ?_⟩
   exact kN _ (s1.trans s2) no
  ·try dsimp only [zr]
   refine⟨_,rfl,_,rfl,iteT ?_⟩
   obtain⟨l,h1,h2⟩:=ra
   refine⟨_,rfl,fun e he=>?_⟩
   have t3:=Same.new (o:=excO e zf none) he
   have lc:c.2.2.length<=900:=by
    obtain⟨k,m,hk,u,_⟩:=ri
    rw[zb3] at nr
    have:=u.short (zmv (ads:=ads) hF.tel.ends) nr hk
    have:=hF.tel.klen
    omega
   refine⟨e,q,l,.str c.2.1,.str w,_,rfl,zb,SqT.of (t3 _ _ h1),SqL.of (t3 _ _ h2),by rw[List.length_map];omega,fun q' r d n1 n2 n3 fq fr fd n4 n5 n6=>?_⟩
   refine⟨rfl,some d,zb,?_⟩
   rw[zl n1] at fq
   rw[zl n2] at fr
   rw[zl n3] at fd
   refine kR d r c w _ (s1.trans (s2.trans (zsc he fun b o n h=>?_))) ?_ ⟨q',?_,?_⟩ ri
   ·rw[zl n,zl (zp h fd),zl (zp h fr),zl (zp h fq),zl n]
    exact h
   ·unfold del
    rw[if_neg n3,zl n3,zb]
   ·unfold del
    rw[if_neg n2,zl n2,zl (Ne.symm n6),zb]
   ·unfold del
    rw[if_neg n1,zl n1,zl (Ne.symm n5),zl (Ne.symm n4),zb]
def zqo (H:Hp) (q:Addr) (keys:List Str) (f g:Str->Int):Prop:=∃as:List Addr,H q=some (.lst (as.map V.ref))/\Paired (fun a k=>H a=some (.tup [.str k,.int (f k),.int (g k)])) as keys
def zsd (C:Addr):Sp:=fun vs H Q E=>∃(p pm pu pt pf:Addr) (lo hi:Int) (us:List Str) (ads:List Addr) (ts:List Tie) (af:List Addr) (fs:List Fnd),vs = [.ref p]/\TelF K H p pm pu pt pf lo hi us ads ts af fs/\NoR (za1 ts (ts.zip ads)) (keysOf ts (srt us))/\
 (∀(q:Addr) (f g:Str->Int) (H':Hp),Same H H'->H q=none->zqo H' q (keysOf ts (srt us)) f g->(∀k∈keysOf ts (srt us),LoIs (rwOf ts (ts.zip ads)) (FlF ts lo (fs.zip af)) k (f k))->(∀k∈keysOf ts (srt us),HiIs (rwOf ts (ts.zip ads)) (CeF ts hi (fs.zip af)) k (g k))->zd6 lo hi us ads ts af fs->Q (.ref q) H')/\
 ∀(d r:Addr) (c:Chn) (w:Str) (H':Hp),Same H H'->H' d=some (.xd [("row",.ref r)])->zrr H' r c w->zi0 lo hi us ads ts af fs c w->E (.ref C) (some d) H'
set_option maxHeartbeats 8000000 in
theorem zu6 (T:Tx K mg w zh zo zf zj):HasX P w K mg base "spans" ["telling"] 9 (zsd (K:=K) zf):=by
 refine T.zu8.hasX sc_spans (fun vs H Q E h=>?_) (fun f cdv A outer s H vs Q E hr h=>?_)
 ·obtain⟨p,pm,pu,pt,pf,lo,hi,us,ads,ts,af,fs,rfl,_⟩:=h;rfl
 ·obtain⟨p,pm,pu,pt,pf,lo,hi,us,ads,ts,af,fs,rfl,hF,nr,kN,kR⟩:=h
  have hu:=zbq hr
  refine⟨_,(zd (za8 (zs9 (zcp T) zg8 (hr.mono (by decide)) (by rfl) (za (pv 0) zc)))
   (zd (zm (i:=1) sc_spans.nd rfl (Or.inr rfl) (zw (zdk T) (hr.mono (by decide)) (by rfl) (za (pv 0) zc)))
   (zd (zm (i:=2) sc_spans.nd rfl (Or.inr rfl) (zw (zd7 T) (hr.mono (by decide)) (by rfl) (za (pv 0) zc)))
   (zg (zy (zbw (own:=["name"]) (cap:=["ups","downs"]) (ix:=[1,2]) (osc:=zi (top 35)) rfl ⟨rfl,by decide +kernel,by decide +kernel,by decide +kernel,by decide +kernel⟩ rfl (zbs (pv 1)) (fun _ _ _ _=>zn (i:=0) (show List.Nodup (["name","ups","downs"]:List Str) by decide +kernel) rfl (Or.inl rfl)) (fun _ _ _ _=>zbr) (fun _ _ _ _=>(zap (za (pv 0) (za (zq (zk K rfl) (zv hu (pv 1) (pv 0) (fun _ _=>rfl)) ze (fun _ _=>rfl)) (za (zq (zk K rfl) (zv hu (pv 2) (pv 0) (fun _ _=>rfl)) ze (fun _ _=>rfl)) zc))))))))))),?_⟩
  have lk:=hF.tel.klen
  refine⟨_,rfl,p,pm,pu,pt,pf,lo,hi,us,ads,ts,af,fs,rfl,hF,nr,fun H1 s1 no=>?_,kR⟩
  try dsimp only [zr]
  refine⟨_,rfl,p,pm,pu,pt,pf,lo,hi,us,ads,ts,af,fs,rfl,hF.same s1,nr,fun pa oa va aa H2 s2 fpa hpa hca ua=>?_⟩
  try dsimp only [zr]
  refine⟨_,rfl,p,pm,pu,pt,pf,lo,hi,us,ads,ts,af,fs,rfl,hF.same (s1.trans s2),nr,fun pb ob vb ab H3 s3 fpb hpb hcb ub=>?_⟩
  have q3:=s1.trans (s2.trans s3)
  have hpa3:=s3 _ _ hpa
  have hca3:∀k∈keysOf ts (srt us),ChAt H1 H3 (aa k) (va k):=fun k hk=>(hca k hk).same s3
  have kN':=fun q H' s f h=>kN q (fun k=>(va k).1) (fun k=>(vb k).1) H' s f h (fun k hk=>(ua k hk).2) (fun k hk=>(ub k hk).2) no
  clear ua ub kN
  generalize keysOf ts (srt us)=keys at *
  try dsimp only [zr]
  refine⟨_,rfl,pa,oa,_,rfl,hpa3,fun D hD=>?_⟩
  refine za7 (zd3 (a:=pa) (ob:=oa) (kvs:=dV keys fun k=>.ref (aa k))) (fun i σ' ys H'=>∃(w0:Option V) (as:List Addr),σ' = [w0,some (.ref pa),some (.ref pb)]/\ys=as.map V.ref/\Paired (fun a k=>H' a=some (.tup [.str k,.int (va k).1,.int (vb k).1])) as (keys.take i)/\Same H3 H'/\H' D=some (.lst ys))
   ⟨none,[],rfl,rfl,.nil,Same.new hD,zb⟩ (fun i σ' ys H' h=>?_) (by rw[List.length_map,zaq];exact zav (by omega)) ?_ ?_
  ·obtain⟨_,as,_,rfl,pb',q,hd⟩:=h
   refine⟨q _ _ hpa3,hd,?_⟩
   have:=Paired.length pb'
   rw[List.length_take] at this
   rw[List.length_map]
   omega
  ·rintro i x σ' ys H4 hx ⟨w0,as,rfl,rfl,pr,q4,hd4⟩
   have hix:=zam hx
   rw[zdh,List.getElem?_map] at hx
   cases eu:keys[i]? with
   | none=>rw[eu] at hx;cases hx
   | some u=>
    rw[eu] at hx
    cases hx
    have hu':u∈keys:=List.mem_of_getElem? eu
    obtain⟨la,h1,_⟩:=(hca3 u hu').same q4
    obtain⟨lb,h2,_⟩:=(hcb u hu').same q4
    try dsimp only [zr]
    unfold tYes
    dsimp only
    rw[if_pos rfl]
    refine⟨_,rfl,_,rfl,_,rfl,pa,_,rfl,zao (q4 _ _ hpa3) hu',aa u,_,_,_,rfl,rfl,SqT.of h1,rfl,_,rfl,_,rfl,pb,_,rfl,zao (q4 _ _ hpb) hu',ab u,_,_,_,rfl,rfl,SqT.of h2,rfl,(by show 3<=sizeLine;decide),fun b1 hb1=>?_⟩
    have w1:=Same.new (o:=.tup [.str u,.int (va u).1,.int (vb u).1]) hb1
    have hd1:=w1 _ _ hd4
    refine⟨hd1,zcd hix ⟨_,as++[b1],rfl,by rw[List.map_append];rfl,?_,(q4.trans w1).upd hD,zb⟩⟩
    rw[List.take_add_one,eu]
    exact Paired.snoc (Paired.mapP pr fun a z e=>zaw hd1 _ _ (w1 _ _ e)) (zaw hd1 _ _ zb)
  rintro σ' ys H4 ⟨w0,as,rfl,rfl,pr,q4,hd4⟩
  rw[List.length_map,zaq,List.take_length] at pr
  exact kN' D _ (q3.trans q4) (q3.free hD) ⟨as,hd4,pr⟩
def zse:Sp:=fun vs H Q _=>∃(p pu pt:Addr) (x y:V) (us:List Str) (ads:List Addr) (ts:List Tie),vs = [.ref p]/\Tel K H p pu pt x y us ads ts/\
 ∀(pd:Addr) (H':Hp),Same H H'->H pd=none->H' pd=some (.dK (dN us (labs ts)))->Q (.ref pd) H'
set_option maxHeartbeats 8000000 in
theorem zcl (T:Tx K mg w zh zo zf zj):Has P w K mg base "_law_ones" ["_law_telling_here"] 1 (zse (K:=K)):=by
 refine T.zk7.has sc__law_ones (fun vs H Q E h=>?_) (fun f cdv A outer s H vs Q E hr h=>?_)
 ·obtain⟨p,pu,pt,x,y,us,ads,ts,rfl,_⟩:=h;rfl
 ·obtain⟨p,pu,pt,x,y,us,ads,ts,rfl,hT,k⟩:=h
  have hu:=zbq hr
  refine⟨_,(zd (zm (i:=1) sc__law_ones.nd rfl (Or.inl rfl) zbd)
   (zd (zaj PassesOwn.never rfl (zab K rfl (zq (zk K rfl) (pv 0) ze (fun _ _=>rfl))) (zn (i:=2) sc__law_ones.nd rfl (Or.inl rfl)) (zg (zbf hu (pv 1) (pv 2) (pv 2) rfl)))
   (zd (zaj PassesOwn.never rfl (zb5 (by rfl) T.range (za (zac (zai K rfl) (by rfl) T.len boot_len (za (zq (zk K rfl) (pv 0) ze (fun _ _=>rfl)) zc)) zc)) (zn (i:=3) sc__law_ones.nd rfl (Or.inl rfl)) (zg (zaj PassesOwn.never rfl (zab K rfl (zq (zk K rfl) (pv 0) ze (fun _ _=>rfl))) (zn (i:=4) sc__law_ones.nd rfl (Or.inl rfl)) (zg (za6 (zaa zdp (zq (zk K rfl) (pv 4) ze (fun _ _=>rfl)) za0 (zag _)) (zd (zm (i:=5) sc__law_ones.nd rfl (Or.inl rfl) (zac (zgm rfl) (by rfl) T.min PyProof.Rows.boot_min (za (zv hu (pv 1) (zq (zk K rfl) (pv 4) ze (fun _ _=>rfl)) (fun _ _=>rfl)) (za (zv hu (pv 1) (zq (zk K rfl) (pv 4) ze (fun _ _=>rfl)) (fun _ _=>rfl)) zc))))
      (zd (zbf hu (pv 1) (zq (zk K rfl) (pv 4) ze (fun _ _=>rfl)) (pv 5) rfl)
      (zg (zbf hu (pv 1) (zq (zk K rfl) (pv 4) ze (fun _ _=>rfl)) (pv 5) rfl)))) zad)))))
   (zg (zy (pv 1)))))),?_⟩
  have hts:=hT.ends
  have hlen:=hT.len
  obtain⟨hp,hu1,ht1,tp,nd,hl,tl,_⟩:=hT
  refine fun pd hpd=>?_
  have s0:=Same.new (o:=.dK []) hpd
  refine⟨_,rfl,p,_,_,_,rfl,rfl,s0.tup hp,rfl,pu,rfl,⟨_,s0.seq hu1⟩,zah (xs:=us.map V.str) (fun i σ H'=>∃v2,σ = [some (.ref p),some (.ref pd),v2,none,none,none]/\Same H H'/\H' pd=some (.dK (dN (us.take i) id)))
   ⟨none,rfl,s0,zb⟩ (fun i σ H' _ h=>by obtain⟨_,_,q,_⟩:=h;exact q.seq hu1) ?_ ?_⟩
  ·rintro i x σ H1 hx ⟨v2,rfl,q,hd⟩
   rw[List.getElem?_map] at hx
   cases eu:us[i]? with
   | none=>rw[eu] at hx;cases hx
   | some u=>
    rw[eu] at hx
    cases hx
    have hi:=zam eu
    have hfr:u ∉ us.take i:=by
     have:=za4 nd i hi
     rw[show us[i]=u from (List.getElem?_eq_some_iff.mp eu).2] at this
     exact this
    dsimp only [zr]
    refine⟨_,rfl,_,rfl,_,rfl,pd,_,rfl,DPut.k (k:=Sum.inr u) hd (by rw[zic,List.length_take];exact zz (by omega)),?_⟩
    refine⟨_,rfl,q.upd hpd,?_⟩
    rw[zb,List.take_add_one,eu]
    congr 2
    exact zsy hfr
  ·rintro σ H1 ⟨v2,rfl,q,hd⟩
   have lu:(us.map V.str).length=us.length:=List.length_map _
   rw[lu,List.take_length] at hd
   refine⟨_,rfl,p,_,_,_,rfl,rfl,q.tup hp,rfl,pu,_,rfl,.inl (q.seq hu1),((us.map V.str).length:Int),rfl,by omega,by omega,zcr (lo:=0) (n:=(us.map V.str).length) (fun n σ H'=>∃v3 v4 v5,σ = [some (.ref p),some (.ref pd),v2,v3,v4,v5]/\Same H H'/\H' pd=some (.dK (dN us (litr ts n))))
    ⟨none,none,none,rfl,q,hd⟩ ?_ ?_⟩
   ·rintro n σ H2 hn ⟨v3,v4,v5,rfl,q2,hd2⟩
    refine⟨_,rfl,p,_,_,_,rfl,rfl,q2.tup hp,rfl,pt,rfl,⟨_,q2.seq ht1⟩,zah (xs:=ads.map V.ref) (fun i σ H'=>∃v4 v5,σ = [some (.ref p),some (.ref pd),v2,some (.int (0+(n:Int))),v4,v5]/\Same H H'/\H' pd=some (.dK (dN us (zcg (ts.take i) (litr ts n)))))
     ⟨v4,v5,rfl,q2,hd2⟩ (fun i σ H' _ h=>by obtain⟨_,_,_,q,_⟩:=h;exact q.seq ht1) ?_ ?_⟩
    ·rintro i x σ H3 hx ⟨v4,v5,rfl,q3,hd3⟩
     obtain⟨r,t,rfl,ht,_,hr⟩:=zdg tp hx
     have hr3:=q3 _ _ hr
     have hab:=hts t (List.mem_of_getElem? ht)
     try dsimp only [zr]
     refine⟨_,rfl,r,_,_,_,rfl,rfl,SqT.of hr3,zgg t,rfl,_,rfl,?_⟩
     refine ite2 (fun c=>?_) (fun c=>?_)
     ·have c:t.k=SAME:=V.str.inj (of_decide_eq_true c)
      have g1:=DGet.k (k:=Sum.inr t.a) hd3
      have g2:=DGet.k (k:=Sum.inr t.b) hd3
      rw[zbz hab.1] at g1
      rw[zbz hab.2] at g2
      refine⟨_,rfl,_,rfl,r,_,_,_,rfl,rfl,SqT.of hr3,zgh t,pd,_,rfl,g1,_,rfl,_,rfl,r,_,_,_,rfl,rfl,SqT.of hr3,zgi t,pd,_,rfl,g2,_,_,rfl,?_⟩
      try dsimp only [zr]
      refine⟨_,rfl,_,rfl,_,rfl,r,_,_,_,rfl,rfl,SqT.of hr3,zgh t,pd,_,rfl,DPut.k (k:=Sum.inr t.a) hd3 (by rw[zic];exact zz (by omega)),?_⟩
      rw[zor hab.1]
      have nr:r≠pd:=fun z=>by rw[z,hd3] at hr3;cases hr3
      have hr4:upd H3 pd (.dK (dN us fun z=>if z=t.a then minS (zcg (ts.take i) (litr ts n) t.a) (zcg (ts.take i) (litr ts n) t.b) else zcg (ts.take i) (litr ts n) z)) r=some (.tup (tieV t)):=by rw[zl nr];exact hr3
      refine⟨_,rfl,_,rfl,_,rfl,r,_,_,_,rfl,rfl,SqT.of hr4,zgi t,pd,_,rfl,DPut.k (k:=Sum.inr t.b) zb (by rw[zic];exact zz (by omega)),?_⟩
      rw[zor hab.2]
      refine⟨_,_,rfl,(q3.upd hpd).upd hpd,?_⟩
      rw[zb,zgl ht]
      congr 2
      refine zc1 fun z _=>?_
      have el:lst1 (zcg (ts.take i) (litr ts n)) t z=if z=t.a\/z=t.b then minS (zcg (ts.take i) (litr ts n) t.a) (zcg (ts.take i) (litr ts n) t.b) else zcg (ts.take i) (litr ts n) z:=by
       unfold lst1
       rw[if_pos c]
      rw[el]
      by_cases e1:z=t.b
      ·rw[if_pos e1,if_pos (Or.inr e1:z=t.a\/z=t.b)];rfl
      ·rw[if_neg e1]
       by_cases e2:z=t.a
       ·rw[if_pos e2,if_pos (Or.inl e2:z=t.a\/z=t.b)];rfl
       ·rw[if_neg e2,if_neg (fun q:z=t.a\/z=t.b=>q.elim e2 e1)]
     ·have c:¬t.k=SAME:=fun z=>c (decide_eq_true (congrArg V.str z))
      refine⟨_,_,rfl,q3,?_⟩
      rw[hd3,zgl ht]
      unfold lst1
      rw[if_neg c]
    ·rintro σ H3 ⟨v4,v5,rfl,q3,hd3⟩
     rw[List.length_map,hlen,List.take_length] at hd3
     exact⟨_,_,_,rfl,q3,hd3⟩
   ·rintro σ H2 ⟨v3,v4,v5,rfl,q2,hd2⟩
    refine⟨_,rfl,k pd _ q2 hpd ?_⟩
    rw[hd2,lu,zc1 (zrh hts)]
def zqp:Sp:=fun vs H Q _=>∃(p pu pt:Addr) (x y:V) (us:List Str) (ads:List Addr) (ts:List Tie),vs = [.ref p]/\Tel K H p pu pt x y us ads ts/\
 ∀(q:Addr) (ls:List Addr) (H':Hp),Same H H'->H q=none->H' q=some (.lst (ls.map V.ref))->Tups H' ls ((lnkL ts (ts.zip ads)).map lrV)->Q (.ref q) H'
set_option maxHeartbeats 8000000 in
theorem zjc (T:Tx K mg w zh zo zf zj):Has P w K mg base "_law_links" ["_law_telling_here"] 2 (zqp (K:=K)):=by
 refine T.zjm.has sc__law_links (fun vs H Q E h=>?_) (fun f cdv A outer s H vs Q E hr h=>?_)
 ·obtain⟨p,pu,pt,x,y,us,ads,ts,rfl,_⟩:=h;rfl
 ·obtain⟨p,pu,pt,x,y,us,ads,ts,rfl,hT,k⟩:=h
  have hu:=zbq hr
  refine⟨_,(zd (zm (i:=1) sc__law_links.nd rfl (Or.inl rfl) (zw (zcl T) (hr.mono (by decide)) (by rfl) (za (pv 0) zc)))
   (zd (zm (i:=2) sc__law_links.nd rfl (Or.inl rfl) (zal zc))
   (zd (zaj PassesOwn.never rfl (zab K rfl (zq (zk K rfl) (pv 0) ze (fun _ _=>rfl))) (zn (i:=3) sc__law_links.nd rfl (Or.inl rfl)) (zg (za6 (zaa zdp (zq (zk K rfl) (pv 3) ze (fun _ _=>rfl)) za0 (zag _)) (zg (za8 (zc8 K rfl PySem.F.plainAttrs_list PySem.F.slot_list_append PySem.F.type_list_append za9 (pv 2) (za (zap (za (zv hu (pv 1) (zq (zk K rfl) (pv 3) ze (fun _ _=>rfl)) (fun _ _=>rfl)) (za (zv hu (pv 1) (zq (zk K rfl) (pv 3) ze (fun _ _=>rfl)) (fun _ _=>rfl)) (za (zq (zk K rfl) (pv 3) ze (fun _ _=>rfl)) (za (pv 3) zc))))) zc)))) (zg (za6 (zaa zvn (zq (zk K rfl) (pv 3) ze (fun _ _=>rfl)) za0 (zag _)) (zg (za8 (zc8 K rfl PySem.F.plainAttrs_list PySem.F.slot_list_append PySem.F.type_list_append za9 (pv 2) (za (zap (za (zv hu (pv 1) (zq (zk K rfl) (pv 3) ze (fun _ _=>rfl)) (fun _ _=>rfl)) (za (zv hu (pv 1) (zq (zk K rfl) (pv 3) ze (fun _ _=>rfl)) (fun _ _=>rfl)) (za ze (za (pv 3) zc))))) zc)))) zad)))))
   (zg (zy (pv 2)))))),?_⟩
  refine⟨_,rfl,p,pu,pt,x,y,us,ads,ts,rfl,hT,fun pd H1 s1 fpd hd=>?_⟩
  have hts:=hT.ends
  have hlen:=hT.len
  try dsimp only [zr]
  refine⟨by decide,fun q0 hq0=>?_⟩
  have s2:=Same.new (o:=.lst []) hq0
  have T2:=hT.same (s1.trans s2)
  refine⟨_,rfl,p,_,_,_,rfl,rfl,T2.p,rfl,pt,rfl,⟨_,T2.t⟩,zah (xs:=ads.map V.ref) (fun i σ H'=>∃(v3:Option V) (ls:List Addr),σ = [some (.ref p),some (.ref pd),some (.ref q0),v3]/\Same H1 H'/\H' q0=some (.lst (ls.map V.ref))/\Tups H' ls (lnkR ts ((ts.zip ads).take i)))
   ⟨none,[],rfl,s2,zb,.nil⟩ (fun i σ H' _ h=>by obtain⟨_,_,_,q,_⟩:=h;exact (hT.same (s1.trans q)).t) ?_ ?_⟩
  ·rintro i x σ H3 hx ⟨v3,ls,rfl,q3,hq3,tl⟩
   have T3:=hT.same (s1.trans q3)
   obtain⟨r,t,rfl,ht,har,hr3⟩:=zdg T3.tt hx
   have hzi:(ts.zip ads)[i]? = some (t,r):=List.getElem?_zip_eq_some.mpr ⟨ht,har⟩
   have tok:=hT.ok t (List.mem_of_getElem? ht)
   have hab:=hts t (List.mem_of_getElem? ht)
   have ll:ls.length<=900:=by
    have h1:=tl.len
    have h2:=zri (ts:=ts) (z:=(ts.zip ads).take i)
    have h3:=hT.tl
    rw[List.length_take,List.length_zip] at h2
    omega
   have g1:=DGet.k (k:=Sum.inr t.a) (q3 _ _ hd)
   have g2:=DGet.k (k:=Sum.inr t.b) (q3 _ _ hd)
   rw[zbz hab.1] at g1
   rw[zbz hab.2] at g2
   have fin:∀b0,H3 b0=none->t.k≠SAME->∃(v3:Option V) (ls':List Addr),[some (.ref p),some (.ref pd),some (.ref q0),some (V.ref r)] = [some (.ref p),some (.ref pd),some (.ref q0),v3]/\Same H1 (upd (upd H3 b0 (.tup [.str (labs ts t.a),.str (labs ts t.b),.int (zae t),.ref r])) q0 (.lst (ls.map V.ref++[.ref b0])))/\
     upd (upd H3 b0 (.tup [.str (labs ts t.a),.str (labs ts t.b),.int (zae t),.ref r])) q0 (.lst (ls.map V.ref++[.ref b0])) q0=some (.lst (ls'.map V.ref))/\Tups (upd (upd H3 b0 (.tup [.str (labs ts t.a),.str (labs ts t.b),.int (zae t),.ref r])) q0 (.lst (ls.map V.ref++[.ref b0]))) ls' (lnkR ts ((ts.zip ads).take (i+1))):=by
    intro b0 hb0 c
    have t0:=Same.new (o:=.tup [.str (labs ts t.a),.str (labs ts t.b),.int (zae t),.ref r]) hb0
    have hq3':=t0 _ _ hq3
    refine⟨_,ls++[b0],rfl,(q3.trans t0).upd hq0,by rw[zb,List.map_append];rfl,?_⟩
    rw[zig hzi,if_pos c]
    exact Tups.snoc ((tl.same t0).stay (zaw hq3')) (zaw hq3' _ _ zb)
   try dsimp only [zr]
   refine⟨_,rfl,r,_,_,_,rfl,rfl,SqT.of hr3,zgg t,rfl,_,rfl,?_⟩
   refine ite2 (fun c=>?_) (fun c=>?_)
   ·have c:t.k=zmg:=V.str.inj (of_decide_eq_true c)
    refine⟨_,rfl,.inl ⟨rfl,_,SqL.of hq3⟩,_,rfl,_,rfl,r,_,_,_,rfl,rfl,SqT.of hr3,zgh t,pd,_,rfl,g1,_,rfl,_,rfl,r,_,_,_,rfl,rfl,SqT.of hr3,zgi t,pd,_,rfl,g2,_,rfl,r,_,_,_,rfl,rfl,SqT.of hr3,tok.after c,_,rfl,(by show 4<=sizeLine;decide),fun b0 hb0=>?_⟩
    refine⟨q0,_,_,rfl,rfl,Same.new hb0 _ _ hq3,by rw[List.length_map];exact zz (by omega),?_⟩
    exact fin b0 hb0 (by rw[c];decide)
   ·have c:¬t.k=zmg:=fun z=>c (decide_eq_true (congrArg V.str z))
    refine⟨_,rfl,r,_,_,_,rfl,rfl,SqT.of hr3,zgg t,rfl,_,rfl,?_⟩
    refine ite2 (fun c2=>?_) (fun c2=>?_)
    ·have c2:t.k≠SAME:=by
      intro z
      simp[z,SAME] at c2
     refine⟨_,rfl,.inl ⟨rfl,_,SqL.of hq3⟩,_,rfl,_,rfl,r,_,_,_,rfl,rfl,SqT.of hr3,zgh t,pd,_,rfl,g1,_,rfl,_,rfl,r,_,_,_,rfl,rfl,SqT.of hr3,zgi t,pd,_,rfl,g2,_,rfl,(by show 4<=sizeLine;decide),fun b0 hb0=>?_⟩
     refine⟨q0,_,_,rfl,rfl,Same.new hb0 _ _ hq3,by rw[List.length_map];exact zz (by omega),?_⟩
     have:=fin b0 hb0 c2
     rw[tok.plain c] at this
     exact this
    ·have c2:t.k=SAME:=by simpa[SAME] using c2
     refine⟨_,ls,rfl,q3,hq3,?_⟩
     rw[zig hzi,if_neg (fun z=>z c2),List.append_nil]
     exact tl
  ·rintro σ H3 ⟨v3,ls,rfl,q3,hq3,tl⟩
   rw[List.length_map] at tl
   have ez:(ts.zip ads).take ads.length=ts.zip ads:=List.take_of_length_le (by rw[List.length_zip];omega)
   rw[ez,zuc] at tl
   exact⟨_,rfl,k q0 ls _ (s1.trans q3) (s1.free hq0) hq3 tl⟩
def zqq:Sp:=fun vs H Q _=>∃(p pm pu pt pf:Addr) (lo hi:Int) (us:List Str) (ads:List Addr) (ts:List Tie) (af:List Addr) (fs:List Fnd) (py:Addr) (oy:Obj) (yr:Str->Int),vs = [.ref p,.ref py]/\TelF K H p pm pu pt pf lo hi us ads ts af fs/\YrAt H py oy (keysOf ts (srt us)) yr/\
 ∀(H':Hp),Same H H'->Q (.bl (lawB lo hi (keysOf ts (srt us)) ts fs (lnkL ts (ts.zip ads)) yr)) H'
set_option maxHeartbeats 8000000 in
theorem zjd (T:Tx K mg w zh zo zf zj):Has P w K mg base "_law_keeps" ["_law_telling_here","_law_years"] 4 (zqq (K:=K)):=by
 refine T.zjn.has sc__law_keeps (fun vs H Q E h=>?_) (fun f cdv A outer s H vs Q E hr h=>?_)
 ·obtain⟨p,pm,pu,pt,pf,lo,hi,us,ads,ts,af,fs,py,oy,yr,rfl,_⟩:=h;rfl
 ·obtain⟨p,pm,pu,pt,pf,lo,hi,us,ads,ts,af,fs,py,oy,yr,rfl,hF,hy,k⟩:=h
  have hu:=zbq hr
  refine⟨_,(zd (zm (i:=2) sc__law_keeps.nd rfl (Or.inl rfl) (zw (zcl T) (hr.mono (by decide)) (by rfl) (za (pv 0) zc)))
   (zd (zaj PassesOwn.never rfl (zbs (pv 1)) (zn (i:=3) sc__law_keeps.nd rfl (Or.inl rfl)) (zg (za6 (zdo (zgt zhm zhm (zq (zk K rfl) (zq (zk K rfl) (pv 0) ze (fun _ _=>rfl)) ze (fun _ _=>rfl)) (zv hu (pv 1) (pv 3) (fun _ _=>rfl)) (zq (zk K rfl) (zq (zk K rfl) (pv 0) ze (fun _ _=>rfl)) ze (fun _ _=>rfl)))) (zg (zy zb4)) zad)))
   (zd (zaj PassesOwn.never rfl (zab K rfl (zq (zk K rfl) (pv 0) ze (fun _ _=>rfl))) (zn (i:=4) sc__law_keeps.nd rfl (Or.inl rfl)) (zg (za6 (zdo (zgt zhm zhm (zq (zk K rfl) (pv 4) ze (fun _ _=>rfl)) (zv hu (pv 1) (zv hu (pv 2) (zq (zk K rfl) (pv 4) ze (fun _ _=>rfl)) (fun _ _=>rfl)) (fun _ _=>rfl)) (zq (zk K rfl) (pv 4) ze (fun _ _=>rfl)))) (zg (zy zb4)) zad)))
   (zd (zaj PassesOwn.never rfl (zab K rfl (zw (zjc T) (hr.mono (by decide)) (by rfl) (za (pv 0) zc))) (zn (i:=5) sc__law_keeps.nd rfl (Or.inl rfl)) (zg (za6 (zaa zl9 (zv hu (pv 1) (zq (zk K rfl) (pv 5) ze (fun _ _=>rfl)) (fun _ _=>rfl)) (zak zba (zv hu (pv 1) (zq (zk K rfl) (pv 5) ze (fun _ _=>rfl)) (fun _ _=>rfl)) (zq (zk K rfl) (pv 5) ze (fun _ _=>rfl))) (zag _)) (zg (zy zb4)) zad)))
   (zg (zy zb4)))))),?_⟩
  have hts:=hF.tel.ends
  have hfu:=hF.fu
  have lkk:=zpj (us:=us) (ts:=ts) (ads:=ads) hts
  have lks:=fun (x:Str) (hx:x∈us)=>zd5 (ts:=ts) hts hx
  have no:¬(lawB lo hi (keysOf ts (srt us)) ts fs (lnkL ts (ts.zip ads)) yr=true)->∀H',Same H H'->Q (.bl false) H':=fun n H' s'=>by
   have:=k H' s'
   rw[show lawB lo hi (keysOf ts (srt us)) ts fs (lnkL ts (ts.zip ads)) yr=false by simpa using n] at this
   exact this
  have yes:lawB lo hi (keysOf ts (srt us)) ts fs (lnkL ts (ts.zip ads)) yr=true->∀H',Same H H'->Q (.bl true) H':=fun n H' s'=>by
   have:=k H' s'
   rw[n] at this
   exact this
  rw[zg7] at no yes
  refine⟨_,rfl,p,pu,pt,_,_,us,ads,ts,rfl,hF.tel,fun pb H1 s1 fpb hb=>?_⟩
  generalize keysOf ts (srt us)=keys at hy lkk lks no yes
  have hy1:H1 py=some (.frz oy (.dK (dV keys fun k=>.int (yr k)))):=s1 _ _ hy
  try dsimp only [zr]
  refine⟨_,rfl,py,oy,_,rfl,hy1,zch (fun i σ H'=>∃(v3:Option V),σ = [some (.ref p),some (.ref py),some (.ref pb),v3,none,none]/\Same H1 H'/\∀k∈keys.take i,okK lo hi yr k=true)
   ⟨none,rfl,Same.refl _,fun k hk=>by simp at hk⟩ (fun i σ H' _ h=>by obtain⟨_,_,q,_⟩:=h;exact q _ _ hy1) ?_ ?_⟩
  ·rintro i kk vv σ H2 hx ⟨v3,rfl,q2,ok2⟩
   obtain⟨u,hu',rfl,_⟩:=zkb hx
   have huk:u∈keys:=List.mem_of_getElem? hu'
   have F2:=hF.same (s1.trans q2)
   have hy2:=q2 _ _ hy1
   try dsimp only [zr]
   refine zdu (!okK lo hi yr u) (fun Q' hQ=>?_) ?_
   ·refine⟨_,rfl,p,_,_,_,rfl,rfl,F2.tel.p,rfl,pm,_,_,_,rfl,rfl,F2.m,rfl,_,rfl,_,rfl,py,_,rfl,zao hy2 huk,_,_,rfl,rfl,_,rfl,?_⟩
    unfold okK at hQ
    refine ite2 (fun c=>?_) (fun c=>?_)
    ·rw[c,Bool.true_and] at hQ
     exact⟨_,rfl,p,_,_,_,rfl,rfl,F2.tel.p,rfl,pm,_,_,_,rfl,rfl,F2.m,rfl,_,_,rfl,rfl,_,rfl,hQ⟩
    ·have c:decide (lo<=yr u)=false:=by simpa using c
     rw[c,Bool.false_and] at hQ
     exact⟨_,rfl,hQ⟩
   ·refine ite2 (fun c=>?_) (fun c=>?_)
    ·refine no (fun z=>?_) _ (s1.trans q2)
     rw[z.1 u huk] at c
     cases c
    ·refine⟨_,rfl,q2,fun k hk=>?_⟩
     rw[List.take_add_one,hu',List.mem_append] at hk
     rcases hk with hk | hk
     ·exact ok2 k hk
     ·have:k=u:=by simpa using hk
      rw[this]
      simpa using c
  rintro σ H2 ⟨v3,rfl,q2,ok2⟩
  rw[zaq,List.take_length] at ok2
  have F2:=hF.same (s1.trans q2)
  have hy2:=q2 _ _ hy1
  have hb2:=q2 _ _ hb
  refine⟨_,rfl,p,_,_,_,rfl,rfl,F2.tel.p,rfl,pf,rfl,⟨_,F2.f⟩,zah (xs:=af.map V.ref) (fun i σ H'=>∃(v4:Option V),σ = [some (.ref p),some (.ref py),some (.ref pb),v3,v4,none]/\Same H2 H'/\∀f∈fs.take i,okF ts yr f=true)
   ⟨none,rfl,Same.refl _,fun k hk=>by simp at hk⟩ (fun i σ H' _ h=>by obtain⟨_,_,q,_⟩:=h;exact (F2.same q).f) ?_ ?_⟩
  ·rintro i x σ H3 hx ⟨v4,rfl,q3,ok3⟩
   obtain⟨r,f,rfl,hf,har,hr⟩:=zdg (F2.same q3).ft hx
   have hfm:=List.mem_of_getElem? hf
   have hkk:=lks f.u (hfu f hfm)
   have hy3:=q3 _ _ hy2
   have g1:=DGet.k (k:=Sum.inr f.u) (q3 _ _ hb2)
   rw[zbz (hfu f hfm)] at g1
   try dsimp only [zr]
   refine zdu (!okF ts yr f) (fun Q' hQ=>?_) ?_
   ·refine⟨_,rfl,r,_,_,_,rfl,rfl,SqT.of hr,zs5 f,_,rfl,_,rfl,_,rfl,r,_,_,_,rfl,rfl,SqT.of hr,zs4 f,pb,_,rfl,g1,py,_,rfl,zao hy3 hkk,_,_,rfl,rfl,_,rfl,?_⟩
    unfold okF at hQ
    refine ite2 (fun c=>?_) (fun c=>?_)
    ·rw[c,Bool.true_and] at hQ
     exact⟨_,rfl,r,_,_,_,rfl,rfl,SqT.of hr,zs6 f,_,_,rfl,rfl,_,rfl,hQ⟩
    ·have c:decide (f.lo<=yr (labs ts f.u))=false:=by simpa using c
     rw[c,Bool.false_and] at hQ
     exact⟨_,rfl,hQ⟩
   ·refine ite2 (fun c=>?_) (fun c=>?_)
    ·refine no (fun z=>?_) _ (s1.trans (q2.trans q3))
     rw[z.2.1 f hfm] at c
     cases c
    ·refine⟨_,rfl,q3,fun g hg=>?_⟩
     rw[List.take_add_one,hf,List.mem_append] at hg
     rcases hg with hg | hg
     ·exact ok3 g hg
     ·have:g=f:=by simpa using hg
      rw[this]
      simpa using c
  rintro σ H3 ⟨v4,rfl,q3,ok3⟩
  rw[List.length_map,hF.flen,List.take_length] at ok3
  have F3:=F2.same q3
  have hy3:=q3 _ _ hy2
  refine⟨_,rfl,p,pu,pt,_,_,us,ads,ts,rfl,F3.tel,fun pk ls H4 s4 fpk hpk tl=>?_⟩
  have hll:ls.length=(lnkL ts (ts.zip ads)).length:=by have:=tl.len;rw[List.length_map] at this;exact this
  have hy4:=s4 _ _ hy3
  refine⟨pk,rfl,⟨_,SqL.of hpk⟩,zah (xs:=ls.map V.ref) (fun i σ H'=>∃(v5:Option V),σ = [some (.ref p),some (.ref py),some (.ref pb),v3,v4,v5]/\Same H4 H'/\∀q∈(lnkL ts (ts.zip ads)).take i,okL yr q=true)
   ⟨none,rfl,Same.refl _,fun k hk=>by simp at hk⟩ (fun i σ H' _ h=>by obtain⟨_,_,q,_⟩:=h;exact SqL.of (q _ _ hpk)) ?_ ?_⟩
  ·rintro i x σ H5 hx ⟨v5,rfl,q5,ok5⟩
   obtain⟨r,⟨a,b,g,t⟩,rfl,hlr,har,hr⟩:=zdg (tl.same q5) hx
   have hm:=List.mem_of_getElem? hlr
   obtain⟨ha,hb'⟩:=lkk _ hm
   have hy5:=q5 _ _ hy4
   try dsimp only [zr]
   refine zdu (!okL yr (a,b,g,t)) (fun Q' hQ=>?_) ?_
   ·refine⟨_,rfl,_,rfl,r,_,_,_,rfl,rfl,SqT.of hr,rfl,py,_,rfl,zao hy5 ha,_,rfl,_,rfl,r,_,_,_,rfl,rfl,SqT.of hr,rfl,py,_,rfl,zao hy5 hb',_,rfl,r,_,_,_,rfl,rfl,SqT.of hr,rfl,_,_,rfl,rfl,_,_,rfl,rfl,_,rfl,?_⟩
    have e:(!okL yr (a,b,g,t))=decide (yr a<yr b+g):=by
     unfold okL
     rw[Bool.eq_iff_iff,Bool.not_eq_true',decide_eq_false_iff_not,decide_eq_true_iff]
     show ¬(yr b+g<=yr a)↔_
     omega
    rw[e] at hQ
    exact hQ
   ·refine ite2 (fun c=>?_) (fun c=>?_)
    ·refine no (fun z=>?_) _ (s1.trans (q2.trans (q3.trans (s4.trans q5))))
     rw[z.2.2 _ hm] at c
     cases c
    ·refine⟨_,rfl,q5,fun q' hq'=>?_⟩
     rw[List.take_add_one,hlr,List.mem_append] at hq'
     rcases hq' with hq' | hq'
     ·exact ok5 q' hq'
     ·have:q'=(a,b,g,t):=by simpa using hq'
      rw[this]
      simpa using c
  rintro σ H5 ⟨v5,rfl,q5,ok5⟩
  rw[List.length_map,hll,List.take_length] at ok5
  exact yes ⟨ok2,ok3,ok5⟩ _ (s1.trans (q2.trans (q3.trans (s4.trans q5))))
def zsf:Sp:=fun vs H Q _=>∃(p pm pu pt pf:Addr) (lo hi:Int) (us:List Str) (ads:List Addr) (ts:List Tie) (af:List Addr) (fs:List Fnd),vs = [.ref p]/\TelF K H p pm pu pt pf lo hi us ads ts af fs/\NoR (za1 ts (ts.zip ads)) (keysOf ts (srt us))/\
 ∀(r q:Addr) (wd:Str) (H':Hp),Same H H'->H' r=some (.tup [.str wd,.ref q])->((wd = "spans"/\H q=none/\∃f g:Str->Int,zqo H' q (keysOf ts (srt us)) f g/\(∀k∈keysOf ts (srt us),LoIs (rwOf ts (ts.zip ads)) (FlF ts lo (fs.zip af)) k (f k))/\(∀k∈keysOf ts (srt us),HiIs (rwOf ts (ts.zip ads)) (CeF ts hi (fs.zip af)) k (g k))/\zd6 lo hi us ads ts af fs)\/
   (wd = "row"/\∃(c:Chn) (w:Str),zrr H' q c w/\zi0 lo hi us ads ts af fs c w))->Q (.ref r) H'
set_option maxHeartbeats 8000000 in
theorem zje (T:Tx K mg w zh zo zf zj):Has P w K mg base "_law_asked" ["_law_telling_here"] 10 (zsf (K:=K)):=by
 refine T.zjo.has sc__law_asked (fun vs H Q E h=>?_) (fun f cdv A outer s H vs Q E hr h=>?_)
 ·obtain⟨p,pm,pu,pt,pf,lo,hi,us,ads,ts,af,fs,rfl,_⟩:=h;rfl
 ·obtain⟨p,pm,pu,pt,pf,lo,hi,us,ads,ts,af,fs,rfl,hF,nr,k⟩:=h
  refine⟨_,(zd (zm (i:=1) sc__law_asked.nd rfl (Or.inl rfl) (zap zc))
   (zd (ztc ⟨rfl,rfl,rfl⟩ (fun pn xe Es pt=>(zg (zm (i:=1) sc__law_asked.nd rfl (Or.inl rfl) (zap (za za0 (za (ztb (zu6 T) pt (hr.mono (by decide)) (by rfl) (za (pv 0) zc)) zc)))))) (zwo (i:=2) ⟨rfl,rfl,rfl⟩ (by rfl) T.zdl T.zkx sc__law_asked.nd rfl rfl (fun _ _=>(zg (zm (i:=1) sc__law_asked.nd rfl (Or.inl rfl) (zap (za za0 (za (zrx K rfl (pv 2) rfl) zc)))))) ztd))
   (zg (zy (pv 1))))),?_⟩
  refine⟨by show 0<=sizeLine;decide,fun b0 hb0=>?_⟩
  have t0:=Same.new (o:=.tup []) hb0
  refine⟨_,rfl,p,pm,pu,pt,pf,lo,hi,us,ads,ts,af,fs,rfl,hF.same t0,nr,fun q f g H1 s1 fq hS hf hg no=>?_,fun d r c w H1 s1 hd hra hri=>?_⟩
  ·refine⟨by show 2<=sizeLine;decide,fun r hr'=>?_⟩
   have t2:=Same.new (o:=.tup [.str "spans",.ref q]) hr'
   obtain⟨as,h1,h2⟩:=hS
   exact⟨_,rfl,k r q "spans" _ (t0.trans (s1.trans t2)) zb (.inl ⟨rfl,t0.free fq,f,g,⟨as,t2 _ _ h1,Paired.mapP h2 fun a k e=>t2 _ _ e⟩,hf,hg,no⟩)⟩
  ·refine⟨zf,rfl,true,T.zcx,?_⟩
   rw[if_pos rfl]
   intro e he
   have t2:=Same.new (o:=excH e zf (some d)) he
   refine⟨_,rfl,e,zf,d,_,_,rfl,zb,t2 _ _ hd,T.zkz,T.zcw,rfl,by show 2<=sizeLine;decide,fun b1 hb1=>?_⟩
   have t3:=Same.new (o:=.tup [.str "row",.ref r]) hb1
   obtain⟨l,h1,h2⟩:=hra
   exact⟨_,rfl,k b1 r "row" _ (t0.trans (s1.trans (t2.trans t3))) zb (.inr ⟨rfl,c,w,⟨l,t3 _ _ (t2 _ _ h1),t3 _ _ (t2 _ _ h2)⟩,hri⟩)⟩
def ztf (C:Addr):Sp:=fun vs H Q E=>∃(p pm pu pt pf:Addr) (lo hi:Int) (us:List Str) (ads:List Addr) (ts:List Tie) (af:List Addr) (fs:List Fnd) (nm:Str) (y:Int) (f g:Str->Int),vs = [.ref p,.str nm,.int y]/\TelF K H p pm pu pt pf lo hi us ads ts af fs/\NoR (za1 ts (ts.zip ads)) (keysOf ts (srt us))/\zd6 lo hi us ads ts af fs/\nm∈us/\fs.length<=59/\
 (∀k∈keysOf ts (srt us),LoIs (rwOf ts (ts.zip ads)) (FlF ts lo (fs.zip af)) k (f k))/\(∀k∈keysOf ts (srt us),HiIs (rwOf ts (ts.zip ads)) (CeF ts hi (fs.zip af)) k (g k))/\
 (f (labs ts nm)<=y->y<=g (labs ts nm)->∀(q:Addr) (as:List Addr) (h:Str->Int) (H':Hp),Same H H'->H q=none->H' q=some (.lst (as.map V.ref))->Paired (fun a k=>H' a=some (.tup [.str k,.int (h k)])) as (keysOf ts (srt us))->Dt (rwOf ts (ts.zip ads)) (keysOf ts (srt us)) f g h (labs ts nm) y->Q (.ref q) H')/\
 (¬(f (labs ts nm)<=y/\y<=g (labs ts nm))->∀H',Same H H'->E (.ref C) none H')
set_option maxHeartbeats 16000000 in
theorem zl6 (T:Tx K mg w zh zo zf zj):HasX P w K mg base "dating" ["telling","name","year"] 9 (ztf (K:=K) zj):=by
 refine T.zsn.hasX sc_dating (fun vs H Q E h=>?_) (fun f cdv A outer s H vs Q E hr h=>?_)
 ·obtain⟨p,pm,pu,pt,pf,lo,hi,us,ads,ts,af,fs,nm,y,f,g,rfl,_⟩:=h;rfl
 ·obtain⟨p,pm,pu,pt,pf,lo,hi,us,ads,ts,af,fs,nm,y,f,g,rfl,hF,nr,no,hnm,fl,hf,hg,kQ,kE⟩:=h
  have hu:=zbq hr
  refine⟨_,(zd (za8 (zs9 (zcp T) zg8 (hr.mono (by decide)) (by rfl) (za (pv 0) zc)))
   (zd (zm (i:=3) sc_dating.nd rfl (Or.inl rfl) (zv hu (zw (zcj T) (hr.mono (by decide)) (by rfl) (za (zq (zk K rfl) (pv 0) ze (fun _ _=>rfl)) (za (zq (zk K rfl) (pv 0) ze (fun _ _=>rfl)) zc))) (pv 1) (fun _ _=>rfl)))
   (zd (za6 (zdo (zgt zhm zhm (zq (zk K rfl) (zv hu (zw (zdk T) (hr.mono (by decide)) (by rfl) (za (pv 0) zc)) (pv 3) (fun _ _=>rfl)) ze (fun _ _=>rfl)) (pv 2) (zq (zk K rfl) (zv hu (zw (zd7 T) (hr.mono (by decide)) (by rfl) (za (pv 0) zc)) (pv 3) (fun _ _=>rfl)) ze (fun _ _=>rfl)))) (zg (zp1 T.zqr T.zqs hr zg8 (by rfl) T.zjg)) zad)
   (zd (zm (i:=4) sc_dating.nd rfl (Or.inl rfl) (zak (zuw K rfl) (zq (zk K rfl) (pv 0) ze (fun _ _=>rfl)) (zal (za (zap (za za0 (za (pv 1) (za (pv 2) (za (pv 2) zc))))) zc))))
   (zd (zm (i:=5) sc_dating.nd rfl (Or.inr rfl) (zw (zdk T) (hr.mono (by decide)) (by rfl) (za (zap (za (zq (zk K rfl) (pv 0) ze (fun _ _=>rfl)) (za (zq (zk K rfl) (pv 0) ze (fun _ _=>rfl)) (za (zq (zk K rfl) (pv 0) ze (fun _ _=>rfl)) (za (pv 4) zc))))) zc)))
   (zg (zy (zbw (own:=["each"]) (cap:=["chains"]) (ix:=[5]) (osc:=zi (top 36)) rfl ⟨rfl,by decide +kernel,by decide +kernel,by decide +kernel,by decide +kernel⟩ rfl (zbs (pv 5)) (fun _ _ _ _=>zn (i:=0) (show List.Nodup (["each","chains"]:List Str) by decide +kernel) rfl (Or.inl rfl)) (fun _ _ _ _=>zbr) (fun _ _ _ _=>(zap (za (pv 0) (za (zq (zk K rfl) (zv hu (pv 1) (pv 0) (fun _ _=>rfl)) ze (fun _ _=>rfl)) zc)))))))))))),?_⟩
  have hts:=hF.tel.ends
  have hlk:=zd5 (ts:=ts) hts hnm
  have lk:=hF.tel.klen
  refine⟨_,rfl,p,pm,pu,pt,pf,lo,hi,us,ads,ts,af,fs,rfl,hF,nr,fun H1 s1 _=>?_,fun d r c w H1 s1 _ _ ri=>?_⟩
  ·have F1:=hF.same s1
   have T1:=F1.tel
   try dsimp only [zr]
   refine⟨_,rfl,p,_,_,_,rfl,rfl,T1.p,rfl,_,rfl,p,_,_,_,rfl,rfl,T1.p,rfl,pu,pt,us,ads,ts,rfl,T1.u,T1.t,T1.tt,T1.nd,by have:=T1.ul;omega,hts,fun pn H2 fpn hn s2=>?_⟩
   have g1:=DGet.k (k:=Sum.inr nm) hn
   rw[zbz hnm] at g1
   refine⟨_,rfl,pn,_,rfl,g1,?_⟩
   have q2:=s1.trans s2
   try dsimp only [zr]
   refine zby (!(decide (f (labs ts nm)<=y)&&decide (y<=g (labs ts nm)))) (fun Q' hQ=>?_) (fun H5 s5=>?_)
   ·refine⟨_,rfl,p,pm,pu,pt,pf,lo,hi,us,ads,ts,af,fs,rfl,hF.same q2,nr,fun pa oa va aa H3 s3 fpa hpa hca ua=>?_⟩
    obtain⟨la,a1,_⟩:=hca _ hlk
    have eu:=(hf _ hlk).uniq (ua _ hlk).2
    refine⟨_,rfl,pa,_,rfl,zao hpa hlk,aa (labs ts nm),_,_,_,rfl,rfl,SqT.of a1,rfl,_,rfl,_,_,rfl,rfl,_,rfl,?_⟩
    rw[←eu]
    refine ite2 (fun c=>?_) (fun c=>?_)
    ·rw[c,Bool.true_and] at hQ
     refine⟨_,rfl,p,pm,pu,pt,pf,lo,hi,us,ads,ts,af,fs,rfl,hF.same (q2.trans s3),nr,fun pb ob vb ab H4 s4 fpb hpb hcb ub=>?_⟩
     obtain⟨lb,b1,_⟩:=hcb _ hlk
     have ed:=(hg _ hlk).uniq (ub _ hlk).2
     refine⟨_,rfl,pb,_,rfl,zao hpb hlk,ab (labs ts nm),_,_,_,rfl,rfl,SqT.of b1,rfl,_,_,rfl,rfl,_,rfl,?_⟩
     rw[←ed]
     exact hQ _ (s3.trans s4)
    ·have c:decide (f (labs ts nm)<=y)=false:=by simpa using c
     rw[c,Bool.false_and] at hQ
     exact⟨_,rfl,hQ _ s3⟩
   have q5:=q2.trans s5
   refine ite2 (fun c=>?_) (fun c=>?_)
   ·refine kE (fun z=>?_) _ q5
    rw[decide_eq_true z.1,decide_eq_true z.2] at c
    cases c
   ·have c:f (labs ts nm)<=y/\y<=g (labs ts nm):=by simpa using c
    have F5:=hF.same q5
    try unfold zl7
    try dsimp only
    refine⟨_,rfl,p,_,_,_,rfl,rfl,F5.tel.p,rfl,_,rfl,_,rfl,_,rfl,(by show 4<=sizeLine;decide),fun b0 hb0=>?_⟩
    have t1:=Same.new (o:=.tup (fndV ⟨"",nm,y,y⟩)) hb0
    refine⟨by show 1<=sizeLine;decide,fun l0 hl0=>?_⟩
    have t2:=Same.new (o:=.lst [.ref b0]) hl0
    have t12:=t1.trans t2
    have F6:=F5.same t12
    have hb06:=t2 _ _ (zb (H:=H5) (a:=b0) (o:=.tup (fndV ⟨"",nm,y,y⟩)))
    have lf:=hF.flen
    refine⟨pf,l0,_,_,rfl,rfl,F6.f,SqL.of zb,by rw[List.length_map];exact zav (show _+1<=1000 by omega),fun l1 hl1=>?_⟩
    have t3:=Same.new (o:=.lst (af.map V.ref++[.ref b0])) hl1
    have t13:=t12.trans t3
    have F7:=F5.same t13
    try dsimp only [zr]
    refine⟨_,rfl,p,_,_,_,rfl,rfl,F7.tel.p,rfl,_,rfl,p,_,_,_,rfl,rfl,F7.tel.p,rfl,_,rfl,p,_,_,_,rfl,rfl,F7.tel.p,rfl,_,rfl,(by show 4<=sizeLine;decide),fun p2 hp2=>?_⟩
    have t4:=Same.new (o:=.tup [.ref pm,.ref pu,.ref pt,.ref l1]) hp2
    have t14:=t13.trans t4
    have F8:=F5.same t14
    have q8:=q5.trans t14
    have G8:TelF K (upd (upd (upd (upd H5 b0 (.tup (fndV ⟨"",nm,y,y⟩))) l0 (.lst [.ref b0])) l1 (.lst (af.map V.ref++[.ref b0]))) p2 (.tup [.ref pm,.ref pu,.ref pt,.ref l1])) p2 pm pu pt l1 lo hi us ads ts (af++[b0]) (fs++[⟨"",nm,y,y⟩]):=by
     refine⟨⟨SqT.of zb,F8.tel.u,F8.tel.t,F8.tel.tt,F8.tel.nd,F8.tel.ul,F8.tel.tl,F8.tel.ok⟩,F8.m,SqL.of ?_,?_,fun f hf=>?_,by rw[List.length_append];show _+1<=60;omega⟩
     ·rw[List.map_append]
      exact t4 _ _ zb
     ·rw[List.map_append]
      exact Tups.snoc F8.ft (t4 _ _ (t3 _ _ hb06))
     ·rcases zax hf with z | z
      ·exact hF.fu f z
      ·rw[z];exact hnm
    refine⟨p2,pm,pu,pt,l1,lo,hi,us,ads,ts,af++[b0],fs++[(⟨"",nm,y,y⟩:Fnd)],rfl,G8,nr,fun pc oc vc ac H9 s9 fpc hpc hcc uc=>?_⟩
    have q9:=q8.trans s9
    have lf':(af++[b0]).length=(fs++[(⟨"",nm,y,y⟩:Fnd)]).length:=by rw[List.length_append,List.length_append,lf];rfl
    have lo':∀k,lowF ts (fs++[(⟨"",nm,y,y⟩:Fnd)]) lo k=if labs ts nm=k then mxI (lowF ts fs lo k) y else lowF ts fs lo k:=fun k=>zpr
    have nr':=nr
    rw[zb3] at nr'
    have D:Dt (rwOf ts (ts.zip ads)) (keysOf ts (srt us)) f g (fun k=>(vc k).1) (labs ts nm) y:=dt_of (zmv hts) nr' hlk hf hg (fun k hk=>(uc k hk).2) (zlx hts hf hg no) c (fun k=>zpq lf k) (fun k m hm=>hm.low lf) (fun k=>by rw[←lo'];exact zpq lf' k) (fun k m hm=>by rw[←lo'];exact hm.low lf')
    have kQ':=kQ c.1 c.2
    clear uc kQ kE
    generalize keysOf ts (srt us)=keys at *
    try dsimp only [zr]
    refine⟨_,rfl,pc,oc,_,rfl,hpc,fun D hD=>?_⟩
    refine za7 (zd3 (a:=pc) (ob:=oc) (kvs:=dV keys fun k=>.ref (ac k))) (fun i σ' ys H'=>∃(w0:Option V) (as:List Addr),σ' = [w0,some (.ref pc)]/\ys=as.map V.ref/\Paired (fun a k=>H' a=some (.tup [.str k,.int (vc k).1])) as (keys.take i)/\Same H9 H'/\H' D=some (.lst ys))
     ⟨none,[],rfl,rfl,.nil,Same.new hD,zb⟩ (fun i σ' ys H' h=>?_) (by rw[List.length_map,zaq];exact zav (by omega)) ?_ ?_
    ·obtain⟨_,as,_,rfl,pb',q,hd⟩:=h
     refine⟨q _ _ hpc,hd,?_⟩
     have:=Paired.length pb'
     rw[List.length_take] at this
     rw[List.length_map]
     omega
    ·rintro i x σ' ys H10 hx ⟨w0,as,rfl,rfl,pr,q10,hd10⟩
     have hix:=zam hx
     rw[zdh,List.getElem?_map] at hx
     cases eu:keys[i]? with
     | none=>rw[eu] at hx;cases hx
     | some u=>
      rw[eu] at hx
      cases hx
      have hu':u∈keys:=List.mem_of_getElem? eu
      obtain⟨lc,h1,_⟩:=(hcc u hu').same q10
      try dsimp only [zr]
      unfold tYes
      dsimp only
      rw[if_pos rfl]
      refine⟨_,rfl,_,rfl,_,rfl,pc,_,rfl,zao (q10 _ _ hpc) hu',ac u,_,_,_,rfl,rfl,SqT.of h1,rfl,(by show 2<=sizeLine;decide),fun b1 hb1=>?_⟩
      have w1:=Same.new (o:=.tup [.str u,.int (vc u).1]) hb1
      have hd1:=w1 _ _ hd10
      refine⟨hd1,zcd hix ⟨_,as++[b1],rfl,by rw[List.map_append];rfl,?_,(q10.trans w1).upd hD,zb⟩⟩
      rw[List.take_add_one,eu]
      exact Paired.snoc (Paired.mapP pr fun a z e=>zaw hd1 _ _ (w1 _ _ e)) (zaw hd1 _ _ zb)
    rintro σ' ys H10 ⟨w0,as,rfl,rfl,pr,q10,hd10⟩
    rw[List.length_map,zaq,List.take_length] at pr
    exact kQ' D as (fun k=>(vc k).1) _ (q9.trans q10) (q9.free hD) hd10 pr (by assumption)
  ·obtain⟨kk,m,hk,u,gg,_,hl,_⟩:=ri
   have:=no kk hk c m u gg
   omega
theorem zsg (T:Tx K mg w zh zo zf zj):Has P w K mg base "dating" ["telling","name","year"] 9 (fun vs H Q _=>ztf (K:=K) zj vs H Q (fun _ _ _=>False)):=(zl6 T).good fun vs H Q E h=>h
def zm9:Sp:=fun vs H Q _=>∃(p pm pu pt pf:Addr) (lo hi:Int) (us:List Str) (ads:List Addr) (ts:List Tie) (af:List Addr) (fs:List Fnd) (nm:Str) (y:Int) (f g:Str->Int),vs = [.ref p,.str nm,.int y]/\TelF K H p pm pu pt pf lo hi us ads ts af fs/\NoR (za1 ts (ts.zip ads)) (keysOf ts (srt us))/\zd6 lo hi us ads ts af fs/\nm∈us/\fs.length<=59/\
 (∀k∈keysOf ts (srt us),LoIs (rwOf ts (ts.zip ads)) (FlF ts lo (fs.zip af)) k (f k))/\(∀k∈keysOf ts (srt us),HiIs (rwOf ts (ts.zip ads)) (CeF ts hi (fs.zip af)) k (g k))/\¬(f (labs ts nm)<=y/\y<=g (labs ts nm))/\∀H',Same H H'->Q (.bl true) H'
set_option maxHeartbeats 8000000 in
theorem zf2 (T:Tx K mg w zh zo zf zj):Has P w K mg base "_law_refused" ["_law_telling_here","_law_name","_law_year"] 10 (zm9 (K:=K)):=by
 refine T.zf8.has sc__law_refused (fun vs H Q E h=>?_) (fun f cdv A outer s H vs Q E hr h=>?_)
 ·obtain⟨p,pm,pu,pt,pf,lo,hi,us,ads,ts,af,fs,nm,y,f,g,rfl,_⟩:=h;rfl
 ·obtain⟨p,pm,pu,pt,pf,lo,hi,us,ads,ts,af,fs,nm,y,f,g,rfl,hF,nr,no,hnm,fl,hf,hg,hy,k⟩:=h
  refine⟨_,(zd (zm (i:=3) sc__law_refused.nd rfl (Or.inl rfl) (zap zc))
   (zd (ztc ⟨rfl,rfl,rfl⟩ (fun pn xe Es pt=>(zg (za8 (ztb (zl6 T) pt (hr.mono (by decide)) (by rfl) (za (pv 0) (za (pv 1) (za (pv 2) zc))))))) (zwo (i:=4) ⟨rfl,rfl,rfl⟩ (by rfl) T.zfp T.zkv sc__law_refused.nd rfl rfl (fun _ _=>(zg (zm (i:=3) sc__law_refused.nd rfl (Or.inl rfl) (zap (za (zac (zep K rfl) (by rfl) T.isinstance PyProof.Rows.boot_isinstance (za (pv 4) (za (zjt (v:=.ref zj) (by rfl) T.zjg rfl) zc))) (za (zac (zkp K rfl) (by rfl) T.isinstance PyProof.Rows.boot_isinstance (za (pv 4) (za (zju (v:=.ty "ValueError") (by rfl) T.ValueError L2.boot_ValueError rfl) zc))) (za (zac (zep K rfl) (by rfl) T.isinstance PyProof.Rows.boot_isinstance (za (pv 4) (za (zjt (v:=.ref zf) (by rfl) T.zdl rfl) zc))) (za (zac (zep K rfl) (by rfl) T.isinstance PyProof.Rows.boot_isinstance (za (pv 4) (za (zjt (v:=.ref zo) (by rfl) T.zsi rfl) zc))) zc)))))))) ztd))
   (zg (zy (zjv (zob K rfl (hu10 hr)) (pv 3) (zap (za zb4 (za zb4 (za zb4 (za zb4 zc))))) (zag _)))))),?_⟩
  refine⟨by show 0<=sizeLine;decide,fun b0 hb0=>?_⟩
  have t0:=Same.new (o:=.tup []) hb0
  refine⟨_,rfl,_,rfl,_,rfl,p,pm,pu,pt,pf,lo,hi,us,ads,ts,af,fs,nm,y,f,g,rfl,hF.same t0,nr,no,hnm,fl,hf,hg,fun h1 h2=>absurd ⟨h1,h2⟩ hy,fun _ H1 s1=>?_⟩
  refine⟨zj,rfl,true,T.zdn,?_⟩
  rw[if_pos rfl]
  intro e he
  have t2:=Same.new (o:=excH e zj none) he
  have he2:upd H1 e (excH e zj none) e=some (excH e zj none):=zb
  refine⟨_,rfl,e,zj,zj,_,rfl,he2,T.zd8,T.zd9,T.ze2,_,rfl,e,zj,"ValueError",_,rfl,he2,T.zd8,T.zd9,T.zc6,_,rfl,e,zj,zf,_,rfl,he2,T.zd8,T.zd9,T.zea,_,rfl,e,zj,zo,_,rfl,he2,T.zd8,T.zd9,T.zfr,by show 4<=sizeLine;decide,fun b1 hb1=>?_⟩
  have t3:=Same.new (o:=.tup [.bl true,.bl true,.bl false,.bl false]) hb1
  refine⟨_,rfl,by show 4<=sizeLine;decide,fun b2 hb2=>?_⟩
  have t4:=Same.new (o:=.tup [.bl true,.bl true,.bl false,.bl false]) hb2
  have fl4:∀v∈[V.bl true,V.bl true,V.bl false,V.bl false],zb6 v=true:=fun v hv=>by
   simp at hv
   rcases hv with rfl | rfl<;>rfl
  have hd:=DEq.flatT (n:=7) (SqT.of (K:=K) (t4 _ _ (zb (H:=upd H1 e (excH e zj none)) (a:=b1) (o:=.tup [.bl true,.bl true,.bl false,.bl false])))) (SqT.of zb) fl4 fl4
  rw[zds fl4] at hd
  refine⟨b1,b2,_,rfl,rfl,hd,?_⟩
  exact k _ (t0.trans (s1.trans (t2.trans (t3.trans t4))))
def zsh (H:Hp) (ws:List V):V->Bool
 | .ref a=>match H a with
  | some (.tup vs)=>eqL vs ws
  | _=>false
 | _=>false
def zna:Sp:=fun vs H Q _=>∃(p pm pu pt pf:Addr) (lo hi:Int) (us:List Str) (ts:List Tie) (fs:List Fnd) (ads af:List Addr) (nm:Str) (y:Int) (f g:Str->Int),vs = [.ref p,.str (labs ts nm),.str nm,.int y]/\TlAt K H p pm pu pt pf lo hi us ts fs ads af/\Tll lo hi us ts fs/\NoR (za1 ts (ts.zip ads)) (keysOf ts (srt us))/\zd6 lo hi us ads ts af fs/\nm∈us/\
 (∀k∈keysOf ts (srt us),LoIs (rwOf ts (ts.zip ads)) (FlF ts lo (fs.zip af)) k (f k))/\(∀k∈keysOf ts (srt us),HiIs (rwOf ts (ts.zip ads)) (CeF ts hi (fs.zip af)) k (g k))/\(f (labs ts nm)<=y/\y<=g (labs ts nm))/\∀H',Same H H'->Q (.bl true) H'
set_option maxHeartbeats 16000000 in
theorem zjf (T:Tx K mg w zh zo zf zj):Has P w K mg base "_law_right" ["_law_telling_here","_law_one","_law_name","_law_year"] 10 (zna (K:=K)):=by
 refine T.zjp.has sc__law_right (fun vs H Q E h=>?_) (fun f cdv A outer s H vs Q E hr h=>?_)
 ·obtain⟨p,pm,pu,pt,pf,lo,hi,us,ts,fs,ads,af,nm,y,f,g,rfl,_⟩:=h;rfl
 ·obtain⟨p,pm,pu,pt,pf,lo,hi,us,ts,fs,ads,af,nm,y,f,g,rfl,hA,dat,nr,no,hnm,hf,hg,hy,k⟩:=h
  refine⟨_,(zd (zm (i:=4) sc__law_right.nd rfl (Or.inl rfl) (zw (zdi T) (hr.mono (by decide)) (by rfl) (za (pv 0) zc)))
   (zd (zm (i:=5) sc__law_right.nd rfl (Or.inl rfl) (zw (zsg T) (hr.mono (by decide)) (by rfl) (za (pv 4) (za (pv 2) (za (pv 3) zc)))))
   (zd (za6 (zaa (zee K rfl (hu10 hr)) (pv 4) (pv 0) (zag _)) (zg (zy zb4)) zad)
   (zd (zm (i:=6) sc__law_right.nd rfl (Or.inl rfl) (zac (zfy (P:=P) (w:=w) rfl rfl rfl) (by rfl) T.sorted PyProof.Rows.boot_sorted (za (za2 (zo6 (P:=P) (w:=w) (K:=K) rfl rfl rfl rfl) (by rfl) T.set PyProof.Rows.boot_set (za (za2 (zet rfl) (by rfl) T.list PyProof.Rows.boot_list (za (zoc K rfl PySem.F.plainAttrs_dict PySem.F.slot_dict_values PySem.F.type_dict_values zh6 (zw (zcl T) (hr.mono (by decide)) (by rfl) (za (pv 0) zc))) zc)) zc)) zc)))
   (zd (za6 (PW.pt (zqu (zdo (ze7 (zac (zh2 K rfl) (by rfl) T.isinstance PyProof.Rows.boot_isinstance (za (pv 5) (za (zju (v:=.ty "list") (by rfl) T.list PyProof.Rows.boot_list rfl) zc))))) (zk9 (zaa (zee K rfl (hu10 hr)) (zbw (own:=["_law_pair"]) (cap:=[]) (ix:=[]) (osc:=zi (top 53)) rfl ⟨rfl,by decide +kernel,by decide +kernel,by decide +kernel,by decide +kernel⟩ rfl (zab K rfl (pv 5)) (fun _ _ _ _=>zn (i:=0) (show List.Nodup (["_law_pair"]:List Str) by decide +kernel) rfl (Or.inl rfl)) (fun _ _ _ _=>zbr) (fun _ _ _ _=>(zq (zk K rfl) (pv 0) ze (fun _ _=>rfl)))) (pv 6) (zag _))))) (zg (zy zb4)) zad)
   (zd (za6 (PW.pt (zqu (zaa (zed K rfl) zb4 (zbw (own:=["_law_pair"]) (cap:=[]) (ix:=[]) (osc:=zi (top 53)) rfl ⟨rfl,by decide +kernel,by decide +kernel,by decide +kernel,by decide +kernel⟩ rfl (zab K rfl (pv 5)) (fun _ _ _ _=>zn (i:=0) (show List.Nodup (["_law_pair"]:List Str) by decide +kernel) rfl (Or.inl rfl)) (fun _ _ _ _=>zbr) (fun _ _ _ _=>(znl (zac (zh2 K rfl) (by rfl) T.isinstance PyProof.Rows.boot_isinstance (za (pv 0) (za (zju (v:=.ty "tuple") (by rfl) T.tuple PyProof.Rows.boot_tuple rfl) zc))) (znk (zjv zdp (zac (zai K rfl) (by rfl) T.len boot_len (za (pv 0) zc)) ze (zag _)))))) (by with_unfolding_all rfl)) (zk9 (zaa (zgd K rfl (hu11 hr)) (zap (za (pv 1) (za (pv 3) zc))) (pv 5) (by with_unfolding_all rfl))))) (zg (zy zb4)) zad)
   (zg (zy (znl (zw (zjd T) (hr.mono (by decide)) (by rfl) (za (pv 0) (za (za2 (zgo (K:=K) rfl rfl) (by rfl) T.dict PyProof.Rows.boot_dict (za (pv 5) zc)) zc))) (znk (zw (zku T) (hr.mono (by decide)) (by rfl) (za (zw (zdi T) (hr.mono (by decide)) (by rfl) (za (pv 0) zc)) (za (pv 5) zc))))))))))))),?_⟩
  have hts:=dat.ends
  have F0:=hA.telF dat
  have lf:=F0.flen
  have lk:=F0.tel.klen
  have knd:=zay (ts:=ts) dat.nd
  have fu:∀f∈fs,f.u∈us:=fun f hf=>(dat.fok f hf).u
  refine⟨_,rfl,p,pm,pu,pt,pf,lo,hi,us,ts,fs,ads,af,rfl,hA,fun p' pu' pt' pf' H1 hp' hA' s1=>?_⟩
  try dsimp only [zr]
  refine⟨_,rfl,_,rfl,_,rfl,p',pm,pu',pt',pf',lo,hi,us,ads,ts,af,fs,nm,y,f,g,rfl,hA'.telF dat,nr,no,hnm,by have:=dat.fl;omega,hf,hg,fun _ _ q as h H2 s2 fq hq pr D=>?_,fun z _ _=>z hy⟩
  have kb:=zrs hts fu lf hf hg D
  have la:as.length=(keysOf ts (srt us)).length:=Paired.length pr
  have q2:=s1.trans s2
  have hA2:=hA.same q2
  have hA2':=hA'.same s2
  try dsimp only [zr]
  refine⟨_,rfl,_,rfl,p',p,_,rfl,rfl,hA2'.deq hA2 dat,_,rfl,iteF ?_⟩
  try unfold zl7
  try dsimp only
  refine⟨_,rfl,p,pu,pt,_,_,us,ads,ts,rfl,(hA2.telF dat).tel,fun pb H3 s3 fpb hb3=>?_⟩
  refine⟨.inr (.inr (.inl ⟨rfl,.inl ⟨_,hb3⟩⟩)),pb,_,rfl,rfl,hb3,fun pv hpv=>?_⟩
  have t2:=Same.new (o:=vwO pv pb) hpv
  refine⟨pv,pb,_,rfl,zb,t2 _ _ hb3,fun l2 hl2=>?_⟩
  have evs:((dN us (labs ts)).map fun kv=>kv.2)=(us.map (labs ts)).map V.str:=by unfold dN;rw[List.map_map,List.map_map];rfl
  rw[show (dN us (labs ts)).map (·.2)=(us.map (labs ts)).map V.str from evs]
  have t3:=Same.new (o:=.lst ((us.map (labs ts)).map V.str)) hl2
  refine⟨l2,us.map (labs ts),rfl,SqL.of zb,by rw[List.length_map];have:=dat.ul;omega,fun ps ds hps dnd dmem dlen=>?_⟩
  have t4:=Same.new (o:=setO P w ps ds) hps
  rw[List.length_map] at dlen
  refine⟨ps,ds,rfl,zb,dnd,by have:=dat.ul;omega,fun l3 m3 hl3' p3 r3=>?_⟩
  have em:=zkh dat.nd hts dnd dmem p3 r3
  subst em
  have t5:=Same.new (o:=.lst ((keysOf ts (srt us)).map V.str)) hl3'
  have s5:=s3.trans (t2.trans (t3.trans (t4.trans t5)))
  have hn5:upd (upd (upd (upd H3 pv (vwO pv pb)) l2 (.lst ((us.map (labs ts)).map V.str))) ps (setO P w ps ds)) l3 (.lst ((keysOf ts (srt us)).map V.str)) l3=some (.lst ((keysOf ts (srt us)).map V.str)):=zb
  generalize upd (upd (upd (upd H3 pv (vwO pv pb)) l2 (.lst ((us.map (labs ts)).map V.str))) ps (setO P w ps ds)) l3 (.lst ((keysOf ts (srt us)).map V.str))=H5 at s5 hn5
  have hq5:=s5 _ _ hq
  have pr5:=Paired.mapP pr fun a k e=>s5 _ _ e
  have hA5:=hA2.same s5
  try dsimp only [zr]
  refine zby false (fun Q' hQ=>?_) (fun H6 s6=>iteF ?_)
  ·refine⟨_,rfl,_,_,_,true,rfl,.lst hq5,rfl,_,rfl,iteF ?_⟩
   refine⟨_,rfl,q,rfl,⟨_,SqL.of hq5⟩,fun E hE=>?_⟩
   refine za7 (zbt (K:=K) (a:=q) (xs:=as.map V.ref)) (fun i σ' ys H'=>∃w0,σ' = [w0]/\ys=((keysOf ts (srt us)).take i).map V.str/\Same H5 H'/\H' E=some (.lst ys))
    ⟨none,rfl,by simp,Same.new hE,zb⟩ (fun i σ' ys H' h=>?_) (by rw[List.length_map];exact zav (by omega)) ?_ ?_
   ·obtain⟨_,_,rfl,q,hd⟩:=h
    refine⟨SqL.of (q _ _ hq5),hd,?_⟩
    rw[List.length_map,List.length_take]
    omega
   ·rintro i v σ' ys H' hx ⟨w0,rfl,rfl,q,hd⟩
    obtain⟨a,u,rfl,hu',_,ha⟩:=zbe pr5 hx
    have hix:=zam hx
    try dsimp only [zr]
    unfold tYes
    dsimp only
    rw[if_pos rfl]
    refine⟨_,rfl,a,_,_,_,rfl,rfl,SqT.of (q _ _ ha),rfl,hd,zcd hix ⟨_,rfl,?_,q.upd hE,zb⟩⟩
    rw[List.take_add_one,hu',List.map_append]
    rfl
   rintro σ' ys H6 ⟨w0,rfl,rfl,q6,hd⟩
   rw[List.length_map,la,List.take_length] at hd
   refine⟨_,rfl,E,l3,_,rfl,rfl,DEq.sameL (SqL.of hd) (SqL.of (q6 _ _ hn5)) zii,_,rfl,?_⟩
   exact hQ _ q6
  have hq6:=s6 _ _ hq5
  have pr6:=Paired.mapP pr5 fun a k e=>s6 _ _ e
  have hA6:=hA5.same s6
  try unfold zl7
  try dsimp only
  refine zby false (fun Q' hQ=>?_) (fun H7 s7=>iteF ?_)
  ·refine⟨_,rfl,q,rfl,⟨_,SqL.of hq6⟩,fun E hE=>?_⟩
   refine za7 (zbt (K:=K) (a:=q) (xs:=as.map V.ref)) (fun i σ' ys H'=>∃w0,σ' = [w0]/\ys=List.replicate i (V.bl true)/\Same H6 H'/\H' E=some (.lst ys))
    ⟨none,rfl,rfl,Same.new hE,zb⟩ (fun i σ' ys H' h=>?_) (by rw[List.length_map];exact zav (by omega)) ?_ ?_
   ·obtain⟨_,_,rfl,q,hd⟩:=h
    exact⟨SqL.of (q _ _ hq6),hd,by rw[List.length_replicate];exact Nat.le_refl _⟩
   ·rintro i v σ' ys H' hx ⟨w0,rfl,rfl,q,hd⟩
    have hix:=zam hx
    obtain⟨c,z,rfl,_,_,hc⟩:=zbe pr6 hx
    try dsimp only [zr]
    unfold tYes
    dsimp only
    rw[if_pos rfl]
    refine⟨_,rfl,_,_,_,true,rfl,.tup (q _ _ hc),rfl,_,rfl,iteT ⟨_,rfl,c,_,rfl,.inr (SqT.of (q _ _ hc)),rfl,hd,zcd hix ⟨_,rfl,?_,q.upd hE,zb⟩⟩⟩
    rw[List.replicate_succ',show decide (V.int (([V.str z,V.int (h z)]:List V).length:Int)=V.int 2)=true from by simp]
   rintro σ' ys H7 ⟨w0,rfl,rfl,q7,hE7⟩
   refine⟨E,_,rfl,.inl (SqL.of hE7),rfl,List.all_eq_true.mpr fun v hv=>by rw[List.eq_of_mem_replicate hv];rfl,_,rfl,?_⟩
   have ei:inV (.bl false) (List.replicate (as.map V.ref).length (V.bl true))=false:=by
    unfold inV
    rw[List.any_eq_false]
    intro v hv
    rw[List.eq_of_mem_replicate hv]
    exact Bool.false_ne_true
   rw[if_neg Bool.false_ne_true,ei]
   refine iteF ?_
   refine⟨_,rfl,_,rfl,by show 2<=sizeLine;decide,fun b8 hb8=>?_⟩
   have t8:=Same.new (o:=.tup [.str (labs ts nm),.int y]) hb8
   have pr8:=Paired.mapP pr6 fun a k e=>t8 _ _ (q7 _ _ e)
   have flp:∀(k:Str) (z:Int),∀v∈[V.str k,V.int z],zb6 v=true:=fun k z v hv=>by
    simp at hv
    rcases hv with rfl | rfl<;>rfl
   refine⟨_,rfl,q,_,zsh (upd H7 b8 (.tup [.str (labs ts nm),.int y])) [.str (labs ts nm),.int y],rfl,.inl (SqL.of (t8 _ _ (q7 _ _ hq6))),fun z hz=>?_,_,rfl,?_⟩
   ·obtain⟨b,hb,rfl⟩:=List.mem_map.mp hz
    obtain⟨j,hj⟩:=List.mem_iff_getElem?.mp hb
    have hjk:j<(keysOf ts (srt us)).length:=by have:=zam hj;omega
    have e:=zaz pr8 hj (List.getElem?_eq_getElem hjk)
    have:=DEq.flatT (n:=7) (SqT.of (K:=K) e) (SqT.of (zb (H:=H7) (a:=b8) (o:=.tup [.str (labs ts nm),.int y]))) (flp _ _) (flp _ _)
    unfold zsh
    dsimp only
    rw[e]
    exact this
   ·have hm:(as.map V.ref).any (zsh (upd H7 b8 (.tup [.str (labs ts nm),.int y])) [.str (labs ts nm),.int y])=true:=by
     obtain⟨j,hj⟩:=List.mem_iff_getElem?.mp (zd5 (ts:=ts) hts hnm)
     have hja:j<as.length:=by have:=zam hj;omega
     have e:=zaz pr8 (List.getElem?_eq_getElem hja) hj
     refine List.any_eq_true.mpr ⟨.ref as[j],List.mem_map.mpr ⟨_,List.getElem_mem hja,rfl⟩,?_⟩
     unfold zsh
     dsimp only
     rw[e]
     dsimp only
     rw[D.at_,zds (flp _ _)]
    rw[if_pos rfl,hm]
    exact hQ _ (q7.trans t8)
  have hq7:=s7 _ _ hq6
  have pr7:=Paired.mapP pr6 fun a k e=>s7 _ _ e
  have hA7:=hA6.same s7
  try unfold zl7
  try dsimp only
  have ekv:=zrp (K:=K) pr7
  refine⟨_,rfl,_,rfl,q,as,_,rfl,SqL.of hq7,ekv,by rw[zaq];omega,fun Dd ob hDd=>?_⟩
  rw[ziy knd]
  have t8:=Same.new (o:=.frz ob (.dK (dV (keysOf ts (srt us)) fun k=>.int (h k)))) hDd
  refine⟨p,pm,pu,pt,pf,lo,hi,us,ads,ts,af,fs,Dd,ob,h,rfl,(hA7.same t8).telF dat,zb,fun H9 s9=>⟨_,rfl,?_⟩⟩
  rw[kb]
  refine iteT ?_
  have t89:=t8.trans s9
  refine⟨_,rfl,p,pm,pu,pt,pf,lo,hi,us,ts,fs,ads,af,rfl,hA7.same t89,fun p2 pu2 pt2 pf2 H10 hp2 hA10 s10=>?_⟩
  have t810:=t89.trans s10
  refine⟨_,rfl,p2,pm,pu2,pt2,pf2,lo,hi,us,ads,ts,af,fs,q,as,h,rfl,hA10.telF dat,SqL.of (t810 _ _ hq7),Paired.mapP pr7 fun a k e=>SqT.of (t810 _ _ e),fun H11 s11=>?_⟩
  rw[zpk (ads:=ads) hts fu lf,kb]
  exact k _ (q2.trans (s5.trans (s6.trans (s7.trans (t810.trans s11)))))
def kLaw:Nat:=12
def sp_law:Sp:=fun vs H Q _=>∃(a:Addr) (ns:List Int),vs = [.ref a]/\SqL K H a (ns.map V.int)/\ns.length<=63/\∀H',Q (.bl true) H'
set_option maxHeartbeats 16000000 in
theorem h_law (T:Tx K mg w zh zo zf zj):Has P w K mg base "law" ["_law_script"] kLaw (sp_law (K:=K)):=by
 refine T.zxt.has sc_law (fun vs H Q E h=>?_) (fun f cdv A outer s H vs Q E hr h=>?_)
 ·obtain⟨a,ns,rfl,_⟩:=h;rfl
 ·obtain⟨a,ns,rfl,ha,hl,k⟩:=h
  have hu:=zbq hr
  refine⟨_,(zd (zm (i:=1) sc_law.nd rfl (Or.inl rfl) (zw (zf1 T) (hr.mono (by decide)) (by rfl) (za (pv 0) (za zb4 zc))))
   (zd (zso (zw (zje T) (hr.mono (by decide)) (by rfl) (za (zw (zdi T) (hr.mono (by decide)) (by rfl) (za (pv 1) zc)) zc)) (zcc K rfl rfl (zan (zn (i:=2) sc_law.nd rfl (Or.inl rfl)) (zan (zn (i:=3) sc_law.nd rfl (Or.inl rfl)) zb9))))
   (zd (zm (i:=4) sc_law.nd rfl (Or.inr rfl) (zw (zcl T) (hr.mono (by decide)) (by rfl) (za (pv 1) zc)))
   (zd (za6 (zaa zdp (pv 2) za0 (zag _)) (zg (zy zb4)) zad)
   (zd (zaj PassesOwn.never rfl (zb5 (by rfl) T.range (za (zac (zns rfl) (by rfl) T.min PyProof.Rows.boot_min (za ze (za (zac (zai K rfl) (by rfl) T.len boot_len (za (pv 3) zc)) zc))) zc)) (zn (i:=5) sc_law.nd rfl (Or.inl rfl)) (zd (zm (i:=6) sc_law.nd rfl (Or.inl rfl) (zw (zar T) (hr.mono (by decide)) (by rfl) (za (pv 0) (za (zak zba ze (pv 5)) zc))))
    (zd (zso (zq (zaf K rfl) (pv 3) (zak zc7 (zak zba (zw (zx T) (hr.mono (by decide)) (by rfl) (za (zw (zar T) (hr.mono (by decide)) (by rfl) (za (pv 0) (za ze zc))) (za ze (za (zac (zai K rfl) (by rfl) T.len boot_len (za (pv 3) zc)) zc)))) (pv 5)) (zac (zai K rfl) (by rfl) T.len boot_len (za (pv 3) zc))) (fun _ _=>rfl)) (zcc K rfl rfl (zan (zn (i:=7) sc_law.nd rfl (Or.inr rfl)) (zan (zn (i:=8) sc_law.nd rfl (Or.inl rfl)) (zan (zn (i:=9) sc_law.nd rfl (Or.inl rfl)) zb9)))))
    (zd (zgx (i:=10) (own:=["_law_name"]) (cap:=["_law_one","_law_label"]) (ix:=[7,4]) (osc:=zi (top 54)) rfl sc_law.nd rfl rfl rfl ⟨rfl,by decide +kernel,by decide +kernel,by decide +kernel,by decide +kernel⟩ rfl (zab K rfl (zq (zk K rfl) (pv 1) ze (fun _ _=>rfl))) (fun _ _ _ _=>zn (i:=0) (show List.Nodup (["_law_name","_law_one","_law_label"]:List Str) by decide +kernel) rfl (Or.inl rfl)) (fun _ _ _ _=>zj3 (zaa zdp (zv hu (pv 2) (pv 0) (fun _ _=>rfl)) (pv 1) (zag _))) (fun _ _ _ _=>(pv 0)))
    (zd (zm (i:=11) sc_law.nd rfl (Or.inl rfl) (zq (zaf K rfl) (pv 10) (zw (zx T) (hr.mono (by decide)) (by rfl) (za (pv 6) (za ze (za (zac (zai K rfl) (by rfl) T.len boot_len (za (pv 10) zc)) zc)))) (fun _ _=>rfl)))
    (zd (zaj PassesOwn.never rfl (zab K rfl (zal (za (pv 8) (za (pv 9) (za (zak zba (pv 8) (zak zc7 (pv 6) (zak zba (zak zla (pv 9) (pv 8)) ze))) zc))))) (zn (i:=12) sc_law.nd rfl (Or.inl rfl)) (zg (za6 (zdo (ze7 (zw (zjf T) (hr.mono (by decide)) (by rfl) (za (pv 1) (za (pv 7) (za (pv 11) (za (pv 12) zc))))))) (zg (zy zb4)) zad)))
    (zg (za6 (zdo (ze7 (zw (zf2 T) (hr.mono (by decide)) (by rfl) (za (pv 1) (za (pv 11) (za (zq (zaf K rfl) (zal (za (zak zla (pv 8) ze) (za (zak zba (pv 9) ze) zc))) (zak zc7 (pv 6) ze) (fun _ _=>rfl)) zc)))))) (zg (zy zb4)) zad))))))))
   (zg (zy zb4))))))),?_⟩
  refine⟨_,rfl,a,ns,_,rfl,ha,hl,fun p pm pu pti pf lo hi us ts fs at' af H1 dat dn hp hA s1=>?_⟩
  obtain⟨pl,dn⟩:=dn rfl
  have nr:=zrk (us:=us) (ads:=at') dn
  have F1:=hA.telF dat
  have lk:=F1.tel.klen
  try dsimp only [zr]
  refine⟨_,rfl,p,pm,pu,pti,pf,lo,hi,us,ts,fs,at',af,rfl,hA,fun p0 pu0 pt0 pf0 H2 hp0 hA0 s2=>?_⟩
  refine⟨p0,pm,pu0,pt0,pf0,lo,hi,us,at',ts,af,fs,rfl,hA0.telF dat,nr,fun r0 q wd H3 s3 hr0 hw3=>?_⟩
  refine⟨r0,_,rfl,SqT.of hr0,rfl,_,_,rfl,_,_,rfl,rfl,?_⟩
  have q3:=s2.trans s3
  try dsimp only [zr]
  refine⟨_,rfl,p,pu,pti,_,_,us,at',ts,rfl,((hA.same q3).telF dat).tel,fun pb H4 s4 fpb hb4=>?_⟩
  have q4:=q3.trans s4
  try dsimp only [zr]
  refine⟨_,rfl,rfl,_,rfl,?_⟩
  rcases hw3 with ⟨ew,_,f,g,⟨as,hq3,prq3⟩,hf,hg,no⟩ | ⟨ew,_⟩
  ·subst ew
   refine ite2 (fun z=>absurd (V.str.inj (of_decide_eq_true z)) (by decide)) (fun _=>?_)
   have hq4:=s4 _ _ hq3
   have prq4:=Paired.mapP prq3 fun a k e=>s4 _ _ e
   have la:as.length=(keysOf ts (srt us)).length:=Paired.length prq3
   have le:=zlx dat.ends hf hg no
   have lam:((as.map V.ref).length:Int)=as.length:=by rw[List.length_map]
   try unfold zl7
   try dsimp only
   obtain⟨n,hn⟩:∃n:Nat,(if ((as.map V.ref).length:Int)<3 then ((as.map V.ref).length:Int) else 3)=n:=⟨(if ((as.map V.ref).length:Int)<3 then ((as.map V.ref).length:Int) else 3).toNat,by split<;>omega⟩
   have hnl:n<=as.length/\n<=3:=by split at hn<;>omega
   refine⟨_,rfl,q,_,rfl,.inl (SqL.of hq4),_,_,rfl,?_⟩
   rw[hn]
   refine⟨(n:Int),rfl,by omega,by omega,?_⟩
   refine zcr (lo:=0) (n:=n) (fun m σ H'=>∃(v5 v6 v7 v8 v9 v10 v11 v12:Option V),σ = [some (.ref a),some (.ref p),some (.str "spans"),some (.ref q),some (.ref pb),v5,v6,v7,v8,v9,v10,v11,v12]/\Same H4 H')
    ⟨none,none,none,none,none,none,none,none,rfl,Same.refl _⟩ ?_ ?_
   ·rintro m σ H5 hm ⟨v5,v6,v7,v8,v9,v10,v11,v12,rfl,q5⟩
    have apos:0<as.length:=by omega
    have hA5:=(hA.same q4).same q5
    have ha5:=((s1.trans q4).trans q5).seq ha
    have hq5:=q5 _ _ hq4
    try dsimp only [zr]
    refine⟨_,rfl,_,rfl,_,_,rfl,rfl,a,ns,28+(0+(m:Int)),rfl,ha5,by omega,?_⟩
    generalize zbl ns (28+(0+(m:Int)))=c
    try dsimp only [zr]
    refine⟨_,rfl,_,rfl,a,ns,28,rfl,ha5,by decide,_,rfl,q,_,rfl,.inl (SqL.of hq5),_,79,_,rfl,by omega,_,rfl,_,_,rfl,rfl,_,rfl,q,_,rfl,.inl (SqL.of hq5),_,_,rfl,rfl,by show (0:Int)<_;omega,?_⟩
    obtain⟨b1,b2⟩:=zbb (zbl ns 28) 79 ((as.map V.ref).length:Int) (by omega)
    obtain⟨i,hix0⟩:∃i:Nat,(pt (zbl ns 28) 79 ((as.map V.ref).length:Int)+(0+(m:Int)))%((as.map V.ref).length:Int)=i:=⟨((pt (zbl ns 28) 79 ((as.map V.ref).length:Int)+(0+(m:Int)))%((as.map V.ref).length:Int)).toNat,by have:=Int.emod_nonneg (pt (zbl ns 28) 79 ((as.map V.ref).length:Int)+(0+(m:Int))) (show ((as.map V.ref).length:Int)≠0 by omega);omega⟩
    have hil:i<as.length:=by
     have:=Int.emod_lt_of_pos (pt (zbl ns 28) 79 ((as.map V.ref).length:Int)+(0+(m:Int))) (show (0:Int)<((as.map V.ref).length:Int) by omega)
     omega
    rw[show (fun i j:Int=>V.int (i%j)) (pt (zbl ns 28) 79 ((as.map V.ref).length:Int)+(0+(m:Int))) ((as.map V.ref).length:Int)=V.int (i:Int) from congrArg V.int hix0]
    have hai:as[i]? = some as[i]:=List.getElem?_eq_getElem hil
    have hki:(keysOf ts (srt us))[i]? = some (keysOf ts (srt us))[i]:=List.getElem?_eq_getElem (by omega)
    have hsp:=q5 _ _ (zaz prq4 hai hki)
    have huk:(keysOf ts (srt us))[i]∈keysOf ts (srt us):=List.getElem_mem _
    generalize as[i]=sp at hai hsp
    generalize (keysOf ts (srt us))[i]=u at hki hsp huk
    refine⟨q,_,_,.ref sp,rfl,rfl,SqL.of hq5,zb1 (by rw[List.getElem?_map,hai];rfl),?_⟩
    refine⟨sp,_,rfl,SqT.of hsp,rfl,_,_,rfl,_,_,rfl,_,_,rfl,rfl,?_⟩
    try dsimp only [zr]
    refine⟨_,rfl,p,_,_,_,rfl,rfl,hA5.p,rfl,pu,rfl,⟨_,hA5.at'.u⟩,fun D hD=>?_⟩
    have ul:=dat.ul
    refine za7 (zbt (K:=K) (a:=pu) (xs:=us.map V.str)) (fun i' σ' ys H'=>∃w0,σ' = [w0,some (.str u),some (.ref pb)]/\ys=((us.take i').filter fun x=>decide (labs ts x=u)).map V.str/\Same H5 H'/\H' D=some (.lst ys))
     ⟨none,rfl,by simp,Same.new hD,zb⟩ (fun i' σ' ys H' h=>?_) (by rw[List.length_map];exact zav (by omega)) ?_ ?_
    ·obtain⟨_,_,rfl,qq,hd⟩:=h
     refine⟨(hA5.same qq).at'.u,hd,?_⟩
     rw[List.length_map]
     exact Nat.le_trans (List.length_filter_le _ _) (by rw[List.length_take];omega)
    ·rintro i' v σ' ys H6 hx ⟨w0,rfl,rfl,q6,hd⟩
     have hix:=zam hx
     rw[List.getElem?_map] at hx
     cases en:us[i']? with
     | none=>rw[en] at hx;cases hx
     | some z=>
      rw[en] at hx
      cases hx
      have g1:=DGet.k (k:=Sum.inr z) (q6 _ _ (q5 _ _ hb4))
      rw[zbz (List.mem_of_getElem? en)] at g1
      try dsimp only [zr]
      refine⟨_,rfl,_,rfl,pb,_,rfl,g1,_,rfl,rfl,_,rfl,?_⟩
      refine ite2 (fun y=>?_) (fun y=>?_)
      ·have y:labs ts z=u:=V.str.inj (of_decide_eq_true y)
       refine⟨_,rfl,hd,zcd hix ⟨_,rfl,?_,q6.upd hD,zb⟩⟩
       rw[List.take_add_one,en,List.filter_append,List.map_append]
       congr 1
       show [V.str z]=List.map V.str (List.filter _ [z])
       rw[List.filter_cons_of_pos (by rw[decide_eq_true_iff];exact y)]
       rfl
      ·have y:¬labs ts z=u:=fun x=>y (decide_eq_true (congrArg V.str x))
       refine⟨hd,zcd hix ⟨_,rfl,?_,q6,hd⟩⟩
       rw[List.take_add_one,en,List.filter_append,List.map_append]
       have:List.map V.str (List.filter (fun x=>decide (labs ts x=u)) (some z).toList) = []:=by
        show List.map V.str (List.filter _ [z]) = []
        rw[List.filter_cons_of_neg (by rw[decide_eq_true_iff];exact y)]
        rfl
       rw[this,List.append_nil]
    rintro σ' ys H6 ⟨w0,rfl,rfl,q6,hd6⟩
    rw[List.length_map,List.take_length] at hd6
    have hun:u∈us.filter fun x=>decide (labs ts x=u):=by
     obtain⟨h1,h2⟩:=keys_mem.mp huk
     exact List.mem_filter.mpr ⟨h1,decide_eq_true h2⟩
    have hsub:∀x∈us.filter (fun x=>decide (labs ts x=u)),x∈us/\labs ts x=u:=fun x hx=>by
     rw[List.mem_filter,decide_eq_true_iff] at hx
     exact hx
    have fl8:(us.filter fun x=>decide (labs ts x=u)).length<=8:=Nat.le_trans (List.length_filter_le _ _) ul
    generalize us.filter (fun x=>decide (labs ts x=u))=un at *
    have unp:0<un.length:=List.length_pos_of_mem hun
    have lum:((un.map V.str).length:Int)=un.length:=by rw[List.length_map]
    try dsimp only [zr]
    refine⟨_,rfl,_,rfl,_,rfl,D,_,rfl,.inl (SqL.of hd6),c,80,_,rfl,by omega,?_⟩
    obtain⟨b3,b4⟩:=zbb c 80 ((un.map V.str).length:Int) (by omega)
    obtain⟨j,hj⟩:∃j:Nat,pt c 80 ((un.map V.str).length:Int)=j:=⟨(pt c 80 ((un.map V.str).length:Int)).toNat,by omega⟩
    have hjl:j<un.length:=by omega
    rw[hj]
    have hnj:un[j]? = some un[j]:=List.getElem?_eq_getElem hjl
    obtain⟨hnm,hnu⟩:=hsub _ (List.getElem_mem hjl)
    generalize un[j]=nm at hnj hnm hnu
    refine⟨D,_,_,.str nm,rfl,rfl,SqL.of hd6,zb1 (by rw[List.getElem?_map,hnj];rfl),?_⟩
    subst hnu
    have leu:=le _ huk
    have q46:=q5.trans q6
    try dsimp only [zr]
    refine⟨_,rfl,_,rfl,_,rfl,_,rfl,_,rfl,_,rfl,_,_,rfl,rfl,_,_,rfl,rfl,_,_,rfl,rfl,by show (0:Int)<_;omega,_,_,rfl,rfl,by show 3<=sizeLine;decide,fun ly hly=>?_⟩
    have t7:=Same.new (o:=.lst [.int (f (labs ts nm)),.int (g (labs ts nm)),.int (f (labs ts nm)+c%(g (labs ts nm)-f (labs ts nm)+1))]) hly
    have q47:=q46.trans t7
    have hly7:upd H6 ly (.lst [.int (f (labs ts nm)),.int (g (labs ts nm)),.int (f (labs ts nm)+c%(g (labs ts nm)-f (labs ts nm)+1))]) ly=some (.lst [.int (f (labs ts nm)),.int (g (labs ts nm)),.int (f (labs ts nm)+c%(g (labs ts nm)-f (labs ts nm)+1))]):=zb
    generalize upd H6 ly (.lst [.int (f (labs ts nm)),.int (g (labs ts nm)),.int (f (labs ts nm)+c%(g (labs ts nm)-f (labs ts nm)+1))])=H7 at q47 hly7
    have m1:=Int.emod_nonneg c (show g (labs ts nm)-f (labs ts nm)+1≠0 by omega)
    have m2:=Int.emod_lt_of_pos c (show (0:Int)<g (labs ts nm)-f (labs ts nm)+1 by omega)
    refine⟨ly,rfl,⟨_,SqL.of hly7⟩,?_⟩
    refine zah (K:=K) (a:=ly) (xs:=[.int (f (labs ts nm)),.int (g (labs ts nm)),.int (f (labs ts nm)+c%(g (labs ts nm)-f (labs ts nm)+1))]) (fun i σ H'=>∃(v12:Option V),σ = [some (.ref a),some (.ref p),some (.str "spans"),some (.ref q),some (.ref pb),some (.int (0+(m:Int))),some (.int c),some (.str (labs ts nm)),some (.int (f (labs ts nm))),some (.int (g (labs ts nm))),some (.ref D),some (.str nm),v12]/\Same H7 H')
     ⟨_,rfl,Same.refl _⟩ (fun i σ H' _ h=>by obtain⟨_,_,q⟩:=h;exact SqL.of (q _ _ hly7)) ?_ ?_
    ·rintro i x σ H8 hx ⟨v12,rfl,q8⟩
     obtain⟨y,rfl,hy⟩:∃y:Int,x = .int y/\f (labs ts nm)<=y/\y<=g (labs ts nm):=by
      match i,hx with
      | 0,hx=>cases hx;exact⟨_,rfl,by omega,leu⟩
      | 1,hx=>cases hx;exact⟨_,rfl,leu,by omega⟩
      | 2,hx=>cases hx;exact⟨_,rfl,by omega,by omega⟩
      | i+3,hx=>simp at hx
     have hA8:=(hA.same q4).same (q47.trans q8)
     try dsimp only [zr]
     refine zby false (fun Q' hQ=>?_) (fun H9 s9=>iteF ⟨_,rfl,q8.trans s9⟩)
     refine⟨_,rfl,_,rfl,_,rfl,_,rfl,p,pm,pu,pti,pf,lo,hi,us,ts,fs,at',af,nm,y,f,g,rfl,hA8,dat,nr,no,hnm,hf,hg,hy,fun H9 s9=>⟨_,rfl,?_⟩⟩
     exact hQ _ s9
    ·rintro σ H8 ⟨v12,rfl,q8⟩
     have q48:=q47.trans q8
     try dsimp only
     refine zby false (fun Q' hQ=>?_) (fun H9 s9=>iteF ⟨_,_,_,_,_,_,_,_,rfl,q48.trans s9⟩)
     refine⟨_,rfl,_,rfl,_,rfl,_,_,rfl,rfl,_,rfl,_,_,rfl,rfl,by show 2<=sizeLine;decide,fun l0 hl0=>?_⟩
     have t9:=Same.new (o:=.lst [.int (f (labs ts nm)-1),.int (g (labs ts nm)+1)]) hl0
     obtain⟨y,hy,hyn⟩:∃y:Int,atI [V.int (f (labs ts nm)-1),V.int (g (labs ts nm)+1)] (c%2)=some (.int y)/\¬(f (labs ts nm)<=y/\y<=g (labs ts nm)):=by
      have h2:c%2=0\/c%2=1:=by omega
      rcases h2 with h2 | h2
      ·rw[h2];exact⟨_,rfl,by omega⟩
      ·rw[h2];exact⟨_,rfl,by omega⟩
     refine⟨_,rfl,_,_,rfl,rfl,by show (0:Int)<2;decide,l0,_,_,.int y,rfl,rfl,SqL.of zb,hy,?_⟩
     refine⟨p,pm,pu,pti,pf,lo,hi,us,at',ts,af,fs,nm,y,f,g,rfl,((hA.same q4).same (q48.trans t9)).telF dat,nr,no,hnm,by have:=dat.fl;omega,hf,hg,hyn,fun H9 s9=>⟨_,rfl,?_⟩⟩
     exact hQ _ (t9.trans s9)
   ·rintro σ H5 ⟨v5,v6,v7,v8,v9,v10,v11,v12,rfl,q5⟩
    exact k _
  ·subst ew
   refine ite2 (fun _=>k _) (fun z=>absurd (decide_eq_true rfl) z)
end
end LK44
open PySem PySem.W PyProof.Rows
set_option maxRecDepth 100000 in
set_option maxHeartbeats 0 in
theorem PySem.Challenge.cw_digmatrix_k44_datings_holds : PySem.Challenge.rw_digmatrix_k44_datings.Holds := by
 w_on;o_law;k_head;(case hw=>w_witness2)
 k_fill
 refine L2.law_walk (l:=PySem.Challenge.rw_digmatrix_k44_datings) (k:=LK44.kLaw) (x:="_law_script") (sp:=fun K=>LK44.sp_law (K:=K)) rfl rfl ⟨rfl,by decide,by decide⟩ (fun w h Y=>PySem.W.kIn_of Y) (fun K H a ns hl hS=>⟨a,ns,rfl,hS,hl,fun _=>rfl⟩) ?F
 case F=>
  intro w mg h KX G
  have T:∃zh,∃zo,∃zf,∃zj,LK44.Tx (L2.KOf KX) mg w zh zo zf zj:=by
   dsimp only [L2.KOf]
   refine' LK44.Tx.ex ⟨?z0,?z1,?z2,?z3,?z4,?z5,?z6,?z7,?z8,?z9,?z10,?z11,?z12,?z13,?z14,?z15,?z16,?z17,?z18,?z19,?z20,?z21,?z22,?z23,?z24,?z25,?z26,?z27,?z28,?z29,?z30,?z31,?z32,?z33,?z34,?z35,?z36,?z37,?z38,?z39,?z40,?z41,?z42,?z43,?z44,?z45,?z46,?z47,?z48,?z49,?z50,?z51,?z52,?z53,?z54,?z55,?z56,?z57,?z58,?z59,?z60,?z61,?z62,?z63,?z64,?z65,?z66,?z67,?z68,?z69,?z70,?z71,?z72,?z73,?z74,?z75,?z76,?z77,?z78,?z79,?z80,?z81,?z82⟩
   case z0=>refine' L2.const_mk KX G ?x0;(case x0=>k_is)
   case z1=>refine' ⟨?x1,?y1,?u1⟩;(case x1=>k_is);(case y1=>k_is);(case u1=>k_is)
   case z2=>refine' ⟨?x2,?y2,?u2⟩;(case x2=>k_is);(case y2=>k_is);(case u2=>k_is)
   case z3=>refine' L2.const_mk KX G ?x3;(case x3=>k_is)
   case z4=>refine' L2.xcls_of ?x4 ?y4 ?u4 ?v4;(case x4=>k_is);(case y4=>rfl);(case u4=>k_is);(case v4=>k_is)
   case z5=>refine' L2.xok_at ?x5 ?y5;(case x5=>k_is);(case y5=>rfl)
   case z6=>refine' L2.dfm_mk (fun _ _ _ _ _ _=>L2.len2 fun _ _=>rfl) ?p6 ?q6 ?r6 ?s6 ?t6;(case p6=>k_is);(case q6=>k_is);(case r6=>k_is);(case s6=>k_is);(case t6=>k_is)
   case z7=>(unfold L2.NoAttr;k_is)
   case z8=>refine' L2.const_mk KX G ?x8;(case x8=>k_is)
   case z9=>refine' ⟨?x9,?y9,?u9⟩;(case x9=>k_is);(case y9=>k_is);(case u9=>k_is)
   case z10=>refine' L2.xcls_of ?x10 ?y10 ?u10 ?v10;(case x10=>k_is);(case y10=>rfl);(case u10=>k_is);(case v10=>k_is)
   case z11=>refine' L2.xok_at ?x11 ?y11;(case x11=>k_is);(case y11=>rfl)
   case z12=>refine' ⟨?x12,?y12,?u12,?v12⟩;(case x12=>k_is);(case y12=>k_is);(case u12=>k_is);(case v12=>k_is)
   case z13=>refine' L2.dfm_mk (fun _ _ _ _ _ _=>L2.len2 fun _ _=>rfl) ?p13 ?q13 ?r13 ?s13 ?t13;(case p13=>k_is);(case q13=>k_is);(case r13=>k_is);(case s13=>k_is);(case t13=>k_is)
   case z14=>(unfold L2.NoAttr;k_is)
   case z15=>refine' L2.const_mk KX G ?x15;(case x15=>k_is)
   case z16=>refine' L2.xok_at ?x16 ?y16;(case x16=>k_is);(case y16=>rfl)
   case z17=>refine' ⟨?x17,?y17,?u17,?v17⟩;(case x17=>k_is);(case y17=>k_is);(case u17=>k_is);(case v17=>k_is)
   case z18=>refine' ⟨?x18,?y18,?u18,?v18⟩;(case x18=>k_is);(case y18=>k_is);(case u18=>k_is);(case v18=>k_is)
   case z19=>k_is
   case z20=>k_is
   case z21=>k_is
   case z22=>refine' L2.kit_own ?x22 ?y22 ?u22 ?v22;(case x22=>k_is);(case y22=>k_is);(case u22=>k_is);(case v22=>first | exact fun _=>rfl | exact fun h=>absurd h (by decide))
   case z23=>refine' L2.kit_typ L2.meta_ValueError ?x23;(case x23=>k_is)
   case z24=>refine' L2.kit_own ?x24 ?y24 ?u24 ?v24;(case x24=>k_is);(case y24=>k_is);(case u24=>k_is);(case v24=>first | exact fun _=>rfl | exact fun h=>absurd h (by decide))
   case z25=>refine' L2.kit_own ?x25 ?y25 ?u25 ?v25;(case x25=>k_is);(case y25=>k_is);(case u25=>k_is);(case v25=>first | exact fun _=>rfl | exact fun h=>absurd h (by decide))
   case z26=>refine' L2.df_mk KX G (fun _ _ _ _ _ _=>L2.len2 fun _ _=>rfl) ?p26 ?q26 ?r26 ?s26;(case p26=>k_is);(case q26=>k_is);(case r26=>k_is);(case s26=>k_is)
   case z27=>refine' L2.df_mk KX G (fun _ _ _ _ _ _=>L2.len3 fun _ _ _=>rfl) ?p27 ?q27 ?r27 ?s27;(case p27=>k_is);(case q27=>k_is);(case r27=>k_is);(case s27=>k_is)
   case z28=>refine' L2.df_mk KX G (fun _ _ _ _ _ _=>L2.len2 fun _ _=>rfl) ?p28 ?q28 ?r28 ?s28;(case p28=>k_is);(case q28=>k_is);(case r28=>k_is);(case s28=>k_is)
   case z29=>refine' L2.df_mk KX G (fun _ _ _ _ _ _=>L2.len1 fun _=>rfl) ?p29 ?q29 ?r29 ?s29;(case p29=>k_is);(case q29=>k_is);(case r29=>k_is);(case s29=>k_is)
   case z30=>refine' L2.df_mk KX G (fun _ _ _ _ _ _=>L2.len1 fun _=>rfl) ?p30 ?q30 ?r30 ?s30;(case p30=>k_is);(case q30=>k_is);(case r30=>k_is);(case s30=>k_is)
   case z31=>refine' L2.df_mk KX G (fun _ _ _ _ _ _=>L2.len2 fun _ _=>rfl) ?p31 ?q31 ?r31 ?s31;(case p31=>k_is);(case q31=>k_is);(case r31=>k_is);(case s31=>k_is)
   case z32=>refine' L2.df_mk KX G (fun _ _ _ _ _ _=>L2.len1 fun _=>rfl) ?p32 ?q32 ?r32 ?s32;(case p32=>k_is);(case q32=>k_is);(case r32=>k_is);(case s32=>k_is)
   case z33=>refine' L2.df_mk KX G (fun _ _ _ _ _ _=>L2.len1 fun _=>rfl) ?p33 ?q33 ?r33 ?s33;(case p33=>k_is);(case q33=>k_is);(case r33=>k_is);(case s33=>k_is)
   case z34=>refine' L2.df_mk KX G (fun _ _ _ _ _ _=>L2.len2 fun _ _=>rfl) ?p34 ?q34 ?r34 ?s34;(case p34=>k_is);(case q34=>k_is);(case r34=>k_is);(case s34=>k_is)
   case z35=>refine' L2.df_mk KX G (fun _ _ _ _ _ _=>L2.len2 fun _ _=>rfl) ?p35 ?q35 ?r35 ?s35;(case p35=>k_is);(case q35=>k_is);(case r35=>k_is);(case s35=>k_is)
   case z36=>refine' L2.df_mk KX G (fun _ _ _ _ _ _=>L2.len1 fun _=>rfl) ?p36 ?q36 ?r36 ?s36;(case p36=>k_is);(case q36=>k_is);(case r36=>k_is);(case s36=>k_is)
   case z37=>refine' L2.df_mk KX G (fun _ _ _ _ _ _=>L2.len1 fun _=>rfl) ?p37 ?q37 ?r37 ?s37;(case p37=>k_is);(case q37=>k_is);(case r37=>k_is);(case s37=>k_is)
   case z38=>refine' L2.df_mk KX G (fun _ _ _ _ _ _=>L2.len1 fun _=>rfl) ?p38 ?q38 ?r38 ?s38;(case p38=>k_is);(case q38=>k_is);(case r38=>k_is);(case s38=>k_is)
   case z39=>refine' L2.df_mk KX G (fun _ _ _ _ _ _=>L2.len1 fun _=>rfl) ?p39 ?q39 ?r39 ?s39;(case p39=>k_is);(case q39=>k_is);(case r39=>k_is);(case s39=>k_is)
   case z40=>refine' L2.df_mk KX G (fun _ _ _ _ _ _=>L2.len1 fun _=>rfl) ?p40 ?q40 ?r40 ?s40;(case p40=>k_is);(case q40=>k_is);(case r40=>k_is);(case s40=>k_is)
   case z41=>refine' L2.df_mk KX G (fun _ _ _ _ _ _=>L2.len2 fun _ _=>rfl) ?p41 ?q41 ?r41 ?s41;(case p41=>k_is);(case q41=>k_is);(case r41=>k_is);(case s41=>k_is)
   case z42=>refine' L2.df_mk KX G (fun _ _ _ _ _ _=>L2.len2 fun _ _=>rfl) ?p42 ?q42 ?r42 ?s42;(case p42=>k_is);(case q42=>k_is);(case r42=>k_is);(case s42=>k_is)
   case z43=>refine' L2.df_mk KX G (fun _ _ _ _ _ _=>L2.len1 fun _=>rfl) ?p43 ?q43 ?r43 ?s43;(case p43=>k_is);(case q43=>k_is);(case r43=>k_is);(case s43=>k_is)
   case z44=>refine' L2.df_mk KX G (fun _ _ _ _ _ _=>L2.len1 fun _=>rfl) ?p44 ?q44 ?r44 ?s44;(case p44=>k_is);(case q44=>k_is);(case r44=>k_is);(case s44=>k_is)
   case z45=>refine' L2.df_mk KX G (fun _ _ _ _ _ _=>L2.len1 fun _=>rfl) ?p45 ?q45 ?r45 ?s45;(case p45=>k_is);(case q45=>k_is);(case r45=>k_is);(case s45=>k_is)
   case z46=>refine' L2.df_mk KX G (fun _ _ _ _ _ _=>L2.len1 fun _=>rfl) ?p46 ?q46 ?r46 ?s46;(case p46=>k_is);(case q46=>k_is);(case r46=>k_is);(case s46=>k_is)
   case z47=>refine' L2.df_mk KX G (fun _ _ _ _ _ _=>L2.len2 fun _ _=>rfl) ?p47 ?q47 ?r47 ?s47;(case p47=>k_is);(case q47=>k_is);(case r47=>k_is);(case s47=>k_is)
   case z48=>refine' L2.df_mk KX G (fun _ _ _ _ _ _=>L2.len2 fun _ _=>rfl) ?p48 ?q48 ?r48 ?s48;(case p48=>k_is);(case q48=>k_is);(case r48=>k_is);(case s48=>k_is)
   case z49=>refine' L2.df_mk KX G (fun _ _ _ _ _ _=>L2.len2 fun _ _=>rfl) ?p49 ?q49 ?r49 ?s49;(case p49=>k_is);(case q49=>k_is);(case r49=>k_is);(case s49=>k_is)
   case z50=>refine' L2.df_mk KX G (fun _ _ _ _ _ _=>L2.len3 fun _ _ _=>rfl) ?p50 ?q50 ?r50 ?s50;(case p50=>k_is);(case q50=>k_is);(case r50=>k_is);(case s50=>k_is)
   case z51=>refine' L2.df_mk KX G (fun _ _ _ _ _ _=>L2.len1 fun _=>rfl) ?p51 ?q51 ?r51 ?s51;(case p51=>k_is);(case q51=>k_is);(case r51=>k_is);(case s51=>k_is)
   case z52=>refine' L2.df_mk KX G (fun _ _ _ _ _ _=>L2.len3 fun _ _ _=>rfl) ?p52 ?q52 ?r52 ?s52;(case p52=>k_is);(case q52=>k_is);(case r52=>k_is);(case s52=>k_is)
   case z53=>refine' L2.df_mk KX G (fun _ _ _ _ _ _=>L2.len2 fun _ _=>rfl) ?p53 ?q53 ?r53 ?s53;(case p53=>k_is);(case q53=>k_is);(case r53=>k_is);(case s53=>k_is)
   case z54=>refine' L2.df_mk KX G (fun _ _ _ _ _ _=>L2.len3 fun _ _ _=>rfl) ?p54 ?q54 ?r54 ?s54;(case p54=>k_is);(case q54=>k_is);(case r54=>k_is);(case s54=>k_is)
   case z55=>refine' L2.df_mk KX G (fun _ _ _ _ _ _=>L2.len2 fun _ _=>rfl) ?p55 ?q55 ?r55 ?s55;(case p55=>k_is);(case q55=>k_is);(case r55=>k_is);(case s55=>k_is)
   case z56=>refine' L2.df_mk KX G (fun _ _ _ _ _ _=>L2.len1 fun _=>rfl) ?p56 ?q56 ?r56 ?s56;(case p56=>k_is);(case q56=>k_is);(case r56=>k_is);(case s56=>k_is)
   case z57=>refine' L2.df_mk KX G (fun _ _ _ _ _ _=>L2.len5 fun _ _ _ _ _=>rfl) ?p57 ?q57 ?r57 ?s57;(case p57=>k_is);(case q57=>k_is);(case r57=>k_is);(case s57=>k_is)
   case z58=>refine' L2.df_mk KX G (fun _ _ _ _ _ _=>L2.len5 fun _ _ _ _ _=>rfl) ?p58 ?q58 ?r58 ?s58;(case p58=>k_is);(case q58=>k_is);(case r58=>k_is);(case s58=>k_is)
   case z59=>refine' L2.df_mk KX G (fun _ _ _ _ _ _=>L2.len1 fun _=>rfl) ?p59 ?q59 ?r59 ?s59;(case p59=>k_is);(case q59=>k_is);(case r59=>k_is);(case s59=>k_is)
   case z60=>refine' L2.df_mk KX G (fun _ _ _ _ _ _=>L2.len4 fun _ _ _ _=>rfl) ?p60 ?q60 ?r60 ?s60;(case p60=>k_is);(case q60=>k_is);(case r60=>k_is);(case s60=>k_is)
   case z61=>refine' L2.df_mk KX G (fun _ _ _ _ _ _=>L2.len2 fun _ _=>rfl) ?p61 ?q61 ?r61 ?s61;(case p61=>k_is);(case q61=>k_is);(case r61=>k_is);(case s61=>k_is)
   case z62=>refine' L2.df_mk KX G (fun _ _ _ _ _ _=>L2.len1 fun _=>rfl) ?p62 ?q62 ?r62 ?s62;(case p62=>k_is);(case q62=>k_is);(case r62=>k_is);(case s62=>k_is)
   case z63=>refine' L2.df_mk KX G (fun _ _ _ _ _ _=>L2.len1 fun _=>rfl) ?p63 ?q63 ?r63 ?s63;(case p63=>k_is);(case q63=>k_is);(case r63=>k_is);(case s63=>k_is)
   case z64=>refine' L2.df_mk KX G (fun _ _ _ _ _ _=>L2.len1 fun _=>rfl) ?p64 ?q64 ?r64 ?s64;(case p64=>k_is);(case q64=>k_is);(case r64=>k_is);(case s64=>k_is)
   case z65=>refine' L2.df_mk KX G (fun _ _ _ _ _ _=>L2.len2 fun _ _=>rfl) ?p65 ?q65 ?r65 ?s65;(case p65=>k_is);(case q65=>k_is);(case r65=>k_is);(case s65=>k_is)
   case z66=>refine' L2.df_mk KX G (fun _ _ _ _ _ _=>L2.len1 fun _=>rfl) ?p66 ?q66 ?r66 ?s66;(case p66=>k_is);(case q66=>k_is);(case r66=>k_is);(case s66=>k_is)
   case z67=>refine' L2.df_mk KX G (fun _ _ _ _ _ _=>L2.len3 fun _ _ _=>rfl) ?p67 ?q67 ?r67 ?s67;(case p67=>k_is);(case q67=>k_is);(case r67=>k_is);(case s67=>k_is)
   case z68=>refine' L2.df_mk KX G (fun _ _ _ _ _ _=>L2.len4 fun _ _ _ _=>rfl) ?p68 ?q68 ?r68 ?s68;(case p68=>k_is);(case q68=>k_is);(case r68=>k_is);(case s68=>k_is)
   case z69=>refine' L2.df_mk KX G (fun _ _ _ _ _ _=>L2.len1 fun _=>rfl) ?p69 ?q69 ?r69 ?s69;(case p69=>k_is);(case q69=>k_is);(case r69=>k_is);(case s69=>k_is)
   case z70=>refine' L2.blt_mk KX G ?_;k_is
   case z71=>refine' L2.blt_mk KX G ?_;k_is
   case z72=>refine' L2.blt_mk KX G ?_;k_is
   case z73=>refine' L2.blt_mk KX G ?_;k_is
   case z74=>refine' L2.blt_mk KX G ?_;k_is
   case z75=>refine' L2.blt_mk KX G ?_;k_is
   case z76=>refine' L2.blt_mk KX G ?_;k_is
   case z77=>refine' L2.blt_mk KX G ?_;k_is
   case z78=>refine' L2.blt_mk KX G ?_;k_is
   case z79=>refine' L2.blt_mk KX G ?_;k_is
   case z80=>refine' L2.blt_mk KX G ?_;k_is
   case z81=>refine' L2.blt_mk KX G ?_;k_is
   case z82=>refine' L2.blt_mk KX G ?_;k_is
  obtain⟨_,_,_,_,T⟩:=T
  exact fun base _ _=>LK44.h_law T
#print axioms PySem.Challenge.cw_digmatrix_k44_datings_holds
