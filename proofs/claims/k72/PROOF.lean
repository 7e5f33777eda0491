import PyProof.Rows.All
import Wide.All
import OpenK.AllK
import Wide.FinOn
import Lean
import PyProof.EqAt
import PyProof.EqKinds
import PyProof.TupleCall
import PyProof.ZipIter
import PyProof.DictWalks
import PyProof.StrOps2
import KE.IntTextLaws
import PyProof.StrBlockI
import PyProof.StrLawsIn
import PyProof.AutoSeq1
import PyProof.WalkInts
import PyProof.Rows.SetFrom
import PyProof.SetKind
import PyProof.CollectWalk
import PyProof.MinMaxWalk
import PyProof.TupleKey
import PyProof.FString5
import KE.KDictOf
import PyProof.AttrMissHeap
import KE.KSortTup
import PyProof.MeetsSeq3
import PyProof.DictUpdate
import PyProof.StrLawsChain
import PyProof.StrLawsTight
import PyProof.Rows.StrItems
import PyProof.ExcInit
import PyProof.ExcClass3
import PyProof.ExcBaseAll.ValueError
import PyProof.FString
import PyProof.Rows.FStr
import PyProof.RaisesMany
import PyProof.RulesAs
import PyProof.NsDelKeeps
import PyProof.ExcAttrAll.ValueError
import PyProof.Rows.SumAny
import PySem.Challenge.RW_digmatrix_k72_a_matrix_read_again
set_option Elab.async false
set_option linter.all false
set_option maxRecDepth 100000
def PySem.W.Fast.tw13655810900236509901:Unit:=()
def PySem.W.Fast.tw7656453117952719927:Unit:=()
def PySem.W.Fast.tw13692240700164437468:Unit:=()
def PySem.W.Fast.tw7824220986104950789:Unit:=()
def PySem.W.Fast.tw6154183876096234389:Unit:=()
def PySem.W.Fast.tw10396861810132436692:Unit:=()
def PySem.W.Fast.tw12453475305788497910:Unit:=()
def PySem.W.Fast.tw9869176107653222072:Unit:=()
def PySem.W.Fast.tw13478686380708399888:Unit:=()
def PySem.W.Fast.tw17682768492159879996:Unit:=()
def PySem.W.Fast.tw5683489623196557370:Unit:=()
def PySem.W.Fast.tw17711360074981597133:Unit:=()
def PySem.W.Fast.tw8545415224953412047:Unit:=()
def PySem.W.Fast.tw14653501203460481266:Unit:=()
def PySem.W.Fast.tw5722926345346288851:Unit:=()
namespace L2
open PySem PySem.Spec PyProof.Rows
abbrev Key:=Sum Int Str
def zjw:Key->Value->Bool
  | .inl k,v=>Value.isInt k v
  | .inr x,v=>Value.isStrOf x v
def keyH (w:World):Key->Int
  | .inl k=>hashInt k
  | .inr x=>hashStr w x
theorem zap:∀{k:Key}{v:Value},zjw k v=true->(∃i t,k=Sum.inl i/\v=Value.int i t)\/(∃x t,k=Sum.inr x/\v=Value.str x t)
  | .inl i,v,h=>by
    obtain⟨t,e⟩:=Value.isInt_shape (k:=i) (v:=v) h
    exact .inl ⟨i,t,rfl,e⟩
  | .inr x,v,h=>by
    obtain⟨t,e⟩:=Value.isStrOf_shape (x:=x) (v:=v) h
    exact .inr ⟨x,t,rfl,e⟩
theorem znf (i:Int) (t:Tok):zjw (.inl i) (.int i t)=true:=by simp[zjw,Value.isInt]
theorem zng (x:Str) (t:Tok):zjw (.inr x) (.str x t)=true:=by simp[zjw,Value.isStrOf]
theorem zu6 (a b:Int):decide ((Sum.inl a:Key)=Sum.inl b)=(a == b):=by
  by_cases e:a=b
  · subst e;simp
  · have h:¬(Sum.inl a:Key)=Sum.inl b:=fun q=>e (Sum.inl.inj q)
    rw[decide_eq_false h]
    exact (beq_eq_false_iff_ne.mpr e).symm
theorem zu7 (a b:Str):decide ((Sum.inr a:Key)=Sum.inr b)=decide (a=b):=by
  by_cases e:a=b
  · subst e;simp
  · have h:¬(Sum.inr a:Key)=Sum.inr b:=fun q=>e (Sum.inr.inj q)
    rw[decide_eq_false h,decide_eq_false e]
theorem zu8 (a:Int) (b:Str):decide ((Sum.inl a:Key)=Sum.inr b)=false:=decide_eq_false (fun q=>nomatch q)
theorem zu9 (a:Str) (b:Int):decide ((Sum.inr a:Key)=Sum.inl b)=false:=decide_eq_false (fun q=>nomatch q)
def za7 (prog:Program) (w:World):PySem.KeyKind prog w Key where
  is:=zjw
  hash:=keyH w
  inj:=fun v a b ha hb=>by
    rcases zap ha with ⟨i,t,rfl,rfl⟩ | ⟨x,t,rfl,rfl⟩
    · rcases zap hb with ⟨j,u,rfl,e⟩ | ⟨y,u,rfl,e⟩
      · injection e with e1 _;rw[e1]
      · exact nomatch e
    · rcases zap hb with ⟨j,u,rfl,e⟩ | ⟨y,u,rfl,e⟩
      · exact nomatch e
      · injection e with e1 _;rw[e1]
  byValue:=fun k v h=>by
    rcases zap h with ⟨i,t,rfl,rfl⟩ | ⟨x,t,rfl,rfl⟩<;>rfl
  pyHash:=fun hv h=>by
    rcases zap hv with ⟨i,t,rfl,rfl⟩ | ⟨x,t,rfl,rfl⟩
    · exact wpAny_pyHash_int h
    · exact wpAny_pyHash_str h
  eqBool:=fun hu hv h=>by
    rcases zap hu with ⟨i,t,rfl,rfl⟩ | ⟨x,t,rfl,rfl⟩
    · rcases zap hv with ⟨j,u,rfl,rfl⟩ | ⟨y,u,rfl,rfl⟩
      · rw[zu6] at h;exact wpAny_eqBool_int h
      · rw[zu8] at h;exact SeqAt.EqAt.int_str i t y u _ _ _ _ h
    · rcases zap hv with ⟨j,u,rfl,rfl⟩ | ⟨y,u,rfl,rfl⟩
      · rw[zu9] at h;exact SeqAt.EqAt.str_int x t j u _ _ _ _ h
      · rw[zu7] at h;exact wpAny_eqBool_str h
  «strs»:=fun k x t v h=>by
    rcases zap h with ⟨i,u,rfl,e⟩ | ⟨y,u,rfl,e⟩
    · exact nomatch e
    · injection e with e1 _
      subst e1
      cases v<;>rfl
theorem zjx (prog:Program) (w:World) (i:Int) (t:Tok):(za7 prog w).is (.inl i) (.int i t)=true:=znf i t
theorem zjy (prog:Program) (w:World) (x:Str) (t:Tok):(za7 prog w).is (.inr x) (.str x t)=true:=zng x t
inductive V where
  | non | bl (b:Bool) | int (i:Int) | str (x:Str) | byt (b:Array UInt8) | flt (b:UInt64) | ref (a:Addr) | ty (n:String)
  deriving DecidableEq
def RelV:V->Value->Prop
  | .non,u=>u=Value.none
  | .bl b,u=>u=Value.bool b
  | .int i,u=>∃t,u=Value.int i t
  | .str x,u=>∃t,u=Value.str x t
  | .byt b,u=>∃t,u=Value.bytes b t
  | .flt b,u=>∃t,u=Value.float b t
  | .ref a,u=>u=Value.ref a
  | .ty n,u=>u=Value.type n
abbrev Vals:List V->List Value->Prop:=Paired RelV
theorem Vals.length {xs:List V}{us:List Value}(r:Vals xs us):xs.length=us.length:=Paired.length r
theorem Vals.get:∀{xs:List V}{us:List Value}{i:Nat}{x:V},Vals xs us->xs[i]? = some x->∃u,us[i]? = some u/\RelV x u
  | _,_,_,_,.nil,e=>by simp at e
  | _,_,0,_,.cons r _,e=>by simp at e;subst e;exact⟨_,rfl,r⟩
  | _,_,i+1,x,.cons _ t,e=>by
    obtain⟨u,h1,h2⟩:=Vals.get (i:=i) (x:=x) t (by simpa using e)
    exact⟨u,by simpa using h1,h2⟩
theorem Vals.append:∀{xs ys:List V}{us ws:List Value},Vals xs us->Vals ys ws->Vals (xs++ys) (us++ws)
  | _,_,_,_,.nil,s=>s
  | _,_,_,_,.cons r t,s=>.cons r (Vals.append t s)
theorem Vals.take:∀{xs:List V}{us:List Value}(n:Nat),Vals xs us->Vals (xs.take n) (us.take n)
  | _,_,0,_=>.nil
  | _,_,_+1,.nil=>.nil
  | _,_,n+1,.cons r t=>.cons r (Vals.take n t)
theorem Vals.drop:∀{xs:List V}{us:List Value}(n:Nat),Vals xs us->Vals (xs.drop n) (us.drop n)
  | _,_,0,r=>r
  | _,_,_+1,.nil=>.nil
  | _,_,n+1,.cons _ t=>Vals.drop n t
def RelO:Option V->Option Value->Prop
  | some v,some u=>RelV v u
  | none,none=>True
  | _,_=>False
def KV {κ:Type}:List (κ×V)->List (κ×Value)->Prop:=Paired fun (p:κ×V) (q:κ×Value)=>p.1=q.1/\RelV p.2 q.2
def kV:Key->V
  | .inl i=>.int i
  | .inr x=>.str x
inductive HO where
    | lst (xs:List V)
    | tup (xs:List V)
    | dK (kvs:List (Key×V)) | dT (kvs:List (List Key×V))
    | set (S:Int->Bool) (n:Nat)
    | ins (C dx:Addr) (fs:List (Str×V))
    | own (x:Addr)
    | xd (fs:List (Str×V))
    | met (f x:Addr)
    | rng (lo hi:Int)
    | frz (o:Obj) (u:HO)
    | tbl (ps:Array Value)
    | ext (φ:Heap->Prop)
abbrev Hp:=Addr->Option HO
def upd (H:Hp) (a:Addr) (o:HO):Hp:=fun b=>if b=a then some o else H b
theorem zb {H:Hp}{a:Addr}{o:HO}:upd H a o a=some o:=by unfold upd;rw[if_pos rfl]
theorem zf {H:Hp}{a b:Addr}{o:HO}(h:b≠a):upd H a o b=H b:=by unfold upd;rw[if_neg h]
theorem zs0 {H:Hp}{a:Addr}{o u:HO}:upd (upd H a o) a u=upd H a u:=by
  funext b;unfold upd;split<;>rfl
theorem zdc {H:Hp}{a b:Addr}{o u:HO}(h:H a=some o) (h':H b=some u) (d:o≠u):a≠b:=by
  intro e;subst e;rw[h] at h';exact d (Option.some.inj h')
theorem ze {H:Hp}{a b:Addr}{o:HO}(h:H a=some o) (h':H b=none):a≠b:=by
  intro e;subst e;rw[h] at h';cases h'
section
variable (P:Program) (w:World)
def ObjOk (H:Hp) (h:Heap) (a:Addr):HO->Prop
  | .lst xs=>xs.length<=sizeLine/\∃(its:List Value) (n:Nat),Vals xs its/\h.get? a=some { cls:=.type "list",data:=.seq its.toArray n }
  | .tup xs=>xs.length<=sizeLine/\∃its:List Value,Vals xs its/\IsTup h a its.toArray
  | .dK kvs=>kvs.length<=sizeLine/\(a == sysModules)=false/\∃vs,KV kvs vs/\h.DictOf (za7 P w) a vs
  | .dT kvs=>kvs.length<=sizeLine/\(a == sysModules)=false/\∃xs:List (List Key×Addr×Value),
      Paired (fun (p:List Key×V) (q:List Key×Addr×Value)=>p.1=q.1/\H q.2.1=some (.tup (p.1.map kV))/\RelV p.2 q.2.2) kvs xs/\
      ∃o es ep,h.get? a=some o/\o.ExactDict/\o.data = .dict es ep/\es.toList=xs.map (entryOfKey (tupleKind (za7 P w)))/\(xs.map (·.1)).Nodup
  | .set S n=>h.SetOf (intKind P w) a S n
  | .ins C dx fs=>H dx=some (.own a)/\fs.length<=1000/\dx≠a/\h.get? a=some (PySem.W.instObj C dx)/\
      ∃mA,h.Ns1 dx mA/\(∀f,RelO (fs.lookup f) (mA f))/\PySem.Within mA (fs.map (·.1))
  | .own _=>∃o,h.get? a=some o
  | .xd fs=>∃mA,h.Ns1 a mA/\∀f,RelO (fs.lookup f) (mA f)
  | .rng lo hi=>∃t u v,h.get? a=some { cls:=.type "range",data:=.fields #[.int lo t,.int hi u,.int 1 v] }
  | .frz o u=>h.get? a=some o/\ObjOk H h a u
  | .tbl ps=>h.get? a=some { cls:=.none,data:=.fields ps }
  | .met f x=>h.get? a=some (PySem.W.methodObj (.ref f) (.ref x))
  | .ext φ=>φ h/\(∃o,h.get? a=some o)/\∀h1 h2:Heap,φ h1->(∀o,h1.get? a=some o->h2.get? a=some o)->φ h2
def HOk (H:Hp) (h:Heap):Prop:=∀a o,H a=some o->ObjOk P w H h a o
end
section
variable {P:Program}{w:World}{H H':Hp}{h h':Heap}{a:Addr}{o:HO}
theorem ObjOk.lt (x:ObjOk P w H h a o):a<h.objs.size:=by
  cases o with
  | lst xs=>obtain⟨_,_,_,_,e⟩:=x;exact Heap.lt_size e
  | tup xs=>obtain⟨_,_,_,p⟩:=x;exact p.lt
  | dK kvs=>obtain⟨_,_,_,_,o,_,_,e,_⟩:=x;exact Heap.lt_size e
  | dT kvs=>obtain⟨_,_,_,_,o,_,_,e,_⟩:=x;exact Heap.lt_size e
  | set S n=>obtain⟨o,_,_,_,e,_⟩:=x;exact Heap.lt_size e
  | ins C dx fs=>obtain⟨_,_,_,e,_⟩:=x;exact Heap.lt_size e
  | own y=>obtain⟨_,e⟩:=x;exact Heap.lt_size e
  | xd fs=>obtain⟨_,⟨_,_,_,e,_⟩,_⟩:=x;exact Heap.lt_size e
  | rng lo hi=>obtain⟨_,_,_,e⟩:=x;exact Heap.lt_size e
  | frz ob u=>obtain⟨e,_⟩:=x;exact Heap.lt_size e
  | tbl ps=>exact Heap.lt_size (show h.get? a=some _ from x)
  | met f y=>exact Heap.lt_size (show h.get? a=some _ from x)
  | ext φ=>obtain⟨_,⟨_,e⟩,_⟩:=x;exact Heap.lt_size e
theorem Paired.mapP {α β:Type}{F G:α->β->Prop}:∀{l₁:List α}{l₂:List β},Paired F l₁ l₂->(∀a b,F a b->G a b)->Paired G l₁ l₂
  | _,_,.nil,_=>.nil
  | _,_,.cons r t,f=>.cons (f _ _ r) (Paired.mapP t f)
theorem ObjOk.stay (x:ObjOk P w H h a o) (k:∀b u,(b=a\/H b=some (.own a))->h.get? b=some u->h'.get? b=some u)
    (ho:∀b,H b=some (.own a)->H' b=some (.own a)) (ht:∀b xs,H b=some (.tup xs)->H' b=some (.tup xs)):ObjOk P w H' h' a o:=by
  induction o with
  | lst xs=>obtain⟨z,its,n,r,e⟩:=x;exact⟨z,its,n,r,k _ _ (.inl rfl) e⟩
  | tup xs=>obtain⟨z,its,r,ob,e,c⟩:=x;exact⟨z,its,r,ob,k _ _ (.inl rfl) e,c⟩
  | dK kvs=>obtain⟨z,y,vs,r,ob,es,ep,e,c⟩:=x;exact⟨z,y,vs,r,ob,es,ep,k _ _ (.inl rfl) e,c⟩
  | dT kvs=>
    obtain⟨z,y,xs,r,ob,es,ep,e,c⟩:=x
    exact⟨z,y,xs,Paired.mapP r fun p q z=>⟨z.1,ht _ _ z.2.1,z.2.2⟩,ob,es,ep,k _ _ (.inl rfl) e,c⟩
  | set S n=>obtain⟨ob,es,ep,t,e,c⟩:=x;exact⟨ob,es,ep,t,k _ _ (.inl rfl) e,c⟩
  | ins C dx fs=>
    obtain⟨d,z,ne,e,mA,⟨od,es,ep,e2,c⟩,r⟩:=x
    exact⟨ho _ d,z,ne,k _ _ (.inl rfl) e,mA,⟨od,es,ep,k _ _ (.inr d) e2,c⟩,r⟩
  | own y=>obtain⟨ob,e⟩:=x;exact⟨ob,k _ _ (.inl rfl) e⟩
  | xd fs=>obtain⟨mA,⟨od,es,ep,e,c⟩,r⟩:=x;exact⟨mA,⟨od,es,ep,k _ _ (.inl rfl) e,c⟩,r⟩
  | rng lo hi=>obtain⟨t,u,v,e⟩:=x;exact⟨t,u,v,k _ _ (.inl rfl) e⟩
  | frz ob u ih=>obtain⟨e,q⟩:=x;exact⟨k _ _ (.inl rfl) e,ih q⟩
  | tbl ps=>
    have e:h.get? a=some { cls:=.none,data:=.fields ps }:=x
    show h'.get? a=some { cls:=.none,data:=.fields ps }
    exact k a _ (.inl rfl) e
  | met f y=>
    have e:h.get? a=some (PySem.W.methodObj (.ref f) (.ref y)):=x
    show h'.get? a=some (PySem.W.methodObj (.ref f) (.ref y))
    exact k a _ (.inl rfl) e
  | ext φ=>obtain⟨p,⟨o,e⟩,st⟩:=x;exact⟨st _ _ p fun o q=>k _ _ (.inl rfl) q,⟨o,k _ _ (.inl rfl) e⟩,st⟩
theorem HOk.lt (x:HOk P w H h) (e:H a=some o):a<h.objs.size:=(x a o e).lt
theorem HOk.fresh (x:HOk P w H h) (e:h.objs.size<=a):H a=none:=by
  cases q:H a with
  | none=>rfl
  | some u=>exact absurd (Nat.lt_of_lt_of_le (x.lt q) e) (Nat.lt_irrefl _)
theorem HOk.kept (x:HOk P w H h) (k:∀b u,h.get? b=some u->h'.get? b=some u):HOk P w H h':=fun a o e=>
  (x a o e).stay (fun b u _ q=>k b u q) (fun _ q=>q) fun _ _ q=>q
theorem HOk.laid (x:HOk P w H h) (k:∀b u,h.get? b=some u->h'.get? b=some u) (hp:h.objs.size<=a) (new:ObjOk P w (upd H a o) h' a o):HOk P w (upd H a o) h':=fun b u e=>by
  have hn:=x.fresh hp
  by_cases hb:b=a
  · subst hb;rw[zb] at e;cases e;exact new
  · rw[zf hb] at e
    exact (x b u e).stay (fun c v _ q=>k c v q) (fun c q=>by rw[zf (ze q hn)];exact q) fun c xs q=>by rw[zf (ze q hn)];exact q
end
def Rd (H:Hp) (a:Addr) (u:HO):Prop:=H a=some u\/∃o,H a=some (.frz o u)
theorem Rd.ok {P:Program}{w:World}{H:Hp}{h:Heap}{a:Addr}{u:HO}(r:Rd H a u) (x:HOk P w H h):ObjOk P w H h a u:=by
  rcases r with r | ⟨o,r⟩
  · exact x a u r
  · obtain⟨_,q⟩:=x a _ r
    exact q
def Mut:Option HO->Prop
  | some (.lst _)=>True
  | some (.dK _)=>True
  | some (.dT _)=>True
  | some (.set _ _)=>True
  | some (.ins _ _ _)=>True
  | some (.ext _)=>True
  | _=>False
section
variable {P:Program}{w:World}{H:Hp}{h h':Heap}{x e:Addr}{o':HO}
theorem HOk.write (ok:HOk P w H h) (mu:Mut (H x)) (he:e=x\/H e=some (.own x)) (k:∀b u,b≠e->h.get? b=some u->h'.get? b=some u) (heo:∃u,h'.get? e=some u)
    (new:ObjOk P w (upd H x o') h' x o'):HOk P w (upd H x o') h':=fun b u q=>by
  have nown:∀c y,H c=some (.own y)->c≠x:=fun c y r z=>by subst z;rw[r] at mu;exact mu
  have ntup:∀c xs,H c=some (.tup xs)->c≠x:=fun c xs r z=>by subst z;rw[r] at mu;exact mu
  by_cases hb:b=x
  · subst hb;rw[zb] at q;cases q;exact new
  · rw[zf hb] at q
    by_cases hbe:b=e
    · have q':H b=some (.own x):=by
        rcases he with z | z
        · exact absurd (hbe.trans z) hb
        · rw[hbe];exact z
      rw[q] at q';cases q'
      obtain⟨v,hv⟩:=heo
      exact⟨v,by rw[hbe];exact hv⟩
    · refine (ok b u q).stay (fun c v hc r=>k c v ?_ r) (fun c r=>by rw[zf (nown c b r)];exact r) fun c xs r=>by rw[zf (ntup c xs r)];exact r
      rcases hc with rfl | hc
      · exact hbe
      · rintro rfl
        rcases he with z | z
        · exact nown c b hc z
        · rw[hc] at z;cases z;exact hb rfl
end
structure Un (fs ex:List Addr) (H H':Hp) (h h':Heap):Prop where
  keep:∀b o,h.get? b=some o->H b=none->b ∉ fs->b ∉ ex->h'.get? b=some o
  slot:∀b o,h.get? b=some o->H b=none->b∈fs->b ∉ ex->∃sl,h'.get? b=some { o with slots:=sl }
  free:∀b o,h.get? b=some o->H b=none->b ∉ ex->H' b=none
  there:∀b o,h.get? b=some o->b ∉ ex->∃o',h'.get? b=some o'
  tups:∀b xs,H b=some (.tup xs)->H' b=some (.tup xs)
  frzs:∀b o u,H b=some (.frz o u)->H' b=some (.frz o u)
  tbls:∀b ps,H b=some (.tbl ps)->∃more,H' b=some (.tbl (ps++more))
section
variable {fs fs' ex ex':List Addr}{H H1 H2:Hp}{h h1 h2 h':Heap}{a x e:Addr}{o:HO}
theorem Un.any (u:Un fs ex H H1 h h1) {b:Addr}{ob:Obj}(q:h.get? b=some ob) (n:H b=none) (hx:b ∉ ex):∃sl,h1.get? b=some { ob with slots:=sl }:=by
  by_cases hb:b∈fs
  · exact u.slot b ob q n hb hx
  · exact⟨ob.slots,u.keep b ob q n hb hx⟩
theorem Un.kept (k:∀b u,h.get? b=some u->h'.get? b=some u):Un fs ex H H h h':=
  ⟨fun b ob q _ _ _=>k b ob q,fun b ob q _ _ _=>⟨ob.slots,k b ob q⟩,fun _ _ _ n _=>n,fun b ob q _=>⟨ob,k b ob q⟩,fun _ _ q=>q,fun _ _ _ q=>q,fun _ ps q=>⟨#[],by rw[q];simp⟩⟩
theorem Un.refl:Un fs ex H H h h:=Un.kept fun _ _ q=>q
theorem Un.laid (k:∀b u,h.get? b=some u->h'.get? b=some u) (hp:h.objs.size<=a) (hn:H a=none):Un fs ex H (upd H a o) h h' where
  keep:=fun b u q _ _ _=>k b u q
  slot:=fun b u q _ _ _=>⟨u.slots,k b u q⟩
  free:=fun b u q n _=>by rw[zf (Nat.ne_of_lt (Nat.lt_of_lt_of_le (Heap.lt_size q) hp))];exact n
  there:=fun b u q _=>⟨u,k b u q⟩
  tups:=fun b xs q=>by rw[zf (ze q hn)];exact q
  frzs:=fun b u xs q=>by rw[zf (ze q hn)];exact q
  tbls:=fun b ps q=>⟨#[],by rw[zf (ze q hn),q];simp⟩
theorem Un.write (mu:Mut (H x)) (he:e=x\/H e=some (.own x)) (k:∀b u,b≠e->h.get? b=some u->h'.get? b=some u) (heo:∃u,h'.get? e=some u):Un fs ex H (upd H x o) h h':=by
  have hx:∀b,H b=none->b≠x:=fun b n z=>by subst z;rw[n] at mu;exact mu
  have hb:∀b,H b=none->b≠e:=fun b n z=>by
    subst z
    rcases he with r | r
    · exact hx b n r
    · rw[n] at r;cases r
  have hm:∀b u,H b=some u->¬Mut (some u)->b≠x:=fun b u q nm z=>by subst z;rw[q] at mu;exact nm mu
  refine⟨fun b u q n _ _=>k b u (hb b n) q,fun b u q n _ _=>⟨u.slots,k b u (hb b n) q⟩,fun b u q n _=>by rw[zf (hx b n)];exact n,fun b u q _=>?_,
    fun b xs q=>by rw[zf (hm b _ q fun z=>z)];exact q,fun b u xs q=>by rw[zf (hm b _ q fun z=>z)];exact q,fun b ps q=>⟨#[],by rw[zf (hm b _ q fun z=>z),q];simp⟩⟩
  by_cases hbe:b=e
  · subst hbe;exact heo
  · exact⟨u,k b u hbe q⟩
end
def trk (h:Heap) (H:Hp):List Addr:=(List.range h.objs.size).filter fun a=>(H a).isSome
def hidT (h:Heap) (H:Hp):Heap:=PySem.W.hideAll h (trk h H)
theorem znh (h:Heap) (H:Hp):(hidT h H).objs.size=h.objs.size:=PySem.W.hideAll_size _ _
theorem zqa {h:Heap}{H:Hp}{b:Addr}{o:Obj}(e:h.get? b=some o) (n:H b=none):(hidT h H).get? b=some o:=
  PySem.W.hideAll_get _ e fun hm=>by
    have q:(H b).isSome=true:=(List.mem_filter.mp hm).2
    rw[n] at q;simp at q
theorem zs1 {h:Heap}{H:Hp}{b:Addr}{o:Obj}(e:(hidT h H).get? b=some o):h.get? b=some o/\H b=none:=by
  have e':h.get? b=some o:=PySem.W.of_hideAll (trk h H) e
  refine⟨e',?_⟩
  cases q:H b with
  | none=>rfl
  | some x=>
    have hm:b∈trk h H:=List.mem_filter.mpr ⟨List.mem_range.mpr (Heap.lt_size e'),by simp[q]⟩
    have z:(hidT h H).get? b=none:=PySem.W.hideAll_none (trk h H) hm
    rw[z] at e;cases e
def zs2 (g h:Heap) (L:Addr):List (Addr×Obj):=(List.range h.objs.size).filterMap fun a=>if a=L\/(g.get? a).isSome=true then none else (h.get? a).map fun o=>(a,o)
def rest (g h:Heap) (L d:Addr):List (Addr×Obj):=(zs2 g h L).filter fun p=>decide (p.1≠d)
structure Mod (K:PySem.W.Frag) (mg:Str->Option Value) (base:Heap):Prop where
  kin:K.In base
  glob:base.Ns mainGlobals mg
  blt:∃mb,base.Ns builtinsNs mb/\∀x:Str,x≠"__name__"->mb x=bootBuiltins x
  nolimit:base.NoLimit
structure Cx where
  prog:Program
  w:World
  K:PySem.W.Frag
  mg:Str->Option Value
  base:Heap
  A:Around
  N:List Str
  s₀:Shared
  H₀:Hp
  env:Env
  outer:List Env
  stack:List Env
  ex:List Addr
  fn:Str->Bool
  calm:Bool
  pn:List (Addr×Obj)
  xe:Value->Shared->Prop
def frs (l:List Env):List Addr:=l.filterMap (·.frame)
abbrev Cx.fs (X:Cx):List Addr:=frs X.outer
def Vis (sc:Scope) (x:Str):Prop:=sc.names.lookup x=some .local\/sc.names.lookup x=some .cell\/sc.names.lookup x=some .free
def Loc (sc:Scope) (x:Str):Prop:=sc.names.lookup x=some .local\/sc.names.lookup x=some .cell
def Look (env:Env) (h:Heap) (m:Str->Option Value) (x:Str) (u:Value):Prop:=
  (env.kindOf x=some .local/\m x=some u)\/((env.kindOf x=some .cell\/env.kindOf x=some .free)/\∃c,env.cells.lookup x=some c/\h.IsCell c (some u))
structure Cx.Ok (X:Cx):Prop where
  mod:Mod X.K X.mg X.base
  kind:X.env.scope.kind = .function
  glob:X.env.globals=mainGlobals
  blt:X.env.builtins=builtinsNs
  above:X.s₀.heap.objs.size<=X.env.locals
  inj:∀x y c,X.env.cells.lookup x=some c->X.env.cells.lookup y=some c->x=y
  has:∀x,(X.env.kindOf x=some .cell\/X.env.kindOf x=some .free)->∃c,X.env.cells.lookup x=some c
  cab:∀x c,X.fn x=true->X.env.cells.lookup x=some c->X.s₀.heap.objs.size<=c
  hd:X.calm=true->X.A.handled=none
  frames:X.A.frames=some X.stack
  stk:X.stack=X.outer\/(X.stack=X.env::X.outer/\X.env.frame=some X.env.locals)
  exf:∀b∈X.ex,b≠X.env.locals/\∀x c,X.env.cells.lookup x=some c->c≠b
  bs:∀b o,X.base.get? b=some o->X.s₀.heap.get? b=some o/\X.H₀ b=none
  bsz:X.base.objs.size<=X.s₀.heap.objs.size
  noex:∀b o,X.base.get? b=some o->b ∉ X.ex
  exfs:∀b∈X.ex,b ∉ X.fs
  funs:X.s₀.heap.FunFrames X.base X.outer
  frf:∀b∈X.fs,X.H₀ b=none
structure Inv (X:Cx) (pins:List (Addr×Obj)) (σ:List (Option V)) (H:Hp) (s:Shared):Prop where
  ok:X.Ok
  os:s.os=X.s₀.os
  bare:AllBare s.gens
  base:Un X.fs X.ex X.H₀ H X.s₀.heap s.heap
  loc:∃m,s.heap.Ns X.env.locals m/\∀(i:Nat) (x:Str) (v:V),X.N[i]? = some x->σ[i]? = some (some v)->Vis X.env.scope x->∃u,RelV v u/\Look X.env s.heap m x u
  cell:∀x c,X.env.cells.lookup x=some c->∃v,s.heap.IsCell c v
  free:H X.env.locals=none
  freeC:∀x c,X.env.cells.lookup x=some c->H c=none
  pin:∀p∈X.pn++pins,s.heap.get? p.1=some p.2/\H p.1=none/\p.1≠X.env.locals/\p.1 ∉ X.fs/\∀v,p.2.data≠.cell v
  hok:HOk X.prog X.w H s.heap
  len:σ.length=X.N.length
section
variable {X:Cx}{pins:List (Addr×Obj)}{σ:List (Option V)}{H H':Hp}{s:Shared}{h':Heap}
theorem Cx.Ok.nofr (ok:X.Ok) {b:Addr}{o:Obj}(e:X.base.get? b=some o):b ∉ X.fs:=fun hb=>by
  have:=(ok.funs.mem hb).1
  rw[e] at this;cases this
theorem Inv.bs (I:Inv X pins σ H s):∀b o,X.base.get? b=some o->s.heap.get? b=some o/\H b=none:=fun b o e=>
  ⟨I.base.keep b o (I.ok.bs b o e).1 (I.ok.bs b o e).2 (I.ok.nofr e) (I.ok.noex b o e),I.base.free b o (I.ok.bs b o e).1 (I.ok.bs b o e).2 (I.ok.noex b o e)⟩
theorem Inv.bk (I:Inv X pins σ H s):∀b o,X.base.get? b=some o->s.heap.get? b=some o:=fun b o e=>(I.bs b o e).1
theorem Inv.mod (I:Inv X pins σ H s):Mod X.K X.mg X.base:=I.ok.mod
theorem Inv.kIn (I:Inv X pins σ H s):X.K.In s.heap:=I.ok.mod.kin.keeps I.bk
theorem Inv.lt (I:Inv X pins σ H s):X.env.locals<s.heap.objs.size:=let ⟨_,hn,_⟩:=I.loc;hn.lt
theorem Inv.sz (I:Inv X pins σ H s):X.s₀.heap.objs.size<=s.heap.objs.size:=Nat.le_trans I.ok.above (Nat.le_of_lt I.lt)
theorem Inv.nofs (I:Inv X pins σ H s) {a:Addr}(h:s.heap.objs.size<=a):a ∉ X.fs:=fun hb=>by
  obtain⟨_,o,ho,_⟩:=I.ok.funs.mem hb
  exact absurd (Nat.lt_of_lt_of_le (Heap.lt_size ho) (Nat.le_trans I.sz h)) (Nat.lt_irrefl _)
theorem Inv.cne (I:Inv X pins σ H s):∀x c,X.env.cells.lookup x=some c->c≠X.env.locals:=fun x c e z=>by
  obtain⟨v,o,ho,hd⟩:=I.cell x c e
  obtain⟨m,⟨o',es,ep,ho',hd',_⟩,_⟩:=I.loc
  rw[z,ho'] at ho;cases ho;rw[hd'] at hd;cases hd
theorem Inv.funs (I:Inv X pins σ H s):s.heap.FunFrames X.base X.outer:=by
  have all:∀(l:List Env),(∀b∈frs l,b∈X.fs)->X.s₀.heap.FunFrames X.base l->s.heap.FunFrames X.base l:=by
    intro l
    induction l with
    | nil=>intro _ _;trivial
    | cons env r ih=>
      intro hs hl
      obtain⟨hk,⟨L,o,hf,hn,ho,hd⟩,hr⟩:=hl
      have hL:L∈X.fs:=hs L (by unfold frs;rw[List.filterMap_cons,hf];exact List.mem_cons_self)
      obtain⟨sl,e⟩:=I.base.slot L o ho (I.ok.frf L hL) hL fun z=>I.ok.exfs L z hL
      exact⟨hk,⟨L,_,hf,hn,e,hd⟩,ih (fun b hb=>hs b (by unfold frs;rw[List.filterMap_cons,hf];exact List.mem_cons_of_mem _ hb)) hr⟩
  exact all X.outer (fun _ hb=>hb) I.ok.funs
theorem Inv.stack (I:Inv X pins σ H s):s.heap.FunFrames X.base X.stack:=by
  rcases I.ok.stk with e | ⟨e,hf⟩
  · rw[e];exact I.funs
  · rw[e]
    obtain⟨m,hn,_⟩:=I.loc
    refine .cons (by rw[I.ok.kind];decide) hf hn ?_ I.funs
    exact Heap.get?_none_of_le (Nat.le_trans I.ok.bsz I.ok.above)
theorem Inv.stkSub (I:Inv X pins σ H s):∀b∈frs X.stack,b∈X.env.locals::X.fs:=fun b hb=>by
  rcases I.ok.stk with e | ⟨e,hf⟩
  · rw[e] at hb;exact List.mem_cons_of_mem _ hb
  · rw[e] at hb
    unfold frs at hb
    rw[List.filterMap_cons,hf] at hb
    exact hb
theorem Inv.stkFree (I:Inv X pins σ H s):∀b∈frs X.stack,H b=none:=fun b hb=>by
  rcases List.mem_cons.mp (I.stkSub b hb) with e | hb
  · rw[e];exact I.free
  · obtain⟨_,o,ho,_⟩:=I.ok.funs.mem hb
    exact I.base.free b o ho (I.ok.frf b hb) fun z=>I.ok.exfs b z hb
theorem Inv.step {g':Array GenState}{t':Nat}{d':Drawn}{ch:List Addr}(I:Inv X pins σ H s)
    (hch:∀b∈ch,(b∈X.ex\/X.s₀.heap.objs.size<=b)/\b≠X.env.locals/\(∀x c,X.env.cells.lookup x=some c->c≠b)/\∀p∈X.pn++pins,p.1≠b)
    (keep:∀b o,b≠X.env.locals->b ∉ X.fs->b ∉ ch->s.heap.get? b=some o->H b=none->h'.get? b=some o)
    (slot:∀b o,b≠X.env.locals->b∈X.fs->b ∉ ch->s.heap.get? b=some o->H b=none->∃sl,h'.get? b=some { o with slots:=sl }) (free:∀b o,b ∉ ch->s.heap.get? b=some o->H b=none->H' b=none)
    (there:∀b o,b ∉ ch->s.heap.get? b=some o->∃o',h'.get? b=some o')
    (tups:∀b xs,H b=some (.tup xs)->H' b=some (.tup xs)) (frzs:∀b o u,H b=some (.frz o u)->H' b=some (.frz o u)) (tbls:∀b ps,H b=some (.tbl ps)->∃more,H' b=some (.tbl (ps++more)))
    (ns:∀m,s.heap.Ns X.env.locals m->h'.Ns X.env.locals m) (hok:HOk X.prog X.w H' h') (hg:AllBare g') :
    Inv X pins σ H' { s with heap:=h',gens:=g',drawn:=d',toks:=t' }:=by
  have neL:∀b o,X.s₀.heap.get? b=some o->b≠X.env.locals:=fun b o e=>Nat.ne_of_lt (Nat.lt_of_lt_of_le (Heap.lt_size e) I.ok.above)
  have neC:∀b o,X.s₀.heap.get? b=some o->b ∉ X.ex->b ∉ ch:=fun b o e hx hb=>by
    rcases (hch b hb).1 with z | z
    · exact hx z
    · exact absurd (Nat.lt_of_lt_of_le (Heap.lt_size e) z) (Nat.lt_irrefl _)
  have cellK:∀x c,X.env.cells.lookup x=some c->∀v,s.heap.IsCell c v->h'.IsCell c v:=fun x c e v ⟨o,ho,hd⟩=>by
    have nch:c ∉ ch:=fun z=>(hch c z).2.2.1 x c e rfl
    by_cases hc:c∈X.fs
    · obtain⟨sl,q⟩:=slot c o (I.cne x c e) hc nch ho (I.freeC x c e)
      exact⟨_,q,hd⟩
    · exact⟨o,keep c o (I.cne x c e) hc nch ho (I.freeC x c e),hd⟩
  refine⟨I.ok,I.os,hg,⟨fun b o e n hb hx=>?_,fun b o e n hb hx=>?_,fun b o e n hx=>?_,fun b o e hx=>?_,fun b xs e=>tups b xs (I.base.tups b xs e),fun b o xs e=>frzs b o xs (I.base.frzs b o xs e),fun b ps e=>?_⟩,?_,fun x c e=>?_,?_,fun x c e=>?_,fun p hp=>?_,hok,I.len⟩
  · exact keep b o (neL b o e) hb (neC b o e hx) (I.base.keep b o e n hb hx) (I.base.free b o e n hx)
  · obtain⟨sl,e1⟩:=I.base.slot b o e n hb hx
    obtain⟨sl',e2⟩:=slot b _ (neL b o e) hb (neC b o e hx) e1 (I.base.free b o e n hx)
    exact⟨sl',e2⟩
  · obtain⟨o',e1⟩:=I.base.there b o e hx
    exact free b o' (neC b o e hx) e1 (I.base.free b o e n hx)
  · obtain⟨o',e1⟩:=I.base.there b o e hx
    exact there b o' (neC b o e hx) e1
  · obtain⟨m1,e1⟩:=I.base.tbls b ps e
    obtain⟨m2,e2⟩:=tbls b _ e1
    exact⟨m1++m2,by rw[e2,Array.append_assoc]⟩
  · obtain⟨m,hn,hl⟩:=I.loc
    refine⟨m,ns m hn,fun i x v e1 e2 e3=>?_⟩
    obtain⟨u,r,l⟩:=hl i x v e1 e2 e3
    refine⟨u,r,?_⟩
    rcases l with l | ⟨k,c,e,z⟩
    · exact .inl l
    · exact .inr ⟨k,c,e,cellK x c e _ z⟩
  · obtain⟨v,z⟩:=I.cell x c e
    exact⟨v,cellK x c e v z⟩
  · obtain⟨m,⟨o,_,_,ho,_⟩,_⟩:=I.loc
    exact free _ o (fun z=>(hch _ z).2.1 rfl) ho I.free
  · obtain⟨v,o,ho,hd⟩:=I.cell x c e
    exact free c o (fun z=>(hch c z).2.2.1 x c e rfl) ho (I.freeC x c e)
  · obtain⟨e,n,ne,nf,d⟩:=I.pin p hp
    have nch:p.1 ∉ ch:=fun z=>(hch p.1 z).2.2.2 p hp rfl
    exact⟨keep p.1 p.2 ne nf nch e n,free p.1 p.2 nch e n,ne,nf,d⟩
theorem Inv.un {t':Nat}(I:Inv X pins σ H s) (u:Un X.fs [] H H' s.heap h') (hok:HOk X.prog X.w H' h'):Inv X pins σ H' { s with heap:=h',toks:=t' }:=by
  obtain⟨m,⟨o,es,ep,ho,r⟩,_⟩:=id I.loc
  obtain⟨sl,hL⟩:=u.any ho I.free (by simp)
  exact I.step (g':=s.gens) (d':=s.drawn) (ch:=[]) (fun _ z=>nomatch z) (fun b o _ hb _ e n=>u.keep b o e n hb (by simp)) (fun b o _ hb _ e n=>u.slot b o e n hb (by simp)) (fun b o _ e n=>u.free b o e n (by simp)) (fun b o _ e=>u.there b o e (by simp)) u.tups u.frzs u.tbls (fun m' hm=>by
    obtain⟨o',es',ep',ho',r'⟩:=hm
    rw[ho] at ho';cases ho'
    exact⟨_,es',ep',hL,r'⟩) hok I.bare
theorem Inv.call {g':Array GenState}{t':Nat}{d':Drawn}{ch:List Addr}(I:Inv X pins σ H s) (u:Un (frs X.stack) ch H H' s.heap h') (hok:HOk X.prog X.w H' h') (hg:AllBare g')
    (hch:∀b∈ch,(b∈X.ex\/X.s₀.heap.objs.size<=b)/\b≠X.env.locals/\(∀x c,X.env.cells.lookup x=some c->c≠b)/\∀p∈X.pn++pins,p.1≠b) :
    Inv X pins σ H' { s with heap:=h',gens:=g',drawn:=d',toks:=t' }:=by
  obtain⟨m,⟨o,es,ep,ho,r⟩,_⟩:=id I.loc
  obtain⟨sl,hL⟩:=u.any ho I.free fun z=>(hch _ z).2.1 rfl
  exact I.step (ch:=ch) hch (fun b o hL hb hc e n=>u.keep b o e n (fun z=>(List.mem_cons.mp (I.stkSub b z)).elim hL hb) hc) (fun b o _ _ hc e n=>u.any e n hc) (fun b o hc e n=>u.free b o e n hc) (fun b o hc e=>u.there b o e hc) u.tups u.frzs u.tbls (fun m' hm=>by
    obtain⟨o',es',ep',ho',r'⟩:=hm
    rw[ho] at ho';cases ho'
    exact⟨_,es',ep',hL,r'⟩) hok hg
theorem Inv.turned {t':Nat}{it:Addr}(I:Inv X pins σ H s) (k:∀b o,b≠it->s.heap.get? b=some o->h'.get? b=some o) (hn:H it=none) (hL:it≠X.env.locals)
    (h1:it∈X.ex\/X.s₀.heap.objs.size<=it) (h2:∀x c,X.env.cells.lookup x=some c->c≠it) (h3:∀p∈X.pn++pins,p.1≠it):Inv X pins σ H { s with heap:=h',toks:=t' }:=by
  have nit:∀b u,H b=some u->b≠it:=fun b u e z=>by rw[z,hn] at e;cases e
  refine I.step (g':=s.gens) (d':=s.drawn) (ch:=[it]) (fun b hb=>?_) (fun b o _ _ hc e _=>k b o (fun z=>hc (by simp[z])) e) (fun b o _ _ hc e _=>⟨o.slots,k b o (fun z=>hc (by simp[z])) e⟩) (fun _ _ _ _ n=>n)
    (fun b o hc e=>⟨o,k b o (fun z=>hc (by simp[z])) e⟩) (fun _ _ e=>e) (fun _ _ _ e=>e) (fun b ps e=>⟨#[],by rw[e];simp⟩) (fun m hm=>?_) (fun b u e=>?_) I.bare
  · have e:b=it:=by simpa using hb
    subst e
    exact⟨h1,hL,h2,h3⟩
  · obtain⟨o,es,ep,ho,r⟩:=hm
    exact⟨o,es,ep,k _ o (Ne.symm hL) ho,r⟩
  · refine (I.hok b u e).stay (fun c v hc q=>k c v ?_ q) (fun _ q=>q) fun _ _ q=>q
    rcases hc with z | z
    · rw[z];exact nit b u e
    · exact nit c _ z
theorem Inv.tok (I:Inv X pins σ H s) (t:Nat):Inv X pins σ H { s with toks:=t }:=I.un (h':=s.heap) (t':=t) Un.refl I.hok
theorem Inv.kept {t':Nat}(I:Inv X pins σ H s) (k:∀b u,s.heap.get? b=some u->h'.get? b=some u):Inv X pins σ H { s with heap:=h',toks:=t' }:=I.un (Un.kept k) (I.hok.kept k)
theorem Inv.laid {a:Addr}{o:HO}{t':Nat}(I:Inv X pins σ H s) (k:∀b u,s.heap.get? b=some u->h'.get? b=some u) (hp:s.heap.objs.size<=a) (new:ObjOk X.prog X.w (upd H a o) h' a o) :
    Inv X pins σ (upd H a o) { s with heap:=h',toks:=t' }:=I.un (Un.laid k hp (I.hok.fresh hp)) (I.hok.laid k hp new)
theorem Inv.write {x e:Addr}{o:HO}{t':Nat}(I:Inv X pins σ H s) (mu:Mut (H x)) (he:e=x\/H e=some (.own x)) (k:∀b u,b≠e->s.heap.get? b=some u->h'.get? b=some u) (heo:∃u,h'.get? e=some u)
    (new:ObjOk X.prog X.w (upd H x o) h' x o):Inv X pins σ (upd H x o) { s with heap:=h',toks:=t' }:=I.un (Un.write mu he k heo) (I.hok.write mu he k heo new)
theorem Inv.pins_of {pins':List (Addr×Obj)}(I:Inv X pins σ H s) (h:∀p∈pins',s.heap.get? p.1=some p.2/\H p.1=none/\p.1≠X.env.locals/\p.1 ∉ X.fs/\∀v,p.2.data≠.cell v):Inv X pins' σ H s:=
  ⟨I.ok,I.os,I.bare,I.base,I.loc,I.cell,I.free,I.freeC,fun p hp=>(List.mem_append.mp hp).elim (fun z=>I.pin p (List.mem_append_left _ z)) (h p),I.hok,I.len⟩
theorem zkx {N:List Str}(hN:N.Nodup) {i j:Nat}{x:Str}(a:N[i]? = some x) (b:N[j]? = some x):i=j:=by
  obtain⟨h1,e1⟩:=List.getElem?_eq_some_iff.mp a
  obtain⟨h2,e2⟩:=List.getElem?_eq_some_iff.mp b
  exact (List.getElem_inj hN).mp (e1.trans e2.symm)
theorem zh6 {M:Model}{A:Around}{E:Value->Shared->Prop}{i:Nat}{x:Str}{v:V}{u:Value}{Q:Unit->Shared->Prop}(I:Inv X pins σ H s) (hN:X.N.Nodup) (hi:X.N[i]? = some x) (hx:Loc X.env.scope x) (r:RelV v u)
    (h:∀s',Inv X pins (σ.set i (some v)) H s'->(∃a,Heap.SameBut a s.heap s'.heap/\(a=X.env.locals\/X.env.cells.lookup x=some a))->Q () s') (hf:X.fn x=true\/X.env.scope.names.lookup x=some .local:=by first | exact .inl rfl | exact .inr rfl | assumption):wpAny M A (storeName X.env x u) Q E s:=by
  obtain⟨m,hn,hl⟩:=id I.loc
  have hcls:(X.env.scope.kind == .class||(X.env.scope.kind == .module&&X.env.locals != X.env.globals))=false:=by rw[I.ok.kind];rfl
  have hiσ:i<σ.length:=by rw[I.len];exact (List.getElem?_eq_some_iff.mp hi).1
  have cne:=I.cne
  have tracked:∀{a:Addr}{h':Heap},(∃o,s.heap.get? a=some o/\H a=none)->Heap.SameBut a s.heap h'->HOk X.prog X.w H h':=fun {a h'} ha hs b ob e=>by
    obtain⟨_,_,hfree⟩:=ha
    refine (I.hok b ob e).stay (fun c w' hc q=>(hs.2 c ?_).trans q) (fun _ q=>q) fun _ _ q=>q
    rintro rfl
    rcases hc with rfl | hc
    · rw[hfree] at e;cases e
    · rw[hfree] at hc;cases hc
  rcases hx with hk | hk
  · refine wpAny_storeName_local hk hn (fun h' hn' hs=>?_) hcls
    obtain⟨oL,_,_,hoL,_⟩:=id hn
    refine h _ ⟨I.ok,I.os,I.bare,⟨fun b o e n hb hx=>?_,fun b o e n hb hx=>?_,I.base.free,fun b o e hx=>?_,I.base.tups,I.base.frzs,I.base.tbls⟩,⟨_,hn',fun j y v' e1 e2 e3=>?_⟩,fun y c e=>?_,I.free,I.freeC,fun p hp=>?_,tracked ⟨oL,hoL,I.free⟩ hs,by simpa using I.len⟩ ⟨_,hs,.inl rfl⟩
    · exact (hs.2 b (Nat.ne_of_lt (Nat.lt_of_lt_of_le (Heap.lt_size e) I.ok.above))).trans (I.base.keep b o e n hb hx)
    · obtain⟨sl,e1⟩:=I.base.slot b o e n hb hx
      exact⟨sl,(hs.2 b (Nat.ne_of_lt (Nat.lt_of_lt_of_le (Heap.lt_size e) I.ok.above))).trans e1⟩
    · obtain⟨o',e1⟩:=I.base.there b o e hx
      exact⟨o',(hs.2 b (Nat.ne_of_lt (Nat.lt_of_lt_of_le (Heap.lt_size e) I.ok.above))).trans e1⟩
    · by_cases hj:j=i
      · subst hj
        rw[hi] at e1;cases e1
        rw[List.getElem?_set_self hiσ] at e2
        cases e2
        exact⟨u,r,.inl ⟨hk,by simp⟩⟩
      · rw[List.getElem?_set_ne (Ne.symm hj)] at e2
        obtain⟨u',r',q⟩:=hl j y v' e1 e2 e3
        refine⟨u',r',?_⟩
        rcases q with ⟨k,e⟩ | ⟨k,c,e,z⟩
        · refine .inl ⟨k,?_⟩
          have:y≠x:=fun e=>hj (zkx hN e1 (e▸hi))
          simp[this,e]
        · exact .inr ⟨k,c,e,z.sameBut hs (cne y c e)⟩
    · obtain⟨w',z⟩:=I.cell y c e
      exact⟨w',z.sameBut hs (cne y c e)⟩
    · obtain⟨e,n,ne,nf,d⟩:=I.pin p hp
      exact⟨(hs.2 p.1 ne).trans e,n,ne,nf,d⟩
  · have hfn:X.fn x=true:=by
      rcases hf with z | z
      · exact z
      · rw[z] at hk;cases hk
    obtain⟨c,hc⟩:=I.ok.has x (.inl hk)
    obtain⟨w',z⟩:=I.cell x c hc
    refine wpAny_storeName_cell I.ok.kind hk hc z (fun h' hc' hs=>?_)
    obtain⟨oc,hoc,hocd⟩:=id z
    refine h { s with heap:=h' } ⟨I.ok,I.os,I.bare,⟨fun b o e n hb hx=>?_,fun b o e n hb hx=>?_,I.base.free,fun b o e hx=>?_,I.base.tups,I.base.frzs,I.base.tbls⟩,⟨m,hn.sameBut hs (Ne.symm (cne x c hc)),fun j y v' e1 e2 e3=>?_⟩,fun y c' e=>?_,I.free,I.freeC,fun p hp=>?_,tracked ⟨oc,hoc,I.freeC x c hc⟩ hs,by simpa using I.len⟩ ⟨c,hs,.inr hc⟩
    · exact (hs.2 b (Nat.ne_of_lt (Nat.lt_of_lt_of_le (Heap.lt_size e) (I.ok.cab x c hfn hc)))).trans (I.base.keep b o e n hb hx)
    · obtain⟨sl,e1⟩:=I.base.slot b o e n hb hx
      exact⟨sl,(hs.2 b (Nat.ne_of_lt (Nat.lt_of_lt_of_le (Heap.lt_size e) (I.ok.cab x c hfn hc)))).trans e1⟩
    · obtain⟨o',e1⟩:=I.base.there b o e hx
      exact⟨o',(hs.2 b (Nat.ne_of_lt (Nat.lt_of_lt_of_le (Heap.lt_size e) (I.ok.cab x c hfn hc)))).trans e1⟩
    · by_cases hj:j=i
      · subst hj
        rw[hi] at e1;cases e1
        rw[List.getElem?_set_self hiσ] at e2
        cases e2
        exact⟨u,r,.inr ⟨.inl hk,c,hc,hc'⟩⟩
      · rw[List.getElem?_set_ne (Ne.symm hj)] at e2
        obtain⟨u',r',q⟩:=hl j y v' e1 e2 e3
        refine⟨u',r',?_⟩
        rcases q with q | ⟨k,c',e,z'⟩
        · exact .inl q
        · refine .inr ⟨k,c',e,z'.sameBut hs ?_⟩
          rintro rfl
          exact hj (zkx hN e1 (I.ok.inj _ _ _ e hc▸hi))
    · by_cases hcc:c'=c
      · subst hcc;exact⟨_,hc'⟩
      · obtain⟨w2,z2⟩:=I.cell y c' e
        exact⟨w2,z2.sameBut hs hcc⟩
    · obtain⟨e,n,ne,nf,d⟩:=I.pin p hp
      refine⟨(hs.2 p.1 ?_).trans e,n,ne,nf,d⟩
      intro q
      rw[q,hoc] at e
      have q':oc=p.2:=Option.some.inj e
      exact d w' (by rw[←q'];exact hocd)
theorem zky {M:Model}{A:Around}{E:Value->Shared->Prop}{i:Nat}{x:Str}{v:V}{u:Value}{Q:Unit->Shared->Prop}(I:Inv X pins σ H s) (hN:X.N.Nodup) (hi:X.N[i]? = some x) (hx:Loc X.env.scope x) (r:RelV v u)
    (h:∀s',Inv X pins (σ.set i (some v)) H s'->Q () s') (hf:X.fn x=true\/X.env.scope.names.lookup x=some .local:=by first | exact .inl rfl | exact .inr rfl | assumption):wpAny M A (storeName X.env x u) Q E s:=
  zh6 I hN hi hx r (fun s' I' _=>h s' I') hf
theorem Inv.call' {s':Shared}{ch:List Addr}(I:Inv X pins σ H s) (ho:s'.os=s.os) (u:Un (frs X.stack) ch H H' s.heap s'.heap) (hok:HOk X.prog X.w H' s'.heap) (hg:AllBare s'.gens)
    (hch:∀b∈ch,(b∈X.ex\/X.s₀.heap.objs.size<=b)/\b≠X.env.locals/\(∀x c,X.env.cells.lookup x=some c->c≠b)/\∀p∈X.pn++pins,p.1≠b):Inv X pins σ H' s':=by
  obtain⟨h',g',d',t',o'⟩:=s'
  have e:o'=s.os:=ho
  subst e
  exact I.call (g':=g') (t':=t') (d':=d') u hok hg hch
end
abbrev XK:=Value->Option Addr->Hp->Prop
abbrev St:=List (Option V)
abbrev VK:=V->Hp->Prop
abbrev TE:=St->Hp->VK->Prop
abbrev TT:=St->Hp->(Bool->Hp->Prop)->Prop
abbrev TA:=St->Hp->(List V->Hp->Prop)->Prop
structure Ends where
  nx:St->Hp->Prop
  rt:VK
  bk:St->Hp->Prop:=fun _ _=>False
  ct:St->Hp->Prop:=fun _ _=>False
abbrev TS:=Ends->St->Hp->Prop
def EP (X:Cx) (pins:List (Addr×Obj)) (σ:St) (Q:VK) (u:Value) (s':Shared):Prop:=∃v H',Inv X pins σ H' s'/\RelV v u/\Q v H'
def TP (X:Cx) (pins:List (Addr×Obj)) (σ:St) (Q:Bool->Hp->Prop) (b:Bool) (s':Shared):Prop:=∃H',Inv X pins σ H' s'/\Q b H'
def AP (X:Cx) (pins:List (Addr×Obj)) (σ:St) (Q:List V->Hp->Prop) (us:List Value) (s':Shared):Prop:=∃vs H',Inv X pins σ H' s'/\Vals vs us/\Q vs H'
def SP (X:Cx) (pins:List (Addr×Obj)) (D:Ends) (f:Flow) (s':Shared):Prop:=
  match f with
  | .next=>∃σ' H',Inv X pins σ' H' s'/\D.nx σ' H'
  | .brk=>∃σ' H',Inv X pins σ' H' s'/\D.bk σ' H'
  | .cont=>∃σ' H',Inv X pins σ' H' s'/\D.ct σ' H'
  | .ret u=>∃v σ' H',Inv X pins σ' H' s'/\RelV v u/\D.rt v H'
def PE (X:Cx) (e:Expr) (t:TE):Prop:=
  ∀(pins:List (Addr×Obj)) (s:Shared) (σ:St) (H:Hp) (Q:VK),Inv X pins σ H s->t σ H Q->wpAny (model X.prog X.w) X.A (eval e X.env) (EP X pins σ Q) X.xe s
def PT (X:Cx) (e:Expr) (t:TT):Prop:=
  ∀(pins:List (Addr×Obj)) (s:Shared) (σ:St) (H:Hp) (Q:Bool->Hp->Prop),Inv X pins σ H s->t σ H Q->wpAny (model X.prog X.w) X.A (isTrue e X.env (eval e X.env)) (TP X pins σ Q) X.xe s
def PW (X:Cx) (e:Expr) (t:TT):Prop:=
  ∀(whole:Sem Value) (pins:List (Addr×Obj)) (s:Shared) (σ:St) (H:Hp) (Q:Bool->Hp->Prop),Inv X pins σ H s->t σ H Q->wpAny (model X.prog X.w) X.A (isTrue e X.env whole) (TP X pins σ Q) X.xe s
theorem PW.pt {X:Cx}{e:Expr}{t:TT}(h:PW X e t):PT X e t:=h _
def PA (X:Cx) (es:List Expr) (t:TA):Prop:=
  ∀(pos:Pos) (pins:List (Addr×Obj)) (s:Shared) (σ:St) (H:Hp) (Q:List V->Hp->Prop),Inv X pins σ H s->t σ H Q->wpAny (model X.prog X.w) X.A (spliced (backTo pos (starEach es X.env))) (AP X pins σ Q) X.xe s
def PS (X:Cx) (st:Stmt) (t:TS):Prop:=
  ∀(pins:List (Addr×Obj)) (s:Shared) (σ:St) (H:Hp) (D:Ends),Inv X pins σ H s->t D σ H->wpAny (model X.prog X.w) X.A (exec st X.env) (SP X pins D) X.xe s
def PSs (X:Cx) (st:List Stmt) (t:TS):Prop:=
  ∀(pins:List (Addr×Obj)) (s:Shared) (σ:St) (H:Hp) (D:Ends),Inv X pins σ H s->t D σ H->wpAny (model X.prog X.w) X.A (execs st X.env) (SP X pins D) X.xe s
theorem thn {α:Type}{t:Sem α}{Q Q':α->Shared->Prop}{M:Model}{A:Around}{E:Value->Shared->Prop}{s:Shared}(h:wpAny M A t Q E s) (hQ:∀a s,Q a s->Q' a s):wpAny M A t Q' E s:=wpAny_mono h hQ fun _ _ x=>x
section
variable {X:Cx}
theorem bin {a b:Expr}{ta tb:TE}(ha:PE X a ta) (hb:PE X b tb) {pins:List (Addr×Obj)}{s:Shared}{σ:St}{H:Hp}{R:V->V->Hp->Prop}(I:Inv X pins σ H s) (h:ta σ H fun x H1=>tb σ H1 fun y H2=>R x y H2)
    {α:Type}{Q:α->Shared->Prop}{f:Value->Value->Sem α}
    (hf:∀v u s2 x y H2,Inv X pins σ H2 s2->RelV x v->RelV y u->R x y H2->wpAny (model X.prog X.w) X.A (f v u) Q X.xe s2) :
    wpAny (model X.prog X.w) X.A (eval a X.env) (fun v s₁=>wpAny (model X.prog X.w) X.A (eval b X.env) (fun u s₂=>wpAny (model X.prog X.w) X.A (f v u) Q X.xe s₂) X.xe s₁) X.xe s:=by
  refine thn (ha pins s σ H _ I h) fun v s1 hq0=>?_
  obtain⟨x,H1,I1,r1,q1⟩:=hq0
  refine thn (hb pins s1 σ H1 _ I1 q1) fun u s2 hq0=>?_
  obtain⟨y,H2,I2,r2,q2⟩:=hq0
  exact hf v u s2 x y H2 I2 r1 r2 q2
def tVar (i:Nat):TE:=fun σ H Q=>∃v,σ[i]? = some (some v)/\Q v H
def tC (v:V):TE:=fun _ H Q=>Q v H
theorem zva {i:Nat}{x:Str}{pos:Pos}(hN:X.N[i]? = some x) (hv:Vis X.env.scope x) (hd:(x == ("__debug__" : Str))=false:=by decide) (hcd:(x == ("__classdict__" : Str))=false:=by decide):PE X (.Name x pos) (tVar i):=by
  intro pins s σ H Q I h
  obtain⟨v,e,h⟩:=h
  obtain⟨m,hn,hl⟩:=I.loc
  obtain⟨u,r,l⟩:=hl i x v hN e hv
  have fin:EP X pins σ Q u s:=⟨v,H,I,r,h⟩
  rcases l with ⟨hk,hm⟩ | ⟨hk,c,hc,hcell⟩
  · exact wpAny_Name (wpAny_loadName_local I.ok.kind hk hn hm fin) hd
  · rcases hk with hk | hk
    · exact wpAny_Name (wpAny_loadName_cell I.ok.kind hk hc hcell fin) hd
    · exact wpAny_Name (wpAny_loadName_free I.ok.kind hk hc hcell fin hcd) hd
theorem zj {i j pos}:PE X (.Constant (.int i) j pos) (tC (.int i)):=fun _ _ _ H _ I h=>wpAny_Constant_int ⟨.int i,H,I.tok _,⟨_,rfl⟩,h⟩
theorem zcw {b j pos}:PE X (.Constant (.bool b) j pos) (tC (.bl b)):=fun _ _ _ H _ I h=>Constant_bool ⟨.bl b,H,I,rfl,h⟩
theorem zkz {j pos}:PE X (.Constant .none j pos) (tC .non):=fun _ _ _ H _ I h=>Constant_none ⟨.non,H,I,rfl,h⟩
theorem zas {x j pos}:PE X (.Constant (.str x) j pos) (tC (.str x)):=fun _ _ _ H _ I h=>Calls.Constant_str ⟨.str x,H,I.tok _,⟨_,rfl⟩,h⟩
def Gl (X:Cx) (x:Str):Prop:=X.env.kindOf x=some .globalImplicit
theorem zjz {E:Value->Shared->Prop}{pins:List (Addr×Obj)}{s:Shared}{σ:St}{H:Hp}{x:Str}{u:Value}{pos:Pos}{Q:Value->Shared->Prop}(I:Inv X pins σ H s) (hg:Gl X x) (hm:X.mg x=some u) (h:Q u s)
    (hd:(x == ("__debug__" : Str))=false:=by decide):wpAny (model X.prog X.w) X.A (eval (.Name x pos) X.env) Q E s:=
  Calls.Name_function_global I.ok.kind hg (Calls.loadGlobal_global (by rw[I.ok.glob];exact I.mod.glob.keeps I.bk) hm h) hd
theorem zdo {E:Value->Shared->Prop}{pins:List (Addr×Obj)}{s:Shared}{σ:St}{H:Hp}{x:Str}{u:Value}{pos:Pos}{Q:Value->Shared->Prop}(I:Inv X pins σ H s) (hg:Gl X x) (hm:X.mg x=none) (hv:bootBuiltins x=some u) (h:Q u s)
    (hn:x≠"__name__":=by decide) (hd:(x == ("__debug__" : Str))=false:=by decide):wpAny (model X.prog X.w) X.A (eval (.Name x pos) X.env) Q E s:=by
  obtain⟨mb,h1,h2⟩:=I.mod.blt
  exact Calls.Name_function_global I.ok.kind hg (Calls.loadGlobal_builtin (by rw[I.ok.glob];exact I.mod.glob.keeps I.bk) hm (by rw[I.ok.blt];exact h1.keeps I.bk) ((h2 x hn).trans hv) h) hd
theorem zgy {x:Str}{v:V}{u:Value}{pos:Pos}(hg:Gl X x) (hm:X.mg x=some u) (r:RelV v u) (hd:(x == ("__debug__" : Str))=false:=by decide):PE X (.Name x pos) (tC v):=
  fun _ _ _ H _ I h=>zjz I hg hm ⟨v,H,I,r,h⟩ hd
theorem ze3 {x:Str}{v:V}{u:Value}{pos:Pos}(hg:Gl X x) (hm:X.mg x=none) (hv:bootBuiltins x=some u) (r:RelV v u) (hn:x≠"__name__":=by decide) (hd:(x == ("__debug__" : Str))=false:=by decide):PE X (.Name x pos) (tC v):=
  fun _ _ _ H _ I h=>zdo I hg hm hv ⟨v,H,I,r,h⟩ hn hd
variable {a b:Expr}{ta tb:TE}{pos:Pos}
def PC (X:Cx) (op:CmpOp) (a b:Expr) (t:TE):Prop:=
  ∀(pins:List (Addr×Obj)) (s:Shared) (σ:St) (H:Hp) (Q:VK),Inv X pins σ H s->t σ H Q->
    wpAny (model X.prog X.w) X.A (eval a X.env) (fun v s₁=>wpAny (model X.prog X.w) X.A (eval b X.env) (fun u s₂=>wpAny (model X.prog X.w) X.A (compareOp op v u) (EP X pins σ Q) X.xe s₂) X.xe s₁) X.xe s
theorem zk0 (b:Expr) {op:CmpOp}(h:op≠.In) (h2:op≠.NotIn):behindInMarks op b=false:=by
  have e1:(op == CmpOp.In)=false:=by cases op<;>first | rfl | exact absurd rfl h
  have e2:(op == CmpOp.NotIn)=false:=by cases op<;>first | rfl | exact absurd rfl h2
  cases b<;>simp[behindInMarks,e1,e2]
def tIsN (ta:TE):TE:=fun σ H Q=>ta σ H fun x H1=>Q (.bl (decide (x = .non))) H1
def zww (ta:TE):TE:=fun σ H Q=>ta σ H fun x H1=>Q (.bl (!decide (x = .non))) H1
theorem RelV.none_iff {x:V}{v:Value}(r:RelV x v):(v == Value.none)=decide (x = .non):=by
  cases x with
  | non=>cases r;rfl
  | bl _=>cases r;rfl
  | int _=>obtain⟨t,rfl⟩:=r;rfl
  | str _=>obtain⟨t,rfl⟩:=r;rfl
  | byt _=>obtain⟨t,rfl⟩:=r;rfl
  | flt _=>obtain⟨t,rfl⟩:=r;rfl
  | ref _=>cases r;rfl
  | ty _=>cases r;rfl
theorem zvb {j pos'}(ha:PE X a ta):PC X .Is a (.Constant .none j pos') (tIsN ta):=by
  intro pins s σ H Q I h
  refine thn (ha pins s σ H _ I h) fun v s1 hq0=>?_
  obtain⟨x,H1,I1,r1,q1⟩:=hq0
  exact Constant_none (is_none_gen ⟨.bl _,H1,I1,by rw[r1.none_iff];rfl,q1⟩)
theorem zs3 {j pos'}(ha:PE X a ta):PC X .IsNot a (.Constant .none j pos') (zww ta):=by
  intro pins s σ H Q I h
  refine thn (ha pins s σ H _ I h) fun v s1 hq0=>?_
  obtain⟨x,H1,I1,r1,q1⟩:=hq0
  exact Constant_none (isnot_none_gen ⟨.bl _,H1,I1,by rw[r1.none_iff];rfl,q1⟩)
def tB (t:TE):TT:=fun σ H Q=>t σ H fun x H1=>∃c,x = .bl c/\Q c H1
theorem zsb {op:CmpOp}{t:TE}(h:PC X op a b t) (h1:behindInMarks op b=false:=by first | exact zk0 _ (by decide) (by decide) | rfl):PE X (.Compare a [op] [b] pos) t:=fun pins s σ H Q I hw=>wpAny_Compare1 (h pins s σ H Q I hw) h1
theorem ze4 {op:CmpOp}{t:TE}(h:PC X op a b t) (h1:behindInMarks op b=false:=by first | exact zk0 _ (by decide) (by decide) | rfl):PT X (.Compare a [op] [b] pos) (tB t):=by
  intro pins s σ H Q I hw
  refine wpAny_isTrue_Compare1 (thn (h pins s σ H _ I hw) fun v s1 h1=>thn h1 fun u s2 h2=>thn h2 fun c s3 hq0=>?_) h1
  obtain⟨x,H1,I1,r1,q1⟩:=hq0
  obtain⟨d,rfl,q⟩:=q1
  cases r1
  exact wpAny_truthy_bool ⟨H1,I1,q⟩
theorem zbj {e:Expr}{t:TE}(h:PE X e t) (he:∀whole,isTrue e X.env whole=(do let v ←whole;standAt e.pos;holding [v] (truthy v)):=by intro _;rfl):PT X e (tB t):=by
  intro pins s σ H Q I hw
  refine isTrue_plain (thn (h pins s σ H _ I hw) fun v s1 hq0=>?_) (he _)
  obtain⟨x,H1,I1,r1,q1⟩:=hq0
  obtain⟨d,rfl,q⟩:=q1
  cases r1
  exact wpAny_truthy_bool ⟨H1,I1,q⟩
variable {tA tB':TT}{rest:List Expr}
def tAnd (t u:TT):TT:=fun σ H Q=>t σ H fun c H1=>if c=true then u σ H1 Q else Q false H1
def tOr (t u:TT):TT:=fun σ H Q=>t σ H fun c H1=>if c=true then Q true H1 else u σ H1 Q
def tNot (t:TT):TT:=fun σ H Q=>t σ H fun c H1=>Q (!c) H1
theorem zdg (ha:PT X a tA):PW X (.BoolOp .And [a] pos) tA:=by
  intro wh pins s σ H Q I h
  refine isTrue_and (thn (ha pins s σ H Q I h) fun c s1 e=>?_)
  cases c with
  | true=>exact isTrue_and_nil e
  | false=>exact e
theorem zdp (ha:PT X a tA):PW X (.BoolOp .Or [a] pos) tA:=by
  intro wh pins s σ H Q I h
  refine isTrue_or (thn (ha pins s σ H Q I h) fun c s1 e=>?_)
  cases c with
  | false=>exact isTrue_or_nil e
  | true=>exact e
theorem ze5 (ha:PT X a tA) (hb:PW X (.BoolOp .And (b::rest) pos) tB'):PW X (.BoolOp .And (a::b::rest) pos) (tAnd tA tB'):=by
  intro wh pins s σ H Q I h
  refine isTrue_and (thn (ha pins s σ H _ I h) fun c s1 hq0=>?_)
  obtain⟨H1,I1,q1⟩:=hq0
  cases c with
  | true=>exact hb wh pins s1 σ H1 Q I1 q1
  | false=>exact⟨H1,I1,q1⟩
theorem ze6 (ha:PT X a tA) (hb:PW X (.BoolOp .Or (b::rest) pos) tB'):PW X (.BoolOp .Or (a::b::rest) pos) (tOr tA tB'):=by
  intro wh pins s σ H Q I h
  refine isTrue_or (thn (ha pins s σ H _ I h) fun c s1 hq0=>?_)
  obtain⟨H1,I1,q1⟩:=hq0
  cases c with
  | true=>exact⟨H1,I1,q1⟩
  | false=>exact hb wh pins s1 σ H1 Q I1 q1
theorem zch (ha:PT X a tA):PT X (.UnaryOp .Not a pos) (tNot tA):=by
  intro pins s σ H Q I h
  exact isTrue_not (ha pins s σ H (fun c H1=>Q (!c) H1) I h)
def zwx (ta tb:TE):TE:=fun σ H Q=>ta σ H fun x H1=>∃c,x = .bl c/\if c=true then tb σ H1 Q else Q (.bl false) H1
theorem zk1 {op}{t:TE}(h:PE X a t):PE X (.BoolOp op [a] pos) t:=fun pins s σ H Q I hw=>BoolOp_one (h pins s σ H Q I hw)
theorem zh7 (ha:PE X a ta) (hb:PE X (.BoolOp .And (b::rest) pos) tb):PE X (.BoolOp .And (a::b::rest) pos) (zwx ta tb):=by
  intro pins s σ H Q I h
  refine BoolOp_and (thn (ha pins s σ H _ I h) fun v s1 hq0=>?_)
  obtain⟨x,H1,I1,r1,q1⟩:=hq0
  obtain⟨c,rfl,q1⟩:=q1
  cases r1
  refine wpAny_truthy_bool ?_
  cases c with
  | true=>exact hb pins s1 σ H1 Q I1 q1
  | false=>exact⟨.bl false,H1,I1,rfl,q1⟩
def tIf (t:TT) (ta tb:TE):TE:=fun σ H Q=>t σ H fun c H1=>if c=true then ta σ H1 Q else tb σ H1 Q
theorem zqb {c:Expr}(hc:PT X c tA) (ha:PE X a ta) (hb:PE X b tb):PE X (.IfExp c a b pos) (tIf tA ta tb):=by
  intro pins s σ H Q I h
  refine wpAny_IfExp (thn (hc pins s σ H _ I h) fun d s1 hq0=>?_)
  obtain⟨H1,I1,q1⟩:=hq0
  cases d with
  | true=>exact ha pins s1 σ H1 Q I1 q1
  | false=>exact hb pins s1 σ H1 Q I1 q1
end
def SqL (K:PySem.W.Frag) (H:Hp) (a:Addr) (xs:List V):Prop:=
  Rd H a (.lst xs)\/
    ∃(o:Obj) (its:Array Value) (n:Nat),K.lookup a=some o/\o.cls = .type "list"/\o.dict=none/\o.data = .seq its n/\its.size<=sizeLine/\Vals xs its.toList
def SqT (K:PySem.W.Frag) (H:Hp) (a:Addr) (xs:List V):Prop:=
  Rd H a (.tup xs)\/
    ∃(o:Obj) (its:Array Value) (n:Nat),K.lookup a=some o/\o.cls = .type "tuple"/\o.data = .seq its n/\its.size<=sizeLine/\Vals xs its.toList
def absV:Value->Option V
  | .none=>some .non
  | .bool b=>some (.bl b)
  | .int i _=>some (.int i)
  | .str x _=>some (.str x)
  | .bytes b _=>some (.byt b)
  | .float b _=>some (.flt b)
  | .ref a=>some (.ref a)
  | .type n=>some (.ty n)
  | _=>none
theorem RelV.abs {x:V}{u:Value}(r:RelV x u):absV u=some x:=by
  cases x with
  | non=>cases r;rfl
  | bl _=>cases r;rfl
  | int _=>obtain⟨t,rfl⟩:=r;rfl
  | str _=>obtain⟨t,rfl⟩:=r;rfl
  | byt _=>obtain⟨t,rfl⟩:=r;rfl
  | flt _=>obtain⟨t,rfl⟩:=r;rfl
  | ref _=>cases r;rfl
  | ty _=>cases r;rfl
theorem RelV.inj {x y:V}{u:Value}(r:RelV x u) (q:RelV y u):x=y:=Option.some.inj (r.abs.symm.trans q.abs)
theorem Vals.inj:∀{xs ys:List V}{us:List Value},Vals xs us->Vals ys us->xs=ys
  | _,_,_,.nil,.nil=>rfl
  | _,_,_,.cons r t,.cons r' t'=>by rw[r.inj r',Vals.inj t t']
section
variable {X:Cx}{pins:List (Addr×Obj)}{σ:St}{H:Hp}{s:Shared}{a:Addr}{xs ys:List V}
theorem SqL.of {K:PySem.W.Frag}(h:H a=some (.lst xs)):SqL K H a xs:=.inl (.inl h)
theorem SqT.of {K:PySem.W.Frag}(h:H a=some (.tup xs)):SqT K H a xs:=.inl (.inl h)
theorem Inv.list (I:Inv X pins σ H s) (h:SqL X.K H a xs):∃its:List Value,Vals xs its/\PlainL s.heap a its.toArray/\xs.length<=sizeLine:=by
  rcases h with h | ⟨o,its,n,hk,hc,hd,hs,hz,r⟩
  · obtain⟨z,its,n,r,e⟩:=h.ok I.hok
    exact⟨its,r,⟨_,n,e,rfl,rfl,rfl⟩,z⟩
  · refine⟨its.toList,r,⟨o,n,I.kIn a o hk,hc,hd,by simpa using hs⟩,?_⟩
    have e:=r.length
    simp only [Array.length_toList] at e
    omega
theorem Inv.tuple (I:Inv X pins σ H s) (h:SqT X.K H a xs):∃its:List Value,Vals xs its/\IsTup s.heap a its.toArray/\xs.length<=sizeLine:=by
  rcases h with h | ⟨o,its,n,hk,hc,hs,hz,r⟩
  · obtain⟨z,its,r,p⟩:=h.ok I.hok
    exact⟨its,r,p,z⟩
  · refine⟨its.toList,r,⟨o,I.kIn a o hk,hc,n,by simpa using hs⟩,?_⟩
    have e:=r.length
    simp only [Array.length_toList] at e
    omega
theorem Inv.list_inj (I:Inv X pins σ H s) (h:SqL X.K H a xs) (h':SqL X.K H a ys):xs=ys:=by
  obtain⟨its,r,⟨o,n,e,_,_,d⟩,_⟩:=I.list h
  obtain⟨its',r',⟨o',n',e',_,_,d'⟩,_⟩:=I.list h'
  rw[e] at e';cases e'
  rw[d] at d'
  injection d' with d1 _
  have:its=its':=by simpa using congrArg Array.toList d1
  subst this
  exact r.inj r'
theorem Inv.tuple_inj (I:Inv X pins σ H s) (h:SqT X.K H a xs) (h':SqT X.K H a ys):xs=ys:=by
  obtain⟨its,r,⟨o,e,_,n,d⟩,_⟩:=I.tuple h
  obtain⟨its',r',⟨o',e',_,n',d'⟩,_⟩:=I.tuple h'
  rw[e] at e';cases e'
  rw[d] at d'
  injection d' with d1 _
  have:its=its':=by simpa using congrArg Array.toList d1
  subst this
  exact r.inj r'
end
abbrev Cx.wish (X:Cx) (E:Value->Shared->Prop):Cx:={ X with xe:=E }
abbrev Cx.nox (X:Cx):Cx:=X.wish fun _ _=>False
theorem Cx.Ok.wish {X:Cx}(ok:X.Ok) (E:Value->Shared->Prop):(X.wish E).Ok:=
  ⟨ok.mod,ok.kind,ok.glob,ok.blt,ok.above,ok.inj,ok.has,ok.cab,ok.hd,ok.frames,ok.stk,ok.exf,ok.bs,ok.bsz,ok.noex,ok.exfs,ok.funs,ok.frf⟩
theorem Cx.Ok.unwish {X:Cx}{E:Value->Shared->Prop}(ok:(X.wish E).Ok):X.Ok:=
  ⟨ok.mod,ok.kind,ok.glob,ok.blt,ok.above,ok.inj,ok.has,ok.cab,ok.hd,ok.frames,ok.stk,ok.exf,ok.bs,ok.bsz,ok.noex,ok.exfs,ok.funs,ok.frf⟩
section
variable {X:Cx}{pins:List (Addr×Obj)}{σ:St}{H:Hp}{s:Shared}{E:Value->Shared->Prop}
theorem Inv.wish (I:Inv X pins σ H s) (E:Value->Shared->Prop):Inv (X.wish E) pins σ H s:=⟨I.ok.wish E,I.os,I.bare,I.base,I.loc,I.cell,I.free,I.freeC,I.pin,I.hok,I.len⟩
theorem Inv.unwish (I:Inv (X.wish E) pins σ H s):Inv X pins σ H s:=⟨I.ok.unwish,I.os,I.bare,I.base,I.loc,I.cell,I.free,I.freeC,I.pin,I.hok,I.len⟩
theorem SP.unwish {D:Ends}{f:Flow}{s':Shared}(h:SP (X.wish E) pins D f s'):SP X pins D f s':=by
  cases f with
  | next=>obtain⟨σ',H',I,q⟩:=h;exact⟨σ',H',I.unwish,q⟩
  | brk=>obtain⟨σ',H',I,q⟩:=h;exact⟨σ',H',I.unwish,q⟩
  | cont=>obtain⟨σ',H',I,q⟩:=h;exact⟨σ',H',I.unwish,q⟩
  | ret u=>obtain⟨v,σ',H',I,r,q⟩:=h;exact⟨v,σ',H',I.unwish,r,q⟩
theorem PSs.nox {st:List Stmt}{t:TS}(h:PSs X.nox st t):PSs X st t:=fun pins s σ H D I hw=>
  wpAny_mono (h pins s σ H D (I.wish _) hw) (fun _ _ q=>q.unwish) fun _ _ z=>False.elim z
end
section
variable {X:Cx}{st:Stmt}{rest:List Stmt}{t u:TS}{e:Expr}{te:TE}{pos:Pos}
def zbd:TS:=fun D σ H=>D.nx σ H
def tSeq (t u:TS):TS:=fun D σ H=>t { D with nx:=u D } σ H
theorem zz:PSs X [] zbd:=fun _ _ σ H _ I h=>wpAny_execs_nil ⟨σ,H,I,h⟩
theorem zc (h1:PS X st t) (h2:PSs X rest u):PSs X (st::rest) (tSeq t u):=by
  intro pins s σ H D I h
  refine wpAny_execs_cons (thn (h1 pins s σ H { D with nx:=u D } I h) fun f s1 q=>?_)
  cases f with
  | next=>
    obtain⟨σ',H',I',q⟩:=q
    exact h2 pins s1 σ' H' D I' q
  | ret v=>exact q
  | brk=>exact q
  | cont=>exact q
theorem zg (h1:PS X st t):PSs X [st] t:=by
  intro pins s σ H D I h
  refine wpAny_execs_cons (thn (h1 pins s σ H D I h) fun f s1 q=>?_)
  cases f with
  | next=>exact wpAny_execs_nil q
  | ret v=>exact q
  | brk=>exact q
  | cont=>exact q
theorem Inv.quiet {pins:List (Addr×Obj)}{σ:St}{H:Hp}{s:Shared}(I:Inv X pins σ H s):interactive X.env=false:=by simp[interactive,I.ok.kind]
def zwy (te:TE):TS:=fun D σ H=>te σ H fun _ H1=>D.nx σ H1
theorem zaq (he:PE X e te) (hs:swapsWith e none pos.line X.env=pure false:=by rfl):PS X (.Expr e pos) (zwy te):=by
  intro pins s σ H D I h
  exact wpAny_Expr_any (thn (he pins s σ H _ I h) fun v s1 ⟨x,H1,I1,r1,q1⟩=>⟨σ,H1,I1,q1⟩) I.quiet hs
def tRet (te:TE):TS:=fun D σ H=>te σ H D.rt
theorem zw (he:PE X e te):PS X (.Return (some e) pos) (tRet te):=by
  intro pins s σ H D I h
  exact wpAny_Return_some (thn (he pins s σ H _ I h) fun v s1 ⟨x,H1,I1,r1,q1⟩=>⟨x,σ,H1,I1,r1,q1⟩)
def tIfS (c:TT) (t u:TS):TS:=fun D σ H=>c σ H fun b H1=>if b=true then t D σ H1 else u D σ H1
theorem za3 {c:Expr}{a b:List Stmt}{tc:TT}(hc:PT X c tc) (ha:PSs X a t) (hb:PSs X b u):PS X (.If c a b pos) (tIfS tc t u):=by
  intro pins s σ H D I h
  refine wpAny_If (thn (hc pins s σ H _ I h) fun d s1 hq0=>?_)
  obtain⟨H1,I1,q1⟩:=hq0
  cases d with
  | true=>exact ha pins s1 σ H1 D I1 q1
  | false=>exact hb pins s1 σ H1 D I1 q1
def zvc:TS:=fun _ _ _=>False
theorem zey:PS X st zvc:=fun _ _ _ _ _ _ h=>h.elim
end
abbrev TG:=V->St->Hp->(St->Hp->Prop)->Prop
abbrev TGs:=List V->St->Hp->(St->Hp->Prop)->Prop
def PG (X:Cx) (target:Expr) (t:TG):Prop:=
  ∀(pins:List (Addr×Obj)) (s:Shared) (σ:St) (H:Hp) (v:V) (u:Value) (Q:St->Hp->Prop),Inv X pins σ H s->RelV v u->t v σ H Q->
    wpAny (model X.prog X.w) X.A (assign target X.env u) (fun _ s'=>∃σ' H',Inv X pins σ' H' s'/\Q σ' H') X.xe s
def PGs (X:Cx) (ts:List Expr) (t:TGs):Prop:=
  ∀(pins:List (Addr×Obj)) (s:Shared) (σ:St) (H:Hp) (vs:List V) (us:List Value) (Q:St->Hp->Prop),Inv X pins σ H s->Vals vs us->t vs σ H Q->
    wpAny (model X.prog X.w) X.A (assignInOrder ((assignEach ts X.env).map (·.2)) us) (fun _ s'=>∃σ' H',Inv X pins σ' H' s'/\Q σ' H') X.xe s
section
variable {X:Cx}{pos:Pos}
def zv (i:Nat):TG:=fun v σ H Q=>Q (σ.set i (some v)) H
theorem zm {i:Nat}{x:Str}(hN:X.N.Nodup) (hi:X.N[i]? = some x) (hx:Loc X.env.scope x) (hf:X.fn x=true\/X.env.scope.names.lookup x=some .local:=by first | exact .inl rfl | exact .inr rfl | assumption):PG X (.Name x pos) (zv i):=by
  intro pins s σ H v u Q I r h
  exact wpAny_assign_Name (zky I hN hi hx r (fun s' I'=>⟨_,H,I',h⟩) hf)
def gNil:TGs:=fun vs σ H Q=>vs = []/\Q σ H
def zwz (t:TG) (u:TGs):TGs:=fun vs σ H Q=>∃v r,vs=v::r/\t v σ H fun σ' H'=>u r σ' H' Q
theorem zcq:PGs X [] gNil:=by
  intro pins s σ H vs us Q I r h
  obtain⟨e,h⟩:=h
  subst e
  cases r
  exact assignInOrder_nil ⟨σ,H,I,h⟩
theorem zal {e:Expr}{es:List Expr}{t:TG}{u:TGs}(h1:PG X e t) (h2:PGs X es u)
    (hs:(assignEach (e::es) X.env).map (·.2)=assign e X.env::(assignEach es X.env).map (·.2):=by rfl):PGs X (e::es) (zwz t u):=by
  intro pins s σ H vs us Q I r h
  obtain⟨v,vr,e1,h⟩:=h
  subst e1
  cases r with
  | cons r rr=>
    rw[hs]
    refine assignInOrder_cons (thn (h1 pins s σ H _ _ _ I r h) fun _ s1 hq0=>?_)
    obtain⟨σ1,H1,I1,q1⟩:=hq0
    exact h2 pins s1 σ1 H1 _ _ Q I1 rr q1
def gTup (K:PySem.W.Frag) (n:Nat) (t:TGs):TG:=fun v σ H Q=>∃a xs,v = .ref a/\SqT K H a xs/\xs.length=n/\t xs σ H Q
theorem zvd {es:List Expr}{k:Nat}{t:TGs}{n:Nat}(hc:X.calm=true) (h:PGs X es t)
    (hn:(assignEach es X.env).length=n:=by rfl) (hst:(assignEach es X.env).findIdx? (·.1)=none:=by rfl):PG X (.Tuple es k pos) (gTup X.K n t):=by
  intro pins s σ H v u Q I r hw
  obtain⟨a,xs,e1,hq,hl,hw⟩:=hw
  subst e1
  cases r
  obtain⟨its,rv,ht,hz⟩:=I.tuple hq
  refine assign_Tuple_tuple (I.ok.hd hc) ht (by simp[hn,←hl,rv.length]) hst fun h' hx=>?_
  have I1:Inv X pins σ H { s with heap:=h' }:=I.kept (t':=s.toks) fun b o e=>hx b o (Nat.ne_of_lt (Heap.lt_size e)) e
  exact h pins _ σ H xs _ Q I1 (by simpa using rv) hw
def tAsg (te:TE) (g:TG):TS:=fun D σ H=>te σ H fun x H1=>g x σ H1 D.nx
theorem zp {i:Nat}{x:Str}{e:Expr}{te:TE}{pos':Pos}(hN:X.N.Nodup) (hi:X.N[i]? = some x) (hx:Loc X.env.scope x) (he:PE X e te) (hs:swapsWith e (some (.Name x pos')) pos.line X.env=pure false:=by rfl) (hf:X.fn x=true\/X.env.scope.names.lookup x=some .local:=by first | exact .inl rfl | exact .inr rfl | assumption) :
    PS X (.Assign [.Name x pos'] e pos) (tAsg te (zv i)):=by
  intro pins s σ H D I h
  refine wpAny_Assign_Name (thn (he pins s σ H _ I h) fun v s1 hq0=>?_) hs
  obtain⟨y,H1,I1,r1,q1⟩:=hq0
  exact zky I1 hN hi hx r1 (fun s2 I2=>⟨_,H1,I2,q1⟩) hf
end
section
variable {X:Cx}{pos:Pos}
def zve (c:TT) (tb:TS):TS:=fun D σ H=>∃W:Nat->St->Hp->Prop,(∃m,W m σ H)/\∀m σ H,W m σ H->
  c σ H fun b H1=>if b=true then ∃N:St->Hp->Prop,(∀σ' H',N σ' H'->∃m',m'<m/\W m' σ' H')/\tb { D with nx:=N,ct:=N,bk:=D.nx } σ H1 else D.nx σ H1
theorem zk2 {c:Expr}{body:List Stmt}{tc:TT}{tb:TS}(hp:PassesOwn (model X.prog X.w) X.A X.env X.xe) (hc:PT X c tc) (hb:PSs X body tb):PS X (.While c body [] pos) (zve tc tb):=by
  intro pins s σ H D I h
  obtain⟨W,⟨m0,w0⟩,turn⟩:=h
  refine wpAny_While (codeAny_whileLoop (fun n s'=>∃σ' H',Inv X pins σ' H' s'/\W n σ' H') ?_ m0 ⟨σ,H,I,w0⟩)
  rintro n s1 ⟨σ1,H1,I1,w1⟩
  refine wpAny_passesOwn hp (thn (hc pins s1 σ1 H1 _ I1 (turn n σ1 H1 w1)) fun b s2 hq0=>?_)
  obtain⟨H2,I2,q2⟩:=hq0
  cases b with
  | true=>
    obtain⟨N,hN,q2⟩:=q2
    rw[if_pos rfl]
    refine wpAny_passesOwn hp (thn (hb pins s2 σ1 H2 _ I2 q2) fun f s3 q3=>?_)
    cases f with
    | next=>
      obtain⟨σ3,H3,I3,n3⟩:=q3
      obtain⟨m',hm,w3⟩:=hN σ3 H3 n3
      exact⟨m',hm,σ3,H3,I3,w3⟩
    | cont=>
      obtain⟨σ3,H3,I3,n3⟩:=q3
      obtain⟨m',hm,w3⟩:=hN σ3 H3 n3
      exact⟨m',hm,σ3,H3,I3,w3⟩
    | brk=>exact q3
    | ret v=>exact q3
  | false=>
    rw[if_neg Bool.false_ne_true]
    exact wpAny_execs_nil ⟨σ1,H2,I2,q2⟩
end
structure It where
  go:Nat->Hp->Prop
  yld:Nat->Hp->V->Hp->Prop
  stop:Nat->Hp->Prop
def FpOk (X:Cx) (pins:List (Addr×Obj)) (H:Hp) (b:Addr):Prop:=
  H b=none/\b≠X.env.locals/\b ∉ X.fs/\(b∈X.ex\/X.s₀.heap.objs.size<=b)/\(∀x c,X.env.cells.lookup x=some c->c≠b)/\∀p∈X.pn++pins,p.1≠b
theorem Inv.fpOk {X:Cx}{pins:List (Addr×Obj)}{σ:St}{H H':Hp}{s:Shared}{b:Addr}(I:Inv X pins σ H s) (hb:s.heap.objs.size<=b) (hn:H' b=none):FpOk X pins H' b:=by
  refine⟨hn,Nat.ne_of_gt (Nat.lt_of_lt_of_le I.lt hb),I.nofs hb,.inr (Nat.le_trans I.sz hb),fun x c e z=>?_,fun p hp z=>?_⟩
  · obtain⟨v,q⟩:=I.cell x c e
    exact absurd (Nat.lt_of_lt_of_le q.lt (by rw[z];exact hb)) (Nat.lt_irrefl _)
  · exact absurd (Nat.lt_of_lt_of_le (Heap.lt_size (I.pin p hp).1) (by rw[z];exact hb)) (Nat.lt_irrefl _)
structure Turn (P:Program) (w:World) (K:PySem.W.Frag) (tg:Expr) (J:It) (fp:List Addr) (it:Addr) (tn:Nat->Heap->Prop):Prop where
  mem:it∈fp
  obj:∀i h,tn i h->∀b∈fp,∃o,h.get? b=some o/\∀v,o.data≠.cell v
  keep:∀i h h',tn i h->(∀b∈fp,∀o,h.get? b=some o->h'.get? b=some o)->tn i h'
  item:∀(X:Cx),X.prog=P->X.w=w->X.K=K->X.calm=true->∀(i:Nat) (pins:List (Addr×Obj)) (s:Shared) (σ:St) (H:Hp) (E:Value->Shared->Prop),Inv X pins σ H s->(∀b∈fp,FpOk X pins H b)->tn i s.heap->J.go i H->
    wpAny (model P w) X.A (pyNext (.ref it)) (fun r s1=>∃u,r=some u/\
      wpAny (model P w) X.A (letOwnedTupleGo tg (.ref it) u) (fun _ s2=>∃x H',Inv X pins σ H' s2/\RelV x u/\J.yld i H x H'/\tn (i+1) s2.heap/\∀b∈fp,H' b=none) E s1) E s
  done:∀(X:Cx),X.prog=P->X.w=w->X.K=K->X.calm=true->∀(i:Nat) (pins:List (Addr×Obj)) (s:Shared) (σ:St) (H:Hp) (E:Value->Shared->Prop),Inv X pins σ H s->(∀b∈fp,FpOk X pins H b)->tn i s.heap->J.stop i H->
    wpAny (model P w) X.A (pyNext (.ref it)) (fun r s1=>r=none/\Inv X pins σ H s1) E s
  self:∀(A:Around) (i:Nat) (s:Shared) (Q:Value->Shared->Prop) (E:Value->Shared->Prop),tn i s.heap->Q (.ref it) s->wpAny (model P w) A (pyIter (.ref it)) Q E s
abbrev TI:=St->Hp->(It->Hp->Prop)->Prop
def PIE (X:Cx) (pins:List (Addr×Obj)) (σ:St) (tg:Expr) (R:It->Hp->Prop) (itv:Value) (s2:Shared):Prop:=
  ∃(it:Addr) (fp:List Addr) (tn:Nat->Heap->Prop) (J:It) (H':Hp),itv = .ref it/\Inv X pins σ H' s2/\Turn X.prog X.w X.K tg J fp it tn/\tn 0 s2.heap/\(∀b∈fp,FpOk X pins H' b)/\R J H'
def PI (X:Cx) (tg iter:Expr) (wi:TI):Prop:=
  ∀(pins:List (Addr×Obj)) (s:Shared) (σ:St) (H:Hp) (R:It->Hp->Prop),Inv X pins σ H s->wi σ H R->
    wpAny (model X.prog X.w) X.A (eval iter X.env) (fun v s1=>wpAny (model X.prog X.w) X.A (pyIter v) (PIE X pins σ tg R) X.xe s1) X.xe s
theorem zni {M:Model}{A:Around}{E:Value->Shared->Prop}{s:Shared}{tg:Expr}{it:Addr}{u:Value}{o:Obj}{n:String}{vs:Array Value}{Q:Unit->Shared->Prop}(ho:s.heap.get? it=some o) (hc:o.cls = .type n) (hd:o.data = .fields vs)
    (hn : ["enumerate","zip","dict_itemiterator","dict_reverseitemiterator","odict_iterator","itertools.zip_longest","itertools.pairwise"].contains n=false) (hQ:Q () s):wpAny M A (letOwnedTupleGo tg (.ref it) u) Q E s:=by
  unfold letOwnedTupleGo
  cases tg<;>first
    | exact wpAny_pure hQ
    | (cases u<;>first
        | exact wpAny_pure hQ
        | (refine wpAny_bind (wpAny_load ho ?_)
           rw[hc,hd]
           show wpAny M A (if (["enumerate","zip","dict_itemiterator","dict_reverseitemiterator","odict_iterator","itertools.zip_longest","itertools.pairwise"].contains n&&vs[0]? == some (rawInt _))=true then _ else _) Q E s
           rw[if_neg (by intro h;rw[hn,Bool.false_and] at h;cases h)]
           exact wpAny_pure hQ))
def Itl (K:PySem.W.Frag) (a:Addr):It:=
  ⟨fun i H=>∃xs x,SqL K H a xs/\xs[i]? = some x,fun i H x H'=>H'=H/\∀xs,SqL K H a xs->xs[i]? = some x,fun i H=>∃xs,SqL K H a xs/\xs.length<=i⟩
def Itr (lo:Int) (n:Nat):It:=⟨fun i _=>i<n,fun i H x H'=>H'=H/\x = .int (lo+i),fun i _=>n<=i⟩
theorem znj {P:Program}{w:World}{K:PySem.W.Frag}{tg:Expr}(a it:Addr):Turn P w K tg (Itl K a) [it] it (fun i h=>h.IsListIter it a i) where
  mem:=by simp
  obj:=fun i h st b hb=>by
    have e:b=it:=by simpa using hb
    subst e
    obtain⟨o,e,c,d⟩:=st
    exact⟨o,e,fun v z=>by rw[d] at z;cases z⟩
  keep:=fun i h h' st k=>st.at fun o e=>k it (by simp) o e
  item:=by
    intro X hP hw hK hc i pins s σ H E I hf st hg
    subst hP hw hK
    obtain⟨xs,x,hq,hx⟩:=hg
    obtain⟨its,rv,p,hz⟩:=I.list hq
    obtain⟨u,hu,ru⟩:=rv.get hx
    obtain⟨f0,f1,f2,f3,f4,f5⟩:=hf it (by simp)
    refine wpAny_pyNext_list_item st p.isList (x:=u) (by simpa using hu) fun h' st' sb=>?_
    have I1:Inv X pins σ H { s with heap:=h' }:=I.turned (t':=s.toks) (fun b o hb e=>(sb.2 b hb).trans e) f0 f1 f3 f4 f5
    obtain⟨o,e,c,d⟩:=id st'
    exact⟨u,rfl,zni (s:={ s with heap:=h' }) e c d (by decide) ⟨x,H,I1,ru,⟨rfl,fun ys hy=>by rw[I.list_inj hy hq];exact hx⟩,st',fun b hb=>(hf b hb).1⟩⟩
  done:=by
    intro X hP hw hK hc i pins s σ H E I hf st hg
    subst hP hw hK
    obtain⟨xs,hq,hx⟩:=hg
    obtain⟨its,rv,p,hz⟩:=I.list hq
    obtain⟨f0,f1,f2,f3,f4,f5⟩:=hf it (by simp)
    have hl:=rv.length
    exact wpAny_pyNext_list_end (I.ok.hd hc) st p.isList (by simp;omega) fun h' eb=>⟨rfl,I.turned (t':=s.toks) (fun b o hb e=>eb b o hb e) f0 f1 f3 f4 f5⟩
  self:=fun _ _ _ _ _ st h=>wpAny_pyIter_listiter st h
theorem zl6 {P:Program}{w:World}{K:PySem.W.Frag}{tg:Expr}(it:Addr) (lo:Int) (n:Nat):Turn P w K tg (Itr lo n) [it] it (fun i h=>IsRangeIter h it (lo+(i:Nat) * 1) ((n:Int)-(i:Nat)) 1) where
  mem:=by simp
  obj:=fun i h st b hb=>by
    have e:b=it:=by simpa using hb
    subst e
    exact⟨_,st,fun v z=>by
      have z':Data.fields _=Data.cell v:=z
      cases z'⟩
  keep:=fun i h h' st k=>k it (by simp) _ st
  item:=by
    intro X hP hw hK hc i pins s σ H E I hf st hg
    subst hP hw hK
    obtain⟨f0,f1,f2,f3,f4,f5⟩:=hf it (by simp)
    have W:=Walks.range (prog:=X.prog) (w:=X.w) (I.ok.hd hc) it lo 1 n
    refine W.item i s _ _ hg st fun v h' tk hv st' kk=>?_
    obtain⟨t,rfl⟩:=hv
    have I1:Inv X pins σ H { s with heap:=h',toks:=tk }:=I.turned (fun b o hb e=>kk b o (by simpa using hb) e) f0 f1 f3 f4 f5
    refine⟨_,rfl,zni (s:={ s with heap:=h',toks:=tk }) (n:="range_iterator") st' rfl rfl (by decide) ⟨.int (lo+i),H,I1,⟨t,?_⟩,⟨rfl,rfl⟩,st',fun b hb=>(hf b hb).1⟩⟩
    rw[Int.mul_one]
  done:=by
    intro X hP hw hK hc i pins s σ H E I hf st hg
    subst hP hw hK
    obtain⟨f0,f1,f2,f3,f4,f5⟩:=hf it (by simp)
    exact wpAny_pyNext_range_end (I.ok.hd hc) st (by have:n<=i:=hg;omega) fun h' eb=>⟨rfl,I.turned (t':=s.toks) (fun b o hb e=>eb b o hb e) f0 f1 f3 f4 f5⟩
  self:=fun _ _ _ _ _ st h=>wpAny_pyIter_rangeiter st h
section
variable {X:Cx}{tg:Expr}
def zvf (K:PySem.W.Frag) (tl:TE):TI:=fun σ H R=>tl σ H fun x H1=>∃a,x = .ref a/\(∃xs,SqL K H1 a xs)/\R (Itl K a) H1
theorem zs4 {l:Expr}{tl:TE}(hl:PE X l tl):PI X tg l (zvf X.K tl):=by
  intro pins s σ H R I h
  refine thn (hl pins s σ H _ I h) fun v s1 hq0=>?_
  obtain⟨x,H1,I1,r1,q1⟩:=hq0
  obtain⟨a,e,⟨xs,hq⟩,q⟩:=q1
  subst e
  cases r1
  obtain⟨its,rv,p,hz⟩:=I1.list hq
  refine wpAny_pyIter_list p.isList ?_
  refine⟨s1.heap.objs.size,[s1.heap.objs.size],_,_,H1,rfl,I1.kept (t':=s1.toks) fun b o e=>Heap.get?_push_of_some _ e,znj a _,⟨_,Heap.get?_push_size _ rfl,rfl,rfl⟩,fun b hb=>?_,q⟩
  have e:b=s1.heap.objs.size:=by simpa using hb
  subst e
  exact I1.fpOk (Nat.le_refl _) (I1.hok.fresh (Nat.le_refl _))
theorem zqc {pins:List (Addr×Obj)}{σ:St}{H:Hp}{s:Shared}{R:It->Hp->Prop}{E:Value->Shared->Prop}{lo hi:Int}{t u v:Tok}{tk:Nat}(I:Inv X pins σ H s) (h1 : -(2 ^ 62)<=lo) (h2:lo<2 ^ 62) (h3 : -(2 ^ 62)<=hi) (h4:hi<2 ^ 62)
    (q:R (Itr lo (hi-lo).toNat) H):wpAny (model X.prog X.w) X.A (pyIter (.ref s.heap.objs.size)) (PIE X pins σ tg R) E { s with heap:=s.heap.push { cls:=.type "range",data:=.fields #[.int lo t,.int hi u,.int 1 v] },toks:=tk }:=by
  refine wpAny_pyIter_range (IsRange.new ..) (small_one h1 h2 h3 h4) ?_
  have I1:Inv X pins σ H { s with heap:=s.heap.push { cls:=.type "range",data:=.fields #[.int lo t,.int hi u,.int 1 v] },toks:=tk }:=I.kept fun b o e=>Heap.get?_push_of_some _ e
  refine⟨(s.heap.push { cls:=.type "range",data:=.fields #[.int lo t,.int hi u,.int 1 v] }).objs.size,[(s.heap.push { cls:=.type "range",data:=.fields #[.int lo t,.int hi u,.int 1 v] }).objs.size],_,_,H,rfl,
    I1.kept (t':=tk) fun b o e=>Heap.get?_push_of_some _ e,zl6 _ lo (hi-lo).toNat,?_,fun b hb=>?_,q⟩
  · have e1:lo+((0:Nat):Int) * 1=lo:=by simp
    have e2:(((hi-lo).toNat:Nat):Int)-((0:Nat):Int)=Builtin.Range.rangeSize lo hi 1:=by rw[rangeSize_one];split<;>omega
    show IsRangeIter _ _ (lo+((0:Nat):Int) * 1) ((((hi-lo).toNat:Nat):Int)-((0:Nat):Int)) 1
    rw[e1,e2]
    exact Heap.get?_push_size _ rfl
  · have e:b=(s.heap.push { cls:=.type "range",data:=.fields #[.int lo t,.int hi u,.int 1 v] }).objs.size:=by simpa using hb
    subst e
    exact I1.fpOk (Nat.le_refl _) (I1.hok.fresh (Nat.le_refl _))
def zw0 (ta:TA):TI:=fun σ H R=>ta σ H fun vs H1=>∃j:Int,vs = [.int j]/\-(2 ^ 62)<=j/\j<2 ^ 62/\R (Itr 0 j.toNat) H1
theorem zci {a:Expr}{ta:TA}{p pos:Pos}(hg:Gl X "range") (hm:X.mg "range" = none) (ha:PA X [a] ta) (hs:starEach [a] X.env = [(false,eval a X.env)]:=by rfl):PI X tg (.Call (.Name "range" p) [a] [] pos) (zw0 ta):=by
  intro pins s σ H R I h
  refine Call_ (zdo I hg hm boot_range (PyProof.Rows.callWith_type1 (thn (ha pos pins s σ H _ I h) fun us s1 hq0=>?_) hs rfl))
  obtain⟨vs,H1,I1,r1,q1⟩:=hq0
  obtain⟨j,e,q1,q2,q⟩:=q1
  subst e
  cases r1 with
  | cons r rr=>
    cases rr
    obtain⟨t,rfl⟩:=r
    exact call_range_1 (zqc I1 (by omega) (by omega) q1 q2 (by simpa using q))
def tFor (wi:TI) (g:TG) (tb:TS):TS:=fun D σ H=>wi σ H fun J H1=>∃W:Nat->Nat->St->Hp->Prop,(∃m,W 0 m σ H1)/\∀i m σ H,W i m σ H->
  (J.stop i H/\D.nx σ H)\/(J.go i H/\∃N:St->Hp->Prop,(∀σ' H',N σ' H'->∃m',m'<m/\W (i+1) m' σ' H')/\∀x H',J.yld i H x H'->g x σ H' fun σ2 H2=>tb { D with nx:=N,ct:=N,bk:=D.nx } σ2 H2)
def zh8 (fp:List Addr) (h:Heap):List (Addr×Obj):=fp.filterMap fun b=>(h.get? b).map fun o=>(b,o)
theorem zc5 {fp:List Addr}{h:Heap}{b:Addr}{o:Obj}(hb:b∈fp) (e:h.get? b=some o):(b,o)∈zh8 fp h:=List.mem_filterMap.mpr ⟨b,hb,by rw[e];rfl⟩
theorem znk {fp:List Addr}{h:Heap}{p:Addr×Obj}(hp:p∈zh8 fp h):p.1∈fp/\h.get? p.1=some p.2:=by
  obtain⟨b,hb,e⟩:=List.mem_filterMap.mp hp
  cases q:h.get? b with
  | none=>rw[q] at e;cases e
  | some o=>
    rw[q] at e
    have e':(b,o)=p:=Option.some.inj e
    subst e'
    exact⟨hb,q⟩
theorem Inv.pinned {pins:List (Addr×Obj)}{σ:St}{H:Hp}{s:Shared}{fp:List Addr}(I:Inv X pins σ H s) (hf:∀b∈fp,FpOk X pins H b) (ho:∀b∈fp,∃o,s.heap.get? b=some o/\∀v,o.data≠.cell v):Inv X (pins++zh8 fp s.heap) σ H s:=
  I.pins_of fun p hp=>(List.mem_append.mp hp).elim (fun z=>I.pin p (List.mem_append_right _ z)) fun z=>by
    obtain⟨hb,e⟩:=znk z
    obtain⟨f0,f1,f2,_⟩:=hf p.1 hb
    obtain⟨o,e',d⟩:=ho p.1 hb
    rw[e] at e';cases e'
    exact⟨e,f0,f1,f2,d⟩
theorem Inv.unpinned {pins pl:List (Addr×Obj)}{σ:St}{H:Hp}{s:Shared}(I:Inv X (pins++pl) σ H s):Inv X pins σ H s:=I.pins_of fun p hp=>I.pin p (List.mem_append_right _ (List.mem_append_left _ hp))
theorem za2 {iter:Expr}{body:List Stmt}{wi:TI}{g:TG}{tb:TS}{pos:Pos}(hp:PassesOwn (model X.prog X.w) X.A X.env X.xe) (hc:X.calm=true) (hi:PI X tg iter wi) (hg:PG X tg g) (hb:PSs X body tb)
    (hs:∀x,foldedSetIterable iter X.env x=pure x:=by intro _;rfl):PS X (.For tg iter body [] pos) (tFor wi g tb):=by
  intro pins s σ H D I h
  refine wpAny_For (thn (hi pins s σ H _ I h) fun v s1 h1=>thn h1 fun itv s2 h2=>?_) hs
  obtain⟨it,fp,tn,J,H2,e,I2,T,st2,f2,W,⟨m0,w0⟩,turn⟩:=h2
  subst e
  have stat:∀{H':Hp},(∀b∈fp,H' b=none)->∀b∈fp,FpOk X pins H' b:=fun hn b hb=>⟨hn b hb,(f2 b hb).2⟩
  refine codeAny_forLoop_any (fun n s'=>∃i σ' H',Inv X pins σ' H' s'/\tn i s'.heap/\(∀b∈fp,H' b=none)/\W i n σ' H') ?_ m0 ⟨0,σ,H2,I2,st2,fun b hb=>(f2 b hb).1,w0⟩
  rintro n s3 ⟨i,σ3,H3,I3,st3,fr3,w3⟩
  rcases turn i n σ3 H3 w3 with ⟨stop,qn⟩ | ⟨go,N,hN,step⟩
  · refine wpAny_passesOwn hp (thn (T.done X rfl rfl rfl hc i pins s3 σ3 H3 X.xe I3 (stat fr3) st3 stop) fun r s4 hq0=>?_)
    obtain⟨hr,I4⟩:=hq0
    subst hr
    exact wpAny_execs_nil ⟨σ3,H3,I4,qn⟩
  · refine wpAny_passesOwn hp (thn (T.item X rfl rfl rfl hc i pins s3 σ3 H3 X.xe I3 (stat fr3) st3 go) fun r s4 hq0=>?_)
    obtain⟨u,hr,h4⟩:=hq0
    subst hr
    refine wpAny_passesOwn hp (thn h4 fun _ s5 hq0=>?_)
    obtain⟨x,H5,I5,r5,y5,st5,fr5⟩:=hq0
    have I5':=I5.pinned (stat fr5) (T.obj _ _ st5)
    refine wpAny_passesOwn hp (thn (hg _ s5 σ3 H5 x u _ I5' r5 (step x H5 y5)) fun _ s6 hq0=>?_)
    obtain⟨σ6,H6,I6,q6⟩:=hq0
    refine wpAny_passesOwn hp (thn (hb _ s6 σ6 H6 _ I6 q6) fun f s7 q7=>?_)
    have again:∀{σ7:St}{H7:Hp},Inv X (pins++zh8 fp s5.heap) σ7 H7 s7->N σ7 H7->∃m,m<n/\∃i σ' H',Inv X pins σ' H' s7/\tn i s7.heap/\(∀b∈fp,H' b=none)/\W i m σ' H':=fun {σ7 H7} I7 n7=>by
      obtain⟨m',hm,w7⟩:=hN σ7 H7 n7
      refine⟨m',hm,i+1,σ7,H7,I7.unpinned,T.keep _ _ _ st5 fun b hb o e=>(I7.pin (b,o) (List.mem_append_right _ (List.mem_append_right _ (zc5 hb e)))).1,fun b hb=>?_,w7⟩
      obtain⟨o,e,d⟩:=T.obj _ _ st5 b hb
      exact (I7.pin (b,o) (List.mem_append_right _ (List.mem_append_right _ (zc5 hb e)))).2.1
    cases f with
    | next=>obtain⟨σ7,H7,I7,n7⟩:=q7;exact again I7 n7
    | cont=>obtain⟨σ7,H7,I7,n7⟩:=q7;exact again I7 n7
    | brk=>obtain⟨σ7,H7,I7,q7⟩:=q7;exact⟨σ7,H7,I7.unpinned,q7⟩
    | ret v=>obtain⟨x7,σ7,H7,I7,r7,q7⟩:=q7;exact⟨x7,σ7,H7,I7.unpinned,r7,q7⟩
end
theorem zam {K:PySem.W.Frag}{a:Addr}{xs:List V}{g:TG}{tb:TS}{D:Ends}{σ:St}{H:Hp}(Pv:Nat->St->Hp->Prop) (h0:Pv 0 σ H) (hl:∀i σ H,i<=xs.length->Pv i σ H->SqL K H a xs)
    (hs:∀i x σ H,xs[i]? = some x->Pv i σ H->g x σ H fun σ2 H2=>tb { D with nx:=Pv (i+1),ct:=Pv (i+1),bk:=D.nx } σ2 H2) (hd:∀σ H,Pv xs.length σ H->D.nx σ H) :
    ∃W:Nat->Nat->St->Hp->Prop,(∃m,W 0 m σ H)/\∀i m σ H,W i m σ H->
      ((Itl K a).stop i H/\D.nx σ H)\/((Itl K a).go i H/\∃N:St->Hp->Prop,(∀σ' H',N σ' H'->∃m',m'<m/\W (i+1) m' σ' H')/\∀x H',(Itl K a).yld i H x H'->g x σ H' fun σ2 H2=>tb { D with nx:=N,ct:=N,bk:=D.nx } σ2 H2):=by
  refine⟨fun i m σ H=>m=xs.length-i/\i<=xs.length/\Pv i σ H,⟨xs.length,by simp,Nat.zero_le _,h0⟩,?_⟩
  rintro i m σ H ⟨rfl,hi,p⟩
  have q:=hl i σ H hi p
  by_cases hlt:i<xs.length
  · refine .inr ⟨⟨xs,xs[i],q,by simp[hlt]⟩,Pv (i+1),fun σ' H' p'=>⟨xs.length-(i+1),by omega,rfl,hlt,p'⟩,fun x H' y=>?_⟩
    obtain⟨e,y⟩:=y
    subst e
    exact hs i x σ _ (y xs q) p
  · have e:i=xs.length:=by omega
    subst e
    exact .inl ⟨⟨xs,q,Nat.le_refl _⟩,hd σ H p⟩
theorem zdq {lo:Int}{n:Nat}{g:TG}{tb:TS}{D:Ends}{σ:St}{H:Hp}(Pv:Nat->St->Hp->Prop) (h0:Pv 0 σ H)
    (hs:∀i σ H,i<n->Pv i σ H->g (.int (lo+i)) σ H fun σ2 H2=>tb { D with nx:=Pv (i+1),ct:=Pv (i+1),bk:=D.nx } σ2 H2) (hd:∀σ H,Pv n σ H->D.nx σ H) :
    ∃W:Nat->Nat->St->Hp->Prop,(∃m,W 0 m σ H)/\∀i m σ H,W i m σ H->
      ((Itr lo n).stop i H/\D.nx σ H)\/((Itr lo n).go i H/\∃N:St->Hp->Prop,(∀σ' H',N σ' H'->∃m',m'<m/\W (i+1) m' σ' H')/\∀x H',(Itr lo n).yld i H x H'->g x σ H' fun σ2 H2=>tb { D with nx:=N,ct:=N,bk:=D.nx } σ2 H2):=by
  refine⟨fun i m σ H=>m=n-i/\i<=n/\Pv i σ H,⟨n,by simp,Nat.zero_le _,h0⟩,?_⟩
  rintro i m σ H ⟨rfl,hi,p⟩
  by_cases hlt:i<n
  · refine .inr ⟨hlt,Pv (i+1),fun σ' H' p'=>⟨n-(i+1),by omega,rfl,hlt,p'⟩,fun x H' y=>?_⟩
    obtain⟨e,y⟩:=y
    subst e y
    exact hs i σ _ hlt p
  · have e:i=n:=by omega
    subst e
    exact .inl ⟨Nat.le_refl _,hd σ H p⟩
abbrev R2:=V->V->Hp->VK->Prop
def OpR (X:Cx) (f:Value->Value->Sem Value) (r:R2):Prop:=
  ∀(pins:List (Addr×Obj)) (s:Shared) (σ:St) (H:Hp) (x y:V) (v u:Value) (Q:VK),Inv X pins σ H s->RelV x v->RelV y u->r x y H Q->
    wpAny (model X.prog X.w) X.A (f v u) (EP X pins σ Q) X.xe s
def UnR (X:Cx) (f:Value->Sem Value) (r:V->Hp->VK->Prop):Prop:=
  ∀(pins:List (Addr×Obj)) (s:Shared) (σ:St) (H:Hp) (x:V) (v:Value) (Q:VK),Inv X pins σ H s->RelV x v->r x H Q->
    wpAny (model X.prog X.w) X.A (f v) (EP X pins σ Q) X.xe s
def zcb (X:Cx) (f:Value) (r:List V->Hp->VK->Prop):Prop:=
  ∀(pins:List (Addr×Obj)) (s:Shared) (σ:St) (H:Hp) (xs:List V) (us:List Value) (Q:VK),Inv X pins σ H s->Vals xs us->r xs H Q->
    wpAny (model X.prog X.w) X.A (call f us) (EP X pins σ Q) X.xe s
def tOp (r:R2) (ta tb:TE):TE:=fun σ H Q=>ta σ H fun x H1=>tb σ H1 fun y H2=>r x y H2 Q
def tUn (r:V->Hp->VK->Prop) (ta:TE):TE:=fun σ H Q=>ta σ H fun x H1=>r x H1 Q
def rI (C:Int->Int->Prop) (g:Int->Int->V):R2:=fun x y H Q=>∃i j,x = .int i/\y = .int j/\C i j/\Q (g i j) H
def rI0 (g:Int->Int->V):R2:=fun x y H Q=>∃i j,x = .int i/\y = .int j/\Q (g i j) H
def rU (g:Int->V):V->Hp->VK->Prop:=fun x H Q=>∃i,x = .int i/\Q (g i) H
section
variable {X:Cx}{a b c:Expr}{ta tb tc:TE}{pos:Pos}
theorem binT (ha:PE X a ta) (hb:PE X b tb) {pins:List (Addr×Obj)}{s:Shared}{σ:St}{H:Hp}{R:V->V->Hp->Prop}(I:Inv X pins σ H s)
    (h:ta σ H fun x H1=>tb σ H1 fun y H2=>R x y H2) {Q:Value->Shared->Prop}{f:Value->Value->Sem Value}
    (hf:∀v u s2 x y H2,Inv X pins σ H2 s2->RelV x v->RelV y u->R x y H2->wpAny (model X.prog X.w) X.A (f v u) Q X.xe s2) :
    wpAny (model X.prog X.w) X.A (eval a X.env) (fun v s₁=>wpAny (model X.prog X.w) X.A (eval b X.env) (fun u s₂=>wpAny (model X.prog X.w) X.A (f v u) Q X.xe s₂) X.xe s₁) X.xe s:=by
  refine thn (ha pins s σ H _ I h) fun v s1 hq0=>?_
  obtain⟨x,H1,I1,r1,q1⟩:=hq0
  refine thn (hb pins s1 σ H1 _ I1 q1) fun u s2 hq0=>?_
  obtain⟨y,H2,I2,r2,q2⟩:=hq0
  exact hf v u s2 x y H2 I2 r1 r2 q2
theorem za6 {op:Operator}{r:R2}(ho:OpR X (binaryOp op) r) (ha:PE X a ta) (hb:PE X b tb):PE X (.BinOp a op b pos) (tOp r ta tb):=by
  intro pins s σ H Q I h
  exact wpAny_BinOp (binT ha hb I h fun v u s2 x y H2 I2 rx ry q=>ho pins s2 σ H2 x y v u Q I2 rx ry q)
theorem zqd {op:UnaryOp}{r:V->Hp->VK->Prop}(ho:UnR X (unaryOp op) r) (ha:PE X a ta):PE X (.UnaryOp op a pos) (tUn r ta):=by
  intro pins s σ H Q I h
  exact UnaryOp_ (thn (ha pins s σ H _ I h) fun v s1 ⟨x,H1,I1,r1,q1⟩=>ho pins s1 σ H1 x v Q I1 r1 q1)
theorem opI {f:Value->Value->Sem Value}{C:Int->Int->Prop}{g:Int->Int->Int}
    (rule:∀(i j:Int) (t u:Tok) (s:Shared) (Q:Value->Shared->Prop) (E:Value->Shared->Prop),C i j->Q (.int (g i j) s.toks) { s with toks:=s.toks+1 }->wpAny (model X.prog X.w) X.A (f (.int i t) (.int j u)) Q E s) :
    OpR X f (rI C fun i j=>.int (g i j)):=by
  intro pins s σ H x y v u Q I rx ry h
  obtain⟨i,j,rfl,rfl,hc,q⟩:=h
  obtain⟨t,rfl⟩:=rx
  obtain⟨t',rfl⟩:=ry
  exact rule i j t t' s _ _ hc ⟨.int (g i j),H,I.tok _,⟨_,rfl⟩,q⟩
theorem opI0 {f:Value->Value->Sem Value}{g:Int->Int->Int}
    (rule:∀(i j:Int) (t u:Tok) (s:Shared) (Q:Value->Shared->Prop) (E:Value->Shared->Prop),Q (.int (g i j) s.toks) { s with toks:=s.toks+1 }->wpAny (model X.prog X.w) X.A (f (.int i t) (.int j u)) Q E s) :
    OpR X f (rI0 fun i j=>.int (g i j)):=by
  intro pins s σ H x y v u Q I rx ry h
  obtain⟨i,j,rfl,rfl,q⟩:=h
  obtain⟨t,rfl⟩:=rx
  obtain⟨t',rfl⟩:=ry
  exact rule i j t t' s _ _ ⟨.int (g i j),H,I.tok _,⟨_,rfl⟩,q⟩
theorem opB0 {f:Value->Value->Sem Value}{g:Int->Int->Bool}
    (rule:∀(i j:Int) (t u:Tok) (s:Shared) (Q:Value->Shared->Prop) (E:Value->Shared->Prop),Q (.bool (g i j)) s->wpAny (model X.prog X.w) X.A (f (.int i t) (.int j u)) Q E s) :
    OpR X f (rI0 fun i j=>.bl (g i j)):=by
  intro pins s σ H x y v u Q I rx ry h
  obtain⟨i,j,rfl,rfl,q⟩:=h
  obtain⟨t,rfl⟩:=rx
  obtain⟨t',rfl⟩:=ry
  exact rule i j t t' s _ _ ⟨.bl (g i j),H,I,rfl,q⟩
def CMul (i j:Int):Prop:=(-(2 ^ 64)<i/\i<2 ^ 64)\/(-(2 ^ 64)<j/\j<2 ^ 64)
theorem CMul.ok {i j:Int}(h:CMul i j):IntMulOk i j:=by
  rcases h with ⟨h1,h2⟩ | ⟨h1,h2⟩
  · exact .of_left (intBits_le_64 h1 h2)
  · exact .of_right (intBits_le_64 h1 h2)
theorem ze7:OpR X (binaryOp .Add) (rI0 fun i j=>.int (i+j)):=opI0 fun _ _ _ _ _ _ _ q=>add_int q
theorem zh9:OpR X (binaryOp .Sub) (rI0 fun i j=>.int (i-j)):=opI0 fun _ _ _ _ _ _ _ q=>sub_int q
theorem znl:OpR X (binaryOp .Mult) (rI CMul fun i j=>.int (i * j)):=opI fun _ _ _ _ _ _ _ hc q=>mul_int q hc.ok
theorem ze8:OpR X (binaryOp .Mod) (rI (fun _ j=>0<j) fun i j=>.int (i%j)):=opI fun i j _ _ _ _ _ hc q=>by
  have h1:(0:Int)<j:=hc
  exact mod_int' (by omega) (by rw[Int.fmod_eq_emod_of_nonneg i (by omega)];exact q)
theorem unI {f:Value->Sem Value}{g:Int->Int}
    (rule:∀(i:Int) (t:Tok) (s:Shared) (Q:Value->Shared->Prop) (E:Value->Shared->Prop),Q (.int (g i) s.toks) { s with toks:=s.toks+1 }->wpAny (model X.prog X.w) X.A (f (.int i t)) Q E s) :
    UnR X f (rU fun i=>.int (g i)):=by
  intro pins s σ H x v Q I rx h
  obtain⟨i,rfl,q⟩:=h
  obtain⟨t,rfl⟩:=rx
  exact rule i t s _ _ ⟨.int (g i),H,I.tok _,⟨_,rfl⟩,q⟩
theorem zk3:UnR X (unaryOp .USub) (rU fun i=>.int (-i)):=unI fun _ _ _ _ _ q=>neg_int q
end
def scal:V->V->Bool
  | .non,.non=>true | .non,.int _=>true | .int _,.non=>true | .non,.bl _=>true | .bl _,.non=>true | .non,.str _=>true | .str _,.non=>true
  | .int _,.int _=>true | .bl _,.bl _=>true | .str _,.str _=>true | .byt _,.byt _=>true
  | .int _,.str _=>true | .str _,.int _=>true | .bl _,.str _=>true | .str _,.bl _=>true
  | _,_=>false
def rEq:R2:=fun x y H Q=>scal x y=true/\Q (.bl (decide (x=y))) H
def rNe:R2:=fun x y H Q=>scal x y=true/\Q (.bl (!decide (x=y))) H
theorem znm {i j:Int}:decide (V.int i=V.int j)=(i == j):=by
  rw[Bool.eq_iff_iff]
  simp
theorem zsc {i j:Bool}:decide (V.bl i=V.bl j)=(i == j):=by
  rw[Bool.eq_iff_iff]
  simp
theorem znn {i j:Str}:decide (V.str i=V.str j)=(i == j):=by
  rw[Bool.eq_iff_iff]
  simp
theorem zno {i j:Array UInt8}:decide (V.byt i=V.byt j)=(i.toList == j.toList):=by
  rw[Bool.eq_iff_iff]
  cases i
  cases j
  simp
section
variable {X:Cx}{a b c:Expr}{ta tb tc:TE}{pos:Pos}
theorem zak {pins:List (Addr×Obj)}{σ:St}{H:Hp}{s:Shared}{Q:VK}{k k':Bool}(I:Inv X pins σ H s) (q:Q (.bl k) H) (e:k=k'):EP X pins σ Q (.bool k') s:=by
  subst e
  exact⟨.bl k,H,I,rfl,q⟩
theorem zf2:OpR X (compareOp .Eq) rEq:=by
  intro pins s σ H x y v u Q I rx ry h
  obtain⟨hs,q⟩:=h
  cases x with
  | non=>
    cases rx
    cases y with
    | non=>cases ry;exact PySem.EqNone.eq_none_none (zak I q (by simp))
    | bl j=>cases ry;exact PySem.EqNone.eq_none_bool (zak I q (by simp))
    | int j=>obtain⟨t',rfl⟩:=ry;exact PySem.EqNone.eq_none_int (zak I q (by simp))
    | str j=>obtain⟨t',rfl⟩:=ry;exact PySem.EqNone.eq_none_str (zak I q (by simp))
    | _=>exact absurd (show false=true from hs) Bool.false_ne_true
  | bl i=>
    cases rx
    cases y with
    | non=>cases ry;exact PySem.EqNone.eq_bool_none (zak I q (by simp))
    | bl j=>cases ry;exact eq_bool (zak I q zsc)
    | str j=>obtain⟨t',rfl⟩:=ry;exact PySem.EqMixed.eq_bool_str (zak I q (by simp))
    | _=>exact absurd (show false=true from hs) Bool.false_ne_true
  | int i=>
    obtain⟨t,rfl⟩:=rx
    cases y with
    | non=>cases ry;exact PySem.EqNone.eq_int_none (zak I q (by simp))
    | int j=>obtain⟨t',rfl⟩:=ry;exact eq_int (zak I q znm)
    | str j=>obtain⟨t',rfl⟩:=ry;exact PySem.EqMixed.eq_int_str (zak I q (by simp))
    | _=>exact absurd (show false=true from hs) Bool.false_ne_true
  | str i=>
    obtain⟨t,rfl⟩:=rx
    cases y with
    | non=>cases ry;exact PySem.EqNone.eq_str_none (zak I q (by simp))
    | bl j=>cases ry;exact PySem.EqMixed.eq_str_bool (zak I q (by simp))
    | int j=>obtain⟨t',rfl⟩:=ry;exact PySem.EqMixed.eq_str_int (zak I q (by simp))
    | str j=>obtain⟨t',rfl⟩:=ry;exact eq_str (zak I q znn)
    | _=>exact absurd (show false=true from hs) Bool.false_ne_true
  | byt i=>
    obtain⟨t,rfl⟩:=rx
    cases y with
    | byt j=>obtain⟨t',rfl⟩:=ry;exact PySem.W.eq_bytes (zak I q zno)
    | _=>exact absurd (show false=true from hs) Bool.false_ne_true
  | _=>cases y<;>exact absurd (show false=true from hs) Bool.false_ne_true
theorem znp:OpR X (compareOp .NotEq) rNe:=by
  intro pins s σ H x y v u Q I rx ry h
  obtain⟨hs,q⟩:=h
  cases x with
  | non=>
    cases rx
    cases y with
    | non=>cases ry;exact PySem.EqNone.ne_none_none (zak I q (by simp))
    | bl j=>cases ry;exact PySem.EqNone.ne_none_bool (zak I q (by simp))
    | int j=>obtain⟨t',rfl⟩:=ry;exact PySem.EqNone.ne_none_int (zak I q (by simp))
    | str j=>obtain⟨t',rfl⟩:=ry;exact PySem.EqNone.ne_none_str (zak I q (by simp))
    | _=>exact absurd (show false=true from hs) Bool.false_ne_true
  | bl i=>
    cases rx
    cases y with
    | non=>cases ry;exact PySem.EqNone.ne_bool_none (zak I q (by simp))
    | bl j=>cases ry;exact ne_bool (zak I q (congrArg not zsc))
    | str j=>obtain⟨t',rfl⟩:=ry;exact PySem.EqMixed.ne_bool_str (zak I q (by simp))
    | _=>exact absurd (show false=true from hs) Bool.false_ne_true
  | int i=>
    obtain⟨t,rfl⟩:=rx
    cases y with
    | non=>cases ry;exact PySem.EqNone.ne_int_none (zak I q (by simp))
    | int j=>obtain⟨t',rfl⟩:=ry;exact ne_int (zak I q (congrArg not znm))
    | str j=>obtain⟨t',rfl⟩:=ry;exact PySem.EqMixed.ne_int_str (zak I q (by simp))
    | _=>exact absurd (show false=true from hs) Bool.false_ne_true
  | str i=>
    obtain⟨t,rfl⟩:=rx
    cases y with
    | non=>cases ry;exact PySem.EqNone.ne_str_none (zak I q (by simp))
    | bl j=>cases ry;exact PySem.EqMixed.ne_str_bool (zak I q (by simp))
    | int j=>obtain⟨t',rfl⟩:=ry;exact PySem.EqMixed.ne_str_int (zak I q (by simp))
    | str j=>obtain⟨t',rfl⟩:=ry;exact ne_str (zak I q (congrArg not znn))
    | _=>exact absurd (show false=true from hs) Bool.false_ne_true
  | byt i=>
    obtain⟨t,rfl⟩:=rx
    cases y with
    | byt j=>obtain⟨t',rfl⟩:=ry;exact PySem.W.ne_bytes (zak I q (congrArg not zno))
    | _=>exact absurd (show false=true from hs) Bool.false_ne_true
  | _=>cases y<;>exact absurd (show false=true from hs) Bool.false_ne_true
theorem zqe:OpR X (compareOp .Lt) (rI0 fun i j=>.bl (decide (i<j))):=opB0 fun _ _ _ _ _ _ _ q=>lt_int q
theorem zqf:OpR X (compareOp .LtE) (rI0 fun i j=>.bl (decide (i<=j))):=opB0 fun _ _ _ _ _ _ _ q=>le_int q
theorem zw1:OpR X (compareOp .Gt) (rI0 fun i j=>.bl (decide (j<i))):=opB0 fun _ _ _ _ _ _ _ q=>gt_int q
theorem zw2:OpR X (compareOp .GtE) (rI0 fun i j=>.bl (decide (j<=i))):=opB0 fun _ _ _ _ _ _ _ q=>ge_int q
theorem znq:OpR X (compareOp .In) (fun x y H Q=>∃i j,x = .str i/\y = .str j/\Q (.bl (!(Builtin.Str.occurrences j i 0 j.length 1).isEmpty)) H):=by
  intro pins s σ H x y v u Q I rx ry h
  obtain⟨i,j,rfl,rfl,q⟩:=h
  obtain⟨t,rfl⟩:=rx
  obtain⟨t',rfl⟩:=ry
  exact in_str (zak I q rfl)
theorem zai (b:Expr) {op:CmpOp}(h:op≠.In:=by decide) (h2:op≠.NotIn:=by decide):behindInMarks op b=false:=by
  have e1:(op == CmpOp.In)=false:=by cases op<;>first | rfl | exact absurd rfl h
  have e2:(op == CmpOp.NotIn)=false:=by cases op<;>first | rfl | exact absurd rfl h2
  cases b<;>simp[behindInMarks,e1,e2]
theorem ze9 {op:CmpOp}{r:R2}(ho:OpR X (compareOp op) r) (ha:PE X a ta) (hb:PE X b tb) (hm:behindInMarks op b=false):PE X (.Compare a [op] [b] pos) (tOp r ta tb):=by
  intro pins s σ H Q I h
  exact wpAny_Compare1 (binT ha hb I h fun v u s2 x y H2 I2 rx ry q=>ho pins s2 σ H2 x y v u Q I2 rx ry q) hm
def zvg (t:TE):TT:=fun σ H Q=>t σ H fun x H'=>∃k,x = .bl k/\Q k H'
theorem zab {op:CmpOp}{r:R2}(ho:OpR X (compareOp op) r) (ha:PE X a ta) (hb:PE X b tb) (hm:behindInMarks op b=false):PT X (.Compare a [op] [b] pos) (zvg (tOp r ta tb)):=by
  intro pins s σ H Q I h
  refine wpAny_isTrue_Compare1 (thn (ha pins s σ H _ I h) fun v s1 ⟨x,H1,I1,r1,q1⟩=>thn (hb pins s1 σ H1 _ I1 q1) fun u s2 ⟨y,H2,I2,r2,q2⟩=>
    thn (ho pins s2 σ H2 x y v u _ I2 r1 r2 q2) fun c s3 ⟨z,H3,I3,r3,k,e,q3⟩=>?_) hm
  subst e
  cases r3
  exact wpAny_truthy_bool ⟨H3,I3,q3⟩
def zsd (r r':R2) (ta tb tc:TE):TE:=fun σ H Q=>ta σ H fun x H1=>tb σ H1 fun y H2=>r x y H2 fun z H3=>∃k,z = .bl k/\
  (if k=true then tc σ H3 fun w' H4=>r' y w' H4 Q else Q (.bl false) H3)
theorem zqg {op op':CmpOp}{r r':R2}(ho:OpR X (compareOp op) r) (ho':OpR X (compareOp op') r') (ha:PE X a ta) (hb:PE X b tb) (hc:PE X c tc)
    (hm:lastMarks [op,op'] [b,c]=false:=by with_unfolding_all rfl):PE X (.Compare a [op,op'] [b,c] pos) (zsd r r' ta tb tc):=by
  intro pins s σ H Q I h
  refine Compare_chain (thn (ha pins s σ H _ I h) fun v s1 ⟨x,H1,I1,r1,q1⟩=>chain_link (thn (hb pins s1 σ H1 _ I1 q1) fun u s2 ⟨y,H2,I2,r2,q2⟩=>
    thn (ho pins s2 σ H2 x y v u _ I2 r1 r2 q2) fun d s3 ⟨z,H3,I3,r3,k,e,q3⟩=>?_)) hm
  subst e
  cases r3
  refine wpAny_truthy_bool ?_
  cases k with
  | false=>exact ite_ff ⟨.bl false,H3,I3,rfl,q3⟩
  | true=>exact ite_tt (chain_last (thn (hc pins s3 σ H3 _ I3 q3) fun w' s4 ⟨z',H4,I4,r4,q4⟩=>ho' pins s4 σ H4 y z' u w' Q I4 r2 r4 q4))
theorem zqh {op op':CmpOp}{r r':R2}(ho:OpR X (compareOp op) r) (ho':OpR X (compareOp op') r') (ha:PE X a ta) (hb:PE X b tb) (hc:PE X c tc)
    (hm:lastMarks [op,op'] [b,c]=false:=by with_unfolding_all rfl):PT X (.Compare a [op,op'] [b,c] pos) (zvg (zsd r r' ta tb tc)):=by
  intro pins s σ H Q I h
  refine isTrue_chain (thn (ha pins s σ H _ I h) fun v s1 ⟨x,H1,I1,r1,q1⟩=>test_link (thn (hb pins s1 σ H1 _ I1 q1) fun u s2 ⟨y,H2,I2,r2,q2⟩=>
    thn (ho pins s2 σ H2 x y v u _ I2 r1 r2 q2) fun d s3 ⟨z,H3,I3,r3,k,e,q3⟩=>?_)) hm
  subst e
  cases r3
  refine wpAny_truthy_bool ?_
  cases k with
  | false=>
    obtain⟨k',e',q'⟩:=q3
    cases e'
    exact ite_ff ⟨H3,I3,q'⟩
  | true=>
    refine ite_tt (test_last (thn (hc pins s3 σ H3 _ I3 q3) fun w' s4 ⟨z',H4,I4,r4,q4⟩=>thn (ho' pins s4 σ H4 y z' u w' _ I4 r2 r4 q4) fun d' s5 hq0=>?_))
    obtain⟨z2,H5,I5,r5,k2,e2,q5⟩:=hq0
    subst e2
    cases r5
    exact wpAny_truthy_bool ⟨H5,I5,q5⟩
theorem zia:(sizeLine:Nat)<2 ^ 63:=by rw[sizeLine_eq];decide
theorem zay:OpR X (binaryOp .Add) (fun x y H Q=>∃i j,x = .str i/\y = .str j/\i.length+j.length<=sizeLine/\Q (.str (i++j)) H):=by
  intro pins s σ H x y v u Q I rx ry h
  obtain⟨i,j,rfl,rfl,hz,q⟩:=h
  obtain⟨t,rfl⟩:=rx
  obtain⟨t',rfl⟩:=ry
  exact add_str (fun t' tk=>⟨.str (i++j),H,I.tok _,⟨_,rfl⟩,q⟩) hz
theorem zbs {x:V}{us:List Value}(r:Vals [x] us):∃u,us = [u]/\RelV x u:=by
  cases r with
  | cons r1 r2=>cases r2;exact⟨_,rfl,r1⟩
theorem zqi {x y:V}{us:List Value}(r:Vals [x,y] us):∃u w',us = [u,w']/\RelV x u/\RelV y w':=by
  cases r with
  | cons r1 r2=>
    cases r2 with
    | cons r3 r4=>cases r4;exact⟨_,_,rfl,r1,r3⟩
theorem znr (hc:X.calm=true):zcb X (.builtin "max") (fun xs H Q=>∃i j,xs = [.int i,.int j]/\Q (.int (if j > i then j else i)) H):=by
  intro pins s σ H xs us Q I r h
  obtain⟨i,j,rfl,q⟩:=h
  obtain⟨u,w',rfl,⟨t,rfl⟩,⟨t',rfl⟩⟩:=zqi r
  refine max_two_ints (I.ok.hd hc) fun h' tk k=>⟨_,H,I.kept k,?_,q⟩
  by_cases hj:j > i
  · rw[if_pos hj,if_pos hj];exact⟨_,rfl⟩
  · rw[if_neg hj,if_neg hj];exact⟨_,rfl⟩
theorem zcx:zcb X (.type "str") (fun xs H Q=>∃i,xs = [.int i]/\i.natAbs.log2<1920/\Q (.str (toString i)) H):=by
  intro pins s σ H xs us Q I r h
  obtain⟨i,rfl,hz,q⟩:=h
  obtain⟨u,rfl,t,rfl⟩:=zbs r
  exact PySem.P.str_of_int hz ⟨.str _,H,I.tok _,⟨_,rfl⟩,q⟩
end
structure ObjM (h:Heap) (x dx C:Addr) (mA:Str->Option Value):Prop where
  obj:h.get? x=some (PySem.W.instObj C dx)
  ns:h.Ns1 dx mA
  ne:dx≠x
theorem zns {h:Heap}{dx:Addr}{mA:Str->Option Value}(n:h.Ns1 dx mA):∃od,h.get? dx=some od/\∀name,PySem.W.lookIn name od=some (mA name):=by
  obtain⟨o,es,ep,ho,hd,hk,_,hm⟩:=n
  refine⟨o,ho,fun name=>?_⟩
  have e:=hm name
  unfold nsFind findBy at e
  rw[←Array.find?_toList] at e
  unfold PySem.W.lookIn
  rw[hd]
  dsimp only
  split
  · rename_i y q
    rw[q] at e
    exact congrArg some e
  · rename_i q
    rw[q] at e
    have a:es.toList.any (·.refKey)=false:=by
      rw[List.any_eq_false]
      intro y hy
      obtain⟨z,t,hkey⟩:=hk y (Array.mem_toList_iff.mp hy)
      simp[DictEntry.refKey,hkey]
    have a':¬es.toList.any (·.refKey)=true:=by rw[a];exact Bool.false_ne_true
    rw[if_neg a']
    exact congrArg some e
theorem ObjM.look {h:Heap}{x dx C:Addr}{mA:Str->Option Value}(I:ObjM h x dx C mA):∃od,PySem.W.InstAt h x (PySem.W.instObj C dx) C (some od)/\∀name,PySem.W.lookIn name od=some (mA name):=
  let ⟨od,ho,hl⟩:=zns I.ns
  ⟨od,⟨I.obj,rfl,rfl,ho⟩,hl⟩
section
variable {prog:Program}{w:World}{A:Around}{E:Value->Shared->Prop}{s:Shared}{K:PySem.W.Frag}{x dx C f:Addr}{mA:Str->Option Value}{name:Str}{v:Value}
theorem zs5 {expr:Bool}{Q:Value->Shared->Prop}(X:K.In s.heap) (I:ObjM s.heap x dx C mA) (hg:PySem.W.plainGet K C name=true) (hh:PySem.W.hasDictIn K C=true)
    (ha:PySem.W.findIn K (.ref C) name=some none) (hv:mA name=some v) (hv':PySem.W.handedIn v=true) (h:Q v { s with toks:=s.toks+1 }) :
    wpAny (model prog w) A (getAttr (.ref x) name expr) Q E s:=by
  obtain⟨od,J,hl⟩:=I.look
  exact PySem.W.get_value X J (PySem.W.plainGet_of hg).1 (PySem.W.findObj_own hh ha rfl (by rw[hl,hv])) hv' h
theorem zqj {pl:Sem Bool}{Q:Value×List Value->Shared->Prop}(X:K.In s.heap) (I:ObjM s.heap x dx C mA) (hg:PySem.W.plainGet K C name=true)
    (hf:PySem.W.findIn K (.ref C) name=some (some (.ref f))) (ht:PySem.W.isFn K (.ref f)=true) (hv:mA name=none) (h:Q (.ref f,[.ref x]) s) :
    wpAny (model prog w) A (getMethod (.ref x) name pl) Q E s:=by
  obtain⟨od,J,hl⟩:=I.look
  exact PySem.W.method_fn X J (PySem.W.plainGet_of hg).1 (PySem.W.plainGet_of hg).2 hf (beq_iff_eq.mp ht) (by show (PySem.W.lookIn name od).map (·.isSome)=some false;rw[hl,hv];rfl) h
theorem zs6 {ns:List Str}{Q:Unit->Shared->Prop}(X:K.In s.heap) (I:ObjM s.heap x dx C mA)
    (hs:PySem.W.findIn K (.ref C) "__setattr__" = some (some (.builtin "object.__setattr__"))) (hp:PySem.W.plainOver K C=true) (ht:PySem.W.takerIn K C name=some none) (hh:PySem.W.hasDictIn K C=true)
    (hw:PySem.Within mA ns) (hsz:ns.length<=sizeLine)
    (h:∀h',ObjM h' x dx C (fun y=>if y=name then some v else mA y)->Heap.SameBut dx s.heap h'->Q () { s with heap:=h',toks:=s.toks+2 }) :
    wpAny (model prog w) A (setAttr (.ref x) name v) Q E s:=by
  obtain⟨od,J,hl⟩:=I.look
  refine PySem.W.set_plain X J hs (PySem.W.osa_open (s:={ s with toks:=s.toks+1 }) (r:=none) X J hp ht fun b=>?_)
  obtain⟨cd,hc,hd'⟩:=PySem.W.any_some hh
  have hx:s.heap.get? x=some ⟨.ref C,some dx,.plain,#[]⟩:=I.obj
  refine wpAny_bind (wpAny_pure (wpAny_bind (wpAny_bind (wpAny_loadPart hx (wpAny_bind (PySem.W.Looks.here (s:={ s with toks:=s.toks+1 }) (PySem.W.looks_clsIn X hc) ?_))))))
  rw[hd']
  refine wpAny_pure (a:=some dx) (wpAny_bind (wpAny_pure (wpAny_bind ?_)))
  refine wpAny_nsSet1 (s:={ s with toks:=s.toks+1 }) I.ns fun h' hn2 hs2=>?_
  obtain⟨oD,esD,epD,hoD,hdD,hcD⟩:=hn2.count (PySem.Within.cons name v hw)
  refine wpAny_bind (wpAny_lookBehind hoD (by rw[hdD];exact pastItsLine_dict (Nat.le_trans hcD (by rw[List.length_cons];omega))) ?_)
  exact wpAny_pure (h _ ⟨(hs2.2 _ (Ne.symm I.ne)).trans I.obj,hn2,I.ne⟩ hs2)
theorem zqk {R:Result->Shared->Prop}{vs:List Value}{kw:List (Str×Value)}(X:K.In s.heap) (hm:PySem.W.makesIn K C=true)
    (hi:PySem.W.findIn K (.ref C) "__init__" = some (some (.ref f))) (hf:PySem.W.typeIn K (.ref f)=some (.type "function"))
    (h:codeAny (model prog w) (A.under (.builtin "type.__call__" ⟨.ref C::vs,kw⟩)) (.call (.ref f) ⟨.ref (s.heap.objs.size+1)::vs,kw⟩) (PySem.W.InitBack (s.heap.objs.size+1) R)
      { s with heap:=(s.heap.push PySem.W.emptyDict).push (PySem.W.instObj C s.heap.objs.size) }) :
    codeAny (model prog w) A (.call (.ref C) ⟨vs,kw⟩) R s:=by
  obtain⟨hh,g,d,t,os⟩:=s
  exact PySem.W.make_core (PySem.W.makes_of X hm) (PySem.W.looks_findIn X hi) (fun self=>PySem.W.bind_fn X self hf) (.inl rfl) h
end
def putF (f:Str) (v:V):List (Str×V)->List (Str×V)
  | []=>[(f,v)]
  | (g,x)::r=>if g=f then (g,v)::r else (g,x)::putF f v r
theorem zfa (f g:Str) (v:V):∀fs:List (Str×V),(putF f v fs).lookup g=if g=f then some v else fs.lookup g
  | []=>by
    show List.lookup g [(f,v)]=_
    by_cases h:g=f
    · have hb:(g == f)=true:=beq_iff_eq.mpr h
      simp only [List.lookup,hb,if_pos h]
    · have hb:(g == f)=false:=beq_eq_false_iff_ne.mpr h
      simp only [List.lookup,hb,if_neg h]
  | (k,x)::r=>by
    have ih:=zfa f g v r
    rw[show putF f v ((k,x)::r)=(if k=f then (k,v)::r else (k,x)::putF f v r) from rfl]
    by_cases hk:k=f
    · rw[if_pos hk]
      by_cases h:g=k
      · have hb:(g == k)=true:=beq_iff_eq.mpr h
        simp only [List.lookup,hb,if_pos (h.trans hk)]
      · have hb:(g == k)=false:=beq_eq_false_iff_ne.mpr h
        simp only [List.lookup,hb,if_neg (fun e:g=f=>h (e.trans hk.symm))]
    · rw[if_neg hk]
      by_cases h:g=k
      · have hb:(g == k)=true:=beq_iff_eq.mpr h
        simp only [List.lookup,hb,if_neg (fun e:g=f=>hk (h.symm.trans e))]
      · have hb:(g == k)=false:=beq_eq_false_iff_ne.mpr h
        simp only [List.lookup,hb]
        exact ih
theorem zfb (f:Str) (v:V):∀fs:List (Str×V),f∈(putF f v fs).map (·.1)/\∀g,g∈fs.map (·.1)->g∈(putF f v fs).map (·.1)
  | []=>⟨by simp[putF],fun g h=>by simp at h⟩
  | (k,x)::r=>by
    obtain⟨i1,i2⟩:=zfb f v r
    rw[show putF f v ((k,x)::r)=(if k=f then (k,v)::r else (k,x)::putF f v r) from rfl]
    by_cases hk:k=f
    · rw[if_pos hk]
      subst hk
      exact⟨by simp,fun g h=>by simpa using h⟩
    · rw[if_neg hk]
      refine⟨?_,fun g h=>?_⟩
      · rw[List.map_cons]
        exact List.mem_cons_of_mem _ i1
      · rw[List.map_cons] at h ⊢
        rcases List.mem_cons.mp h with e | e
        · exact List.mem_cons.mpr (.inl e)
        · exact List.mem_cons_of_mem _ (i2 g e)
theorem zbt (f:Str) (v:V):∀fs:List (Str×V),(putF f v fs).length<=fs.length+1
  | []=>by simp[putF]
  | (k,x)::r=>by
    have ih:=zbt f v r
    rw[show putF f v ((k,x)::r)=(if k=f then (k,v)::r else (k,x)::putF f v r) from rfl]
    by_cases hk:k=f
    · rw[if_pos hk,List.length_cons,List.length_cons];omega
    · rw[if_neg hk,List.length_cons,List.length_cons];omega
theorem RelO.some_of {v:V}{o:Option Value}(r:RelO (some v) o):∃u,o=some u/\RelV v u:=by
  cases o with
  | none=>exact (show False from r).elim
  | some u=>exact⟨u,rfl,r⟩
theorem RelO.none_of {o:Option Value}(r:RelO none o):o=none:=by
  cases o with
  | none=>rfl
  | some u=>exact (show False from r).elim
theorem znt {v:V}{u:Value}(r:RelV v u):PySem.W.handedIn u=true:=by
  cases v with
  | non=>cases (show u=Value.none from r);rfl
  | bl b=>cases (show u=Value.bool b from r);rfl
  | int i=>obtain⟨t,e⟩:=(show ∃t,u=Value.int i t from r);cases e;rfl
  | str x=>obtain⟨t,e⟩:=(show ∃t,u=Value.str x t from r);cases e;rfl
  | byt b=>obtain⟨t,e⟩:=(show ∃t,u=Value.bytes b t from r);cases e;rfl
  | flt b=>obtain⟨t,e⟩:=(show ∃t,u=Value.float b t from r);cases e;rfl
  | ref a=>cases (show u=Value.ref a from r);rfl
  | ty n=>cases (show u=Value.type n from r);rfl
section
variable {P:Program}{w:World}{H H':Hp}{h h':Heap}{a C dx:Addr}{fs fs':List (Str×V)}
theorem zgz (hok:HOk P w H h) (e:H a=some (.ins C dx fs)):∃mA,ObjM h a dx C mA/\(∀f,RelO (fs.lookup f) (mA f))/\PySem.Within mA (fs.map (·.1))/\fs.length<=1000/\H dx=some (.own a):=by
  obtain⟨d,z,ne,ob,mA,n,r,q⟩:=(show ObjOk P w H h a (.ins C dx fs) from hok a _ e)
  exact⟨mA,⟨ob,n,ne⟩,r,q,z,d⟩
end
structure Cls (K:PySem.W.Frag) (C:Addr):Prop where
  pg:PySem.W.plainGet K C Str.empty=true
  hd:PySem.W.hasDictIn K C=true
  po:PySem.W.plainOver K C=true
  sa:PySem.W.findIn K (.ref C) "__setattr__" = some (some (.builtin "object.__setattr__"))
theorem Cls.get {K:PySem.W.Frag}{C:Addr}(c:Cls K C) (f:Str):PySem.W.plainGet K C f=true:=c.pg
def NoAttr (K:PySem.W.Frag) (C:Addr) (f:Str):Prop:=PySem.W.findIn K (.ref C) f=some none
theorem NoAttr.taker {K:PySem.W.Frag}{C:Addr}{f:Str}(n:NoAttr K C f):PySem.W.takerIn K C f=some none:=by
  unfold PySem.W.takerIn
  rw[show PySem.W.findIn K (.ref C) f=some none from n]
  rfl
structure Meth (K:PySem.W.Frag) (C:Addr) (m:Str) (f:Addr):Prop where
  at_:PySem.W.findIn K (.ref C) m=some (some (.ref f))
  fn:PySem.W.isFn K (.ref f)=true
  kp:PySem.W.keepIn K (.ref f)=true
section
variable {X:Cx}{pins:List (Addr×Obj)}{σ:St}{H:Hp}{s:Shared}{a C dx:Addr}{fs:List (Str×V)}{f:Str}{v:V}{A:Around}{E:Value->Shared->Prop}
theorem zl7 {b:Bool}{Q:Value->Shared->Prop}(I:Inv X pins σ H s) (e:H a=some (.ins C dx fs)) (c:Cls X.K C) (n:NoAttr X.K C f) (l:fs.lookup f=some v)
    (h:∀u s',Inv X pins σ H s'->RelV v u->Q u s'):wpAny (model X.prog X.w) A (getAttr (.ref a) f b) Q E s:=by
  obtain⟨mA,O,r,_,_,_⟩:=zgz I.hok e
  obtain⟨u,hu,ru⟩:=RelO.some_of (v:=v) (o:=mA f) (by rw[←l];exact r f)
  exact zs5 I.kIn O (c.get f) c.hd n hu (znt ru) (h u _ (I.tok _) ru)
theorem zgf {m:Str}{g:Addr}{pl:Sem Bool}{Q:Value×List Value->Shared->Prop}(I:Inv X pins σ H s) (e:H a=some (.ins C dx fs)) (c:Cls X.K C) (k:Meth X.K C m g) (l:fs.lookup m=none)
    (h:Q (.ref g,[.ref a]) s):wpAny (model X.prog X.w) A (getMethod (.ref a) m pl) Q E s:=by
  obtain⟨mA,O,r,_,_,_⟩:=zgz I.hok e
  have hn:mA m=none:=RelO.none_of (by rw[←l];exact r m)
  exact zqj I.kIn O (c.get m) k.at_ k.fn hn h
theorem zl8 {y:V}{u:Value}{Q:Unit->Shared->Prop}(I:Inv X pins σ H s) (e:H a=some (.ins C dx fs)) (c:Cls X.K C) (n:NoAttr X.K C f) (hl:fs.length<1000) (ry:RelV y u)
    (h:∀s',Inv X pins σ (upd H a (.ins C dx (putF f y fs))) s'->Q () s'):wpAny (model X.prog X.w) A (setAttr (.ref a) f u) Q E s:=by
  obtain⟨mA,O,r,wi,_,ho⟩:=zgz I.hok e
  have hz:(fs.map (·.1)).length<=sizeLine:=by rw[List.length_map,sizeLine_eq];omega
  refine zs6 I.kIn O c.sa c.po n.taker c.hd wi hz fun h' O' sb=>h _ ?_
  have hd:∃o,h'.get? dx=some o:=let ⟨o,_,_,e',_⟩:=O'.ns;⟨o,e'⟩
  refine I.write (x:=a) (e:=dx) (by rw[e];exact True.intro) (.inr ho) (fun b q hb z=>(sb.2 b hb).trans z) hd ?_
  refine⟨by rw[zf O.ne];exact ho,?_,O.ne,O'.obj,_,O'.ns,fun g=>?_,fun g hg=>?_⟩
  · have:=zbt f y fs;omega
  · show RelO ((putF f y fs).lookup g) (if g=f then some u else mA g)
    rw[zfa]
    by_cases q:g=f
    · rw[if_pos q,if_pos q];exact ry
    · rw[if_neg q,if_neg q];exact r g
  · by_cases q:g=f
    · rw[q];exact (zfb f y fs).1
    · refine (zfb f y fs).2 g (wi g fun z=>hg ?_)
      show (if g=f then some u else mA g)=none
      rw[if_neg q];exact z
theorem Inv.made (I:Inv X pins σ H s):Inv X pins σ (upd (upd H s.heap.objs.size (.own (s.heap.objs.size+1))) (s.heap.objs.size+1) (.ins C s.heap.objs.size []))
    { s with heap:=(s.heap.push PySem.W.emptyDict).push (PySem.W.instObj C s.heap.objs.size) }:=by
  have e1:(s.heap.push PySem.W.emptyDict).get? s.heap.objs.size=some PySem.W.emptyDict:=Heap.get?_push_size s.heap rfl
  have e2:((s.heap.push PySem.W.emptyDict).push (PySem.W.instObj C s.heap.objs.size)).get? (s.heap.objs.size+1)=some (PySem.W.instObj C s.heap.objs.size):=by
    have:=Heap.get?_push_size (s.heap.push PySem.W.emptyDict) (o:=PySem.W.instObj C s.heap.objs.size) rfl
    rwa [Heap.size_push] at this
  have e3:(s.heap.push PySem.W.emptyDict).Ns s.heap.objs.size (fun _=>none):=⟨PySem.W.emptyDict,#[],_,e1,rfl,(fun e he=>absurd he (by simp)),fun _=>rfl⟩
  have I1:=I.laid (a:=s.heap.objs.size) (o:=.own (s.heap.objs.size+1)) (h':=s.heap.push PySem.W.emptyDict) (t':=s.toks) (fun b u q=>Heap.get?_push_of_some _ q) (Nat.le_refl _) ⟨_,e1⟩
  refine I1.laid (a:=s.heap.objs.size+1) (o:=.ins C s.heap.objs.size []) (t':=s.toks) (fun b u q=>Heap.get?_push_of_some _ q) (Nat.le_of_eq (Heap.size_push _ _)) ?_
  have ne:s.heap.objs.size≠s.heap.objs.size+1:=Nat.ne_of_lt (Nat.lt_succ_self _)
  refine⟨by rw[zf ne,zb],Nat.zero_le _,ne,e2,fun _=>none,(Heap.Ns1.of_empty e3).at fun o q=>Heap.get?_push_of_some _ q,fun _=>True.intro,fun y hy=>absurd rfl hy⟩
theorem zs7 {prog:Program}{w:World}{env:Env}{e:Expr}{f:Str}{pos:Pos}{s:Shared}{Q:Value->Shared->Prop}(hb:attributeBase e f env (eval e env)=eval e env)
    (h:wpAny (model prog w) A (eval e env) (fun o s₁=>wpAny (model prog w) A (getAttr o f true) Q E s₁) E s):wpAny (model prog w) A (eval (.Attribute e f pos) env) Q E s:=
  Attribute_any_ h (by rw[arm_eval_Attribute,hb])
end
def tFld (K:PySem.W.Frag) (ta:TE) (f:Str):TE:=fun σ H Q=>ta σ H fun x H1=>∃a C dx fs v,x = .ref a/\H1 a=some (.ins C dx fs)/\Cls K C/\NoAttr K C f/\fs.lookup f=some v/\Q v H1
def sFld (K:PySem.W.Frag) (ta tv:TE) (f:Str):TS:=fun D σ H=>tv σ H fun y H1=>ta σ H1 fun x H2=>∃a C dx fs,x = .ref a/\H2 a=some (.ins C dx fs)/\Cls K C/\NoAttr K C f/\fs.length<1000/\
  D.nx σ (upd H2 a (.ins C dx (putF f y fs)))
section
variable {X:Cx}{o e value:Expr}{f:Str}{pos pos' tpos:Pos}{ta tv:TE}
theorem zb6 (he:PE X e ta) (hb:attributeBase e f X.env (eval e X.env)=eval e X.env):PE X (.Attribute e f pos) (tFld X.K ta f):=by
  intro pins s σ H Q I h
  refine zs7 hb (thn (he pins s σ H _ I h) fun u s1 hq0=>?_)
  obtain⟨x,H1,I1,rx,a,C,dx,fs,v,ex,ea,c,n,l,q⟩:=hq0
  subst ex
  obtain rfl:u=Value.ref a:=rx
  exact zl7 I1 ea c n l fun u' s2 I2 ru=>⟨v,H1,I2,ru,q⟩
theorem zib (ha:PE X o ta) (hv:PE X value tv) (hs:swapsWith value (some (.Attribute o f pos')) pos.line X.env=pure false):PS X (.Assign [.Attribute o f pos'] value pos) (sFld X.K ta tv f):=by
  intro pins s σ H D I h
  refine plainObj_wpAny_Assign_Attribute (thn (hv pins s σ H _ I h) fun u s1 ⟨y,H1,I1,ry,q⟩=>thn (ha pins s1 σ H1 _ I1 q) fun ov s2 hq0=>?_) hs
  obtain⟨x,H2,I2,rx,a,C,dx,fs,ex,ea,c,n,l,q2⟩:=hq0
  subst ex
  obtain rfl:ov=Value.ref a:=rx
  exact zl8 I2 ea c n l ry fun s3 I3=>⟨σ,_,I3,q2⟩
theorem zs8 {pl:Sem Bool}{m:Str}{apos:Pos}{args:List Expr}{pins:List (Addr×Obj)}{s:Shared}{σ:St}{H:Hp}{Q:Value->Shared->Prop}{te:TE}(he:PE X e te) (I:Inv X pins σ H s)
    (h:te σ H fun x H1=>∃a C dx fs g,x = .ref a/\H1 a=some (.ins C dx fs)/\Cls X.K C/\Meth X.K C m g/\fs.lookup m=none/\
      ∀s1,Inv X pins σ H1 s1->wpAny (model X.prog X.w) X.A (callWith pos (.ref g) [.ref a] (backTo pos (starEach args X.env)) (backToKw pos (keywordEach [] X.env))) Q X.xe s1)
    (ht:eval (.Call (.Attribute e m apos) args [] pos) X.env=(do
      let ov ←eval e X.env
      standAt apos.atName
      let (f,first) ←holding [ov] (getMethod ov m pl)
      callWith pos f first (backTo pos (starEach args X.env)) (backToKw pos (keywordEach [] X.env)))) :
    wpAny (model X.prog X.w) X.A (eval (.Call (.Attribute e m apos) args [] pos) X.env) Q X.xe s:=by
  refine PySem.W.methodCall_KW (pl:=pl) (thn (he pins s σ H _ I h) fun u s1 hq0=>?_) ht
  obtain⟨x,H1,I1,rx,a,C,dx,fs,g,ex,ea,c,k,l,q⟩:=hq0
  subst ex
  obtain rfl:u=Value.ref a:=rx
  exact zgf I1 ea c k l (q s1 I1)
end
section
variable {X:Cx}{pins:List (Addr×Obj)}{σ:St}{H:Hp}{s:Shared}{A:Around}{E:Value->Shared->Prop}{Q:Value->Shared->Prop}{c:Value}{b:Bool}
inductive TyOf (K:PySem.W.Frag) (H:Hp):V->Value->Prop where
  | non:TyOf K H .non (.type "NoneType")
  | bl (x:Bool):TyOf K H (.bl x) (.type "bool")
  | int (i:Int):TyOf K H (.int i) (.type "int")
  | str (x:Str):TyOf K H (.str x) (.type "str")
  | flt (x:UInt64):TyOf K H (.flt x) (.type "float")
  | lst {a:Addr}{xs:List V}(e:H a=some (.lst xs)):TyOf K H (.ref a) (.type "list")
  | frz {a:Addr}{o:Obj}{xs:List V}(e:H a=some (.frz o (.lst xs))):TyOf K H (.ref a) (.type "list")
  | tup {a:Addr}{xs:List V}(e:H a=some (.tup xs)):TyOf K H (.ref a) (.type "tuple")
  | dK {a:Addr}{kvs:List (Key×V)}(e:H a=some (.dK kvs)):TyOf K H (.ref a) (.type "dict")
  | dT {a:Addr}{kvs:List (List Key×V)}(e:H a=some (.dT kvs)):TyOf K H (.ref a) (.type "dict")
  | ins {a C dx:Addr}{fs:List (Str×V)}(e:H a=some (.ins C dx fs)) (cl:Cls K C) (ha:PySem.W.findIn K (.ref C) "__class__" = some (some (.builtin "object.__class__")))
      (hn:PySem.W.specialIn K (.builtin "object.__class__") "__get__" = some (some (.builtin "getset_descriptor.__get__"))) (htk:PySem.W.takesIn K (.builtin "object.__class__")=some true)
      (hm:PySem.W.mroIn K C (.type "object")=some true):TyOf K H (.ref a) (.ref C)
theorem znu {x:V}{u t:Value}(I:Inv X pins σ H s) (rx:RelV x u) (ty:TyOf X.K H x t) (e:PySem.W.kitOne X.K t c=some b) (h:∀tk,Q (.bool b) { s with toks:=tk }) :
    wpAny (model X.prog X.w) A (call (.builtin "isinstance") [u,c]) Q E s:=by
  cases ty with
  | non=>cases (show u=Value.none from rx);exact PySem.W.kia_one PySem.W.kitx_none I.kIn True.intro e (fun z=>nomatch z) h
  | bl y=>cases (show u=Value.bool y from rx);exact PySem.W.kia_one PySem.W.kitx_bool I.kIn True.intro e (fun z=>nomatch z) h
  | int i=>obtain⟨t,q⟩:=(show ∃t,u=Value.int i t from rx);cases q;exact PySem.W.kia_one PySem.W.kitx_int I.kIn True.intro e (fun z=>nomatch z) h
  | str y=>obtain⟨t,q⟩:=(show ∃t,u=Value.str y t from rx);cases q;exact PySem.W.kia_one PySem.W.kitx_str I.kIn True.intro e (fun z=>nomatch z) h
  | flt y=>obtain⟨t,q⟩:=(show ∃t,u=Value.float y t from rx);cases q;exact PySem.W.kia_one PySem.W.kitx_float I.kIn True.intro e (fun z=>nomatch z) h
  | @lst a xs ea=>
    cases (show u=Value.ref a from rx)
    obtain⟨_,_,n,_,h1⟩:=(show ObjOk X.prog X.w H s.heap a (.lst xs) from I.hok a _ ea)
    exact PySem.W.kia_one PySem.W.kitx_list I.kIn ⟨_,h1,rfl⟩ e (fun z=>nomatch z) h
  | @frz a ob xs ea=>
    cases (show u=Value.ref a from rx)
    obtain⟨_,_,_,n,_,h1⟩:=(show ObjOk X.prog X.w H s.heap a (.frz ob (.lst xs)) from I.hok a _ ea)
    exact PySem.W.kia_one PySem.W.kitx_list I.kIn ⟨_,h1,rfl⟩ e (fun z=>nomatch z) h
  | @tup a xs ea=>
    cases (show u=Value.ref a from rx)
    obtain⟨_,_,_,p⟩:=(show ObjOk X.prog X.w H s.heap a (.tup xs) from I.hok a _ ea)
    obtain⟨o,h1,h2,_⟩:=p
    exact PySem.W.kia_one PySem.W.kitx_tuple I.kIn ⟨o,h1,h2⟩ e (fun z=>nomatch z) h
  | @dK a kvs ea=>
    cases (show u=Value.ref a from rx)
    obtain⟨_,_,vs,_,p⟩:=(show ObjOk X.prog X.w H s.heap a (.dK kvs) from I.hok a _ ea)
    obtain⟨o,es,ep,h1,h2,_⟩:=p
    exact PySem.W.kia_one PySem.W.kitx_dict I.kIn ⟨o,h1,h2.1⟩ e (fun z=>nomatch z) h
  | @dT a kvs ea=>
    cases (show u=Value.ref a from rx)
    obtain⟨_,_,xs,_,o,es,ep,h1,h2,_⟩:=(show ObjOk X.prog X.w H s.heap a (.dT kvs) from I.hok a _ ea)
    exact PySem.W.kia_one PySem.W.kitx_dict I.kIn ⟨o,h1,h2.1⟩ e (fun z=>nomatch z) h
  | @ins a C dx fs ea cl ha hn htk hm=>
    cases (show u=Value.ref a from rx)
    obtain⟨mA,O,_⟩:=zgz I.hok ea
    obtain⟨od,J,_⟩:=O.look
    exact PySem.W.kia_one (PySem.W.kitx_own (cl.get _) cl.hd ha hn htk hm) I.kIn J e (fun z=>nomatch z) h
end
structure Room (k:Nat) (A:Around):Prop where
  hd:A.handled=none
  dp:A.depth+3 * k+5<recursionLimit
  un:A.units+16 * k+200<cLine
theorem Room.mono {j k:Nat}{A:Around}(r:Room k A) (h:j<=k):Room j A:=⟨r.hd,by have:=r.dp;omega,by have:=r.un;omega⟩
theorem Room.deeper {k:Nat}{A:Around}(r:Room (k+1) A) (env:Env):Room k (A.deeper env):=
  ⟨r.hd,by have:=r.dp;show A.depth+1+3 * k+5<_;omega,by have:=r.un;show A.units+3+16 * k+200<_;omega⟩
theorem zl9 {A:Around}{C:Addr}{us:List Value}{kw:List (Str×Value)}:(A.under (.builtin "type.__call__" ⟨.ref C::us,kw⟩)).depth=A.depth+1:=by
  first | rfl | simp[Around.under,Code.weight,Code.isCreation,Code.isGuard,Code.isCaller,Code.frames,Code.isFrame,guardIds]
theorem zma {A:Around}{C:Addr}{us:List Value}{kw:List (Str×Value)}:(A.under (.builtin "type.__call__" ⟨.ref C::us,kw⟩)).units=A.units+1:=by
  first | rfl | simp[Around.under,Code.cUnits,Code.frames,Code.isFrame]
theorem Room.make {k:Nat}{A:Around}(r:Room (k+1) A) (C:Addr) (us:List Value) (kw:List (Str×Value)):Room k (A.under (.builtin "type.__call__" ⟨.ref C::us,kw⟩)):=
  ⟨r.hd,by have:=r.dp;rw[zl9];omega,by have:=r.un;rw[zma];omega⟩
theorem Room.depth {k:Nat}{A:Around}(r:Room k A):A.depth<recursionLimit:=by have:=r.dp;omega
theorem Room.units {k:Nat}{A:Around}(r:Room k A):A.units+64<cLine:=by have:=r.un;omega
def tNil:TA:=fun _ H Q=>Q [] H
def zs9 (ta:TE) (tr:TA):TA:=fun σ H Q=>ta σ H fun x H1=>tr σ H1 fun xs H2=>Q (x::xs) H2
section
variable {X:Cx}{e:Expr}{es:List Expr}{te:TE}{t:TA}{pos:Pos}
theorem zd:PA X [] tNil:=fun _ _ _ _ H Q I h=>Calls.spliced_nil ⟨[],H,I,.nil,h⟩
theorem za (ha:PE X e te) (hr:PA X es t) (hs:starEach (e::es) X.env=(false,eval e X.env)::starEach es X.env:=by rfl):PA X (e::es) (zs9 te t):=by
  intro pos pins s σ H Q I h
  rw[hs]
  show wpAny _ _ (spliced ((false,eval e X.env)::backTo pos (starEach es X.env))) _ _ s
  refine Calls.spliced_cons (thn (ha pins s σ H _ I h) fun u s1 hq0=>?_)
  obtain⟨x,H1,I1,r1,q1⟩:=hq0
  exact thn (hr pos pins s1 σ H1 _ I1 q1) fun us s2 ⟨xs,H2,I2,r2,q2⟩=>⟨x::xs,H2,I2,.cons r1 r2,q2⟩
def tTup (t:TA):TE:=fun σ H Q=>t σ H fun xs H1=>xs.length<=sizeLine/\∀p,H1 p=none->Q (.ref p) (upd H1 p (.tup xs))
def tLst (t:TA):TE:=fun σ H Q=>t σ H fun xs H1=>xs.length<=sizeLine/\∀p,H1 p=none->Q (.ref p) (upd H1 p (.lst xs))
theorem zcj {x1}(h:PA X es t):PE X (.Tuple es x1 pos) (tTup t):=by
  intro pins s σ H Q I hq
  refine wpAny_Tuple_spliced (thn (h pos pins s σ H _ I hq) fun us s1 ⟨xs,H1,I1,r,z,q⟩=>⟨by rw[←r.length];exact z,?_⟩)
  have hf:H1 s1.heap.objs.size=none:=I1.hok.fresh (Nat.le_refl _)
  refine⟨.ref s1.heap.objs.size,upd H1 s1.heap.objs.size (.tup xs),I1.laid (t':=s1.toks) (fun b u e=>Heap.get?_push_of_some _ e) (Nat.le_refl _) ?_,rfl,q _ hf⟩
  exact⟨z,us,r,⟨_,Heap.get?_push_size _ rfl,rfl,_,rfl⟩⟩
theorem zaj (h:PA X es t):PE X (.List es pos) (tLst t):=by
  intro pins s σ H Q I hq
  refine wpAny_List_spliced (thn (h pos pins s σ H _ I hq) fun us s1 ⟨xs,H1,I1,r,z,q⟩=>⟨by rw[←r.length];exact z,?_⟩)
  have hf:H1 s1.heap.objs.size=none:=I1.hok.fresh (Nat.le_refl _)
  refine⟨.ref s1.heap.objs.size,upd H1 s1.heap.objs.size (.lst xs),I1.laid (t':=s1.toks) (fun b u e=>Heap.get?_push_of_some _ e) (Nat.le_refl _) ?_,rfl,q _ hf⟩
  exact⟨z,us,0,r,Heap.get?_push_size _ rfl⟩
end
abbrev Sp:=List V->Hp->VK->XK->Prop
abbrev CXT:=List Env->Hp->Shared->XK->Value->Shared->Prop
structure Env0 (P:Program) (w:World) (K:PySem.W.Frag) (mg:Str->Option Value) (base:Heap) (A:Around) (outer:List Env) (s:Shared) (H:Hp):Prop where
  frames:A.frames=some outer
  mod:Mod K mg base
  bs:∀b o,base.get? b=some o->s.heap.get? b=some o/\H b=none
  bsz:base.objs.size<=s.heap.objs.size
  funs:s.heap.FunFrames base outer
  frf:∀b∈frs outer,H b=none
  hok:HOk P w H s.heap
  bare:AllBare s.gens
def CE (outer:List Env) (P:Program) (w:World) (H:Hp) (s:Shared) (Q:VK) (u:Value) (s':Shared):Prop:=
  ∃v H',s'.os=s.os/\AllBare s'.gens/\Un (frs outer) [] H H' s.heap s'.heap/\HOk P w H' s'.heap/\RelV v u/\Q v H'
def CR (CX:CXT) (outer:List Env) (P:Program) (w:World) (H:Hp) (s:Shared) (Q:VK) (E:XK) (r:Result) (s':Shared):Prop:=
  match r with
  | .ok (.ret u)=>CE outer P w H s Q u s'
  | .ok _=>False
  | .error e=>CX outer H s E e s'
structure FnOk (P:Program) (w:World) (K:PySem.W.Frag) (mg:Str->Option Value) (base:Heap) (CX:CXT) (k:Nat) (f:Addr) (fd:FuncData) (ps:List Str) (sp:Sp):Prop where
  len:∀vs H Q E,sp vs H Q E->vs.length=ps.length
  run:∀(A:Around) (outer:List Env) (s:Shared) (H:Hp) (args:Args) (us:List Value) (vs:List V) (Q:VK) (E:XK),Room k A->Env0 P w K mg base A outer s H->BindsTo s fd args (ps.zip us)->Vals vs us->sp vs H Q E->
    codeAny (model P w) A (.call (.ref f) args) (CR CX outer P w H s Q E) s
theorem Env0.make {P:Program}{w:World}{K:PySem.W.Frag}{mg:Str->Option Value}{base:Heap}{A:Around}{outer:List Env}{s:Shared}{H:Hp}(e:Env0 P w K mg base A outer s H) (C:Addr) (us:List Value) (kw:List (Str×Value)) :
    Env0 P w K mg base (A.under (.builtin "type.__call__" ⟨.ref C::us,kw⟩)) outer s H:=⟨by first | exact e.frames | (simpa[Around.under,Code.envs,Code.isFrame,pushEnvs] using e.frames),e.mod,e.bs,e.bsz,e.funs,e.frf,e.hok,e.bare⟩
section
variable {X:Cx}{pins:List (Addr×Obj)}{σ:St}{H:Hp}{s s':Shared}
theorem Inv.env0 (I:Inv X pins σ H s):Env0 X.prog X.w X.K X.mg X.base X.A X.stack s H:=
  ⟨I.ok.frames,I.ok.mod,I.bs,Nat.le_trans I.ok.bsz I.sz,I.stack,I.stkFree,I.hok,I.bare⟩
theorem Inv.after {Q:VK}{u:Value}(I:Inv X pins σ H s) (h:CE X.stack X.prog X.w H s Q u s'):EP X pins σ Q u s':=by
  obtain⟨v,H',os,bare,un,hok,r,q⟩:=h
  obtain⟨hh,g,d,t,os'⟩:=s'
  obtain rfl:os'=s.os:=os
  exact⟨v,H',I.call (h':=hh) (g':=g) (d':=d) (t':=t) (ch:=[]) un hok bare (fun b z=>absurd z (by simp)),r,q⟩
end
def zvh (sp:Sp) (dvs:List V) (E:XK) (t:TA):TE:=fun σ H Q=>t σ H fun vs H1=>sp (vs++dvs) H1 Q E
def zvi (C:Addr) (m:Str) (sp:Sp) (dvs:List V) (E:XK) (ta:TE) (t:TA):TE:=fun σ H Q=>ta σ H fun x H1=>∃a dx fs,x = .ref a/\H1 a=some (.ins C dx fs)/\fs.lookup m=none/\
  t σ H1 fun vs H2=>sp (x::(vs++dvs)) H2 Q E
def zvj (C:Addr) (sp:Sp) (dvs:List V) (E:XK) (t:TA):TE:=fun σ H Q=>t σ H fun vs H1=>∀x dx,H1 x=none->H1 dx=none->dx≠x->
  sp (.ref x::(vs++dvs)) (upd (upd H1 dx (.own x)) x (.ins C dx [])) (fun v H2=>v = .non/\Q (.ref x) H2) E
def Binds (K:PySem.W.Frag) (fd:FuncData) (ps:List Str) (ds:List Value):Prop:=
  ∀(s:Shared) (us:List Value),K.In s.heap->(us++ds).length=ps.length->BindsTo s fd ⟨us,[]⟩ (ps.zip (us++ds))
theorem Binds.all {K:PySem.W.Frag}{fd:FuncData}{ps:List Str}(h:∀us:List Value,us.length=ps.length->bindArgs fd ⟨us,[]⟩=pure (ps.zip us)):Binds K fd ps []:=fun s us _ hl=>by
  rw[List.append_nil] at hl ⊢
  exact .of_eq (h us hl)
def zgg (CX:CXT) (X:Cx) (E:XK):Prop:=∀(pins:List (Addr×Obj)) (σ:St) (H:Hp) (s:Shared) (e:Value) (s':Shared),Inv X pins σ H s->CX X.stack H s E e s'->X.xe e s'
section
variable {X:Cx}{CX:CXT}{k:Nat}{f C:Addr}{fd:FuncData}{ps:List Str}{sp:Sp}{dvs:List V}{ds:List Value}{E:XK}{x m:Str}{p pos apos:Pos}{e o:Expr}{es:List Expr}{ta:TE}{t:TA}
theorem zse {pins:List (Addr×Obj)}{σ:St}{H:Hp}{s:Shared}{Q:VK}{us:List Value}{vs:List V}(F:FnOk X.prog X.w X.K X.mg X.base CX k f fd ps sp) (hr:Room k X.A) (hb:Binds X.K fd ps ds) (hd:Vals dvs ds) (hx:zgg CX X E)
    (I:Inv X pins σ H s) (r:Vals vs us) (h:sp (vs++dvs) H Q E):wpAny (model X.prog X.w) X.A (call (.ref f) us) (EP X pins σ Q) X.xe s:=by
  have r2:Vals (vs++dvs) (us++ds):=r.append hd
  have hl:(us++ds).length=ps.length:=by rw[←r2.length];exact F.len _ _ _ _ h
  refine wpAny_call (codeAny_mono (F.run X.A X.stack s H ⟨us,[]⟩ (us++ds) (vs++dvs) Q E hr I.env0 (hb s us I.kIn hl) r2 h) fun r s' hq=>?_)
  cases r with
  | error e=>exact hx pins σ H s e s' I hq
  | ok fl=>
    cases fl with
    | ret u=>exact I.after hq
    | next=>exact False.elim hq
    | brk=>exact False.elim hq
    | cont=>exact False.elim hq
theorem zta (F:FnOk X.prog X.w X.K X.mg X.base CX k f fd ps sp) (hr:Room k X.A) (hg:Gl X x) (hm:X.mg x=some (.ref f)) (hk:PySem.W.keepIn X.K (.ref f)=true) (hb:Binds X.K fd ps ds) (hd:Vals dvs ds) (hx:zgg CX X E)
    (ha:PA X (e::es) t) (hdb:(x == ("__debug__" : Str))=false:=by decide) (he:starEach (e::es) X.env=(false,eval e X.env)::starEach es X.env:=by rfl) (hpl:(backTo pos (starEach es X.env)).any (·.1)=false:=by rfl) :
    PE X (.Call (.Name x p) (e::es) [] pos) (zvh sp dvs E t):=by
  intro pins s σ H Q I h
  refine wpAny_Call_Name_kw (zjz I hg hm ?_ hdb)
  refine PySem.W.callWith_K (h₀:=X.base) I.ok.mod.kin hk (thn (ha pos pins s σ H _ I h) fun us s1 ⟨vs,H1,I1,r,q⟩=>⟨I1.kIn,?_⟩) he hpl
  exact zse F hr hb hd hx I1 r q
theorem ztb {pl:Sem Bool}(he:PE X o ta) (c:Cls X.K C) (hm:Meth X.K C m f) (F:FnOk X.prog X.w X.K X.mg X.base CX k f fd ps sp) (hr:Room k X.A) (hb:Binds X.K fd ps ds) (hd:Vals dvs ds) (hx:zgg CX X E) (ha:PA X (e::es) t)
    (hst:starEach (e::es) X.env=(false,eval e X.env)::starEach es X.env:=by rfl) (hpl:(backTo pos (starEach es X.env)).any (·.1)=false:=by rfl)
    (ht:eval (.Call (.Attribute o m apos) (e::es) [] pos) X.env=(do
      let ov ←eval o X.env
      standAt apos.atName
      let (f,first) ←holding [ov] (getMethod ov m pl)
      callWith pos f first (backTo pos (starEach (e::es) X.env)) (backToKw pos (keywordEach [] X.env))):=by rfl) :
    PE X (.Call (.Attribute o m apos) (e::es) [] pos) (zvi C m sp dvs E ta t):=by
  intro pins s σ H Q I h
  refine PySem.W.methodCall_KW (pl:=pl) (thn (he pins s σ H _ I h) fun u s1 hq0=>?_) ht
  obtain⟨x,H1,I1,rx,a,dx,fs,ex,ea,l,q⟩:=hq0
  subst ex
  obtain rfl:u=Value.ref a:=rx
  refine zgf I1 ea c hm l ?_
  refine PySem.W.callWith_K (first:=[.ref a]) (h₀:=X.base) I.ok.mod.kin hm.kp (thn (ha pos pins s1 σ H1 _ I1 q) fun us s2 ⟨vs,H2,I2,r,q2⟩=>⟨I2.kIn,?_⟩) hst hpl
  exact zse (us:=.ref a::us) (vs:=.ref a::vs) F hr hb hd hx I2 (.cons rfl r) q2
structure Mk (K:PySem.W.Frag) (C f:Addr):Prop where
  makes:PySem.W.makesIn K C=true
  init:PySem.W.findIn K (.ref C) "__init__" = some (some (.ref f))
  fn:PySem.W.isFn K (.ref f)=true
  kp:PySem.W.keepIn K (.ref C)=true
theorem zql {pins:List (Addr×Obj)}{σ:St}{H:Hp}{s:Shared}{Q:VK}{us:List Value}{vs:List V}(M:Mk X.K C f) (F:FnOk X.prog X.w X.K X.mg X.base CX k f fd ps sp) (hr:Room (k+1) X.A) (hb:Binds X.K fd ps ds) (hd:Vals dvs ds)
    (hx:zgg CX X E) (I:Inv X pins σ H s) (r:Vals vs us)
    (h:∀x dx,H x=none->H dx=none->dx≠x->sp (.ref x::(vs++dvs)) (upd (upd H dx (.own x)) x (.ins C dx [])) (fun v H2=>v = .non/\Q (.ref x) H2) E) :
    wpAny (model X.prog X.w) X.A (call (.ref C) us) (EP X pins σ Q) X.xe s:=by
  have hq:=h (s.heap.objs.size+1) s.heap.objs.size (I.hok.fresh (Nat.le_succ _)) (I.hok.fresh (Nat.le_refl _)) (Nat.ne_of_lt (Nat.lt_succ_self _))
  have I2:=Inv.made (C:=C) I
  have r2:Vals (V.ref (s.heap.objs.size+1)::(vs++dvs)) (Value.ref (s.heap.objs.size+1)::(us++ds)):=.cons rfl (r.append hd)
  have hl:(Value.ref (s.heap.objs.size+1)::us++ds).length=ps.length:=by
    have e:=r2.length
    rw[F.len _ _ _ _ hq] at e
    exact e.symm
  refine wpAny_call (zqk (f:=f) I.kIn M.makes M.init (beq_iff_eq.mp M.fn) (codeAny_mono (F.run _ X.stack _ _ ⟨Value.ref (s.heap.objs.size+1)::us,[]⟩ (Value.ref (s.heap.objs.size+1)::(us++ds)) _ _ E (hr.make C us [])
    (I2.env0.make C us []) (hb _ (Value.ref (s.heap.objs.size+1)::us) I2.kIn hl) r2 hq) fun r s' hq'=>?_))
  cases r with
  | error e=>exact hx pins σ _ _ e s' I2 hq'
  | ok fl=>
    cases fl with
    | ret u=>
      obtain⟨v,H',I3,rv,ev,q3⟩:=I2.after hq'
      subst ev
      exact⟨rv,⟨V.ref (s.heap.objs.size+1),H',I3,rfl,q3⟩⟩
    | next=>exact False.elim hq'
    | brk=>exact False.elim hq'
    | cont=>exact False.elim hq'
theorem zqm (M:Mk X.K C f) (F:FnOk X.prog X.w X.K X.mg X.base CX k f fd ps sp) (hr:Room (k+1) X.A) (hg:Gl X x) (hm:X.mg x=some (.ref C)) (hb:Binds X.K fd ps ds) (hd:Vals dvs ds) (hx:zgg CX X E)
    (hdb:(x == ("__debug__" : Str))=false:=by decide):PE X (.Call (.Name x p) [] [] pos) (zvj C sp dvs E tNil):=by
  intro pins s σ H Q I h
  refine wpAny_Call_Name_kw (zjz I hg hm ?_ hdb)
  exact PySem.W.callWith_K0 I.kIn M.kp (zql (us:=[]) M F hr hb hd hx I .nil h)
end
def PK (X:Cx) (kws:List Keyword) (t:TA):Prop:=
  ∀(pos:Pos) (pins:List (Addr×Obj)) (s:Shared) (σ:St) (H:Hp) (Q:List V->Hp->Prop),Inv X pins σ H s->t σ H Q->wpAny (model X.prog X.w) X.A (evalAll ((backToKw pos (keywordEach kws X.env)).map (·.2))) (AP X pins σ Q) X.xe s
section
variable {X:Cx}{CX:CXT}{k:Nat}{f C:Addr}{fd:FuncData}{ps ks:List Str}{sp:Sp}{E:XK}{x m:Str}{p pos apos kpos:Pos}{e o:Expr}{es:List Expr}{kws:List Keyword}{te ta:TE}{t tk:TA}{nm:Option Str}
theorem zsf:PK X [] tNil:=fun _ _ _ _ H Q I h=>wpAny_evalAll_nil ⟨[],H,I,.nil,h⟩
theorem znv (ha:PE X e te) (hr:PK X kws t):PK X (⟨nm,e,kpos⟩::kws) (zs9 te t):=by
  intro pos pins s σ H Q I h
  show wpAny _ _ (evalAll ((do let v ←eval e X.env;standAt pos;pure v)::(backToKw pos (keywordEach kws X.env)).map (·.2))) _ _ s
  refine wpAny_evalAll_cons (wpAny_bind (thn (ha pins s σ H _ I h) fun u s1 ⟨x,H1,I1,r1,q1⟩=>wpAny_bind (wpAny_standAt (wpAny_pure ?_))))
  exact thn (hr pos pins s1 σ H1 _ I1 q1) fun us s2 ⟨xs,H2,I2,r2,q2⟩=>⟨x::xs,H2,I2,.cons r1 r2,q2⟩
variable {g:List Value->List Value->List Value}{gV:List V->List V->List V}
end
structure FnScope (N P:List Str) (sc:Scope):Prop where
  kind:sc.kind = .function
  co:sc.isCoroutine=false
  gen:sc.isGenerator=false
  nd:N.Nodup
  pre:N.take P.length=P
  par:∀x∈P,sc.names.lookup x=some .local\/sc.names.lookup x=some .cell
  nofree:∀y∈sc.names,y.2≠.free
theorem zic {kindOf:Str->Option NameKind}{x:Str}:∀{binds:List (Str×Value)}{m:Str->Option Value},(∀v,(x,v) ∉ binds)->bindL kindOf binds m x=m x
  | [],_,_=>rfl
  | (n,v)::r,m,h=>by
    unfold bindL
    rw[zic fun w hw=>h w (List.mem_cons_of_mem _ hw)]
    split
    · have:x≠n:=by rintro rfl;exact h v List.mem_cons_self
      simp[this]
    · rfl
theorem zid {kindOf:Str->Option NameKind}{x:Str}:∀{binds:List (Str×Value)}{m:Str->Option Value},(∀v,(x,v) ∉ binds)->bindC kindOf binds m x=m x
  | [],_,_=>rfl
  | (n,v)::r,m,h=>by
    unfold bindC
    rw[zid fun w hw=>h w (List.mem_cons_of_mem _ hw)]
    split
    · rfl
    · have:x≠n:=by rintro rfl;exact h v List.mem_cons_self
      simp[this]
theorem zie {kindOf:Str->Option NameKind}{x:Str}{v:Value}:∀{P:List Str}{vs:List Value}{i:Nat}{m:Str->Option Value},P.Nodup->P[i]? = some x->vs[i]? = some v->kindOf x=some .local->
    bindL kindOf (P.zip vs) m x=some v
  | [],_,_,_,_,h,_,_=>by simp at h
  | _::_,[],_,_,_,_,h,_=>by simp at h
  | p::P,w::vs,0,m,nd,h1,h2,hk=>by
    simp at h1 h2;subst h1;subst h2
    show bindL kindOf ((p,w)::P.zip vs) m p=_
    unfold bindL
    rw[zic fun v hv=>(List.nodup_cons.mp nd).1 (List.of_mem_zip hv).1,if_pos hk]
    simp
  | p::P,w::vs,i+1,m,nd,h1,h2,hk=>by
    show bindL kindOf ((p,w)::P.zip vs) m x=_
    unfold bindL
    exact zie (i:=i) (List.nodup_cons.mp nd).2 (by simpa using h1) (by simpa using h2) hk
theorem zif {kindOf:Str->Option NameKind}{x:Str}{v:Value}:∀{P:List Str}{vs:List Value}{i:Nat}{m:Str->Option Value},P.Nodup->P[i]? = some x->vs[i]? = some v->kindOf x≠some .local->
    bindC kindOf (P.zip vs) m x=some v
  | [],_,_,_,_,h,_,_=>by simp at h
  | _::_,[],_,_,_,_,h,_=>by simp at h
  | p::P,w::vs,0,m,nd,h1,h2,hk=>by
    simp at h1 h2;subst h1;subst h2
    show bindC kindOf ((p,w)::P.zip vs) m p=_
    unfold bindC
    rw[zid fun v hv=>(List.nodup_cons.mp nd).1 (List.of_mem_zip hv).1,if_neg hk]
    simp
  | p::P,w::vs,i+1,m,nd,h1,h2,hk=>by
    show bindC kindOf ((p,w)::P.zip vs) m x=_
    unfold bindC
    exact zif (i:=i) (List.nodup_cons.mp nd).2 (by simpa using h1) (by simpa using h2) hk
def start (N:List Str) (vs:List V):St:=vs.map some++List.replicate (N.length-vs.length) none
def cxOf (CX:CXT) (P:Program) (w:World) (K:PySem.W.Frag) (mg:Str->Option Value) (base:Heap) (N:List Str) (qual:Str) (scope:Scope) (f:Addr) (cd:Value) (A:Around) (outer:List Env) (s:Shared) (H:Hp) (E:XK):Cx where
  prog:=P
  w:=w
  K:=K
  mg:=mg
  base:=base
  A:=A.deeper (envOfC qual scope s.heap.objs.size f cd)
  N:=N
  s₀:=s
  H₀:=H
  env:=envOfC qual scope s.heap.objs.size f cd
  outer:=outer
  stack:=envOfC qual scope s.heap.objs.size f cd::outer
  ex:=[]
  calm:=true
  fn:=fun _=>true
  pn:=[]
  xe:=fun e s'=>wpAny (model P w) (A.deeper (envOfC qual scope s.heap.objs.size f cd)) (leaving (envOfC qual scope s.heap.objs.size f cd) e) (fun _ s''=>CX outer H s E e s'') (fun e' s''=>CX outer H s E e' s'') s'
theorem zk4 {sc:Scope}{n:Nat}{x:Str}(h:sc.names.lookup x=some .cell):∃c,(cellsFrom n sc.names []).lookup x=some c:=by
  have q:=PySem.W.cellsFrom_some sc.names n [] (.inl h)
  exact Option.isSome_iff_exists.mp q
theorem znw {CX:CXT}{P:Program}{w:World}{K:PySem.W.Frag}{mg:Str->Option Value}{base:Heap}{N ps:List Str}{qual:Str}{scope:Scope}{f:Addr}{cd:Value}{A:Around}{outer:List Env}{s s1:Shared}{H:Hp}{E:XK}{us:List Value}{vs:List V}
    (S:FnScope N ps scope) (hd:A.handled=none) (e0:Env0 P w K mg base A outer s H) (hl:vs.length=ps.length) (r:Vals vs us)
    (x:InCallC s s.heap.objs.size (bindL (envOfC qual scope s.heap.objs.size f cd).kindOf (ps.zip us) fun _=>none) (cellsFrom (s.heap.objs.size+1) scope.names []) (bindC (envOfC qual scope s.heap.objs.size f cd).kindOf (ps.zip us) fun _=>none) s1) :
    Inv (cxOf CX P w K mg base N qual scope f cd A outer s H E) [] (start N vs) H s1:=by
  have hpl:ps.length<=N.length:=by have:=congrArg List.length S.pre;rw[List.length_take] at this;omega
  obtain⟨h1,tk,rfl,hk⟩:=x.done
  have noA:∀b:Addr,b ∉ (cxOf CX P w K mg base N qual scope f cd A outer s H E).ex:=fun b z=>absurd (show b∈([]:List Addr) from z) (by simp)
  refine⟨⟨e0.mod,S.kind,rfl,rfl,Nat.le_refl _,fun y z c h1 h2=>?_,fun y hy=>?_,fun y c _ h=>?_,fun _=>hd,Around.frames_deeper e0.frames,.inr ⟨rfl,rfl⟩,fun b z=>absurd z (noA b),e0.bs,e0.bsz,fun b _ _=>noA b,fun b z=>absurd z (noA b),e0.funs,e0.frf⟩,
    rfl,e0.bare,Un.kept hk,⟨_,x.toInCall.ns,fun i y v h1 h2 h3=>?_⟩,fun y c h=>⟨_,x.cell y c h⟩,e0.hok.fresh (Nat.le_refl _),fun y c h=>?_,fun p hp=>absurd (show p∈([]:List (Addr×Obj)) from hp) (by simp),e0.hok.kept hk,?_⟩
  · exact name_of_addr x.apart (PySem.mem_of_lookup h1) (PySem.mem_of_lookup h2)
  · have hy:scope.names.lookup y=some .cell\/scope.names.lookup y=some .free:=hy
    rcases hy with hy | hy
    · exact zk4 hy
    · exact absurd rfl (S.nofree _ (PySem.mem_of_lookup hy))
  · exact Nat.le_of_lt (x.above y c (PySem.mem_of_lookup h))
  · have hi:i<vs.length:=by
      unfold start at h2
      by_cases hi:i<vs.length
      · exact hi
      · rw[List.getElem?_append_right (by simpa using hi)] at h2
        rw[List.getElem?_replicate] at h2
        split at h2<;>cases h2
    have ha:vs[i]? = some v:=by
      unfold start at h2
      rw[List.getElem?_append_left (by simpa using hi),List.getElem?_map] at h2
      cases e:vs[i]? with
      | none=>rw[e] at h2;cases h2
      | some a=>rw[e] at h2;cases h2;rfl
    obtain⟨u,hu,rv⟩:=r.get ha
    have hp:ps[i]? = some y:=by
      rw[←S.pre,List.getElem?_take_of_lt (by omega)];exact h1
    have ndP:ps.Nodup:=by rw[←S.pre];exact S.nd.sublist (List.take_sublist _ _)
    refine⟨u,rv,?_⟩
    rcases S.par y (List.mem_of_getElem? hp) with k | k
    · exact .inl ⟨k,zie ndP hp hu k⟩
    · obtain⟨c,e⟩:=zk4 (n:=s.heap.objs.size+1) k
      refine .inr ⟨.inl k,c,e,?_⟩
      have q:=x.cell y c e
      rw[zif ndP hp hu (by show scope.names.lookup y≠_;rw[k];decide)] at q
      exact q
  · exact e0.hok.fresh (Nat.le_of_lt (x.above y c (PySem.mem_of_lookup h)))
  · unfold start
    show _=N.length
    rw[List.length_append,List.length_map,List.length_replicate]
    omega
theorem zw3 {CX:CXT}{P:Program}{w:World}{K:PySem.W.Frag}{mg:Str->Option Value}{base:Heap}{k:Nat}{f:Addr}{name qual:Str}{params:Arguments}{body:List Stmt}{scope:Scope}{dV kV doc pm cdv ct oc:Value}{an od:Option Addr}
    {osl:Array (Option Value)}{N ps:List Str}{sp:Sp}(lk:K.lookup f=some ⟨oc,od,.func (PySem.W.fnOf name qual params body scope dV kV doc pm an cdv ct),osl⟩) (hcd:PySem.W.codeIn K cdv qual=true) (S:FnScope N ps scope)
    (len:∀vs H Q E,sp vs H Q E->vs.length=ps.length)
    (hbody:∀(A:Around) (outer:List Env) (s:Shared) (H:Hp) (vs:List V) (Q:VK) (E:XK),Room k (A.deeper (envOfC qual scope s.heap.objs.size f cdv))->sp vs H Q E->
      ∃t,PSs (cxOf CX P w K mg base N qual scope f cdv A outer s H E) body t/\t { nx:=fun _ H'=>Q .non H',rt:=Q } (start N vs) H) :
    FnOk P w K mg base CX (k+1) f (PySem.W.fnOf name qual params body scope dV kV doc pm an cdv ct) ps sp:=by
  refine⟨len,fun A outer s H args us vs Q E hr e0 hb r hsp=>?_⟩
  have hl:=len _ _ _ _ hsp
  have KX:K.In s.heap:=e0.mod.kin.keeps fun b o e=>(e0.bs b o e).1
  have lim:s.heap.NoLimit:=e0.mod.nolimit.keeps fun b o e=>(e0.bs b o e).1
  have hkind:∀y∈ps.zip us,scope.names.lookup y.1=some .local\/(scope.names.lookup y.1=some .cell/\((cellsFrom (s.heap.objs.size+1) scope.names []).lookup y.1).isSome=true):=fun ⟨n,v⟩ hy=>by
    rcases S.par n (List.of_mem_zip hy).1 with q | q
    · exact .inl q
    · exact .inr ⟨q,PySem.W.cellsFrom_some _ _ _ (.inl q)⟩
  refine codeAny_call_function hr.depth (KX _ _ lk) rfl S.co S.gen rfl (PySem.W.codeRec_of KX hcd) (hb _ _ _ _ ?_)
  refine wpAny_newFunctionEnv_cells S.kind hkind fun env he s1 x=>?_
  subst he
  refine⟨lim.keeps x.toInCall.keep,codeAny_func ?_⟩
  obtain⟨t,ht,hq⟩:=hbody A outer s H vs Q E (hr.deeper _) hsp
  have I:Inv (cxOf CX P w K mg base N qual scope f cdv A outer s H E) [] (start N vs) H s1:=znw S hr.hd e0 hl r x
  refine wpAny_mono (ht [] s1 (start N vs) H _ I hq) (fun fl s' hs=>?_) fun e s' hs=>hs
  have fin:∀{σ':St}{H':Hp}{v:V}{u:Value},Inv (cxOf CX P w K mg base N qual scope f cdv A outer s H E) [] σ' H' s'->RelV v u->Q v H'->CE outer P w H s Q u s':=
    fun {σ' H' v u} J rv q=>⟨v,H',J.os,J.bare,J.base,J.hok,rv,q⟩
  cases fl with
  | ret u=>
    obtain⟨v,σ',H',J,rv,q⟩:=hs
    exact fin J rv q
  | next=>
    obtain⟨σ',H',J,q⟩:=hs
    exact fin (v:=V.non) (u:=Value.none) J rfl q
  | brk=>
    obtain⟨_,_,_,q⟩:=hs
    exact False.elim q
  | cont=>
    obtain⟨_,_,_,q⟩:=hs
    exact False.elim q
section
variable {X:Cx}{x:Str}{p pos:Pos}{e:Expr}{es:List Expr}{t:TA}{id T:String}{r:List V->Hp->VK->Prop}
def tCB (r:List V->Hp->VK->Prop) (t:TA):TE:=fun σ H Q=>t σ H fun vs H1=>r vs H1 Q
theorem zn (hc:zcb X (.builtin id) r) (hg:Gl X x) (hm:X.mg x=none) (hv:bootBuiltins x=some (.builtin id)) (ha:PA X (e::es) t) (hn:x≠"__name__":=by decide) (hdb:(x == ("__debug__" : Str))=false:=by decide)
    (he:starEach (e::es) X.env=(false,eval e X.env)::starEach es X.env:=by rfl) (hpl:(backTo pos (starEach es X.env)).any (·.1)=false:=by rfl):PE X (.Call (.Name x p) (e::es) [] pos) (tCB r t):=by
  intro pins s σ H Q I h
  refine wpAny_Call_Name_kw (zdo I hg hm hv ?_ hn hdb)
  exact PyProof.Rows.callWith_builtin1 (thn (ha pos pins s σ H _ I h) fun us s1 ⟨vs,H1,I1,r1,q1⟩=>hc pins s1 σ H1 vs us Q I1 r1 q1) he hpl
theorem zbu (hc:zcb X (.type T) r) (hg:Gl X x) (hm:X.mg x=none) (hv:bootBuiltins x=some (.type T)) (ha:PA X (e::es) t) (hn:x≠"__name__":=by decide) (hdb:(x == ("__debug__" : Str))=false:=by decide)
    (he:starEach (e::es) X.env=(false,eval e X.env)::starEach es X.env:=by rfl) (hpl:(backTo pos (starEach es X.env)).any (·.1)=false:=by rfl):PE X (.Call (.Name x p) (e::es) [] pos) (tCB r t):=by
  intro pins s σ H Q I h
  refine wpAny_Call_Name_kw (zdo I hg hm hv ?_ hn hdb)
  exact PyProof.Rows.callWith_type1 (thn (ha pos pins s σ H _ I h) fun us s1 ⟨vs,H1,I1,r1,q1⟩=>hc pins s1 σ H1 vs us Q I1 r1 q1) he hpl
end
end L2
namespace HT
open PySem PyProof.Rows
section
open PySem.SeqAt
open PySem.AutoSeq1 (wpAny_loadPart')
open PySem.MeetsSeq PySem.MeetsSeq2 PySem.MeetsSeq3
end
section
variable {prog:Program}{w:World}{A:Around}{E:Value->Shared->Prop}{s:Shared}
def sIx (n d:Nat):Option Int->Nat
  | none=>d
  | some v=>if v<0 then (v+(n:Int)).toNat else min v.toNat n
end
end HT
namespace L2
open PySem PySem.Spec PyProof.Rows
abbrev TO:=St->Hp->(Option Int->Hp->Prop)->Prop
def PO (X:Cx) (e:Option Expr) (t:TO):Prop:=
  ∀(pins:List (Addr×Obj)) (s:Shared) (σ:St) (H:Hp) (Q:Option Int->Hp->Prop),Inv X pins σ H s->t σ H Q->
    wpAny (model X.prog X.w) X.A (evalPart e X.env) (fun u s'=>∃o H',Inv X pins σ H' s'/\IsPart u o/\Q o H') X.xe s
def znx:TO:=fun _ H Q=>Q none H
def zvk (t:TE):TO:=fun σ H Q=>t σ H fun x H1=>∃i,x = .int i/\Q (some i) H1
section
variable {X:Cx}{e:Expr}{te:TE}{lo hi:Option Expr}{tl th:TO}{pos p2:Pos}
theorem zfc:PO X none znx:=by
  intro pins s σ H Q I h
  rw[evalPart_none]
  exact wpAny_pure ⟨none,H,I,.none,h⟩
theorem zbe (h:PE X e te):PO X (some e) (zvk te):=by
  intro pins s σ H Q I hw
  rw[evalPart_some]
  refine thn (h pins s σ H _ I hw) fun u s1 hq0=>?_
  obtain⟨x,H1,I1,r1,q1⟩:=hq0
  obtain⟨i,rfl,q⟩:=q1
  obtain⟨t,rfl⟩:=r1
  exact⟨some i,H1,I1,.int i t,q⟩
def SlR (X:Cx) (r:V->Option Int->Option Int->Hp->VK->Prop):Prop:=
  ∀(pins:List (Addr×Obj)) (s:Shared) (σ:St) (H:Hp) (x:V) (v vl vu:Value) (lo hi:Option Int) (sl:Addr) (Q:VK),Inv X pins σ H s->RelV x v->s.heap.IsSliceOf sl vl vu .none->IsPart vl lo->IsPart vu hi->r x lo hi H Q->
    ∃T id,typeLookup (.type T) "__getitem__" = pure (some (.builtin id))/\s.TypeIs v T/\wpAny (model X.prog X.w) X.A (getItem v (.ref sl)) (EP X pins σ Q) X.xe s
def tSl (r:V->Option Int->Option Int->Hp->VK->Prop) (te:TE) (tl th:TO):TE:=fun σ H Q=>te σ H fun x H1=>tl σ H1 fun l H2=>th σ H2 fun u H3=>r x l u H3 Q
theorem zbk {r:V->Option Int->Option Int->Hp->VK->Prop}(hr:SlR X r) (he:PE X e te) (hl:PO X lo tl) (hu:PO X hi th):PE X (.Subscript e (.Slice lo hi none p2) pos) (tSl r te tl th):=by
  intro pins s σ H Q I h
  refine Subscript_ (thn (he pins s σ H _ I h) fun v s1 hq0=>?_)
  obtain⟨x,H1,I1,r1,q1⟩:=hq0
  refine wpAny_Slice (thn (hl pins s1 σ H1 _ I1 q1) fun vl s2 ⟨l,H2,I2,pl,q2⟩=>thn (hu pins s2 σ H2 _ I2 q2) fun vu s3 hq0=>?_)
  obtain⟨u,H3,I3,pu,q3⟩:=hq0
  rw[evalPart_none]
  refine wpAny_pure ?_
  have I4:Inv X pins σ H3 { s3 with heap:=s3.heap.push { cls:=.type "slice",data:=.fields #[vl,vu,.none] } }:=I3.kept (t':=s3.toks) fun b ob q=>Heap.get?_push_of_some _ q
  obtain⟨T,id,hT,ht,hg⟩:=hr pins { s3 with heap:=s3.heap.push { cls:=.type "slice",data:=.fields #[vl,vu,.none] } } σ H3 x v vl vu l u s3.heap.objs.size Q I4 r1 (Heap.IsSliceOf.new ..) pl pu q3
  show wpAny (model X.prog X.w) X.A (subscriptTail e (.Slice lo hi none p2) v (.ref s3.heap.objs.size)) (EP X pins σ Q) X.xe { s3 with heap:=s3.heap.push { cls:=.type "slice",data:=.fields #[vl,vu,.none] } }
  exact tail_any (ops:=[.ref s3.heap.objs.size,v]) ht hT hg (by with_unfolding_all rfl)
def cutV (xs:List V) (lo hi:Option Int):List V:=(xs.drop (HT.sIx xs.length 0 lo)).take (HT.sIx xs.length xs.length hi-HT.sIx xs.length 0 lo)
theorem zj0 (xs:List V) (lo hi:Option Int):(cutV xs lo hi).length<=xs.length:=by
  unfold cutV
  rw[List.length_take,List.length_drop]
  omega
end
def ixN (n:Nat) (i:Int):Option Nat:=if 0<=i then (if i<n then some i.toNat else none) else if -(n:Int)<=i then some (i+n).toNat else none
def atI {α:Type}(xs:List α) (i:Int):Option α:=(ixN xs.length i).bind fun j=>xs[j]?
theorem ztc {n:Nat}{i:Int}{j:Nat}(h:ixN n i=some j):seqIndex? i n=some j/\j<n/\-(n:Int)<=i/\i<n:=by
  unfold ixN at h
  by_cases h0:0<=i
  · rw[if_pos h0] at h
    by_cases h1:i<n
    · rw[if_pos h1] at h
      have e:i.toNat=j:=Option.some.inj h
      exact⟨by rw[seqIndex_of h0 h1,e],by omega,by omega,h1⟩
    · rw[if_neg h1] at h;cases h
  · rw[if_neg h0] at h
    by_cases h1 : -(n:Int)<=i
    · rw[if_pos h1] at h
      have e:(i+n).toNat=j:=Option.some.inj h
      exact⟨by rw[seqIndex_neg (by omega) h1,e],by omega,h1,by omega⟩
    · rw[if_neg h1] at h;cases h
theorem zj1 {α:Type}{xs:List α}{i:Int}{v:α}(h:atI xs i=some v):∃j,seqIndex? i xs.length=some j/\xs[j]? = some v/\j<xs.length/\-(xs.length:Int)<=i/\i<xs.length:=by
  unfold atI at h
  cases e:ixN xs.length i with
  | none=>rw[e] at h;cases h
  | some j=>
    rw[e] at h
    obtain⟨h1,h2,h3,h4⟩:=ztc e
    exact⟨j,h1,h,h2,h3,h4⟩
theorem zba {α:Type}{xs:List α}{j:Nat}{v:α}(h:xs[j]? = some v):atI xs (j:Int)=some v:=by
  have hj:j<xs.length:=(List.getElem?_eq_some_iff.mp h).1
  have e:ixN xs.length (j:Int)=some j:=by
    unfold ixN
    rw[if_pos (by omega),if_pos (by omega)];simp
  unfold atI;rw[e];exact h
theorem zqn {α:Type}(xs:List α) (v:α):atI (xs++[v]) (-1)=some v:=by
  have hl:(xs++[v]).length=xs.length+1:=by simp
  have e:ixN (xs++[v]).length (-1)=some xs.length:=by
    unfold ixN
    rw[hl,if_neg (by decide),if_pos (by omega)]
    congr 1
    omega
  unfold atI
  rw[e]
  show (xs++[v])[xs.length]? = some v
  simp
def ztd (b:Expr):Prop:=∀o i,subscripted b false o i=operate [o,i] (getItem o i)
def IxR (X:Cx) (r:R2):Prop:=
  ∀(value slice:Expr) (pins:List (Addr×Obj)) (s:Shared) (σ:St) (H:Hp) (x y:V) (v u:Value) (Q:VK),Inv X pins σ H s->RelV x v->RelV y u->r x y H Q->
    subscripted slice false v u=operate [v,u] (getItem v u)->wpAny (model X.prog X.w) X.A (subscriptTail value slice v u) (EP X pins σ Q) X.xe s
def MtR (X:Cx) (id:String) (r:V->List V->Hp->VK->Prop):Prop:=
  ∀(pins:List (Addr×Obj)) (s:Shared) (σ:St) (H:Hp) (x:V) (xs:List V) (v:Value) (us:List Value) (Q:VK),Inv X pins σ H s->RelV x v->Vals xs us->r x xs H Q->
    wpAny (model X.prog X.w) X.A (call (.builtin id) (v::us)) (EP X pins σ Q) X.xe s
section
variable {X:Cx}{a b:Expr}{ta tb:TE}{pos:Pos}
theorem zan {r:R2}(hr:IxR X r) (ha:PE X a ta) (hb:PE X b tb) (hs:ztd b):PE X (.Subscript a b pos) (tOp r ta tb):=by
  intro pins s σ H Q I h
  exact Subscript_ (binT ha hb I h fun v u s2 x y H2 I2 rx ry q=>hr a b pins s2 σ H2 x y v u Q I2 rx ry q (hs _ _))
def rIxL (K:PySem.W.Frag):R2:=fun x y H Q=>∃p xs i v,x = .ref p/\y = .int i/\SqL K H p xs/\atI xs i=some v/\Q v H
def rIxT (K:PySem.W.Frag):R2:=fun x y H Q=>∃p xs i v,x = .ref p/\y = .int i/\SqT K H p xs/\atI xs i=some v/\Q v H
def rIxS:R2:=fun x y H Q=>∃z i c,x = .str z/\y = .int i/\z.length<=sizeLine/\atI z.cps.toList i=some c/\Q (.str ⟨#[c]⟩) H
theorem zte:IxR X (rIxL X.K):=by
  intro value slice pins s σ H x y v u Q I rx ry h hs
  obtain⟨p,xs,i,z,rfl,rfl,hq,he,q⟩:=h
  cases rx
  obtain⟨t,rfl⟩:=ry
  obtain⟨its,r,pl,hz⟩:=I.list hq
  obtain⟨j,h1,h2,h3,h4,h5⟩:=zj1 he
  obtain⟨w,ew,rw'⟩:=r.get h2
  have hl:=r.length
  have hn:=zia
  have fin:EP X pins σ Q w s:=⟨z,H,I,rw',q⟩
  by_cases h0:0<=i
  · have hj:i.toNat=j:=by
      rw[seqIndex_of h0 h5] at h1
      exact Option.some.inj h1
    exact item_listR pl.isList h0 (by omega) (by rw[hj];simpa using ew) fin hs
  · have hj:(i+(its.toArray.size:Int)).toNat=j:=by
      rw[seqIndex_neg (by omega) h4] at h1
      rw[List.size_toArray,←hl]
      exact Option.some.inj h1
    exact subscriptTail_builtinR (x:=w) pl.isList.typeIs slot_list_getitem.lookup
      (wpAny_getItem_list_neg (Q:=fun r s'=>r=w/\EP X pins σ Q r s') pl.isList (by omega) (by rw[List.size_toArray]<;>omega) (by omega) (by rw[hj];simpa using ew) ⟨rfl,fin⟩) hs
theorem zvl:IxR X (rIxT X.K):=by
  intro value slice pins s σ H x y v u Q I rx ry h hs
  obtain⟨p,xs,i,z,rfl,rfl,hq,he,q⟩:=h
  cases rx
  obtain⟨t,rfl⟩:=ry
  obtain⟨its,r,pl,hz⟩:=I.tuple hq
  obtain⟨j,h1,h2,h3,h4,h5⟩:=zj1 he
  obtain⟨w,ew,rw'⟩:=r.get h2
  have hl:=r.length
  have hn:=zia
  have fin:EP X pins σ Q w s:=⟨z,H,I,rw',q⟩
  exact subscriptTail_builtinR (x:=w) pl.typeIs slot_tuple_getitem.lookup
    (getItem_tuple (j:=j) (Q:=fun r s'=>r=w/\EP X pins σ Q r s') pl (by omega) (by omega) (by rw[List.size_toArray,←hl];exact h1) (by simpa using ew) ⟨rfl,fin⟩) hs
theorem zvm:IxR X rIxS:=by
  intro value slice pins s σ H x y v u Q I rx ry h hs
  obtain⟨z,i,c,rfl,rfl,hz,he,q⟩:=h
  obtain⟨t,rfl⟩:=rx
  obtain⟨t',rfl⟩:=ry
  obtain⟨j,h1,h2,h3,h4,h5⟩:=zj1 he
  have hl:z.cps.toList.length=z.length:=by simp[Str.length]
  rw[hl] at h1 h4 h5
  have hn:=zia
  exact tail_any (typeIs_str s z t) slot_str_getitem.lookup (getItem_str (c:=c) (by
    have e1:decide (i < -(2 ^ 63:Int))=false:=decide_eq_false (by omega)
    have e2:decide (i≥2 ^ 63)=false:=decide_eq_false (by omega)
    rw[e1,e2,Bool.or_false]) (by rw[h1];simpa using h2) ⟨.str ⟨#[c]⟩,H,I.tok _,⟨_,rfl⟩,q⟩) hs
theorem zig (lo hi:Option Int) (n:Nat):(sliceBounds lo hi none n).1=((HT.sIx n 0 lo:Nat):Int)/\(sliceBounds lo hi none n).2.1=((HT.sIx n n hi:Nat):Int)/\(sliceBounds lo hi none n).2.2=1:=by
  refine⟨?_,?_,rfl⟩
  · cases lo with
    | none=>simp[sliceBounds,HT.sIx]
    | some i=>
      simp only [sliceBounds,HT.sIx,Option.getD_none,show (1:Int) > 0 by decide,if_true]
      by_cases h:i<0
      · simp only [h,if_true]<;>omega
      · simp only [h,if_false]<;>omega
  · cases hi with
    | none=>simp[sliceBounds,HT.sIx]
    | some i=>
      simp only [sliceBounds,HT.sIx,Option.getD_none,show (1:Int) > 0 by decide,if_true]
      by_cases h:i<0
      · simp only [h,if_true]<;>omega
      · simp only [h,if_false]<;>omega
theorem zg0 (its:List Value) (lo hi:Option Int):slicePick its.toArray lo hi none=((its.drop (HT.sIx its.length 0 lo)).take (HT.sIx its.length its.length hi-HT.sIx its.length 0 lo)).toArray:=by
  obtain⟨h1,h2,h3⟩:=zig lo hi its.toArray.size
  unfold slicePick
  rw[h1,h2,h3]
  simp only [sliceRange_one,pick_run,List.size_toArray]<;>rfl
def rSlL (K:PySem.W.Frag):V->Option Int->Option Int->Hp->VK->Prop:=fun x lo hi H Q=>∃a xs,x = .ref a/\SqL K H a xs/\∀p,H p=none->Q (.ref p) (upd H p (.lst (cutV xs lo hi)))
theorem ztf:SlR X (rSlL X.K):=by
  intro pins s σ H x v vl vu lo hi sl Q I rx hs pl pu h
  obtain⟨a,xs,rfl,hx,q⟩:=h
  cases rx
  obtain⟨its,r,ht,hz⟩:=I.list hx
  have hlen:=r.length
  refine⟨"list",_,slot_list_getitem.lookup,ht.isList.typeIs,?_⟩
  refine wpAny_getItem_list_slice ht.isList hs pl pu .none (by simp) ?_ (by rw[List.size_toArray]<;>omega)
  rw[zg0,←hlen]
  refine⟨.ref s.heap.objs.size,_,I.laid (t':=s.toks) (o:=.lst (cutV xs lo hi)) (fun b ob q=>Heap.get?_push_of_some _ q) (Nat.le_refl _) ?_,rfl,q _ (I.hok.fresh (Nat.le_refl _))⟩
  exact⟨Nat.le_trans (zj0 xs lo hi) hz,_,0,(r.drop (HT.sIx xs.length 0 lo)).take (HT.sIx xs.length xs.length hi-HT.sIx xs.length 0 lo),Heap.get?_push_size _ rfl⟩
def zcy:V->Bool
  | .non=>true
  | .bl _=>true
  | .int _=>true
  | .str _=>true
  | _=>false
def eqV:V->V->Bool
  | .non,.non=>true
  | .bl a,.bl b=>a == b
  | .bl a,.int b=>(if a then 1 else 0) == b
  | .int a,.bl b=>a == (if b then 1 else 0)
  | .int a,.int b=>a == b
  | .str a,.str b=>a == b
  | _,_=>false
theorem zsg {A:Around}{s:Shared}{y x:V}{u v:Value}(ry:RelV y u) (rx:RelV x v) (fy:zcy y=true) (fx:zcy x=true):SeqAt.EqAt A s u v (eqV y x):=by
  cases y with
  | non=>
    cases ry
    cases x with
    | non=>cases rx;exact SeqAt.EqAt.same _
    | bl b=>cases rx;exact SeqAt.EqAt.none_bool b
    | int b=>obtain⟨t,rfl⟩:=rx;exact SeqAt.EqAt.none_int b t
    | str b=>obtain⟨t,rfl⟩:=rx;exact SeqAt.EqAt.none_str b t
    | _=>exact absurd (show false=true from fx) Bool.false_ne_true
  | bl a=>
    cases ry
    cases x with
    | non=>cases rx;exact SeqAt.EqAt.bool_none a
    | bl b=>cases rx;exact SeqAt.EqAt.bool_bool a b
    | int b=>obtain⟨t,rfl⟩:=rx;exact SeqAt.EqAt.bool_int a b t
    | str b=>obtain⟨t,rfl⟩:=rx;exact SeqAt.EqAt.bool_str a b t
    | _=>exact absurd (show false=true from fx) Bool.false_ne_true
  | int a=>
    obtain⟨t',rfl⟩:=ry
    cases x with
    | non=>cases rx;exact SeqAt.EqAt.int_none a t'
    | bl b=>cases rx;exact SeqAt.EqAt.int_bool a t' b
    | int b=>obtain⟨t,rfl⟩:=rx;exact SeqAt.EqAt.int_int a t' b t
    | str b=>obtain⟨t,rfl⟩:=rx;exact SeqAt.EqAt.int_str a t' b t
    | _=>exact absurd (show false=true from fx) Bool.false_ne_true
  | str a=>
    obtain⟨t',rfl⟩:=ry
    cases x with
    | non=>cases rx;exact SeqAt.EqAt.str_none a t'
    | bl b=>cases rx;exact SeqAt.EqAt.str_bool a t' b
    | int b=>obtain⟨t,rfl⟩:=rx;exact SeqAt.EqAt.str_int a t' b t
    | str b=>obtain⟨t,rfl⟩:=rx;exact SeqAt.EqAt.str_str a t' b t
    | _=>exact absurd (show false=true from fx) Bool.false_ne_true
  | _=>exact absurd (show false=true from fy) Bool.false_ne_true
def eqU (x:V) (u:Value):Bool:=match u with
  | .none=>eqV .non x
  | .bool b=>eqV (.bl b) x
  | .int i _=>eqV (.int i) x
  | .str z _=>eqV (.str z) x
  | _=>false
theorem zsh {x y:V}{u:Value}(r:RelV y u) (f:zcy y=true):eqU x u=eqV y x:=by
  cases y with
  | non=>cases r;rfl
  | bl b=>cases r;rfl
  | int i=>obtain⟨t,rfl⟩:=r;rfl
  | str z=>obtain⟨t,rfl⟩:=r;rfl
  | _=>exact absurd (show false=true from f) Bool.false_ne_true
theorem zj2 {x:V}:∀{xs:List V}{us:List Value},Vals xs us->xs.all zcy=true->us.any (eqU x)=xs.any fun y=>eqV y x
  | _,_,.nil,_=>rfl
  | y::xs,u::us,.cons r t,f=>by
    rw[List.all_cons,Bool.and_eq_true] at f
    rw[List.any_cons,List.any_cons,zsh r f.1,zj2 t f.2]
theorem zg1 {A:Around}{s:Shared}{x:V}{v:Value}(rx:RelV x v) (fx:zcy x=true):∀{xs:List V}{us:List Value},Vals xs us->xs.all zcy=true->∀u∈us,SeqAt.EqAt A s u v (eqU x u)
  | _,_,.nil,_=>fun u hu=>by cases hu
  | y::xs,u::us,.cons r t,f=>fun u' hu=>by
    rw[List.all_cons,Bool.and_eq_true] at f
    rcases List.mem_cons.mp hu with rfl | hu
    · rw[zsh r f.1];exact zsg r rx f.1 fx
    · exact zg1 rx fx t f.2 u' hu
def inV (x:V) (xs:List V):Bool:=xs.any fun y=>eqV y x
def rIn (K:PySem.W.Frag) (neg:Bool):R2:=fun x y H Q=>∃p xs,y = .ref p/\(SqL K H p xs\/SqT K H p xs)/\zcy x=true/\xs.all zcy=true/\Q (.bl (if neg then !inV x xs else inV x xs)) H
theorem zny:OpR X (compareOp .In) (rIn X.K false):=by
  intro pins s σ H x y v u Q I rx ry h
  obtain⟨p,xs,rfl,hq,fx,fs,q⟩:=h
  cases ry
  rcases hq with hq | hq
  · obtain⟨its,r,pl,hz⟩:=I.list hq
    refine SeqAt.in_listAt (eqU x) pl.isList (fun w hw=>zg1 rx fx r fs w (by simpa using hw)) ⟨.bl _,H,I,rfl,?_⟩
    rw[show its.toArray.any (eqU x)=its.any (eqU x) by simp,zj2 r fs]
    exact q
  · obtain⟨its,r,pl,hz⟩:=I.tuple hq
    refine SeqAt.in_tupleAt (eqU x) pl (fun w hw=>zg1 rx fx r fs w (by simpa using hw)) ⟨.bl _,H,I,rfl,?_⟩
    rw[show its.toArray.any (eqU x)=its.any (eqU x) by simp,zj2 r fs]
    exact q
theorem zih:zcb X (.builtin "len") (fun xs H Q=>∃p ys,xs = [.ref p]/\(SqL X.K H p ys\/SqT X.K H p ys)/\Q (.int ys.length) H):=by
  intro pins s σ H xs us Q I r h
  obtain⟨p,ys,rfl,hq,q⟩:=h
  obtain⟨u,rfl,rx⟩:=zbs r
  cases rx
  have hn:=zia
  rcases hq with hq | hq
  · obtain⟨its,r',pl,hz⟩:=I.list hq
    have hlen:=r'.length
    exact Calls.call_len_list pl.isList (by simp only [List.size_toArray]<;>omega) ⟨.int ys.length,H,I.tok _,⟨s.toks+1,by rw[List.size_toArray,hlen]⟩,q⟩
  · obtain⟨its,r',pl,hz⟩:=I.tuple hq
    have hlen:=r'.length
    exact len_tuple pl (by simp only [List.size_toArray]<;>omega) ⟨.int ys.length,H,I.tok _,⟨s.toks+1,by rw[List.size_toArray,hlen]⟩,q⟩
theorem zej:zcb X (.builtin "len") (fun xs H Q=>∃z,xs = [.str z]/\z.length<=sizeLine/\Q (.int z.length) H):=by
  intro pins s σ H xs us Q I r h
  obtain⟨z,rfl,hz,q⟩:=h
  obtain⟨u,rfl,t,rfl⟩:=zbs r
  have hn:=zia
  exact len_str (by omega) ⟨.int z.length,H,I.tok _,⟨_,rfl⟩,q⟩
def tyV (K:PySem.W.Frag) (T:String) (x:V) (H:Hp):Prop:=match x with
  | .str _=>T = "str"
  | .int _=>T = "int"
  | .ref p=>(T = "list"/\∃xs,SqL K H p xs)\/(T = "tuple"/\∃o,K.lookup p=some o/\o.cls = .type "tuple"/\o.dict=none)\/
      (T = "dict"/\((∃kvs,H p=some (.dK kvs))\/∃kvs,H p=some (.dT kvs)))\/(T = "set"/\∃S n,H p=some (.set S n))
  | _=>False
theorem zsi {pins:List (Addr×Obj)}{σ:St}{H:Hp}{s:Shared}{T:String}{x:V}{v:Value}(I:Inv X pins σ H s) (r:RelV x v) (ty:tyV X.K T x H) :
    s.TypeIs v T/\∀a,v = .ref a->∃ob,s.heap.get? a=some ob/\ob.dict=none:=by
  cases x with
  | str z=>
    obtain⟨t,rfl⟩:=r
    cases (show T = "str" from ty)
    exact⟨typeIs_str s z t,fun _ e=>nomatch e⟩
  | int i=>
    obtain⟨t,rfl⟩:=r
    cases (show T = "int" from ty)
    exact⟨typeIs_int s i t,fun _ e=>nomatch e⟩
  | ref p=>
    cases r
    rcases ty with ⟨rfl,xs,hq⟩ | ⟨rfl,o,hk,hc,hd⟩ | ⟨rfl,hk⟩ | ⟨rfl,S,n,hk⟩
    · obtain⟨its,_,pl,_⟩:=I.list hq
      refine⟨pl.isList.typeIs,fun a e=>?_⟩
      cases e
      obtain⟨o,n,e,c,hd,_⟩:=pl
      exact⟨o,e,hd⟩
    · refine⟨⟨o,I.kIn p o hk,hc⟩,fun a e=>?_⟩
      cases e
      exact⟨o,I.kIn _ o hk,hd⟩
    · have z:∃o,s.heap.get? p=some o/\o.ExactDict:=by
        rcases hk with ⟨kvs,hk⟩ | ⟨kvs,hk⟩
        · obtain⟨_,_,_,_,o,_,_,e,ex,_⟩:=I.hok p _ hk
          exact⟨o,e,ex⟩
        · obtain⟨_,_,_,_,o,_,_,e,ex,_⟩:=I.hok p _ hk
          exact⟨o,e,ex⟩
      obtain⟨o,e,ex⟩:=z
      refine⟨⟨o,e,ex.1⟩,fun a e2=>?_⟩
      cases e2
      exact⟨o,e,ex.2.1⟩
    · obtain⟨o,_,_,_,e,ex,_⟩:=I.hok p _ hk
      refine⟨⟨o,e,ex.1⟩,fun a e2=>?_⟩
      cases e2
      exact⟨o,e,ex.2.1⟩
  | _=>exact False.elim ty
def tBM0 (K:PySem.W.Frag) (T:String) (r:V->List V->Hp->VK->Prop) (to:TE):TE:=fun σ H Q=>to σ H fun x H1=>tyV K T x H1/\r x [] H1 Q
def tBM (K:PySem.W.Frag) (T:String) (r:V->List V->Hp->VK->Prop) (to:TE) (t:TA):TE:=fun σ H Q=>to σ H fun x H1=>tyV K T x H1/\t σ H1 fun xs H2=>r x xs H2 Q
variable {o e:Expr}{es:List Expr}{to:TE}{t:TA}{name:Str}{apos cpos:Pos}{T id:String}{r:V->List V->Hp->VK->Prop}
theorem zvn (pa:PlainAttrs T) (slot:Slot T name id) (hty:typeOf (.builtin id)=pure (.type "method_descriptor")) (hm:MtR X id r) (ho:PE X o to)
    (hbase:attributeBase o name X.env (eval o X.env)=eval o X.env:=by rfl) (hline:(apos.endLine == cpos.line)=true:=by rfl):PE X (.Call (.Attribute o name apos) [] [] cpos) (tBM0 X.K T r to):=by
  intro pins s σ H Q I h
  refine wpAny_Call_method0_late hbase hline (thn (ho pins s σ H _ I h) fun v s1 hq0=>?_)
  obtain⟨x,H1,I1,r1,ty,q1⟩:=hq0
  obtain⟨h1,h2⟩:=zsi I1 r1 ty
  exact⟨T,id,pa,slot,hty,h1,h2,Calls.callWith_builtin rfl (PySem.evalArgs_none (hm pins s1 σ H1 x [] v [] Q I1 r1 .nil q1))⟩
theorem zw4 (pa:PlainAttrs T) (slot:Slot T name id) (hty:typeOf (.builtin id)=pure (.type "method_descriptor")) (hm:MtR X id r) (ho:PE X o to) (ha:PA X (e::es) t)
    (hbase:attributeBase o name X.env (eval o X.env)=eval o X.env:=by rfl)
    (hfew:((backTo cpos (starEach (e::es) X.env)).all (fun x=>!x.1)&&(backToKw cpos (keywordEach [] X.env)).all (fun x=>x.1.isSome)
      && decide ((e::es).length+([]:List Keyword).length+(if ([]:List Keyword).isEmpty then 0 else 1)<30))=true:=by rfl)
    (hline:(apos.endLine == cpos.line)=true:=by rfl) (hs:starEach (e::es) X.env=(false,eval e X.env)::starEach es X.env:=by rfl) (hplain:(backTo cpos (starEach es X.env)).any (·.1)=false:=by rfl) :
    PE X (.Call (.Attribute o name apos) (e::es) [] cpos) (tBM X.K T r to t):=by
  intro pins s σ H Q I h
  refine wpAny_Call_method_late hbase hfew hline rfl (thn (ho pins s σ H _ I h) fun v s1 hq0=>?_)
  obtain⟨x,H1,I1,r1,ty,q1⟩:=hq0
  obtain⟨h1,h2⟩:=zsi I1 r1 ty
  refine⟨T,id,pa,slot,hty,h1,h2,?_⟩
  have hA:=ha cpos pins s1 σ H1 _ I1 q1
  rw[hs] at hA ⊢
  refine Calls.callWith_builtin (by show (false||(backTo cpos (starEach es X.env)).any (·.1))=false;rw[hplain]<;>rfl) (Calls.evalArgs_plain ?_)
  exact thn hA fun us s2 ⟨vs,H2,I2,r2,q2⟩=>hm pins s2 σ H2 x vs v us Q I2 r1 r2 q2
end
def MtM (X:Cx) (id:String) (r:V->List V->Hp->VK->Prop):Prop:=
  ∀(pins:List (Addr×Obj)) (s:Shared) (σ:St) (H:Hp) (x:V) (xs:List V) (v:Value) (us:List Value) (Q:VK),Inv X pins σ H s->RelV x v->Vals xs us->r x xs H Q->
    wpAny (model X.prog X.w) X.A (call (.builtin id) (v::us)) (EP X pins σ Q) X.xe s
theorem Vals.one:∀{x:V}{us:List Value},Vals [x] us->∃u,us = [u]/\RelV x u
  | _,_,.cons r .nil=>⟨_,rfl,r⟩
section
variable {X:Cx}{pins:List (Addr×Obj)}{σ:St}{H:Hp}{s:Shared}{l b:Addr}{xs ys zs:List V}
theorem Inv.lset {its its':List Value}{n:Nat}{f:Array Value->Array Value}{t':Nat}(I:Inv X pins σ H s) (hH:H l=some (.lst xs))
    (e:s.heap.get? l=some { cls:=.type "list",data:=.seq its.toArray n }) (hf:f its.toArray=its'.toArray) (hv:Vals ys its') (hz:ys.length<=sizeLine) :
    Inv X pins σ (upd H l (.lst ys)) { s with heap:=s.heap.update l (Obj.mapSeq f),toks:=t' }:=by
  have q:=PySem.IsL.update e f
  rw[hf] at q
  refine I.write (x:=l) (e:=l) (by rw[hH];exact trivial) (.inl rfl) (fun b' u hb hu=>(Heap.get?_update_other s.heap (Obj.mapSeq f) (Ne.symm hb)).trans hu) ⟨_,q⟩ ?_
  exact⟨hz,its',_,hv,q⟩
theorem Inv.lnew {its:List Value}{t':Nat}(I:Inv X pins σ H s) (hv:Vals ys its) (hz:ys.length<=sizeLine) :
    Inv X pins σ (upd H s.heap.objs.size (.lst ys)) { s with heap:=s.heap.push { cls:=.type "list",data:=.seq its.toArray },toks:=t' }:=
  I.laid (fun _ _ q=>Heap.get?_push_of_some _ q) (Nat.le_refl _) ⟨hz,its,0,hv,Heap.get?_push_size _ rfl⟩
theorem Inv.fresh (I:Inv X pins σ H s):H s.heap.objs.size=none:=I.hok.fresh (Nat.le_refl _)
theorem Inv.lstM (I:Inv X pins σ H s) (hH:H l=some (.lst xs)):xs.length<=sizeLine/\∃(its:List Value) (n:Nat),Vals xs its/\xs.length=its.length/\s.heap.get? l=some { cls:=.type "list",data:=.seq its.toArray n }:=by
  obtain⟨z,its,n,r,e⟩:=I.hok l _ hH
  exact⟨z,its,n,r,r.length,e⟩
theorem zqo {n:Nat}(h:n<=sizeLine):Builtin.List.listTooLong n=false:=by
  unfold Builtin.List.listTooLong
  exact decide_eq_false (by omega)
end
section
variable {X:Cx}
def ztg:V->List V->Hp->VK->Prop:=fun x vs H Q=>∃l xs y,x = .ref l/\vs = [y]/\H l=some (.lst xs)/\xs.length<sizeLine/\Q .non (upd H l (.lst (xs++[y])))
theorem zag:MtM X "list.append" ztg:=by
  intro pins s σ H x vs v us Q I rx rv h
  obtain⟨l,xs,y,rfl,rfl,hH,hz,q⟩:=h
  cases rx
  obtain⟨u,rfl,ru⟩:=rv.one
  obtain⟨z,its,n,r,hl,e⟩:=I.lstM hH
  refine call_meets F.slot_list_append ⟨_,e,rfl⟩ F.entry_list_append (F.args_list_append_2 _ _) (PySem.list_append l its.toArray n u (by rw[List.size_toArray];omega)) ⟨e,?_⟩
  refine⟨.non,_,I.lset (its':=its++[u]) hH e (by simp) (r.append (.cons ru .nil)) ?_,rfl,q⟩
  rw[List.length_append,List.length_singleton]
  omega
def zth:V->List V->Hp->VK->Prop:=fun x vs H Q=>∃l b xs zs,x = .ref l/\vs = [.ref b]/\H l=some (.lst xs)/\H b=some (.lst zs)/\xs.length+zs.length<=sizeLine/\Q .non (upd H l (.lst (xs++zs)))
theorem znz:MtM X "list.extend" zth:=by
  intro pins s σ H x vs v us Q I rx rv h
  obtain⟨l,b,xs,zs,rfl,rfl,hH,hB,hz,q⟩:=h
  cases rx
  obtain⟨u,rfl,ru⟩:=rv.one
  cases ru
  obtain⟨z,its,n,r,hl,e⟩:=I.lstM hH
  obtain⟨z2,its2,n2,r2,hl2,e2⟩:=I.lstM hB
  have hsz:its.toArray.size+its2.toArray.size<=sizeLine:=by rw[List.size_toArray,List.size_toArray];omega
  have hlong:¬(!its.toArray.isEmpty&&Builtin.List.listTooLong (its.toArray.size+its2.toArray.size))=true:=by
    rw[zqo hsz,Bool.and_false]
    exact Bool.false_ne_true
  refine call_meets F.slot_list_extend ⟨_,e,rfl⟩ F.entry_list_extend (F.args_list_extend_2 _ _)
    (AutoSeq1.list_extend_list_list_0 l its.toArray n b its2.toArray n2 hlong (by rw[List.size_toArray];omega) (by omega)) ⟨e,e2,?_⟩
  refine⟨.non,_,I.lset (its':=its++its2) hH e (by simp) (r.append r2) ?_,rfl,q⟩
  rw[List.length_append]
  omega
def rCat:R2:=fun x y H Q=>∃l b xs zs,x = .ref l/\y = .ref b/\H l=some (.lst xs)/\H b=some (.lst zs)/\xs.length+zs.length<=sizeLine/\∀p,H p=none->Q (.ref p) (upd H p (.lst (xs++zs)))
theorem zsj:OpR X (binaryOp .Add) rCat:=by
  intro pins s σ H x y v u Q I rx ry h
  obtain⟨l,b,xs,zs,rfl,rfl,hH,hB,hz,q⟩:=h
  cases rx
  cases ry
  obtain⟨z,its,n,r,hl,e⟩:=I.lstM hH
  obtain⟨z2,its2,n2,r2,hl2,e2⟩:=I.lstM hB
  refine PySem.P.add_list e e2 ?_ (by rw[List.size_toArray,List.size_toArray];omega)
  have ea:its.toArray++its2.toArray=(its++its2).toArray:=by simp
  rw[ea]
  exact⟨.ref _,_,I.lnew (t':=s.toks) (r.append r2) (by rw[List.length_append];omega),rfl,q _ I.fresh⟩
end
section
variable {κ:Type} [DecidableEq κ]
def valV (kvs:List (κ×V)) (k:κ):Option V:=(kvs.find? fun kv=>decide (kv.1=k)).map (·.2)
def putK (kvs:List (κ×V)) (k:κ) (v:V):List (κ×V):=
  if (kvs.any fun kv=>decide (kv.1=k))=true then kvs.map (fun kv=>if kv.1=k then (kv.1,v) else kv) else kvs++[(k,v)]
theorem zdr {p:κ×V}{r:List (κ×V)}{k:κ}(e:p.1=k):valV (p::r) k=some p.2:=by simp[valV,List.find?_cons,e]
theorem zg2 {p:κ×V}{r:List (κ×V)}{k:κ}(e:¬p.1=k):valV (p::r) k=valV r k:=by simp[valV,List.find?_cons,e]
theorem zez (k:κ):∀kvs:List (κ×V),(kvs.any fun kv=>decide (kv.1=k))=(valV kvs k).isSome
  | []=>rfl
  | p::r=>by
    rw[List.any_cons]
    by_cases e:p.1=k
    · simp only [zdr e,decide_eq_true e,Bool.true_or,Option.isSome_some]
    · rw[zg2 e,decide_eq_false e,Bool.false_or];exact zez k r
theorem zcr (kvs:List (κ×V)) (k:κ) (v:V):(putK kvs k v).length<=kvs.length+1:=by
  unfold putK
  split
  · rw[List.length_map];omega
  · rw[List.length_append,List.length_cons,List.length_nil];omega
theorem zqp {kvs:List (κ×V)}{k:κ}(v:V) (h:valV kvs k=none):putK kvs k v=kvs++[(k,v)]:=by
  unfold putK
  rw[zez,h]
  exact if_neg (by decide)
theorem RelO.isSome_eq {o:Option V}{u:Option Value}(r:RelO o u):o.isSome=u.isSome:=by
  cases o with
  | none=>cases u with
    | none=>rfl
    | some _=>exact (show False from r).elim
  | some _=>cases u with
    | none=>exact (show False from r).elim
    | some _=>rfl
theorem KV.val {kvs:List (κ×V)}{vs:List (κ×Value)}(r:KV kvs vs) (k:κ):RelO (valV kvs k) (valueAt vs k):=by
  unfold KV at r
  induction r with
  | nil=>exact True.intro
  | @cons p q ps qs h t ih=>
    obtain⟨h1,h2⟩:=h
    by_cases e:p.1=k
    · have e':q.1=k:=h1.symm.trans e
      have b:valueAt (q::qs) k=some q.2:=by simp[valueAt,List.find?_cons,e']
      rw[zdr e,b];exact h2
    · have e':¬q.1=k:=fun z=>e (h1.trans z)
      have b:valueAt (q::qs) k=valueAt qs k:=by simp[valueAt,List.find?_cons,e']
      rw[zg2 e,b];exact ih
theorem KV.any {kvs:List (κ×V)}{vs:List (κ×Value)}(r:KV kvs vs) (k:κ):(kvs.any fun kv=>decide (kv.1=k))=vs.any fun kv=>decide (kv.1=k):=by
  unfold KV at r
  induction r with
  | nil=>rfl
  | cons h t ih=>rw[List.any_cons,List.any_cons,ih,h.1]
theorem KV.repl {kvs:List (κ×V)}{vs:List (κ×Value)}(r:KV kvs vs) (k:κ) {y:V}{u:Value}(ry:RelV y u) :
    KV (kvs.map fun kv=>if kv.1=k then (kv.1,y) else kv) (vs.map fun kv=>if kv.1=k then (kv.1,u) else kv):=by
  unfold KV at r ⊢
  induction r with
  | nil=>exact .nil
  | @cons p q ps qs h t ih=>
    rw[List.map_cons,List.map_cons]
    refine .cons ?_ ih
    obtain⟨h1,h2⟩:=h
    by_cases e:p.1=k
    · rw[if_pos e,if_pos (h1.symm.trans e)];exact⟨h1,ry⟩
    · rw[if_neg e,if_neg (fun z=>e (h1.trans z))];exact⟨h1,h2⟩
theorem KV.put {kvs:List (κ×V)}{vs:List (κ×Value)}(r:KV kvs vs) (k:κ) {y:V}{u:Value}(ry:RelV y u):KV (putK kvs k y) (stored vs k u):=by
  unfold putK stored
  rw[r.any k]
  by_cases e:(vs.any fun kv=>decide (kv.1=k))=true
  · rw[if_pos e,if_pos e];exact r.repl k ry
  · rw[if_neg e,if_neg e];exact Paired.snoc r ⟨rfl,ry⟩
theorem KV.length {kvs:List (κ×V)}{vs:List (κ×Value)}(r:KV kvs vs):kvs.length=vs.length:=Paired.length r
end
theorem zmb {P:Program}{w:World}{k:Key}{u:Value}(r:RelV (kV k) u):(za7 P w).is k u=true:=by
  cases k with
  | inl i=>obtain⟨t,e⟩:=(show ∃t,u=Value.int i t from r);subst e;exact zjx P w i t
  | inr x=>obtain⟨t,e⟩:=(show ∃t,u=Value.str x t from r);subst e;exact zjy P w x t
theorem zii {P:Program}{w:World}:∀{ks:List Key}{us:List Value},Vals (ks.map kV) us->ItemsAre (za7 P w) ks us
  | [],_,r=>by rw[List.map_nil] at r;cases r;exact .nil
  | k::ks,_,r=>by
    rw[List.map_cons] at r
    cases r with
    | cons h t=>exact .cons (zmb h) (zii t)
abbrev KT (H:Hp):List (List Key×V)->List (List Key×Addr×Value)->Prop:=Paired fun p q=>p.1=q.1/\H q.2.1=some (.tup (p.1.map kV))/\RelV p.2 q.2.2
theorem KT.val {H:Hp}{kvs:List (List Key×V)}{xs:List (List Key×Addr×Value)}(r:KT H kvs xs) (k:List Key):RelO (valV kvs k) ((atKey xs k).map (·.2)):=by
  induction r with
  | nil=>exact True.intro
  | @cons p q ps qs h t ih=>
    obtain⟨h1,_,h2⟩:=h
    by_cases e:p.1=k
    · have e':q.1=k:=h1.symm.trans e
      have b:atKey (q::qs) k=some q.2:=by simp[atKey,List.find?_cons,e']
      rw[zdr e,b];exact h2
    · have e':¬q.1=k:=fun z=>e (h1.trans z)
      have b:atKey (q::qs) k=atKey qs k:=by simp[atKey,List.find?_cons,e']
      rw[zg2 e,b];exact ih
theorem KT.repl {H:Hp}{kvs:List (List Key×V)}{xs:List (List Key×Addr×Value)}(r:KT H kvs xs) (k:List Key) {y:V}{u:Value}(ry:RelV y u) :
    KT H (kvs.map fun kv=>if kv.1=k then (kv.1,y) else kv) (xs.map (putAt k u)):=by
  induction r with
  | nil=>exact .nil
  | @cons p q ps qs h t ih=>
    rw[List.map_cons,List.map_cons]
    refine .cons ?_ ih
    obtain⟨h1,h2,h3⟩:=h
    unfold putAt
    by_cases e:p.1=k
    · rw[if_pos e,if_pos (h1.symm.trans e)];exact⟨h1,h2,ry⟩
    · rw[if_neg e,if_neg (fun z=>e (h1.trans z))];exact⟨h1,h2,h3⟩
theorem KT.put {H:Hp}{kvs:List (List Key×V)}{xs:List (List Key×Addr×Value)}(r:KT H kvs xs) (k:List Key) {b:Addr}{y:V}{u:Value}(hb:H b=some (.tup (k.map kV))) (ry:RelV y u) :
    KT H (putK kvs k y) (storedH xs k b u):=by
  have e:(kvs.any fun kv=>decide (kv.1=k))=(atKey xs k).isSome:=by
    rw[zez,(r.val k).isSome_eq,Option.isSome_map]
  unfold putK storedH
  rw[e]
  by_cases q:(atKey xs k).isSome=true
  · rw[if_pos q,if_pos q];exact r.repl k ry
  · rw[if_neg q,if_neg q];exact Paired.snoc r ⟨rfl,hb,ry⟩
theorem KT.keeps {H H':Hp}{kvs:List (List Key×V)}{xs:List (List Key×Addr×Value)}(r:KT H kvs xs) (ht:∀b ys,H b=some (.tup ys)->H' b=some (.tup ys)):KT H' kvs xs:=
  Paired.mapP r fun _ _ z=>⟨z.1,ht _ _ z.2.1,z.2.2⟩
section
variable {P:Program}{w:World}{H:Hp}{h:Heap}{a:Addr}
theorem zti {u:HO}(ok:HOk P w H h) (e:Rd H a u):ObjOk P w H h a u:=e.ok ok
theorem zij {kvs:List (Key×V)}(ok:HOk P w H h) (e:Rd H a (.dK kvs)):kvs.length<=sizeLine/\(a == sysModules)=false/\∃vs,KV kvs vs/\h.DictOf (za7 P w) a vs:=
  show ObjOk P w H h a (.dK kvs) from zti ok e
theorem ztj {kvs:List (Key×V)}(ok:HOk P w H h) (e:H a=some (.dK kvs)):kvs.length<=sizeLine/\(a == sysModules)=false/\∃vs,KV kvs vs/\h.DictOf (za7 P w) a vs:=zij ok (.inl e)
theorem zik {ks:List Key}(ok:HOk P w H h) (e:H a=some (.tup (ks.map kV))):(tupleKind (za7 P w)).is h ks a:=by
  obtain⟨_,its,r,o,h1,h2,n,h3⟩:=(show ObjOk P w H h a (.tup (ks.map kV)) from ok a _ e)
  exact⟨o,its.toArray,n,h1,h2,h3,by simpa using zii r⟩
theorem zmc {kvs:List (List Key×V)}(ok:HOk P w H h) (e:Rd H a (.dT kvs)):kvs.length<=sizeLine/\(a == sysModules)=false/\
    ∃xs,KT H kvs xs/\h.DictOfH (tupleKind (za7 P w)) a xs:=by
  obtain⟨z,y,xs,r,o,es,ep,h1,h2,h3,h4,h5⟩:=(show ObjOk P w H h a (.dT kvs) from zti ok e)
  refine⟨z,y,xs,r,o,es,ep,h1,h2,h3,h4,fun x hx=>?_,h5⟩
  have all:∀{l:List (List Key×V)}{m:List (List Key×Addr×Value)},KT H l m->∀x∈m,(tupleKind (za7 P w)).is h x.1 x.2.1:=by
    intro l m q
    induction q with
    | nil=>intro x hx;exact nomatch hx
    | @cons p q ps qs hq t ih=>
      intro x hx
      rcases List.mem_cons.mp hx with e | hx
      · subst e
        exact zik ok (by rw[←hq.1];exact hq.2.1)
      · exact ih x hx
  exact all r x hx
theorem zw5 {kvs:List (List Key×V)}(ok:HOk P w H h) (e:H a=some (.dT kvs)):kvs.length<=sizeLine/\(a == sysModules)=false/\
    ∃xs,KT H kvs xs/\h.DictOfH (tupleKind (za7 P w)) a xs:=zmc ok (.inl e)
end
def DGet (H:Hp) (a:Addr) (y:V) (r:Option V):Prop:=
  (∃kvs k,Rd H a (.dK kvs)/\y=kV k/\r=valV kvs k)\/∃kvs k b,Rd H a (.dT kvs)/\y = .ref b/\H b=some (.tup (k.map kV))/\r=valV kvs k
def DPut (H:Hp) (a:Addr) (y v:V) (H':Hp):Prop:=
  (∃kvs k,H a=some (.dK kvs)/\y=kV k/\kvs.length<sizeLine/\H'=upd H a (.dK (putK kvs k v)))\/
  ∃kvs k b,H a=some (.dT kvs)/\y = .ref b/\H b=some (.tup (k.map kV))/\kvs.length<sizeLine/\H'=upd H a (.dT (putK kvs k v))
theorem DGet.k {H:Hp}{a:Addr}{kvs:List (Key×V)}{k:Key}(e:H a=some (.dK kvs)):DGet H a (kV k) (valV kvs k):=.inl ⟨kvs,k,.inl e,rfl,rfl⟩
theorem DPut.k {H:Hp}{a:Addr}{kvs:List (Key×V)}{k:Key}{v:V}(e:H a=some (.dK kvs)) (hl:kvs.length<sizeLine):DPut H a (kV k) v (upd H a (.dK (putK kvs k v))):=.inl ⟨kvs,k,e,rfl,hl,rfl⟩
theorem DPut.t {H:Hp}{a b:Addr}{kvs:List (List Key×V)}{k:List Key}{v:V}(e:H a=some (.dT kvs)) (eb:H b=some (.tup (k.map kV))) (hl:kvs.length<sizeLine) :
    DPut H a (.ref b) v (upd H a (.dT (putK kvs k v))):=.inr ⟨kvs,k,b,e,rfl,eb,hl,rfl⟩
section
variable {X:Cx}{pins:List (Addr×Obj)}{σ:St}{H:Hp}{s:Shared}{a:Addr}{y v:V}{u r:Value}{o:Option V}{A:Around}{E:Value->Shared->Prop}
theorem Inv.big (I:Inv X pins σ H s):sysModules<s.heap.objs.size:=by
  have h:mainGlobals<s.heap.objs.size:=(I.mod.glob.keeps I.bk).lt
  exact Nat.lt_trans (by decide) h
theorem zn0 {Q:Value->Shared->Prop}(hu:A.units+1<cLine) (I:Inv X pins σ H s) (g:DGet H a y (some v)) (ry:RelV y u) (h:∀w' s',Inv X pins σ H s'->RelV v w'->Q w' s') :
    wpAny (model X.prog X.w) A (getItem (.ref a) u) Q E s:=by
  rcases g with ⟨kvs,k,e,ey,l⟩ | ⟨kvs,k,b,e,ey,eb,l⟩
  · subst ey
    obtain⟨z,hd,vs,rel,dd⟩:=zij I.hok e
    obtain⟨w',hw,rw'⟩:=RelO.some_of (v:=v) (o:=valueAt vs k) (by rw[l];exact rel.val k)
    exact wpAny_getItem_of (zmb ry) dd.mapOf hw (h w' _ (I.tok _) rw')
  · subst ey
    cases (show u=Value.ref b from ry)
    obtain⟨z,hd,xs,rel,dd⟩:=zmc I.hok e
    obtain⟨w',hw,rw'⟩:=RelO.some_of (v:=v) (o:=(atKey xs k).map (·.2)) (by rw[l];exact rel.val k)
    obtain⟨p,hp,hp2⟩:=Option.map_eq_some_iff.mp hw
    refine wpAny_getItem_heap (tupleKind_room_in1 hu) (zik I.hok eb) dd hp ?_
    rw[hp2]
    exact h w' _ (I.tok _) rw'
theorem d_in {Q:Value->Shared->Prop}(hu:A.units+1<cLine) (I:Inv X pins σ H s) (g:DGet H a y o) (ry:RelV y u) (h:∀s',Inv X pins σ H s'->Q (.bool o.isSome) s') :
    wpAny (model X.prog X.w) A (compareOp .In u (.ref a)) Q E s:=by
  rcases g with ⟨kvs,k,e,ey,l⟩ | ⟨kvs,k,b,e,ey,eb,l⟩
  · subst ey
    obtain⟨z,hd,vs,rel,dd⟩:=zij I.hok e
    refine wpAny_in_of (zmb ry) hd dd.mapOf ?_
    rw[←(rel.val k).isSome_eq,←l]
    exact h _ (I.tok _)
  · subst ey
    cases (show u=Value.ref b from ry)
    obtain⟨z,hd,xs,rel,dd⟩:=zmc I.hok e
    refine wpAny_in_heap (tupleKind_room_in1 hu) (zik I.hok eb) hd dd ?_
    have q:=(rel.val k).isSome_eq
    rw[Option.isSome_map] at q
    rw[←q,←l]
    exact h _ (I.tok _)
theorem ztk {Q:Value->Shared->Prop}(hu:A.units+1<cLine) (I:Inv X pins σ H s) (g:DGet H a y o) (ry:RelV y u) (h:∀s',Inv X pins σ H s'->Q (.bool (!o.isSome)) s') :
    wpAny (model X.prog X.w) A (compareOp .NotIn u (.ref a)) Q E s:=by
  rcases g with ⟨kvs,k,e,ey,l⟩ | ⟨kvs,k,b,e,ey,eb,l⟩
  · subst ey
    obtain⟨z,hd,vs,rel,dd⟩:=zij I.hok e
    refine wpAny_notIn_of (zmb ry) hd dd.mapOf ?_
    rw[←(rel.val k).isSome_eq,←l]
    exact h _ (I.tok _)
  · subst ey
    cases (show u=Value.ref b from ry)
    obtain⟨z,hd,xs,rel,dd⟩:=zmc I.hok e
    refine wpAny_notIn_heap (tupleKind_room_in1 hu) (zik I.hok eb) hd dd ?_
    have q:=(rel.val k).isSome_eq
    rw[Option.isSome_map] at q
    rw[←q,←l]
    exact h _ (I.tok _)
theorem zg3 {h':Heap}{t':Nat}{ob:HO}(I:Inv X pins σ H s) (mu:Mut (H a)) (hs:Heap.SameBut a s.heap h') (he:∃q,h'.get? a=some q) (new:ObjOk X.prog X.w (upd H a ob) h' a ob) :
    Inv X pins σ (upd H a ob) { s with heap:=h',toks:=t' }:=
  I.write (x:=a) (e:=a) mu (.inl rfl) (fun b q hb z=>(hs.2 b hb).trans z) he new
theorem zn1 {P:Program}{w:World}{H':Hp}{h':Heap}{kvs:List (Key×V)}{vs:List (Key×Value)}(z:kvs.length<=sizeLine) (hd:(a == sysModules)=false) (rel:KV kvs vs) (dd:h'.DictOf (za7 P w) a vs) :
    ObjOk P w H' h' a (.dK kvs):=⟨z,hd,vs,rel,dd⟩
theorem zn2 {H':Hp}{Q:Unit->Shared->Prop}(hu:A.units+1<cLine) (I:Inv X pins σ H s) (g:DPut H a y v H') (ry:RelV y u) (rv:RelV v r) (h:∀s',Inv X pins σ H' s'->Q () s') :
    wpAny (model X.prog X.w) A (setItem (.ref a) u r) Q E s:=by
  rcases g with ⟨kvs,k,e,ey,l,eH⟩ | ⟨kvs,k,b,e,ey,eb,l,eH⟩
  · subst ey eH
    obtain⟨z,hd,vs,rel,dd⟩:=ztj I.hok e
    have hz:vs.length<=sizeLine:=by rw[←rel.length];exact z
    have hl:(putK kvs k v).length<=sizeLine:=by have:=zcr kvs k v;omega
    refine wpAny_setItem_pairs (hsz:=hz) (zmb ry) dd fun h' dd' hs=>h _ ?_
    have he:∃q,h'.get? a=some q:=let ⟨q,_,_,hq,_⟩:=dd';⟨q,hq⟩
    exact zg3 I (by rw[e];exact True.intro) hs he (zn1 hl hd (rel.put k rv) dd')
  · subst ey eH
    cases (show u=Value.ref b from ry)
    obtain⟨z,hd,xs,rel,dd⟩:=zw5 I.hok e
    have hz:xs.length<=sizeLine:=by rw[←Paired.length rel];exact z
    have hl:(putK kvs k v).length<=sizeLine:=by have:=zcr kvs k v;omega
    refine wpAny_setItem_heap (hsz:=hz) (tupleKind_room_in1 hu) (zik I.hok eb) dd fun h' dd' hs=>h _ ?_
    obtain⟨q,es,ep,hq,h2,h3,h4,_,h5⟩:=dd'
    refine zg3 I (by rw[e];exact True.intro) hs ⟨q,hq⟩ ⟨hl,hd,_,(rel.put k eb rv).keeps fun c ys ec=>?_,q,es,ep,hq,h2,h3,h4,h5⟩
    rw[zf (zdc ec e (fun z=>nomatch z))]
    exact ec
end
section
variable {X:Cx}{pins:List (Addr×Obj)}{σ:St}{H:Hp}{s:Shared}{a:Addr}{kvs:List (Key×V)}{k:Key}{u:Value}{A:Around}{E:Value->Shared->Prop}
theorem zvo {Q:Value->Shared->Prop}(I:Inv X pins σ H s) (e:Rd H a (.dK kvs)) (h:∀t s',Inv X pins σ H s'->Q (.int kvs.length t) s'):wpAny (model X.prog X.w) A (call (.builtin "len") [.ref a]) Q E s:=by
  obtain⟨z,hd,vs,rel,dd⟩:=zij I.hok e
  refine call_len_dict hd dd (by rw[←rel.length];rw[sizeLine_eq] at z;omega) ?_
  rw[←rel.length]
  exact h _ _ (I.tok _)
end
def NoSl (i:Expr):Prop:=∀ov iv,subscripted i false ov iv=operate [ov,iv] (getItem ov iv)
theorem ztl {prog:Program}{w:World}{A:Around}{E:Value->Shared->Prop}{s:Shared}{env:Env}{value slice:Expr}{pos:Pos}{T id:String}{Q:Value->Shared->Prop}
    (hl:typeLookup (.type T) "__getitem__" = pure (some (.builtin id))) (hs:NoSl slice)
    (h:wpAny (model prog w) A (eval value env) (fun o s₁=>wpAny (model prog w) A (eval slice env) (fun i s₂=>s₂.TypeIs o T/\wpAny (model prog w) A (getItem o i) Q E s₂) E s₁) E s) :
    wpAny (model prog w) A (eval (.Subscript value slice pos) env) Q E s:=by
  refine Subscript_ (wpAny_mono h (fun o s₁ h₁=>wpAny_mono h₁ (fun i s₂ h₂=>?_) fun _ _ x=>x) fun _ _ x=>x)
  obtain⟨hT,h₂⟩:=h₂
  unfold subscriptTail
  refine wpAny_bind ?_
  rw[getitemInPython_of_ne hT.not_modules]
  refine wpAny_bind (wpAny_specialOf hT hl ?_)
  have fin:wpAny (model prog w) A (subscripted slice false o i) (fun r s₃=>wpAny (model prog w) A (letTemporaryGo value o r >>= fun _=>pure r) Q E s₃) E s₂:=by
    rw[hs o i]
    exact wpAny_operating (wpAny_mono h₂ (fun r s₃ h₃=>wpAny_bind (wpAny_letTemporaryGo (wpAny_pure h₃))) fun _ _ x=>x)
  first
    | exact wpAny_pure (wpAny_bind fin)
    | exact wpAny_bind (wpAny_pure (wpAny_bind fin))
    | exact wpAny_bind fin
theorem zj3 {X:Cx}{pins:List (Addr×Obj)}{σ:St}{H:Hp}{s:Shared}{a:Addr}{y:V}{o:Option V}(I:Inv X pins σ H s) (g:DGet H a y o):s.TypeIs (.ref a) "dict":=by
  rcases g with ⟨kvs,k,e,_,_⟩ | ⟨kvs,k,b,e,_,_,_⟩
  · obtain⟨_,_,vs,_,dd⟩:=zij I.hok e
    exact dd.typeIs
  · obtain⟨_,_,xs,_,dd⟩:=zmc I.hok e
    exact dd.typeIs
def zw6 (td ty:TE):TE:=fun σ H Q=>td σ H fun x H1=>ty σ H1 fun y H2=>∃a v,x = .ref a/\DGet H2 a y (some v)/\Q v H2
def tDIn (ty td:TE):TE:=fun σ H Q=>ty σ H fun y H1=>td σ H1 fun x H2=>∃a o,x = .ref a/\DGet H2 a y o/\Q (.bl o.isSome) H2
def ztm (ty td:TE):TE:=fun σ H Q=>ty σ H fun y H1=>td σ H1 fun x H2=>∃a o,x = .ref a/\DGet H2 a y o/\Q (.bl (!o.isSome)) H2
def zw7 (td ty tv:TE):TS:=fun D σ H=>tv σ H fun v H1=>td σ H1 fun x H2=>ty σ H2 fun y H3=>∃a H4,x = .ref a/\DPut H3 a y v H4/\D.nx σ H4
section
variable {X:Cx}{o i e value:Expr}{pos pos' tpos:Pos}{td ty tv:TE}
theorem za1 (hu:X.A.units+1<cLine) (ho:PE X o td) (hi:PE X i ty) (hs:NoSl i):PE X (.Subscript o i pos) (zw6 td ty):=by
  intro pins s σ H Q I h
  refine ztl PySem.F.slot_dict_getitem.lookup hs (thn (ho pins s σ H _ I h) fun u s1 ⟨x,H1,I1,rx,q1⟩=>thn (hi pins s1 σ H1 _ I1 q1) fun iv s2 hq0=>?_)
  obtain⟨y,H2,I2,ry,a,v,ex,g,q2⟩:=hq0
  subst ex
  obtain rfl:u=Value.ref a:=rx
  exact⟨zj3 I2 g,zn0 hu I2 g ry fun w' s3 I3 rw'=>⟨v,H2,I3,rw',q2⟩⟩
theorem zn3 (hu:X.A.units+1<cLine) (hi:PE X i ty) (ho:PE X o td):PC X .In i o (tDIn ty td):=by
  intro pins s σ H Q I h
  refine thn (hi pins s σ H _ I h) fun iv s1 ⟨y,H1,I1,ry,q1⟩=>thn (ho pins s1 σ H1 _ I1 q1) fun u s2 hq0=>?_
  obtain⟨x,H2,I2,rx,a,ov,ex,g,q2⟩:=hq0
  subst ex
  obtain rfl:u=Value.ref a:=rx
  exact d_in hu I2 g ry fun s3 I3=>⟨.bl ov.isSome,H2,I3,rfl,q2⟩
theorem zds (hu:X.A.units+1<cLine) (hi:PE X i ty) (ho:PE X o td):PC X .NotIn i o (ztm ty td):=by
  intro pins s σ H Q I h
  refine thn (hi pins s σ H _ I h) fun iv s1 ⟨y,H1,I1,ry,q1⟩=>thn (ho pins s1 σ H1 _ I1 q1) fun u s2 hq0=>?_
  obtain⟨x,H2,I2,rx,a,ov,ex,g,q2⟩:=hq0
  subst ex
  obtain rfl:u=Value.ref a:=rx
  exact ztk hu I2 g ry fun s3 I3=>⟨.bl (!ov.isSome),H2,I3,rfl,q2⟩
theorem zcc (hu:X.A.units+1<cLine) (ho:PE X o td) (hi:PE X i ty) (hv:PE X value tv) (hs:swapsWith value (some (.Subscript o i pos')) pos.line X.env=pure false) :
    PS X (.Assign [.Subscript o i pos'] value pos) (zw7 td ty tv):=by
  intro pins s σ H D I h
  refine wpAny_Assign_Subscript (thn (hv pins s σ H _ I h) fun r s1 ⟨v,H1,I1,rv,q1⟩=>thn (ho pins s1 σ H1 _ I1 q1) fun u s2 ⟨x,H2,I2,rx,q2⟩=>thn (hi pins s2 σ H2 _ I2 q2) fun iv s3 hq0=>?_) hs
  obtain⟨y,H3,I3,ry,a,H4,ex,g,q3⟩:=hq0
  subst ex
  obtain rfl:u=Value.ref a:=rx
  exact zn2 hu I3 g ry rv fun s4 I4=>⟨σ,H4,I4,q3⟩
end
theorem zqq {P:Program}{w:World}{H:Hp}(h:Heap) (hb:sysModules<h.objs.size):ObjOk P w H (h.push { cls:=.type "dict",data:=.dict #[] }) h.objs.size (.dK []):=
  ⟨Nat.zero_le _,beq_eq_false_iff_ne.mpr (Ne.symm (Nat.ne_of_lt hb)),[],.nil,Heap.DictOf.new h⟩
theorem zqr {P:Program}{w:World}{H:Hp}(h:Heap) (hb:sysModules<h.objs.size):ObjOk P w H (h.push { cls:=.type "dict",data:=.dict #[] }) h.objs.size (.dT []):=
  ⟨Nat.zero_le _,beq_eq_false_iff_ne.mpr (Ne.symm (Nat.ne_of_lt hb)),[],.nil,_,#[],0,Heap.get?_push_size _ rfl,⟨rfl,rfl,rfl⟩,rfl,rfl,List.nodup_nil⟩
def zvp:TE:=fun _ H Q=>∀p,H p=none->Q (.ref p) (upd H p (.dK []))
def zvq:TE:=fun _ H Q=>∀p,H p=none->Q (.ref p) (upd H p (.dT []))
section
variable {X:Cx}{pos:Pos}
theorem zbl:PE X (.Dict [] [] pos) zvp:=fun pins s σ H Q I h=>
  wpAny_Dict_empty ⟨.ref s.heap.objs.size,_,I.laid (a:=s.heap.objs.size) (o:=.dK []) (t':=s.toks) (fun _ _ q=>Heap.get?_push_of_some _ q) (Nat.le_refl _) (zqq s.heap I.big),rfl,h _ (I.hok.fresh (Nat.le_refl _))⟩
theorem zqs:PE X (.Dict [] [] pos) zvq:=fun pins s σ H Q I h=>
  wpAny_Dict_empty ⟨.ref s.heap.objs.size,_,I.laid (a:=s.heap.objs.size) (o:=.dT []) (t':=s.toks) (fun _ _ q=>Heap.get?_push_of_some _ q) (Nat.le_refl _) (zqr s.heap I.big),rfl,h _ (I.hok.fresh (Nat.le_refl _))⟩
end
def zgh (kvs more:List (Key×V)):List (Key×V):=more.foldl (fun acc kv=>putK acc kv.1 kv.2) kvs
theorem KV.merge:∀{more:List (Key×V)}{rs:List (Key×Value)}{kvs:List (Key×V)}{vs:List (Key×Value)},KV more rs->KV kvs vs->KV (zgh kvs more) (merged vs rs):=by
  intro more rs kvs vs r
  unfold KV at r
  induction r generalizing kvs vs with
  | nil=>intro q;exact q
  | @cons p q ps qs h t ih=>
    intro r0
    have e:KV (putK kvs p.1 p.2) (stored vs q.1 q.2):=by
      have:=r0.put p.1 h.2
      rw[←h.1];exact this
    exact ih e
theorem zdt:∀(more kvs:List (Key×V)),(zgh kvs more).length<=kvs.length+more.length
  | [],kvs=>by show kvs.length<=kvs.length+0;omega
  | p::r,kvs=>by
    have h1:=zdt r (putK kvs p.1 p.2)
    have h2:=zcr kvs p.1 p.2
    show (zgh (putK kvs p.1 p.2) r).length<=_
    rw[List.length_cons];omega
structure M2 (X:Cx) (o:Expr) (m:Str) (apos:Pos) (e f:Expr) (cpos:Pos):Prop where
  base:attributeBase o m X.env (eval o X.env)=eval o X.env
  few:((backTo cpos (starEach [e,f] X.env)).all (fun x=>!x.1)&&(backToKw cpos (keywordEach [] X.env)).all (fun x=>x.1.isSome)
    && decide (([e,f]:List Expr).length+([]:List Keyword).length+(if ([]:List Keyword).isEmpty then 0 else 1)<30))=true
  line:(apos.endLine == cpos.line)=true
  trees:backTo cpos (starEach [e,f] X.env) = [(false,eval e X.env),(false,eval f X.env)]
def IsD (H:Hp) (a:Addr):Prop:=(∃kvs,Rd H a (.dK kvs))\/∃kvs,Rd H a (.dT kvs)
theorem zvr {X:Cx}{pins:List (Addr×Obj)}{σ:St}{H:Hp}{s:Shared}{a:Addr}(I:Inv X pins σ H s) (d:IsD H a) :
    s.TypeIs (.ref a) "dict"/\(∀b,Value.ref a = .ref b->∃ob,s.heap.get? b=some ob/\ob.dict=none)/\(a == sysModules)=false:=by
  rcases d with ⟨kvs,e⟩ | ⟨kvs,e⟩
  · obtain⟨_,hd,vs,_,dd⟩:=zij I.hok e
    refine⟨dd.typeIs,fun b q=>?_,hd⟩
    cases q
    obtain⟨ob,_,_,h1,h2,_⟩:=dd
    exact⟨ob,h1,h2.2.1⟩
  · obtain⟨_,hd,xs,_,dd⟩:=zmc I.hok e
    refine⟨dd.typeIs,fun b q=>?_,hd⟩
    cases q
    obtain⟨ob,_,_,h1,h2,_⟩:=dd
    exact⟨ob,h1,h2.2.1⟩
end L2
namespace Att
open PySem PySem.W PySem.Calls PyProof.Rows
theorem zfd {P:Params}{h:Heap}:∀(ns:List Int) (vs:List Value),WellAll P h vs (ns.map WData.int)->IntsAre vs ns:=by
  intro ns
  induction ns with
  | nil=>
    intro vs w
    rw[List.map_nil] at w
    cases w
    exact .nil
  | cons n ns ih=>
    intro vs w
    rw[List.map_cons] at w
    cases w with
    | cons a b=>
      cases a
      exact .cons _ _ (ih _ b)
theorem zn4 {l:OpenLaw}{n:Nat}(hn:l.most=some n) {P:Params}{h:Heap}{args:List WData}{vals:List Value}
    (hpre:l.row.toRowW.claim.pre args=true) (hwl:WellAll P h vals args) :
    ∃a vs ns,vals = [Value.ref a]/\args = [WData.list (ns.map WData.int)]/\h.get? a=some { cls:=.type "list",data:=.seq vs.toArray }/\IntsAre vs ns/\ns.length<=n:=by
  have hsh:WShape.hasAll [] args [.list .int]=true:=(pre_splitW hpre).1
  have hc:l.pre.holds [] { args:=args } = true:=(pre_splitW hpre).2
  obtain⟨d,r,rfl,h1,h2⟩:=hasAllW_cons hsh
  obtain rfl:=hasAllW_nil h2
  obtain⟨xs,rfl,h3⟩:=hasW_list h1
  obtain⟨ns,rfl⟩:=items_int h3
  have hlen:ns.length<=n:=by
    unfold OpenLaw.pre at hc
    have h4:(WTm.not (.lt (.lit (.int (n:Int))) (.len (.arg 0)))).holds [] { args:=[.list (ns.map .int)] } = true:=by
      have h4:=(holds_andW hc).1
      rw[hn] at h4
      exact h4
    have h5:=condW_of h4 (w_not (w_lt w_lit (w_len_list (w_arg rfl))))
    rw[List.length_map] at h5
    refine Nat.le_of_not_lt fun q=>?_
    have q':(n:Int)<((ns.length:Nat):Int):=by omega
    first
      | (rw[decide_eq_true q'] at h5;exact absurd h5 (by decide))
      | (simp at h5;omega)
  cases hwl with
  | cons w1 w2=>
    cases w2
    cases w1 with
    | list ho hall=>exact⟨_,_,ns,rfl,rfl,ho,zfd ns _ hall,hlen⟩
theorem zn5 (l:OpenLaw) (args:List WData):l.row.toRowW.claim.post args (.bool true) args=true:=
  postW_of (r:=l.row.toRowW) (X:=(true == true))
    (show WShape.has [] (.bool true) .bool=true by first | rfl | decide | simp[WShape.has,WShape.arms,WShape.armsAll])
    (show (WTm.eq .res (.lit (.bool true))).value [] { args:=args,res:=some (.bool true),after:=args } = some (.bool (true == true)) from w_eq_bool (w_res rfl) w_lit) rfl
theorem attach_call {l:OpenLaw}{n:Nat}{q:Program}{loose:List Str}{XP:(Str->Option Value)->Heap->Prop}{YP:World->Heap->Prop}{d:DefRec}
    (hn:l.most=some n) (hdf:d.params.defaults = [])
    (call:∀(w:World) (s₀ s₁:Shared) (mg mb:Str->Option Value) (fa:Addr) (o:Obj) (pm cd doc:Value) (a:Addr) (vs:List Value) (ns:List Int),
      Ground q loose [] XP w s₀ mg mb s₁.heap->YP w s₁.heap->
      s₁.heap.get? fa=some o->o.data = .func (docDef d.name d.params d.body d.scope pm cd doc)->s₁.heap.CodeRec cd d.name->mg d.name=some (.ref fa)->
      s₁.heap.get? a=some { cls:=.type "list",data:=.seq vs.toArray }->IntsAre vs ns->ns.length<=n->s₁.gens = #[]->
      codeAny (model l.prog w) callerA (.call (.ref fa) ⟨[.ref a],[]⟩) (fun r s'=>r = .ok (.ret (.bool true))/\OldK s₁.heap s'.heap/\s'.os=s₁.os/\AllBare s'.gens) s₁) :
    WalkO q loose XP YP l.row.toRowW d [] (fun f vs=>PySem.call f vs):=by
  intro w s₀ s₁ mg mb G Y fa o pm cd doc dV kV ho hd hcd hD hmg hg args vals as hpre hlay hrd hwl hlo
  obtain rfl:dV = .none:=Dflts.none hD hdf
  obtain rfl:kV = .none:=Dflts.noKw hD
  obtain⟨a,vs,ns,rfl,rfl,hobj,hints,hlen⟩:=zn4 hn hpre hwl
  refine enter_call (codeAny_mono (call w s₀ s₁ mg mb fa o pm cd doc a vs ns G Y ho (fd_plain hd) hcd hmg hobj hints hlen hg) fun r s' hq=>?_)
  obtain⟨rfl,h2,h3,h4⟩:=hq
  exact⟨.inl ⟨.bool true,.bool true,[],rfl,fun _=>rfl,.bool true,zn5 l _,fun _=>⟨List.Pairwise.nil,fun _ hm=>(nomatch hm)⟩⟩,h2,h3,h4⟩
end Att
namespace L2
open PySem PySem.Spec PyProof.Rows
theorem zil:∀{vs:List Value}{ns:List Int},IntsAre vs ns->Vals (ns.map V.int) vs
  | _,_,.nil=>.nil
  | _,_,.cons n t h=>.cons ⟨t,rfl⟩ (zil h)
def Only (H:Hp):Prop:=∀b,H b=none\/∃o xs,H b=some (.frz o (.lst xs))
theorem zqt {P:Program}{w:World}{K:PySem.W.Frag}{mg mb:Str->Option Value}{CX:CXT}{k:Nat}{fa a:Addr}{fd:FuncData}{x:Str}{sp:Sp}{s₁:Shared}{vs:List Value}{ns:List Int}
    (KX:K.In s₁.heap) (hns:s₁.heap.Ns mainGlobals mg) (hb:s₁.heap.Ns builtinsNs mb) (hbb:∀x:Str,x≠"__name__"->mb x=bootBuiltins x) (hlim:s₁.heap.NoLimit) (hg:s₁.gens = #[])
    (ha:s₁.heap.get? a=some { cls:=.type "list",data:=.seq vs.toArray }) (hi:IntsAre vs ns) (hl:ns.length<=sizeLine) (hr:Room k callerA)
    (F:∀base:Heap,K.In base->base.Ns mainGlobals mg->FnOk P w K mg base CX k fa fd [x] sp) (hbind:∀(s:Shared) (u:Value),BindsTo s fd ⟨[u],[]⟩ [(x,u)])
    (hsp:∀H:Hp,Only H->SqL K H a (ns.map V.int)->sp [.ref a] H (fun v _=>v = .bl true) fun _ _ _=>False)
    (hCX:∀H e s',CX [] H s₁ (fun _ _ _=>False) e s'->False) :
    codeAny (model P w) callerA (.call (.ref fa) ⟨[.ref a],[]⟩) (fun r s'=>r = .ok (.ret (.bool true))/\OldK s₁.heap s'.heap/\s'.os=s₁.os/\AllBare s'.gens) s₁:=by
  have rv:=zil hi
  have lenV:=hi.length
  have core:∀H:Hp,Only H->SqL K H a (ns.map V.int)->HOk P w H s₁.heap->(∀b,H b≠none->b=a)->(H a≠none->K.lookup a=none)->
      codeAny (model P w) callerA (.call (.ref fa) ⟨[.ref a],[]⟩) (fun r s'=>r = .ok (.ret (.bool true))/\OldK s₁.heap s'.heap/\s'.os=s₁.os/\AllBare s'.gens) s₁:=by
    intro H hO hS hok hA hK
    have base_of:∀{b:Addr}{o:Obj},s₁.heap.get? b=some o->H b=none->(hidT s₁.heap H).get? b=some o:=fun e n=>zqa e n
    have noA:∀{b:Addr}{o:Obj}{es:Array DictEntry}{ep:Nat},s₁.heap.get? b=some o->o.data = .dict es ep->H b=none:=fun {b o es ep} e d=>by
      cases q:H b with
      | none=>rfl
      | some u=>
        have e':b=a:=hA b (by rw[q];simp)
        subst e'
        rw[ha] at e;cases e
        have d':Data.seq vs.toArray _=Data.dict es ep:=d
        cases d'
    have nsK:∀{b:Addr}{m:Str->Option Value},s₁.heap.Ns b m->(hidT s₁.heap H).Ns b m:=fun {b m} ⟨o,es,ep,e,d,r⟩=>⟨o,es,ep,base_of e (noA e d),d,r⟩
    have hKb:K.In (hidT s₁.heap H):=fun b o e=>base_of (KX b o e) (by
      cases q:H b with
      | none=>rfl
      | some u=>
        have e':b=a:=hA b (by rw[q];simp)
        subst e'
        rw[hK (by rw[q];simp)] at e;cases e)
    have hM:Mod K mg (hidT s₁.heap H):=⟨hKb,nsK hns,⟨mb,nsK hb,hbb⟩,let ⟨mc,h1,h2⟩:=hlim;⟨mc,nsK h1,h2⟩⟩
    have e0:Env0 P w K mg (hidT s₁.heap H) callerA [] s₁ H:=⟨rfl,hM,fun b o e=>zs1 e,Nat.le_of_eq (znh _ _),trivial,fun b hb=>absurd (show b∈([]:List Addr) from hb) (by simp),hok,.of_eq hg⟩
    refine codeAny_mono ((F _ hKb (nsK hns)).run callerA [] s₁ H ⟨[.ref a],[]⟩ [.ref a] [.ref a] _ _ hr e0 (hbind s₁ (.ref a)) (.cons rfl .nil) (hsp H hO hS)) fun r s' h=>?_
    cases r with
    | error e=>exact (hCX H e s' h).elim
    | ok fl=>
      cases fl with
      | next=>exact False.elim h
      | brk=>exact False.elim h
      | cont=>exact False.elim h
      | ret u=>
        obtain⟨v,H',os,bare,un,hok',r',q⟩:=h
        have q':v = .bl true:=q
        subst q'
        obtain rfl:u=Value.bool true:=r'
        refine⟨rfl,OldK.of_keep fun b o e=>?_,os,bare⟩
        cases q:H b with
        | none=>exact un.keep b o e q (by intro z;exact absurd (show b∈([]:List Addr) from z) (by simp)) (by simp)
        | some u=>
          rcases hO b with z | ⟨ob,xs,z⟩
          · rw[q] at z;cases z
          · have z2:=un.frzs b ob _ z
            obtain⟨e1,_⟩:=hok b _ z
            obtain⟨e2,_⟩:=hok' b _ z2
            rw[e] at e1;cases e1
            exact e2
  cases hk:K.lookup a with
  | some o=>
    have e:=KX a o hk
    rw[ha] at e
    cases e
    refine core (fun _=>none) (fun _=>.inl rfl) (.inr ⟨_,vs.toArray,_,hk,rfl,rfl,rfl,by rw[List.size_toArray,lenV];exact hl,by simpa using rv⟩) (fun b u z=>by have z':(none:Option HO)=some u:=z;cases z') (fun b z=>absurd rfl z) fun z=>absurd rfl z
  | none=>
    refine core (fun b=>if b=a then some (.frz { cls:=.type "list",data:=.seq vs.toArray } (.lst (ns.map V.int))) else none) (fun b=>?_) (.inl (.inr ⟨{ cls:=.type "list",data:=.seq vs.toArray },if_pos rfl⟩)) (fun b u z=>?_) (fun b z=>?_) fun _=>hk
    · by_cases hb:b=a
      · exact .inr ⟨_,_,if_pos hb⟩
      · exact .inl (if_neg hb)
    · by_cases hb:b=a
      · have z':=(if_pos hb).symm.trans z
        cases z'
        subst hb
        exact⟨ha,by rw[List.length_map];exact hl,vs,_,rv,ha⟩
      · have z':=(if_neg hb).symm.trans z
        cases z'
    · by_cases hb:b=a
      · exact hb
      · exact absurd (if_neg hb) z
abbrev KOf {K:PySem.W.Frag}{h:Heap}(_:K.In h):PySem.W.Frag:=K
theorem ztn {l:PySem.W.OpenLaw}{n k:Nat}{q:Program}{loose:List Str}{XP:(Str->Option Value)->Heap->Prop}{YP:World->Heap->Prop}{d:DefRec}{K:Params->PySem.W.Frag}{CX:World->CXT}{sp:World->Sp}{x:Str}
    (hn:l.most=some n) (hn2:n<=sizeLine) (hdf:d.params.defaults = []) (hr:Room k callerA)
    (hY:∀(w:World) (h:Heap),YP w h->(K w.params).In h)
    (F:∀(w:World) (mg:Str->Option Value) (fa:Addr) (h:Heap),(K w.params).In h->h.Ns mainGlobals mg->mg d.name=some (.ref fa)->
      ∃fd:FuncData,(∀(s:Shared) (u:Value),BindsTo s fd ⟨[u],[]⟩ [(x,u)])/\
        ∀base:Heap,(K w.params).In base->base.Ns mainGlobals mg->FnOk l.prog w (K w.params) mg base (CX w) k fa fd [x] (sp w))
    (hsp:∀(w:World) (H:Hp) (a:Addr) (ns:List Int),ns.length<=n->Only H->SqL (K w.params) H a (ns.map V.int)->sp w [.ref a] H (fun v _=>v = .bl true) fun _ _ _=>False)
    (hCX:∀(w:World) (H:Hp) (s:Shared) (e:Value) (s':Shared),CX w [] H s (fun _ _ _=>False) e s'->False) :
    PySem.W.WalkO q loose XP YP l.row.toRowW d [] (fun f vs=>PySem.call f vs):=by
  refine Att.attach_call hn hdf fun w s₀ s₁ mg mb fa o pm cd doc a vs ns G Y ho hd hcd hmg hobj hints hlen hg=>?_
  have KX:=hY w _ Y
  obtain⟨fd,hb,hF⟩:=F w mg fa _ KX G.T.g hmg
  exact zqt KX G.T.g G.T.b G.T.builtins G.T.nolimit hg hobj hints (Nat.le_trans hlen hn2) hr hF hb (fun H hO hS=>hsp w H a ns hlen hO hS) fun H e s'=>hCX w H s₁ e s'
theorem walk_ofK {l:PySem.W.OpenLaw}{n k:Nat}{q:Program}{loose:List Str}{XP:(Str->Option Value)->Heap->Prop}{YP:World->Heap->Prop}{d:DefRec}{K:Params->PySem.W.Frag}{CX:CXT}{sp:PySem.W.Frag->Sp}{x:Str}
    (hn:l.most=some n) (hn2:n<=sizeLine) (hdf:d.params.defaults = []) (hr:Room k callerA)
    (hY:∀(w:World) (h:Heap),YP w h->(K w.params).In h)
    (F:∀(w:World) (mg:Str->Option Value) (fa:Addr) (h:Heap),(K w.params).In h->h.Ns mainGlobals mg->mg d.name=some (.ref fa)->
      ∃fd:FuncData,(∀(s:Shared) (u:Value),BindsTo s fd ⟨[u],[]⟩ [(x,u)])/\
        ∀base:Heap,(K w.params).In base->base.Ns mainGlobals mg->FnOk l.prog w (K w.params) mg base CX k fa fd [x] (sp (K w.params)))
    (hsp:∀(K:PySem.W.Frag) (H:Hp) (a:Addr) (ns:List Int),ns.length<=n->Only H->SqL K H a (ns.map V.int)->sp K [.ref a] H (fun v _=>v = .bl true) fun _ _ _=>False)
    (hCX:∀(H:Hp) (s:Shared) (e:Value) (s':Shared),CX [] H s (fun _ _ _=>False) e s'->False) :
    PySem.W.WalkO q loose XP YP l.row.toRowW d [] (fun f vs=>PySem.call f vs):=
  ztn (K:=K) (CX:=fun _=>CX) (sp:=fun w=>sp (K w.params)) hn hn2 hdf hr hY F (fun w H a ns h1 h2 h3=>hsp (K w.params) H a ns h1 h2 h3) fun _ H s e s'=>hCX H s e s'
def zcd (s:Stmt) (j:Nat):Stmt:=match s with
  | .ClassDef _ _ _ body _ _ _ _ _ _ _=>body.getD j (.Pass ⟨0,0,0,0⟩)
  | _=>.Pass ⟨0,0,0,0⟩
def zdh (s:Stmt):Arguments:=match s with
  | .FunctionDef _ a _ _ _ _ _ _ _ _=>a
  | _=>{ posonlyargs:=[],args:=[],vararg:=none,kwonlyargs:=[],kw_defaults:=[],kwarg:=none,defaults:=[] }
def zce (s:Stmt):List Stmt:=match s with
  | .FunctionDef _ _ b _ _ _ _ _ _ _=>b
  | _=>[]
def zi (s:Stmt):Scope:=match s with
  | .FunctionDef _ _ _ _ _ _ sc _ _ _=>sc
  | _=>{ kind:=.function,names:=[],isGenerator:=false,isCoroutine:=false }
abbrev CX0:CXT:=fun _ _ _ _ _ _=>False
abbrev E0:XK:=fun _ _ _=>False
theorem zto {X:Cx}:zgg CX0 X E0:=fun _ _ _ _ _ _ _ h=>h.elim
structure Fun (K:PySem.W.Frag) (x qual:Str) (st:Stmt) (f:Addr) (fd:FuncData):Prop where
  ex:∃(oc:Value) (od:Option Addr) (kV doc pm:Value) (an:Option Addr) (cdv ct:Value) (osl:Array (Option Value)),
    fd=PySem.W.fnOf x qual (zdh st) (zce st) (zi st) .none kV doc pm an cdv ct/\K.lookup f=some ⟨oc,od,.func fd,osl⟩/\PySem.W.codeIn K cdv qual=true
  kp:PySem.W.keepIn K (.ref f)=true
section
variable {P:Program}{w:World}{K:PySem.W.Frag}{mg:Str->Option Value}{base:Heap}
theorem Fun.ok {x qual:Str}{st:Stmt}{f:Addr}{fd:FuncData}{N ps:List Str}{k:Nat}{sp:Sp}(F:Fun K x qual st f fd) (S:FnScope N ps (zi st)) (len:∀vs H Q E,sp vs H Q E->vs.length=ps.length)
    (hbody:∀(cdv:Value) (A:Around) (outer:List Env) (s:Shared) (H:Hp) (vs:List V) (Q:VK) (E:XK),Room k (A.deeper (envOfC qual (zi st) s.heap.objs.size f cdv))->sp vs H Q E->
      ∃t,PSs (cxOf CX0 P w K mg base N qual (zi st) f cdv A outer s H E).nox (zce st) t/\t { nx:=fun _ H'=>Q .non H',rt:=Q } (start N vs) H):FnOk P w K mg base CX0 (k+1) f fd ps sp:=by
  obtain⟨oc,od,kV,doc,pm,an,cdv,ct,osl,rfl,lk,hcd⟩:=F.ex
  refine zw3 lk hcd S len fun A outer s H vs Q E hr hsp=>?_
  obtain⟨t,h,q⟩:=hbody cdv A outer s H vs Q E hr hsp
  exact⟨t,h.nox,q⟩
theorem zsk {x qual:Str}{st:Stmt}{f:Addr}{oc:Value}{od an:Option Addr}{osl:Array (Option Value)}{kV doc pm cdv ct:Value}(l:K.lookup f=some ⟨oc,od,.func (PySem.W.fnOf x qual (zdh st) (zce st) (zi st) .none kV doc pm an cdv ct),osl⟩)
    (c:PySem.W.codeIn K cdv qual=true) (k:PySem.W.keepIn K (.ref f)=true):Fun K x qual st f (PySem.W.fnOf x qual (zdh st) (zce st) (zi st) .none kV doc pm an cdv ct):=⟨⟨oc,od,kV,doc,pm,an,cdv,ct,osl,rfl,l,c⟩,k⟩
end
theorem zdu {A:Around}{k:Nat}(hr:Room k A):A.units+1<cLine:=Nat.lt_of_le_of_lt (Nat.add_le_add_left (by decide:1<=64) _) hr.units
theorem zo {n:Nat}(h:n<=1000):n<sizeLine:=Nat.lt_of_le_of_lt h (by decide)
section
variable {X:Cx}
theorem pv (i:Nat) {x:Str}{pos:Pos}(hN:X.N[i]? = some x:=by rfl) (hv:Vis X.env.scope x:=by first | exact Or.inl rfl | exact Or.inr (Or.inl rfl) | exact Or.inr (Or.inr rfl)) (hd:(x == ("__debug__" : Str))=false:=by decide)
    (hcd:(x == ("__classdict__" : Str))=false:=by decide):PE X (.Name x pos) (tVar i):=zva hN hv hd hcd
end
theorem iteF {A B:Prop}(h:B):if false=true then A else B:=by
  rw[if_neg Bool.false_ne_true]
  exact h
theorem iteT {A B:Prop}(h:A):if true=true then A else B:=by
  rw[if_pos rfl]
  exact h
theorem ite2 {c A B:Prop} [Decidable c] (h1:c->A) (h2:¬c->B):if c then A else B:=by
  by_cases h:c
  · rw[if_pos h]
    exact h1 h
  · rw[if_neg h]
    exact h2 h
def Same (H H':Hp):Prop:=∀b o,H b=some o->H' b=some o
theorem Same.refl (H:Hp):Same H H:=fun _ _ h=>h
theorem Same.trans {H H1 H2:Hp}(a:Same H H1) (b:Same H1 H2):Same H H2:=fun c o h=>b c o (a c o h)
theorem Same.free {H H':Hp}(e:Same H H') {l:Addr}(h:H' l=Option.none):H l=Option.none:=by
  cases q:H l with
  | none=>rfl
  | some o=>
    rw[e l o q] at h
    cases h
theorem Same.seq {K:PySem.W.Frag}{H H':Hp}{a:Addr}{xs:List V}(e:Same H H') (h:SqL K H a xs):SqL K H' a xs:=by
  rcases h with (h | ⟨o,h⟩) | h
  · exact .inl (.inl (e _ _ h))
  · exact .inl (.inr ⟨o,e _ _ h⟩)
  · exact .inr h
section
variable {X:Cx}
theorem zn6:zcb X (.builtin "len") (fun xs H Q=>∃a kvs,xs = [V.ref a]/\H a=some (.dK kvs)/\Q (.int kvs.length) H):=by
  intro pins s σ H xs us Q I r h
  obtain⟨a,kvs,rfl,ha,q⟩:=h
  obtain⟨u,rfl,ru⟩:=zbs r
  cases ru
  exact zvo I (.inl ha) fun t s' I'=>⟨.int kvs.length,H,I',⟨t,rfl⟩,q⟩
end
def zck (cells:List (Str×Addr)):List (Str×NameKind)->List (Str×Addr)->List (Str×Addr)
  | [],cs=>cs
  | (n,k)::r,cs=>zck cells r (if (k == NameKind.free)=true then (match cells.lookup n with | some c=>(n,c)::cs | none=>cs) else cs)
theorem zeo {scope:Scope}{env:Env}(h:∀x∈scope.names,x.2 = .free->∃c,env.cells.lookup x.1=some c):closureFor scope env=pure (zck env.cells scope.names []):=by
  unfold closureFor
  have go:∀(names:List (Str×NameKind)) (cs:List (Str×Addr)),(∀x∈names,x.2 = .free->∃c,env.cells.lookup x.1=some c)->
      (forIn names cs (fun (x:Str×NameKind) (r:List (Str×Addr))=>if (x.2 == NameKind.free)=true then (do let a ←cellOf env x.1;pure (ForInStep.yield ((x.1,a)::r))) else pure (ForInStep.yield r)):Sem (List (Str×Addr)))=pure (zck env.cells names cs):=by
    intro names
    induction names with
    | nil=>intro cs _;rfl
    | cons x r ih=>
      intro cs hc
      obtain⟨n,k⟩:=x
      have hr:∀y∈r,y.2 = .free->∃c,env.cells.lookup y.1=some c:=fun y hy=>hc y (List.mem_cons_of_mem _ hy)
      rw[List.forIn_cons]
      cases e:(k == NameKind.free) with
      | true=>
        obtain⟨c,hl⟩:=hc (n,k) List.mem_cons_self (by simpa using e)
        have hl':env.cells.lookup n=some c:=hl
        have ec:cellOf env n=pure c:=by unfold cellOf;rw[hl']
        show (_ >>= _)=pure (zck env.cells r (if (k == NameKind.free)=true then _ else _))
        rw[e,hl']
        simp only [if_true,ec,pure_bind]
        exact ih _ hr
      | false=>
        show (_ >>= _)=pure (zck env.cells r (if (k == NameKind.free)=true then _ else _))
        rw[e]
        simp only [Bool.false_eq_true,if_false,pure_bind]
        exact ih _ hr
  exact (congrArg (· >>= fun r=>pure r) (go scope.names [] h)).trans (pure_bind _ _)
theorem zaz {α:Type}{y n:Str}{c:α}{r:List (Str×α)}(h:y=n):((n,c)::r).lookup y=some c:=by
  subst h;simp
theorem za8 {α:Type}{y n:Str}{c:α}{r:List (Str×α)}(h:¬y=n):((n,c)::r).lookup y=r.lookup y:=by
  rw[List.lookup_cons,beq_eq_false_iff_ne.mpr h]
theorem zfe {cells:List (Str×Addr)}{n:Str}{k:NameKind}{cs:List (Str×Addr)}(hs:∀y d,cs.lookup y=some d->cells.lookup y=some d) :
    ∀y d,(if (k == NameKind.free)=true then (match cells.lookup n with | some c=>(n,c)::cs | none=>cs) else cs).lookup y=some d->cells.lookup y=some d:=by
  intro y d h
  split at h
  · split at h
    · rename_i c hc
      by_cases hy:y=n
      · rw[zaz hy] at h
        rw[hy,hc];exact h
      · rw[za8 hy] at h
        exact hs y d h
    · exact hs y d h
  · exact hs y d h
theorem zec (cells:List (Str×Addr)):∀(names:List (Str×NameKind)) (cs:List (Str×Addr)),(∀y d,cs.lookup y=some d->cells.lookup y=some d)->
    ∀y d,(zck cells names cs).lookup y=some d->cells.lookup y=some d
  | [],_,hs,y,d,h=>hs y d h
  | (n,k)::r,cs,hs,y,d,h=>zec cells r _ (zfe hs) y d h
theorem zgi (cells:List (Str×Addr)) {x:Str}{c:Addr}(hc:cells.lookup x=some c):∀(names:List (Str×NameKind)) (cs:List (Str×Addr)),(∀y d,cs.lookup y=some d->cells.lookup y=some d)->
    ((x,NameKind.free)∈names\/cs.lookup x=some c)->(zck cells names cs).lookup x=some c
  | [],_,_,h=>by
    rcases h with h | h
    · cases h
    · exact h
  | (n,k)::r,cs,hs,h=>by
    refine zgi cells hc r _ (zfe hs) ?_
    by_cases hx:(x,NameKind.free)=(n,k)
    · cases hx
      right
      rw[if_pos (by rfl),hc]
      exact zaz rfl
    · rcases h with h | h
      · rcases List.mem_cons.mp h with h | h
        · exact absurd h hx
        · exact .inl h
      · right
        split
        · split
          · rename_i c' hc'
            by_cases hn:x=n
            · rw[zaz hn]
              rw[hn,hc'] at hc
              exact hc
            · rw[za8 hn];exact h
          · exact h
        · exact h
theorem zcf (env:Env) (x:Str):∀names:List (Str×NameKind),
    (names.map fun (n,k)=>if (k == NameKind.free&&env.scope.kind == .function&&env.kindOf n == some .cell) then (n,NameKind.cell) else (n,k)).lookup x =
      (names.lookup x).map fun k=>if (k == NameKind.free&&env.scope.kind == .function&&env.kindOf x == some .cell) then NameKind.cell else k
  | []=>rfl
  | (n,k)::r=>by
    have ih:=zcf env x r
    rw[List.map_cons]
    by_cases hx:x=n
    · subst hx
      rw[zaz rfl]
      show List.lookup x ((if (k == NameKind.free&&env.scope.kind == .function&&env.kindOf x == some .cell)=true then (x,NameKind.cell) else (x,k))::_)=some (if (k == NameKind.free&&env.scope.kind == .function&&env.kindOf x == some .cell)=true then NameKind.cell else k)
      by_cases hc:(k == NameKind.free&&env.scope.kind == .function&&env.kindOf x == some .cell)=true
      · rw[if_pos hc,if_pos hc];exact zaz rfl
      · rw[if_neg hc,if_neg hc];exact zaz rfl
    · rw[za8 hx,←ih]
      show List.lookup x ((if (k == NameKind.free&&env.scope.kind == .function&&env.kindOf n == some .cell)=true then (n,NameKind.cell) else (n,k))::_)=_
      by_cases hc:(k == NameKind.free&&env.scope.kind == .function&&env.kindOf n == some .cell)=true
      · rw[if_pos hc];exact za8 hx
      · rw[if_neg hc];exact za8 hx
theorem zim {scope:Scope}{env:Env}{x:Str}(h:scope.names.lookup x=some .free):(relabel scope env).names.lookup x=some .cell\/(relabel scope env).names.lookup x=some .free:=by
  have e:=zcf env x scope.names
  rw[h] at e
  have e':(relabel scope env).names.lookup x=some (if (NameKind.free == NameKind.free&&env.scope.kind == .function&&env.kindOf x == some .cell)=true then NameKind.cell else NameKind.free):=e
  rw[e']
  split
  · exact .inl rfl
  · exact .inr rfl
theorem zin {scope:Scope}{env:Env}{x:Str}(nc:∀y∈scope.names,y.2≠.cell) (h:(relabel scope env).names.lookup x=some .cell\/(relabel scope env).names.lookup x=some .free):(x,NameKind.free)∈scope.names:=by
  have e:=zcf env x scope.names
  have e':(relabel scope env).names.lookup x=_:=e
  cases q:scope.names.lookup x with
  | none=>
    rw[q] at e'
    rw[e'] at h
    rcases h with h | h<;>cases h
  | some k=>
    rw[q] at e'
    have m:=PySem.mem_of_lookup q
    cases k with
    | free=>exact m
    | cell=>exact absurd rfl (nc _ m)
    | _=>
      rw[e'] at h
      rcases h with h | h<;>cases h
structure CompScope (scope osc:Scope) (cap:List Str):Prop where
  kind:scope.kind = .function
  nocell:∀y∈scope.names,y.2≠.cell
  loc:∀y∈scope.names,y.2 = .local->scope.names.lookup y.1=some .local
  free:∀y∈scope.names,y.2 = .free->osc.names.lookup y.1=some .cell\/osc.names.lookup y.1=some .free
  cap:∀x∈cap,scope.names.lookup x=some .free
def cxC (X:Cx) (N:List Str) (scope:Scope) (C:Addr) (s:Shared) (H:Hp) (ex:List Addr):Cx where
  prog:=X.prog
  w:=X.w
  K:=X.K
  mg:=X.mg
  base:=X.base
  A:=X.A
  N:=N
  s₀:=s
  H₀:=H
  env:=compEnvC scope (zck X.env.cells scope.names []) C X.env
  outer:=X.stack
  stack:=X.stack
  ex:=ex
  fn:=fun _=>false
  calm:=X.calm
  pn:=[]
  xe:=fun _ _=>False
def st0 (own:List Str) (ix:List Nat) (σ:St):St:=own.map (fun _=>none)++ix.map fun i=>(σ[i]?).join
theorem zgj {X:Cx}{pins:List (Addr×Obj)}{σ:St}{H:Hp}{s:Shared}{scope:Scope}{cap:List Str}(I:Inv X pins σ H s) (S:CompScope scope X.env.scope cap) :
    closureFor scope X.env=pure (zck X.env.cells scope.names []):=
  zeo fun x hx hf=>I.ok.has x.1 (S.free x hx hf)
theorem zqu {X:Cx}{pins:List (Addr×Obj)}{σ:St}{H:Hp}{s:Shared}{scope:Scope}{own cap:List Str}{ix:List Nat}{fp:List Addr}{h₁:Heap}{m:Str->Option Value}{tk:Nat}
    (I:Inv X pins σ H s) (S:CompScope scope X.env.scope cap) (hix:ix.map (fun i=>X.N[i]?)=cap.map some) (hf:∀b∈fp,FpOk X pins H b) (hlt:∀b∈fp,b<s.heap.objs.size)
    (hn:h₁.Ns s.heap.objs.size m) (hk:∀b o,s.heap.get? b=some o->h₁.get? b=some o) :
    Inv (cxC X (own++cap) scope s.heap.objs.size s H fp) [] (st0 own ix σ) H { s with heap:=h₁,toks:=tk }:=by
  have sub:∀y d,(zck X.env.cells scope.names []).lookup y=some d->X.env.cells.lookup y=some d:=zec _ _ _ (fun y d h=>by cases h)
  have has:∀y c,(y,NameKind.free)∈scope.names->X.env.cells.lookup y=some c->(zck X.env.cells scope.names []).lookup y=some c:=fun y c hy hc=>zgi _ hc _ _ (fun y d h=>by cases h) (.inl hy)
  have hlen:ix.length=cap.length:=by
    have:=congrArg List.length hix
    simpa using this
  refine⟨⟨I.mod,S.kind,I.ok.glob,I.ok.blt,Nat.le_refl _,fun x y c e1 e2=>I.ok.inj x y c (sub _ _ e1) (sub _ _ e2),fun x hx=>?_,fun x c z=>(by cases z),I.ok.hd,I.ok.frames,.inl rfl,fun b hb=>⟨Nat.ne_of_lt (hlt b hb),fun x c e=>(hf b hb).2.2.2.2.1 x c (sub _ _ e)⟩,I.bs,
      Nat.le_trans I.ok.bsz I.sz,fun b o e hb=>?_,fun b hb z=>?_,I.stack,I.stkFree⟩,rfl,I.bare,Un.kept hk,⟨m,hn,fun i x v e1 e2 e3=>?_⟩,fun x c e=>?_,I.hok.fresh (Nat.le_refl _),fun x c e=>I.freeC x c (sub _ _ e),fun p hp=>absurd (show p∈([]:List (Addr×Obj)) from hp) (by simp),I.hok.kept hk,?_⟩
  · have m':=zin (env:=X.env) S.nocell hx
    obtain⟨c,hc⟩:=I.ok.has x (S.free _ m' rfl)
    exact⟨c,has x c m' hc⟩
  · obtain⟨f0,f1,f2,f3,f4,f5⟩:=hf b hb
    rcases f3 with z | z
    · exact I.ok.noex b o e z
    · exact absurd (Nat.lt_of_lt_of_le (Nat.lt_of_lt_of_le (Heap.lt_size e) I.ok.bsz) z) (Nat.lt_irrefl _)
  · obtain⟨f0,f1,f2,f3,f4,f5⟩:=hf b hb
    rcases List.mem_cons.mp (I.stkSub b z) with z | z
    · exact f1 z
    · exact f2 z
  · have e1:(own++cap)[i]? = some x:=e1
    unfold st0 at e2
    by_cases hi:i<own.length
    · rw[List.getElem?_append_left (by simpa using hi),List.getElem?_map] at e2
      cases q:own[i]? with
      | none=>rw[q] at e2;cases e2
      | some y=>rw[q] at e2;cases e2
    · rw[List.getElem?_append_right (by simpa using hi)] at e1
      rw[List.getElem?_append_right (by simpa using hi),List.length_map,List.getElem?_map] at e2
      generalize i-own.length=j at e1 e2
      cases q:ix[j]? with
      | none=>rw[q] at e2;cases e2
      | some k=>
        rw[q] at e2
        have e2:(σ[k]?).join=some v:=Option.some.inj e2
        have eσ:σ[k]? = some (some v):=by
          cases q2:σ[k]? with
          | none=>rw[q2] at e2;cases e2
          | some o=>rw[q2] at e2;exact congrArg some e2
        have eN:X.N[k]? = some x:=by
          have:=congrArg (fun l=>l[j]?) hix
          simp only [List.getElem?_map,q,e1,Option.map_some] at this
          exact Option.some.inj this
        have hfr:=S.cap x (List.mem_of_getElem? e1)
        have hmem:=PySem.mem_of_lookup hfr
        have hout:=S.free _ hmem rfl
        obtain⟨m0,hn0,hl⟩:=I.loc
        obtain⟨u,r,l⟩:=hl k x v eN eσ (.inr hout)
        rcases l with ⟨kd,_⟩ | ⟨kd,c,e,z⟩
        · have kd:X.env.scope.names.lookup x=some .local:=kd
          rcases hout with ho | ho<;>(have ho:X.env.scope.names.lookup x=_:=ho;rw[kd] at ho;cases ho)
        · exact⟨u,r,.inr ⟨zim hfr,c,has x c hmem e,z.keeps hk⟩⟩
  · obtain⟨v,q⟩:=I.cell x c (sub _ _ e)
    exact⟨v,q.keeps hk⟩
  · show (st0 own ix σ).length=(own++cap).length
    unfold st0
    simp[hlen]
theorem zqv {X:Cx}{pins:List (Addr×Obj)}{σ σ':St}{H H':Hp}{s s':Shared}{scope:Scope}{N:List Str}{fp:List Addr}{h':Heap}
    (I:Inv X pins σ H s) (hf:∀b∈fp,FpOk X pins H b) (J:Inv (cxC X N scope s.heap.objs.size s H fp) [] σ' H' s') (hs:Heap.SameBut s.heap.objs.size s'.heap h'):Inv X pins σ H' { s' with heap:=h' }:=by
  have ne:∀b o,s.heap.get? b=some o->b≠s.heap.objs.size:=fun b o e=>Nat.ne_of_lt (Heap.lt_size e)
  have B:Un (frs X.stack) fp H H' s.heap s'.heap:=J.base
  refine I.call' (s':={ s' with heap:=h' }) (ch:=fp) J.os ⟨fun b o e n hb hx=>?_,fun b o e n hb hx=>?_,B.free,fun b o e hx=>?_,B.tups,B.frzs,B.tbls⟩ (fun b ob e=>?_) J.bare fun b hb=>?_
  · exact (hs.2 b (ne b o e)).trans (B.keep b o e n hb hx)
  · obtain⟨sl,e1⟩:=B.slot b o e n hb hx
    exact⟨sl,(hs.2 b (ne b o e)).trans e1⟩
  · obtain⟨o',e1⟩:=B.there b o e hx
    exact⟨o',(hs.2 b (ne b o e)).trans e1⟩
  · have fr:H' s.heap.objs.size=none:=J.free
    refine (J.hok b ob e).stay (fun c w' hc q=>(hs.2 c ?_).trans q) (fun _ q=>q) fun _ _ q=>q
    rintro rfl
    rcases hc with hc | hc
    · rw[←hc,fr] at e;cases e
    · rw[fr] at hc;cases hc
  · obtain⟨f0,f1,f2,f3,f4,f5⟩:=hf b hb
    exact⟨f3,f1,f4,f5⟩
def PIf (X:Cx) (ifs:List Expr) (t:TT):Prop:=
  ∀(pins:List (Addr×Obj)) (s:Shared) (σ:St) (H:Hp) (Q:Bool->Hp->Prop),Inv X pins σ H s->t σ H Q->
    wpAny (model X.prog X.w) X.A (forIn ifs true fun c r=>if r=true then do let ok ←isTrue c X.env (eval c X.env);pure (ForInStep.yield ok) else pure (ForInStep.yield r)) (TP X pins σ Q) X.xe s
def tYes:TT:=fun _ H Q=>Q true H
theorem zbv {X:Cx}:PIf X [] tYes:=fun _ s σ H Q I h=>wpAny_tests_nil ⟨H,I,h⟩
theorem ztp {X:Cx}{c:Expr}{t:TT}(h:PT X c t):PIf X [c] t:=fun pins s σ H Q I hw=>wpAny_tests_one (h pins s σ H Q I hw)
theorem zdd {prog:Program}{w:World}{A:Around}{R:Result->Shared->Prop}{s:Shared}{elt target iter:Expr}{ifs:List Expr}{scope:Scope}{pos:Pos}{it acc:Value}{env:Env}(I:Nat->Shared->Prop)
    (turn:∀n s,I n s->wpAny (model prog w) A (pyNext it) (fun r s₁=>match r with
      | none=>R (.ok .next) s₁
      | some v=>wpAny (model prog w) A (letOwnedTupleGo target it v) (fun _ s₁'=>wpAny (model prog w) A (assign target env v) (fun _ s₂=>
          wpAny (model prog w) A (forIn ifs true fun c r=>if r=true then do let ok ←isTrue c env (eval c env);pure (ForInStep.yield ok) else pure (ForInStep.yield r)) (fun ok s₃=>
            if ok=true then wpAny (model prog w) A (eval elt env) (fun x s₄=>
              wpAny (model prog w) A (call (.builtin "list.append") [acc,x]) (fun _ s₅=>∃m,m<n/\I m s₅) (notedBy (model prog w) A env fun e s'=>R (.error e) s') s₄) (notedBy (model prog w) A env fun e s'=>R (.error e) s') s₃
            else ∃m,m<n/\I m s₃) (notedBy (model prog w) A env fun e s'=>R (.error e) s') s₂) (notedBy (model prog w) A env fun e s'=>R (.error e) s') s₁') (notedBy (model prog w) A env fun e s'=>R (.error e) s') s₁) (notedBy (model prog w) A env fun e s'=>R (.error e) s') s)
    (n:Nat) (h:I n s):codeAny (model prog w) A (.compLoop (.ListComp elt [⟨target,iter,ifs,0⟩] scope pos) 0 it acc env) R s:=by
  refine codeAny_loop rfl I (fun n s hI=>?_) n h
  show wpAny _ A ((compTurn (.ListComp elt [⟨target,iter,ifs,0⟩] scope pos) 0 it acc env).onRaise (fun x=>do noteFrame x env;theTreesLotGoes x)) _ _ s
  refine wpAny_noted ?_
  rw[compTurn_list]
  refine wpAny_bind (wpAny_standAt (wpAny_bind (wpAny_mono (turn n s hI) (fun r s₁ h₁=>?_) fun _ _ h'=>h')))
  cases r with
  | none=>exact wpAny_pure h₁
  | some v=>
    refine wpAny_bind (wpAny_mono h₁ (fun _ s₁' h₁'=>?_) fun _ _ h'=>h')
    refine wpAny_bind (wpAny_mono h₁' (fun _ s₂ h₂=>wpAny_bind (wpAny_mono h₂ (fun ok s₃ h₃=>?_) fun _ _ h'=>h')) fun _ _ h'=>h')
    cases ok with
    | false=>exact wpAny_pure ⟨rfl,h₃⟩
    | true=>
      exact wpAny_bind (wpAny_bind (wpAny_mono h₃ (fun x s₄ h₄=>wpAny_bind (wpAny_mono h₄ (fun _ s₅ h₅=>wpAny_pure (wpAny_pure ⟨rfl,h₅⟩)) fun _ _ h'=>h')) fun _ _ h'=>h'))
def zqw (own:List Str) (ix:List Nat) (J:It) (g:TG) (tc:TT) (te:TE) (σ:St) (H1:Hp) (D:Addr) (Q:VK):Prop:=
  ∃W:Nat->Nat->St->List V->Hp->Prop,(∃m,W 0 m (st0 own ix σ) [] (upd H1 D (.lst [])))/\∀i m σ' ys H',W i m σ' ys H'->H' D=some (.lst ys)/\
    ((J.stop i H'/\Q (.ref D) H')\/(J.go i H'/\ys.length<sizeLine/\∀x H2,J.yld i H' x H2->g x σ' H2 fun σ3 H3=>tc σ3 H3 fun b H4=>
      if b=true then te σ3 H4 fun y H5=>H5 D=some (.lst ys)/\∃m',m'<m/\W (i+1) m' σ3 (ys++[y]) (upd H5 D (.lst (ys++[y]))) else H4 D=some (.lst ys)/\∃m',m'<m/\W (i+1) m' σ3 ys H4))
def zvs (own:List Str) (ix:List Nat) (wi:TI) (g:TG) (tc:TT) (te:TE):TE:=fun σ H Q=>wi σ H fun J H1=>∀D,H1 D=none->zqw own ix J g tc te σ H1 D Q
section
variable {X:Cx}{tg iter elt:Expr}{ifs:List Expr}{scope:Scope}{pos:Pos}{own cap:List Str}{ix:List Nat}{wi:TI}{g:TG}{tc:TT}{te:TE}
theorem zk5 {pins:List (Addr×Obj)}{σ:St}{s:Shared}{E:Value->Shared->Prop}{RR:Value->Addr->Result->Shared->Prop}{Q:VK}
    (hc:X.calm=true) (S:CompScope scope X.env.scope cap) (hix:ix.map (fun i=>X.N[i]?)=cap.map some)
    (hg:∀C s H ex,PG (cxC X (own++cap) scope C s H ex) tg g) (ht:∀C s H ex,PIf (cxC X (own++cap) scope C s H ex) ifs tc) (he:∀C s H ex,PE (cxC X (own++cap) scope C s H ex) elt te)
    {itv:Value}(h:PIE X pins σ tg (fun J H1=>∀D,H1 D=none->zqw own ix J g tc te σ H1 D Q) itv s)
    (hR:∀(D C:Addr) (s':Shared) (H':Hp) (m:Str->Option Value),s'.heap.Ns C m->FpOk X pins H' C->(∀h',Heap.SameBut C s'.heap h'->Inv X pins σ H' { s' with heap:=h' })->Q (.ref D) H'->RR (.ref D) C (.ok .next) s') :
    wpAny (model X.prog X.w) X.A (newList []) (fun acc s₃=>wpAny (model X.prog X.w) X.A (newFunctionEnv scope X.env.globals (zck X.env.cells scope.names []) [] X.env.qual none .none (some X.env)) (fun cenv s₄=>
      codeAny (model X.prog X.w) X.A (.compStart (.ListComp elt [⟨tg,iter,ifs,0⟩] scope pos) 0 itv acc { cenv with scope:=relabel scope X.env }) (RR acc cenv.locals) s₄) E s₃) E s:=by
  obtain⟨it,fp,tn,J,H2,rfl,I2,T,st2,f2,q2⟩:=h
  refine wpAny_newObj_type (wpAny_newFunctionEnv S.nocell (by intro y hy;simp at hy) (fun h₁ hns₁ hsb₁=>?_) S.kind)
  dsimp only at hns₁ hsb₁ ⊢
  have hD:H2 s.heap.objs.size=none:=I2.hok.fresh (Nat.le_refl _)
  obtain⟨W,⟨m0,w0⟩,turn⟩:=q2 s.heap.objs.size hD
  have I3:Inv X pins σ (upd H2 s.heap.objs.size (.lst [])) { s with heap:=s.heap.push { cls:=.type "list",data:=.seq ([]:List Value).toArray } }:=I2.lnew (t':=s.toks) (its:=[]) .nil (Nat.zero_le _)
  have ltD:∀b∈fp,b<s.heap.objs.size:=fun b hb=>by
    obtain⟨o,e,_⟩:=T.obj 0 _ st2 b hb
    exact Heap.lt_size e
  have f3:∀b∈fp,FpOk X pins (upd H2 s.heap.objs.size (.lst [])) b:=fun b hb=>⟨by rw[zf (Nat.ne_of_lt (ltD b hb))];exact (f2 b hb).1,(f2 b hb).2⟩
  generalize hH:s.heap.push { cls:=.type "list",data:=.seq ([]:List Value).toArray } = H3 at I3 hns₁ hsb₁ ⊢
  have sz:H3.objs.size=s.heap.objs.size+1:=by rw[←hH,Heap.size_push]
  have up:∀b o,H3.get? b=some o->h₁.get? b=some o:=fun b o e=>hsb₁.extBut b o (Nat.ne_of_lt (Heap.lt_size e)) (Heap.get?_push_of_some _ e)
  have old:∀b o,s.heap.get? b=some o->h₁.get? b=some o:=fun b o e=>up b o (by rw[←hH];exact Heap.get?_push_of_some _ e)
  have lt3:∀b∈fp,b<({ s with heap:=H3 }:Shared).heap.objs.size:=fun b hb=>by show b<H3.objs.size;rw[sz];exact Nat.lt_succ_of_lt (ltD b hb)
  have st4:tn 0 h₁:=T.keep _ _ _ st2 fun b _ o e=>old b o e
  have stat:∀{H':Hp},(∀b∈fp,H' b=none)->∀b∈fp,FpOk (cxC X (own++cap) scope H3.objs.size { s with heap:=H3 } (upd H2 s.heap.objs.size (.lst [])) fp) [] H' b:=fun hn b hb=>
    ⟨hn b hb,Nat.ne_of_lt (lt3 b hb),fun z=>(List.mem_cons.mp (I3.stkSub b z)).elim (f2 b hb).2.1 (f2 b hb).2.2.1,.inl hb,fun x c e=>(f2 b hb).2.2.2.2.1 x c (zec _ _ _ (fun y d h=>by cases h) _ _ e),fun p hp=>absurd (show p∈([]:List (Addr×Obj)) from hp) (by simp)⟩
  have loop:∀s₄:Shared,s₄ = { s with heap:=h₁,toks:=s.toks+([]:List (Str×Value)).length }->
      codeAny (model X.prog X.w) X.A (.compLoop (.ListComp elt [⟨tg,iter,ifs,0⟩] scope pos) 0 (.ref it) (.ref s.heap.objs.size) (compEnvC scope (zck X.env.cells scope.names []) H3.objs.size X.env))
        (RR (.ref s.heap.objs.size) H3.objs.size) s₄:=by
    rintro s₄ rfl
    have I4:=zqu (own:=own) (fp:=fp) (tk:=s.toks+([]:List (Str×Value)).length) I3 S hix f3 lt3 hns₁ up
    refine zdd (fun n s'=>∃i σ' ys H',Inv (cxC X (own++cap) scope H3.objs.size { s with heap:=H3 } (upd H2 s.heap.objs.size (.lst [])) fp) [] σ' H' s'/\tn i s'.heap/\(∀b∈fp,H' b=none)/\W i n σ' ys H') ?_ m0
      ⟨0,_,[],_,I4,st4,fun b hb=>(f3 b hb).1,w0⟩
    rintro n s5 ⟨i,σ5,ys,H5,I5,st5,fr5,w5⟩
    obtain⟨hD5,turn5⟩:=turn i n σ5 ys H5 w5
    rcases turn5 with ⟨stop,q⟩ | ⟨go,hz,step⟩
    · refine thn (T.done (cxC X (own++cap) scope H3.objs.size { s with heap:=H3 } (upd H2 s.heap.objs.size (.lst [])) fp) rfl rfl rfl hc i [] s5 σ5 H5 _ I5 (stat fr5) st5 stop) fun r s6 hq0=>?_
      obtain⟨hr,I6⟩:=hq0
      subst hr
      obtain⟨m6,hn6,_⟩:=I6.loc
      exact hR _ _ s6 H5 m6 hn6 (I3.fpOk (Nat.le_refl _) I6.free) (fun h' hs=>zqv I3 f3 I6 hs) q
    · refine thn (T.item (cxC X (own++cap) scope H3.objs.size { s with heap:=H3 } (upd H2 s.heap.objs.size (.lst [])) fp) rfl rfl rfl hc i [] s5 σ5 H5 _ I5 (stat fr5) st5 go) fun r s6 hq0=>?_
      obtain⟨u,hr,h6⟩:=hq0
      subst hr
      refine thn h6 fun _ s7 hq0=>?_
      obtain⟨x,H7,I7,r7,y7,st7,fr7⟩:=hq0
      have I7':=I7.pinned (stat fr7) (T.obj _ _ st7)
      refine wpAny_mono (hg _ _ _ _ _ s7 σ5 H7 x u _ I7' r7 (step x H7 y7)) (fun _ s8 hq0=>?_) fun _ _ z=>False.elim z
      obtain⟨σ8,H8,I8,q8⟩:=hq0
      refine wpAny_mono (ht _ _ _ _ _ s8 σ8 H8 _ I8 q8) (fun ok s9 hq0=>?_) fun _ _ z=>False.elim z
      obtain⟨H9,I9,q9⟩:=hq0
      have again:∀{s':Shared}{σ':St}{H':Hp}{ys':List V}{m':Nat},Inv (cxC X (own++cap) scope H3.objs.size { s with heap:=H3 } (upd H2 s.heap.objs.size (.lst [])) fp) ([]++zh8 fp s7.heap) σ' H' s'->m'<n->W (i+1) m' σ' ys' H'->
          ∃m,m<n/\∃i σ' ys H',Inv (cxC X (own++cap) scope H3.objs.size { s with heap:=H3 } (upd H2 s.heap.objs.size (.lst [])) fp) [] σ' H' s'/\tn i s'.heap/\(∀b∈fp,H' b=none)/\W i m σ' ys H':=fun {s' σ' H' ys' m'} I' hm w'=>by
        refine⟨m',hm,i+1,σ',ys',H',I'.unpinned,T.keep _ _ _ st7 fun b hb o e=>(I'.pin (b,o) (List.mem_append_right _ (List.mem_append_right _ (zc5 hb e)))).1,fun b hb=>?_,w'⟩
        obtain⟨o,e,d⟩:=T.obj _ _ st7 b hb
        exact (I'.pin (b,o) (List.mem_append_right _ (List.mem_append_right _ (zc5 hb e)))).2.1
      cases ok with
      | false=>
        rw[if_neg Bool.false_ne_true] at q9 ⊢
        obtain⟨_,m',hm,w'⟩:=q9
        exact again I9 hm w'
      | true=>
        rw[if_pos rfl] at q9 ⊢
        refine wpAny_mono (he _ _ _ _ _ s9 σ8 H9 _ I9 q9) (fun v s10 hq0=>?_) fun _ _ z=>False.elim z
        obtain⟨y,H10,I10,r10,hD10,m',hm,w'⟩:=hq0
        refine wpAny_mono (zag (X:=cxC X (own++cap) scope H3.objs.size { s with heap:=H3 } (upd H2 s.heap.objs.size (.lst [])) fp) _ s10 σ8 H10 (.ref s.heap.objs.size) [y] (.ref s.heap.objs.size) [v] (fun _ H'=>H'=upd H10 s.heap.objs.size (.lst (ys++[y]))) I10 rfl (.cons r10 .nil) ⟨_,ys,y,rfl,rfl,hD10,hz,rfl⟩)
          (fun _ s11 ⟨_,H11,I11,_,e11⟩=>?_) fun _ _ z=>False.elim z
        subst e11
        exact again I11 hm w'
  exact codeAny_compStart_list (loop _ rfl) (T.self _ 0 _ _ _ st4 (loop _ rfl))
theorem zcs {osc:Scope}(hc:X.calm=true) (S':CompScope scope osc cap) (hix:ix.map (fun i=>X.N[i]?)=cap.map some) (hi:PI X tg iter wi)
    (hg:∀C s H ex,PG (cxC X (own++cap) scope C s H ex) tg g) (ht:∀C s H ex,PIf (cxC X (own++cap) scope C s H ex) ifs tc) (he:∀C s H ex,PE (cxC X (own++cap) scope C s H ex) elt te)
    (hs:∀x,foldedSetIterable iter X.env x=pure x:=by intro _;rfl) (ho:X.env.scope=osc:=by rfl):PE X (.ListComp elt [⟨tg,iter,ifs,0⟩] scope pos) (zvs own ix wi g tc te):=by
  have S:CompScope scope X.env.scope cap:=ho▸S'
  intro pins s σ H Q I h
  rw[eval_ListComp]
  refine wpAny_comprehension_free (use:=none) rfl hs (zgj I S) S.kind S.loc (thn (hi pins s σ H _ I h) fun xv s₁ h₁=>thn h₁ fun itv s₂ h₂=>?_)
  refine zk5 (RR:=fun acc C=>compPost (model X.prog X.w) X.A X.xe none (EP X pins σ Q) acc C) hc S hix hg ht he h₂ fun D C s' H' m hn _ hI q=>?_
  exact⟨m,hn,fun h' hs'=>⟨.ref D,H',hI h' hs',rfl,q⟩⟩
theorem zj4 {osc:Scope}{i:Nat}{y:Str}{py spos:Pos}(hc:X.calm=true) (hN:X.N.Nodup) (hi':X.N[i]? = some y) (hy:X.env.scope.names.lookup y=some .local)
    (hsw:swapsWith (.ListComp elt [⟨tg,iter,ifs,0⟩] scope pos) (some (.Name y py)) spos.line X.env=pure true) (S':CompScope scope osc cap) (hix:ix.map (fun i=>X.N[i]?)=cap.map some) (hi:PI X tg iter wi)
    (hg:∀C s H ex,PG (cxC X (own++cap) scope C s H ex) tg g) (ht:∀C s H ex,PIf (cxC X (own++cap) scope C s H ex) ifs tc) (he:∀C s H ex,PE (cxC X (own++cap) scope C s H ex) elt te)
    (hs:∀x,foldedSetIterable iter X.env x=pure x:=by intro _;rfl) (ho:X.env.scope=osc:=by rfl):PS X (.Assign [.Name y py] (.ListComp elt [⟨tg,iter,ifs,0⟩] scope pos) spos) (tAsg (zvs own ix wi g tc te) (zv i)):=by
  have S:CompScope scope X.env.scope cap:=ho▸S'
  intro pins s σ H D I h
  rw[exec_Assign_Name_used _ _ _ _ hsw]
  refine wpAny_bind (wpAny_standAt (wpAny_bind ?_))
  show wpAny _ X.A (do let _ ←comprehension (.ListComp elt [⟨tg,iter,ifs,0⟩] scope pos) scope X.env _ (newList []) false (eval iter X.env) (some (assign (.Name y py) X.env))) _ _ s
  refine wpAny_bind (wpAny_mono (wpAny_comprehension_free (use:=some (assign (.Name y py) X.env)) (Q:=fun _ s'=>SP X pins D .next s') rfl hs (zgj I S) S.kind S.loc
    (thn (hi pins s σ H _ I h) fun xv s₁ h₁=>thn h₁ fun itv s₂ h₂=>?_)) (fun _ s' hq=>wpAny_pure (wpAny_pure hq)) fun _ _ e=>e)
  refine zk5 (RR:=fun acc C=>compPost (model X.prog X.w) X.A X.xe (some (assign (.Name y py) X.env)) (fun _ s'=>SP X pins D .next s') acc C) hc S hix hg ht he h₂ fun D' C s' H' m hn hF hI q=>?_
  show wpAny _ X.A (assign (.Name y py) X.env (.ref D')) _ _ _
  have I':Inv X pins σ H' s':=hI s'.heap (Heap.SameBut.refl ..)
  refine wpAny_assign_Name (zh6 I' hN hi' (.inl hy) (v:=.ref D') rfl (fun s'' I'' hq0=>?_) (.inr hy))
  obtain⟨a,hs'',ha⟩:=hq0
  obtain⟨f0,f1,f2,f3,f4,f5⟩:=hF
  have hCa:C≠a:=by
    rcases ha with ha | ha
    · rw[ha];exact f1
    · exact fun z=>f4 _ _ ha z.symm
  exact⟨m,hn.sameBut hs'' hCa,fun h' hs'=>⟨_,H',I''.turned (t':=s''.toks) (fun b o hb e=>(hs'.2 b hb).trans e) f0 f1 f3 f4 f5,q⟩⟩
end
structure Fix (J:It) (xs:List V) (P:Hp->Prop):Prop where
  go:∀i H,P H->i<xs.length->J.go i H
  yld:∀i H x H',P H->J.yld i H x H'->H'=H/\(i<xs.length->xs[i]? = some x)
  stop:∀i H,P H->xs.length<=i->J.stop i H
theorem zc6 {K:PySem.W.Frag}{a:Addr}{xs:List V}:Fix (Itl K a) xs (fun H=>SqL K H a xs):=
  ⟨fun i H h hi=>⟨xs,xs[i],h,by simp[hi]⟩,fun i H x H' h y=>⟨y.1,fun _=>y.2 xs h⟩,fun i H h hi=>⟨xs,h,hi⟩⟩
theorem zn7 {lo:Int}{n:Nat}:Fix (Itr lo n) ((List.range n).map fun i=>V.int (lo+(i:Nat))) (fun _=>True):=
  ⟨fun i H h hi=>by show i<n;simpa using hi,fun i H x H' h y=>⟨y.1,fun hi=>by
    have hi':i<n:=by simpa using hi
    rw[List.getElem?_map,List.getElem?_range hi',y.2];rfl⟩,fun i H h hi=>by show n<=i;simpa using hi⟩
theorem zdv {J:It}{xs:List V}{P:Hp->Prop}{own:List Str}{ix:List Nat}{tc:TT}{te:TE}{σ:St}{H1:Hp}{D:Addr}{Q:VK}(F:Fix J xs P) (p:V->Bool) (f:V->V)
    (hP:∀ys,P (upd H1 D (.lst ys))) (hz:xs.length<=sizeLine)
    (ht:∀x∈xs,∀ys (Q':Bool->Hp->Prop),Q' (p x) (upd H1 D (.lst ys))->tc ((st0 own ix σ).set 0 (some x)) (upd H1 D (.lst ys)) Q')
    (he:∀x∈xs,p x=true->∀ys (Q':VK),Q' (f x) (upd H1 D (.lst ys))->te ((st0 own ix σ).set 0 (some x)) (upd H1 D (.lst ys)) Q')
    (hQ:Q (.ref D) (upd H1 D (.lst ((xs.filter p).map f)))):zqw own ix J (zv 0) tc te σ H1 D Q:=by
  refine⟨fun i m σ' ys H'=>m=xs.length-i/\i<=xs.length/\(∀z,σ'.set 0 z=(st0 own ix σ).set 0 z)/\ys=((xs.take i).filter p).map f/\H'=upd H1 D (.lst ys),
    ⟨xs.length,by simp,Nat.zero_le _,fun _=>rfl,by simp,rfl⟩,?_⟩
  rintro i m σ' ys H' ⟨rfl,hi,hσ,rfl,rfl⟩
  refine⟨zb,?_⟩
  by_cases hlt:i<xs.length
  · refine .inr ⟨F.go i _ (hP _) hlt,?_,fun x H2 y=>?_⟩
    · rw[List.length_map]
      have h1:((xs.take i).filter p).length<=(xs.take i).length:=List.length_filter_le _ _
      rw[List.length_take] at h1
      omega
    · obtain⟨e,y'⟩:=F.yld i _ x H2 (hP _) y
      subst e
      have hx:=y' hlt
      have hm:x∈xs:=List.mem_of_getElem? hx
      have tk:=take_succ_filter p xs i x hx
      show tc (σ'.set 0 (some x)) _ _
      rw[hσ]
      refine ht x hm _ _ ?_
      have σσ:∀z,((st0 own ix σ).set 0 (some x)).set 0 z=(st0 own ix σ).set 0 z:=fun z=>List.set_set ..
      cases hp:p x with
      | true=>
        rw[if_pos rfl]
        refine he x hm hp _ _ ⟨zb,xs.length-(i+1),by omega,rfl,hlt,σσ,?_,?_⟩
        · rw[tk,hp];simp
        · rw[zs0]
      | false=>
        rw[if_neg Bool.false_ne_true]
        refine⟨zb,xs.length-(i+1),by omega,rfl,hlt,σσ,?_,?_⟩
        · rw[tk,hp];simp
        · rfl
  · have e:i=xs.length:=by omega
    subst e
    refine .inl ⟨F.stop _ _ (hP _) (Nat.le_refl _),?_⟩
    rw[List.take_length]
    exact hQ
def sg (c:Nat):V:=.str ⟨#[c]⟩
def Its (x:Str):It:=⟨fun i _=>i<x.length,fun i H v H'=>H'=H/\∃c,x.cps.toList[i]? = some c/\v=sg c,fun i _=>x.length<=i⟩
theorem ztq {x:Str}:Fix (Its x) (x.cps.toList.map sg) (fun _=>True):=by
  have hl:x.cps.toList.length=x.length:=by simp[Str.length]
  refine⟨fun i H _ hi=>?_,fun i H v H' _ y=>⟨y.1,fun _=>?_⟩,fun i H _ hi=>?_⟩
  · rw[List.length_map,hl] at hi;exact hi
  · obtain⟨_,c,hc,rfl⟩:=y
    rw[List.getElem?_map,hc];rfl
  · rw[List.length_map,hl] at hi;exact hi
theorem zk6 {P:Program}{w:World}{K:PySem.W.Frag}{tg:Expr}(it:Addr) (x:Str) (t:Tok) (ty:String)
    (hty : ["enumerate","zip","dict_itemiterator","dict_reverseitemiterator","odict_iterator","itertools.zip_longest","itertools.pairwise"].contains ty=false)
    (hi:∀{A:Around}{E:Value->Shared->Prop}{s:Shared}{i c:Nat}{Q:Option Value->Shared->Prop},s.heap.IsStrIter it ty x t i->x.cps[i]? = some c->
      (∀h',h'.IsStrIter it ty x t (i+1)->Heap.SameBut it s.heap h'->Q (some (.str ⟨#[c]⟩ s.toks)) { s with heap:=h',toks:=s.toks+1 })->wpAny (model P w) A (pyNext (.ref it)) Q E s)
    (hd:∀{A:Around}{E:Value->Shared->Prop}{s:Shared}{i:Nat}{Q:Option Value->Shared->Prop},A.handled=none->s.heap.IsStrIter it ty x t i->x.cps[i]? = none->
      (∀h',Heap.ExtBut it s.heap h'->Q none { s with heap:=h' })->wpAny (model P w) A (pyNext (.ref it)) Q E s)
    (hs:∀{A:Around}{E:Value->Shared->Prop}{s:Shared}{i:Nat}{Q:Value->Shared->Prop},s.heap.IsStrIter it ty x t i->Q (.ref it) s->wpAny (model P w) A (pyIter (.ref it)) Q E s) :
    Turn P w K tg (Its x) [it] it (fun i h=>h.IsStrIter it ty x t i) where
  mem:=by simp
  obj:=fun i h st b hb=>by
    have e:b=it:=by simpa using hb
    subst e
    obtain⟨o,e,c,d⟩:=st
    exact⟨o,e,fun v z=>by rw[d] at z;cases z⟩
  keep:=fun i h h' st k=>let ⟨o,ho,r⟩:=st;⟨o,k it (by simp) o ho,r⟩
  item:=by
    intro X hP hw hK hc i pins s σ H E I hf st hg
    subst hP hw hK
    obtain⟨f0,f1,f2,f3,f4,f5⟩:=hf it (by simp)
    have hg:i<x.cps.size:=hg
    refine hi st (c:=x.cps[i]) (by simp[hg]) fun h' st' sb=>?_
    have I1:Inv X pins σ H { s with heap:=h',toks:=s.toks+1 }:=I.turned (fun b o hb e=>(sb.2 b hb).trans e) f0 f1 f3 f4 f5
    obtain⟨o,e,c,d⟩:=id st'
    exact⟨_,rfl,zni (s:={ s with heap:=h',toks:=s.toks+1 }) e c d hty ⟨sg x.cps[i],H,I1,⟨_,rfl⟩,⟨rfl,x.cps[i],by simp[hg],rfl⟩,st',fun b hb=>(hf b hb).1⟩⟩
  done:=by
    intro X hP hw hK hc i pins s σ H E I hf st hg
    subst hP hw hK
    obtain⟨f0,f1,f2,f3,f4,f5⟩:=hf it (by simp)
    have hg:x.cps.size<=i:=hg
    exact hd (I.ok.hd hc) st (by simpa using hg) fun h' eb=>⟨rfl,I.turned (t':=s.toks) (fun b o hb e=>eb b o hb e) f0 f1 f3 f4 f5⟩
  self:=fun _ _ _ _ _ st h=>hs st h
def iStr (tl:TE):TI:=fun σ H R=>tl σ H fun v H1=>∃x,v = .str x/\R (Its x) H1
theorem zvt {X:Cx}{tg l:Expr}{tl:TE}(hl:PE X l tl):PI X tg l (iStr tl):=by
  intro pins s σ H R I h
  refine thn (hl pins s σ H _ I h) fun v s1 hq0=>?_
  obtain⟨y,H1,I1,r1,q1⟩:=hq0
  obtain⟨x,rfl,q⟩:=q1
  obtain⟨t,rfl⟩:=r1
  have fin:∀(ty:String),(Turn X.prog X.w X.K tg (Its x) [s1.heap.objs.size] s1.heap.objs.size (fun i h=>h.IsStrIter s1.heap.objs.size ty x t i))->
      PIE X pins σ tg R (.ref s1.heap.objs.size) { s1 with heap:=s1.heap.push { cls:=.type ty,data:=.fields #[.str x t,.int 0 0] } }:=fun ty T=>by
    refine⟨s1.heap.objs.size,[s1.heap.objs.size],_,_,H1,rfl,I1.kept (t':=s1.toks) fun b o e=>Heap.get?_push_of_some _ e,T,⟨_,Heap.get?_push_size _ rfl,rfl,rfl⟩,fun b hb=>?_,q⟩
    have e:b=s1.heap.objs.size:=by simpa using hb
    subst e
    exact I1.fpOk (Nat.le_refl _) (I1.hok.fresh (Nat.le_refl _))
  cases ha:x.cps.all (· < 128)
  · exact wpAny_pyIter_wide ha (fin "str_iterator" (zk6 _ x t _ (by decide) wpAny_pyNext_wide_item wpAny_pyNext_wide_end wpAny_pyIter_striter_wide))
  · exact wpAny_pyIter_ascii ha (fin "str_ascii_iterator" (zk6 _ x t _ (by decide) wpAny_pyNext_ascii_item wpAny_pyNext_ascii_end wpAny_pyIter_striter_ascii))
section
variable {X:Cx}
theorem zdi:∀{bs:List Bool}{us:List Value},Vals (bs.map V.bl) us->us=bs.map Value.bool
  | [],_,r=>by cases r;rfl
  | b::bs,_,r=>by
    cases r with
    | cons r1 r2=>rw[show _=Value.bool b from r1,zdi r2];rfl
theorem zn8 (bs:List Bool):((List.range bs.length).all fun i=>(bs[i]?).getD true)=bs.all id:=by
  rw[Bool.eq_iff_iff,List.all_eq_true,List.all_eq_true]
  constructor
  · intro h b hb
    obtain⟨i,hi,e⟩:=List.mem_iff_getElem.mp hb
    have:=h i (List.mem_range.mpr hi)
    rw[List.getElem?_eq_getElem hi,Option.getD_some,e] at this
    exact this
  · intro h i hi
    have hi':=List.mem_range.mp hi
    rw[List.getElem?_eq_getElem hi',Option.getD_some]
    exact h _ (List.getElem_mem hi')
theorem zn9 (hc:X.calm=true):zcb X (.builtin "all") (fun xs H Q=>∃(a:Addr) (bs:List Bool),xs = [V.ref a]/\SqL X.K H a (bs.map V.bl)/\Q (.bl (bs.all id)) H):=by
  intro pins s σ H xs us Q I r h
  obtain⟨a,bs,rfl,ha,q⟩:=h
  obtain⟨u,rfl,ru⟩:=zbs r
  cases ru
  obtain⟨its,rv,pl,hz⟩:=I.list ha
  have e:its=bs.map Value.bool:=zdi rv
  subst e
  have hl:=pl.isList
  have hlt:a<s.heap.objs.size:=by obtain⟨_,e,_⟩:=hl;exact Heap.lt_size e
  refine call_all_walk (wpAny_pyIter_list hl ?_)
  refine⟨s.heap.objs.size,[s.heap.objs.size,a],[s.heap.objs.size],(bs.map Value.bool).toArray.size,_,_,fun i=>(bs[i]?).getD true,rfl,Walks.list (A:=X.A.in1) (I.ok.hd hc) _ a (Nat.ne_of_lt hlt) (bs.map Value.bool).toArray,
    ⟨⟨_,Heap.get?_push_size _ rfl,rfl,rfl⟩,hl.push _⟩,fun i v s' Q' E' hP hQ=>?_,fun h' tk hk=>?_⟩
  · have hP':(bs.map Value.bool)[i]? = some v:=by simpa using hP
    rw[List.getElem?_map] at hP'
    cases e:bs[i]? with
    | none=>rw[e] at hP';cases hP'
    | some b=>
      rw[e] at hP'
      cases hP'
      simp only [e,Option.getD_some] at hQ
      exact wpAny_truthy_bool hQ
  · have e:((List.range (bs.map Value.bool).toArray.size).all fun i=>(bs[i]?).getD true)=bs.all id:=by
      rw[List.size_toArray,List.length_map];exact zn8 bs
    rw[e]
    refine⟨.bl (bs.all id),H,?_,rfl,q⟩
    exact I.kept fun b o eb=>hk b o (fun z=>by rw[List.mem_singleton.mp z] at eb;exact absurd (Heap.lt_size eb) (Nat.lt_irrefl _)) (Heap.get?_push_of_some _ eb)
theorem zoa:zcb X (.type "int") (fun xs H Q=>∃x n,xs = [V.str x]/\PySem.intText? x=some n/\x.length<=640/\Q (.int n) H):=by
  intro pins s σ H xs us Q I r h
  obtain⟨x,n,rfl,hn,hl,q⟩:=h
  obtain⟨u,rfl,t,rfl⟩:=zbs r
  exact PySem.W.KIN.call_text hn hl ⟨.int n,H,I.tok _,⟨_,rfl⟩,q⟩
theorem zio:MtR X "str.startswith" (fun x xs H Q=>∃a b,x=V.str a/\xs = [V.str b]/\Q (.bl (Txt.startswith a b)) H):=by
  intro pins s σ H x xs v us Q I rx rs h
  obtain⟨a,b,rfl,rfl,q⟩:=h
  obtain⟨t,rfl⟩:=rx
  obtain⟨u,rfl,t',rfl⟩:=zbs rs
  exact SC.startswith ⟨.bl _,H,I,rfl,q⟩
theorem zed:∀{ys:List Str}{us:List Value},Vals (ys.map V.str) us->StrsAre us ys
  | [],_,r=>by cases r;exact .nil
  | y::ys,_,r=>by
    cases r with
    | cons r1 r2=>
      obtain⟨t,rfl⟩:=r1
      exact .cons y t (zed r2)
theorem ztr:MtR X "str.join" (fun x xs H Q=>∃(sep:Str) (p:Addr) (ys:List Str),x=V.str sep/\xs = [V.ref p]/\SqL X.K H p (ys.map V.str)/\(ys.map (·.length)).sum+ys.length * sep.length<=16777216/\Q (.str (Txt.join sep ys)) H):=by
  intro pins s σ H x xs v us Q I rx rs h
  obtain⟨sep,p,ys,rfl,rfl,hp,hz,q⟩:=h
  obtain⟨t,rfl⟩:=rx
  obtain⟨u,rfl,ru⟩:=zbs rs
  cases ru
  obtain⟨its,rv,pl,_⟩:=I.list hp
  exact PyProof.Rows.join_list pl.isList (by simpa using zed rv) hz fun t' k=>⟨.str _,H,I.tok _,⟨_,rfl⟩,q⟩
def rSlS:V->Option Int->Option Int->Hp->VK->Prop:=fun x lo hi H Q=>∃z,x = .str z/\z.length<=sizeLine/\Q (.str (Txt.slice z lo hi)) H
theorem zk7:SlR X rSlS:=by
  intro pins s σ H x v vl vu lo hi sl Q I rx hs pl pu h
  obtain⟨z,rfl,hz,q⟩:=h
  obtain⟨t,rfl⟩:=rx
  refine⟨"str",_,F.slot_str_getitem.lookup,typeIs_str _ _ _,?_⟩
  have fin:∀(t':Tok) (k:Nat),EP X pins σ Q (.str (Txt.slice z lo hi) t') { s with toks:=k }:=fun t' k=>⟨.str _,H,I.tok k,⟨_,rfl⟩,q⟩
  obtain⟨o,ho,hcl,hd⟩:=hs
  cases pl<;>cases pu
  · exact wpAny_getItem_str_slice (l:=none) (u:=none) (st:=none) ⟨o,ho,hcl,hd⟩ rfl (post_val_or_str ⟨Nat.le_trans (Txt.slice_le z _ _) hz,fin⟩)
  · exact wpAny_getItem_str_slice (l:=none) (u:=some (_,_)) (st:=none) ⟨o,ho,hcl,hd⟩ rfl (post_val_or_str ⟨Nat.le_trans (Txt.slice_le z _ _) hz,fin⟩)
  · exact wpAny_getItem_str_slice (l:=some (_,_)) (u:=none) (st:=none) ⟨o,ho,hcl,hd⟩ rfl (post_val_or_str ⟨Nat.le_trans (Txt.slice_le z _ _) hz,fin⟩)
  · exact wpAny_getItem_str_slice (l:=some (_,_)) (u:=some (_,_)) (st:=none) ⟨o,ho,hcl,hd⟩ rfl (post_val_or_str ⟨Nat.le_trans (Txt.slice_le z _ _) hz,fin⟩)
theorem zqx:zcb X (.builtin "isinstance") (fun xs H Q=>∃x t n b,xs = [x,V.ty n]/\TyOf X.K H x t/\PySem.W.kitOne X.K t (.type n)=some b/\Q (.bl b) H):=by
  intro pins s σ H xs us Q I r h
  obtain⟨x,t,n,b,rfl,ty,e,q⟩:=h
  obtain⟨u,w',rfl,ru,rw'⟩:=zqi r
  cases rw'
  exact znu I ru ty e fun tk=>⟨.bl b,H,I.tok tk,rfl,q⟩
end
theorem len1 {Pl:List Value->Prop}(h:∀a,Pl [a]):∀us:List Value,us.length=1->Pl us
  | [a],_=>h a
theorem len2 {Pl:List Value->Prop}(h:∀a b,Pl [a,b]):∀us:List Value,us.length=2->Pl us
  | [a,b],_=>h a b
theorem len3 {Pl:List Value->Prop}(h:∀a b c,Pl [a,b,c]):∀us:List Value,us.length=3->Pl us
  | [a,b,c],_=>h a b c
def Df (K:PySem.W.Frag) (mg:Str->Option Value) (x:Str) (st:Stmt) (ps:List Str):Prop:=
  ∃(f:Addr) (fd:FuncData),Fun K x x st f fd/\mg x=some (.ref f)/\∀us:List Value,us.length=ps.length->bindArgs fd ⟨us,[]⟩=pure (ps.zip us)
theorem df_mk {K:PySem.W.Frag}{h:Heap}{mg:Str->Option Value}(X:K.In h) (G:h.Ns mainGlobals mg) {x:Str}{st:Stmt}{ps:List Str}{f:Addr}{oc kV dc pm cd ct:Value}{od an:Option Addr}{sl:Array (Option Value)}
    (hb:∀(kV doc pm:Value) (an:Option Addr) (cdv ct:Value) (us:List Value),us.length=ps.length->bindArgs (PySem.W.fnOf x x (zdh st) (zce st) (zi st) .none kV doc pm an cdv ct) ⟨us,[]⟩=pure (ps.zip us))
    (a:PySem.W.nsIn K mainGlobals x=some (some (.ref f))) (l:K.lookup f=some ⟨oc,od,.func (PySem.W.fnOf x x (zdh st) (zce st) (zi st) .none kV dc pm an cd ct),sl⟩) (c:PySem.W.codeIn K cd x=true) (k:PySem.W.keepIn K (.ref f)=true):Df K mg x st ps:=
  ⟨f,_,zsk l c k,PySem.W.mg_of X G a,fun us hl=>hb kV dc pm an cd ct us hl⟩
theorem const_mk {K:PySem.W.Frag}{h:Heap}{mg:Str->Option Value}(X:K.In h) (G:h.Ns mainGlobals mg) {x:Str}{u:Value}(a:PySem.W.nsIn K mainGlobals x=some (some u)):mg x=some u:=PySem.W.mg_of X G a
theorem rel_mk {K:PySem.W.Frag}{h:Heap}{mg:Str->Option Value}(X:K.In h) (G:h.Ns mainGlobals mg) {x:Str}{u:Value}{v:V}(a:PySem.W.nsIn K mainGlobals x=some (some u)) (r:RelV v u):∃u,mg x=some u/\RelV v u:=⟨u,PySem.W.mg_of X G a,r⟩
theorem blt_mk {K:PySem.W.Frag}{h:Heap}{mg:Str->Option Value}(X:K.In h) (G:h.Ns mainGlobals mg) {x:Str}(a:PySem.W.nsIn K mainGlobals x=some none):mg x=none:=PySem.W.mg_none_of X G a
def Has (P:Program) (w:World) (K:PySem.W.Frag) (mg:Str->Option Value) (base:Heap) (x:Str) (ps:List Str) (k:Nat) (sp:Sp):Prop:=
  ∃(f:Addr) (fd:FuncData),mg x=some (.ref f)/\PySem.W.keepIn K (.ref f)=true/\(∃oc od osl,K.lookup f=some ⟨oc,od,.func fd,osl⟩)/\(∀us:List Value,us.length=ps.length->bindArgs fd ⟨us,[]⟩=pure (ps.zip us))/\FnOk P w K mg base CX0 k f fd ps sp
section
variable {P:Program}{w:World}{K:PySem.W.Frag}{mg:Str->Option Value}{base:Heap}
theorem Df.has {x:Str}{st:Stmt}{N ps:List Str}{k:Nat}{sp:Sp}(D:Df K mg x st ps) (S:FnScope N ps (zi st)) (len:∀vs H Q E,sp vs H Q E->vs.length=ps.length)
    (hbody:∀(f:Addr) (cdv:Value) (A:Around) (outer:List Env) (s:Shared) (H:Hp) (vs:List V) (Q:VK) (E:XK),Room k (A.deeper (envOfC x (zi st) s.heap.objs.size f cdv))->sp vs H Q E->
      ∃t,PSs (cxOf CX0 P w K mg base N x (zi st) f cdv A outer s H E).nox (zce st) t/\t { nx:=fun _ H'=>Q .non H',rt:=Q } (start N vs) H):Has P w K mg base x ps (k+1) sp:=by
  obtain⟨f,fd,F,a,b⟩:=D
  obtain⟨oc,od,kV,doc,pm,an,cdv,ct,osl,e,lk,hcd⟩:=id F.ex
  exact⟨f,fd,a,F.kp,⟨oc,od,osl,lk⟩,b,F.ok S len (hbody f)⟩
end
section
variable {X:Cx}{k:Nat}{ps:List Str}{sp:Sp}{x:Str}{p pos:Pos}{e:Expr}{es:List Expr}{t:TA}
theorem zae (F:Has X.prog X.w X.K X.mg X.base x ps k sp) (hr:Room k X.A) (hg:Gl X x) (ha:PA X (e::es) t) (hdb:(x == ("__debug__" : Str))=false:=by decide)
    (he:starEach (e::es) X.env=(false,eval e X.env)::starEach es X.env:=by rfl) (hpl:(backTo pos (starEach es X.env)).any (·.1)=false:=by rfl):PE X (.Call (.Name x p) (e::es) [] pos) (zvh sp [] E0 t):=by
  obtain⟨f,fd,a,kp,lk,b,G⟩:=F
  exact zta G hr hg a kp (.all b) .nil zto ha hdb he hpl
end
theorem law_walk {l:PySem.W.OpenLaw}{q:Program}{loose:List Str}{XP:(Str->Option Value)->Heap->Prop}{YP:World->Heap->Prop}{d:DefRec}{K:Params->PySem.W.Frag}{k:Nat}{x:Str}{sp:PySem.W.Frag->Sp}
    (hn:l.most=some 63) (hdf:d.params.defaults = []) (hr:Room k callerA) (hY:∀(w:World) (h:Heap),YP w h->(K w.params).In h)
    (hsp:∀(K:PySem.W.Frag) (H:Hp) (a:Addr) (ns:List Int),ns.length<=63->SqL K H a (ns.map V.int)->sp K [.ref a] H (fun v _=>v = .bl true) fun _ _ _=>False)
    (F:∀(w:World) (mg:Str->Option Value) (h:Heap),(K w.params).In h->h.Ns mainGlobals mg->∀base:Heap,(K w.params).In base->base.Ns mainGlobals mg->Has l.prog w (K w.params) mg base d.name [x] k (sp (K w.params))) :
    PySem.W.WalkO q loose XP YP l.row.toRowW d [] (fun f vs=>PySem.call f vs):=by
  refine L2.walk_ofK (n:=63) (k:=k) (x:=x) (CX:=CX0) (sp:=sp) hn (by decide) hdf hr hY (fun w mg fa h KX G hmg=>?_) (fun K H a ns hl _ hS=>hsp K H a ns hl hS) fun _ _ _ _ z=>z
  obtain⟨f,fd,a,kp,⟨oc,od,osl,lk⟩,b,_⟩:=F w mg h KX G h KX G
  have ef:fa=f:=by
    rw[hmg] at a
    cases a;rfl
  subst ef
  refine⟨fd,fun s u=>.of_eq (b [u] rfl),fun base kb nb=>?_⟩
  obtain⟨f',fd',a',kp',⟨oc',od',osl',lk'⟩,b',G'⟩:=F w mg h KX G base kb nb
  have ef:f'=fa:=by
    rw[hmg] at a'
    cases a';rfl
  subst ef
  rw[lk] at lk'
  cases lk'
  exact G'
inductive DEq (K:PySem.W.Frag) (H:Hp):Nat->V->V->Bool->Prop where
  | flat {n:Nat}{x y:V}(fx:zcy x=true) (fy:zcy y=true):DEq K H n x y (eqV x y)
  | lst {n:Nat}{a b:Addr}{xs ys:List V}(e:Nat->Bool) (hx:SqL K H a xs) (hy:SqL K H b ys) (hl:xs.length=ys.length) (he:∀(i:Nat) x y,xs[i]? = some x->ys[i]? = some y->DEq K H n x y (e i)) :
      DEq K H (n+1) (.ref a) (.ref b) ((List.range xs.length).all e)
  | lstN {n:Nat}{a b:Addr}{xs ys:List V}(hx:SqL K H a xs) (hy:SqL K H b ys) (hl:xs.length≠ys.length):DEq K H (n+1) (.ref a) (.ref b) false
  | tup {n:Nat}{a b:Addr}{xs ys:List V}(e:Nat->Bool) (hx:SqT K H a xs) (hy:SqT K H b ys) (he:∀(i:Nat) x y,xs[i]? = some x->ys[i]? = some y->DEq K H n x y (e i)) :
      DEq K H (n+1) (.ref a) (.ref b) ((List.range (min xs.length ys.length)).all e&&xs.length == ys.length)
  | lt {n:Nat}{a b:Addr}{xs ys:List V}(hx:SqL K H a xs) (hy:SqT K H b ys):DEq K H (n+1) (.ref a) (.ref b) false
  | tl {n:Nat}{a b:Addr}{xs ys:List V}(hx:SqT K H a xs) (hy:SqL K H b ys):DEq K H (n+1) (.ref a) (.ref b) false
theorem zk8 {x:V}(h:zcy x=true):eqV x x=true:=by
  cases x<;>first | rfl | (simp[zcy] at h;done) | (simp[eqV];done)
section
variable {X:Cx}{pins:List (Addr×Obj)}{σ:St}{H:Hp}{s:Shared}
theorem zob (I:Inv X pins σ H s) {a:Addr}{xs ys:List V}(hx:SqL X.K H a xs) (hy:SqT X.K H a ys):False:=by
  obtain⟨its,_,⟨o,n,e,c,_,_⟩,_⟩:=I.list hx
  obtain⟨its',_,⟨o',e',c',_⟩,_⟩:=I.tuple hy
  rw[e] at e'
  cases e'
  rw[c] at c'
  injection c' with c'
  exact absurd c' (by decide)
theorem DEq.refl (I:Inv X pins σ H s) {n:Nat}{x y:V}{b:Bool}(h:DEq X.K H n x y b):x=y->b=true:=by
  induction h with
  | flat fx fy=>intro e;subst e;exact zk8 fx
  | lst e hx hy hl he ih=>
    intro q
    cases q
    have:=I.list_inj hx hy
    subst this
    rw[List.all_eq_true]
    intro i hi
    have hi:=List.mem_range.mp hi
    exact ih i _ _ (List.getElem?_eq_getElem hi) (List.getElem?_eq_getElem hi) rfl
  | lstN hx hy hl=>
    intro q
    cases q
    exact absurd (congrArg List.length (I.list_inj hx hy)) hl
  | tup e hx hy he ih=>
    intro q
    cases q
    have:=I.tuple_inj hx hy
    subst this
    rw[Nat.min_self,beq_self_eq_true,Bool.and_true,List.all_eq_true]
    intro i hi
    have hi:=List.mem_range.mp hi
    exact ih i _ _ (List.getElem?_eq_getElem hi) (List.getElem?_eq_getElem hi) rfl
  | lt hx hy=>intro q;cases q;exact (zob I hx hy).elim
  | tl hx hy=>intro q;cases q;exact (zob I hy hx).elim
theorem zdw (A:Around):A.in1.units<=A.units+1:=by
  first
    | exact Nat.le_refl _
    | exact Nat.le_succ _
    | (unfold Around.in1;simp)
theorem DEq.at (I:Inv X pins σ H s) {n:Nat}{x y:V}{b:Bool}(h:DEq X.K H n x y b):∀{u v:Value}{A:Around},RelV x u->RelV y v->A.units+n<cLine->
    SeqAt.EqAt A s u v b/\((∃p q,x = .ref p/\y = .ref q)->SeqAt.RcAt A s u v b):=by
  induction h with
  | flat fx fy=>
    intro u v A ru rv hu
    refine⟨zsg ru rv fx fy,fun hq0=>?_⟩
    obtain⟨p,q,e,_⟩:=hq0
    subst e
    cases fx
  | @lst n a b xs ys e hx hy hl he ih=>
    intro u v A ru rv hu
    cases ru
    cases rv
    obtain⟨its,r1,p1,_⟩:=I.list hx
    obtain⟨its2,r2,p2,_⟩:=I.list hy
    have l1:=r1.length
    have l2:=r2.length
    have h1:=zdw A
    have rc:SeqAt.RcAt A s (.ref a) (.ref b) ((List.range xs.length).all e):=by
      have:=SeqAt.RcAt.lists (A:=A) (e:=e) p1.isList p2.isList (by simp;omega) (by omega) (fun j j1 j2=>by
        have g1:xs[j]? = some (xs[j]'(by simp at j1;omega)):=List.getElem?_eq_getElem _
        have g2:ys[j]? = some (ys[j]'(by simp at j2;omega)):=List.getElem?_eq_getElem _
        obtain⟨w1,q1,t1⟩:=r1.get g1
        obtain⟨w2,q2,t2⟩:=r2.get g2
        have:=(ih j _ _ g1 g2 t1 t2 (A:=A.in1) (by omega)).1
        have z1:its.toArray[j]=w1:=by
          have:=List.getElem?_eq_some_iff.mp q1
          obtain⟨_,z⟩:=this
          simpa using z
        have z2:its2.toArray[j]=w2:=by
          have:=List.getElem?_eq_some_iff.mp q2
          obtain⟨_,z⟩:=this
          simpa using z
        rw[z1,z2]
        exact this)
      have es:its.toArray.size=xs.length:=by simp;omega
      rw[es] at this
      exact this
    refine⟨?_,fun _=>rc⟩
    by_cases hab:a=b
    · subst hab
      have:=(DEq.lst e hx hy hl he).refl I rfl
      rw[this]
      exact .same _
    · exact .of_refs hab rc
  | @lstN n a b xs ys hx hy hl=>
    intro u v A ru rv hu
    cases ru
    cases rv
    obtain⟨its,r1,p1,_⟩:=I.list hx
    obtain⟨its2,r2,p2,_⟩:=I.list hy
    have l1:=r1.length
    have l2:=r2.length
    have rc:SeqAt.RcAt A s (.ref a) (.ref b) false:=SeqAt.RcAt.lists_lengths p1.isList p2.isList (by simp;omega) (by omega)
    refine⟨?_,fun _=>rc⟩
    by_cases hab:a=b
    · subst hab
      exact absurd (congrArg List.length (I.list_inj hx hy)) hl
    · exact .of_refs hab rc
  | @tup n a b xs ys e hx hy he ih=>
    intro u v A ru rv hu
    cases ru
    cases rv
    obtain⟨its,r1,p1,_⟩:=I.tuple hx
    obtain⟨its2,r2,p2,_⟩:=I.tuple hy
    have l1:=r1.length
    have l2:=r2.length
    have h1:=zdw A
    have rc:SeqAt.RcAt A s (.ref a) (.ref b) ((List.range (min xs.length ys.length)).all e&&xs.length == ys.length):=by
      have:=SeqAt.RcAt.tuples (A:=A) (e:=e) (show s.heap.IsTuple a its.toArray from p1) (show s.heap.IsTuple b its2.toArray from p2) (by omega) (fun j j1 j2=>by
        have g1:xs[j]? = some (xs[j]'(by simp at j1;omega)):=List.getElem?_eq_getElem _
        have g2:ys[j]? = some (ys[j]'(by simp at j2;omega)):=List.getElem?_eq_getElem _
        obtain⟨w1,q1,t1⟩:=r1.get g1
        obtain⟨w2,q2,t2⟩:=r2.get g2
        have:=(ih j _ _ g1 g2 t1 t2 (A:=A.in1) (by omega)).1
        have z1:its.toArray[j]=w1:=by
          have:=List.getElem?_eq_some_iff.mp q1
          obtain⟨_,z⟩:=this
          simpa using z
        have z2:its2.toArray[j]=w2:=by
          have:=List.getElem?_eq_some_iff.mp q2
          obtain⟨_,z⟩:=this
          simpa using z
        rw[z1,z2]
        exact this)
      have es:its.toArray.size=xs.length:=by simp;omega
      have es2:its2.toArray.size=ys.length:=by simp;omega
      rw[es,es2] at this
      exact this
    refine⟨?_,fun _=>rc⟩
    by_cases hab:a=b
    · subst hab
      have:=(DEq.tup e hx hy he).refl I rfl
      rw[this]
      exact .same _
    · exact .of_refs hab rc
  | @lt n a b xs ys hx hy=>
    intro u v A ru rv hu
    cases ru
    cases rv
    obtain⟨its,r1,p1,_⟩:=I.list hx
    obtain⟨its2,r2,p2,_⟩:=I.tuple hy
    exact⟨SeqAt.EqAt.list_tuple p1.isList (show s.heap.IsTuple b its2.toArray from p2) (by omega),fun _=>SeqAt.RcAt.list_tuple p1.isList (show s.heap.IsTuple b its2.toArray from p2) (by omega)⟩
  | @tl n a b xs ys hx hy=>
    intro u v A ru rv hu
    cases ru
    cases rv
    obtain⟨its,r1,p1,_⟩:=I.tuple hx
    obtain⟨its2,r2,p2,_⟩:=I.list hy
    exact⟨SeqAt.EqAt.tuple_list (show s.heap.IsTuple a its.toArray from p1) p2.isList (by omega),fun _=>SeqAt.RcAt.tuple_list (show s.heap.IsTuple a its.toArray from p1) p2.isList (by omega)⟩
end
section
variable {X:Cx}{pins:List (Addr×Obj)}{σ:St}{H:Hp}{s:Shared}
theorem zk9 (I:Inv X pins σ H s) {n:Nat}{xs ys:List V}{its its2:List Value}{e:Nat->Bool}(r1:Vals xs its) (r2:Vals ys its2) (he:∀(i:Nat) x y,xs[i]? = some x->ys[i]? = some y->DEq X.K H n x y (e i)) {A:Around}(hu:A.units+n<cLine) :
    ∀(j:Nat) (h1:j<its.toArray.size) (h2:j<its2.toArray.size),SeqAt.EqAt A s its.toArray[j] its2.toArray[j] (e j):=fun j j1 j2=>by
  have l1:=r1.length
  have l2:=r2.length
  have g1:xs[j]? = some (xs[j]'(by simp at j1;omega)):=List.getElem?_eq_getElem _
  have g2:ys[j]? = some (ys[j]'(by simp at j2;omega)):=List.getElem?_eq_getElem _
  obtain⟨w1,q1,t1⟩:=r1.get g1
  obtain⟨w2,q2,t2⟩:=r2.get g2
  have:=((he j _ _ g1 g2).at I t1 t2 (A:=A) hu).1
  have z1:its.toArray[j]=w1:=by
    obtain⟨_,z⟩:=List.getElem?_eq_some_iff.mp q1
    simpa using z
  have z2:its2.toArray[j]=w2:=by
    obtain⟨_,z⟩:=List.getElem?_eq_some_iff.mp q2
    simpa using z
  rw[z1,z2]
  exact this
theorem DEq.ne (I:Inv X pins σ H s) {n:Nat}{p q:Addr}{b:Bool}(h:DEq X.K H n (.ref p) (.ref q) b) {A:Around}(hu:A.units+n<cLine):SeqAt.RcNeAt A s (.ref p) (.ref q) (!b):=by
  have h1:=zdw A
  cases h with
  | flat fx fy=>cases fx
  | lst e hx hy hl he=>
    obtain⟨its,r1,p1,_⟩:=I.list hx
    obtain⟨its2,r2,p2,_⟩:=I.list hy
    have l1:=r1.length
    have l2:=r2.length
    have:=SeqAt.RcNeAt.lists (A:=A) (e:=e) p1.isList p2.isList (by simp;omega) (by omega) (zk9 I r1 r2 he (A:=A.in1) (by omega))
    rw[List.size_toArray,←l1] at this
    exact this
  | lstN hx hy hl=>
    obtain⟨its,r1,p1,_⟩:=I.list hx
    obtain⟨its2,r2,p2,_⟩:=I.list hy
    have l1:=r1.length
    have l2:=r2.length
    exact SeqAt.RcNeAt.lists_lengths p1.isList p2.isList (by simp;omega) (by omega)
  | tup e hx hy he=>
    obtain⟨its,r1,p1,_⟩:=I.tuple hx
    obtain⟨its2,r2,p2,_⟩:=I.tuple hy
    have l1:=r1.length
    have l2:=r2.length
    have:=SeqAt.RcNeAt.tuples (A:=A) (e:=e) (show s.heap.IsTuple p its.toArray from p1) (show s.heap.IsTuple q its2.toArray from p2) (by omega) (zk9 I r1 r2 he (A:=A.in1) (by omega))
    rw[List.size_toArray,List.size_toArray,←l1,←l2] at this
    exact this
  | lt hx hy=>
    obtain⟨its,r1,p1,_⟩:=I.list hx
    obtain⟨its2,r2,p2,_⟩:=I.tuple hy
    exact SeqAt.RcNeAt.list_tuple p1.isList (show s.heap.IsTuple q its2.toArray from p2) (by omega)
  | tl hx hy=>
    obtain⟨its,r1,p1,_⟩:=I.tuple hx
    obtain⟨its2,r2,p2,_⟩:=I.list hy
    exact SeqAt.RcNeAt.tuple_list (show s.heap.IsTuple p its.toArray from p1) p2.isList (by omega)
end
section
variable {X:Cx}
def rEqD (K:PySem.W.Frag):R2:=fun x y H Q=>∃p q b,x = .ref p/\y = .ref q/\DEq K H 8 x y b/\Q (.bl b) H
theorem zvu (hu:X.A.units+9<cLine):OpR X (compareOp .Eq) (rEqD X.K):=by
  intro pins s σ H x y v u Q I rx ry h
  obtain⟨p,q,b,rfl,rfl,d,hq⟩:=h
  exact (d.at I rx ry (A:=X.A) (by omega)).2 ⟨p,q,rfl,rfl⟩ X.prog X.w _ _ ⟨.bl b,H,I,rfl,hq⟩
def rNeD (K:PySem.W.Frag):R2:=fun x y H Q=>∃p q b,x = .ref p/\y = .ref q/\DEq K H 8 x y b/\Q (.bl (!b)) H
theorem zvv (hu:X.A.units+9<cLine):OpR X (compareOp .NotEq) (rNeD X.K):=by
  intro pins s σ H x y v u Q I rx ry h
  obtain⟨p,q,b,rfl,rfl,d,hq⟩:=h
  cases rx
  cases ry
  exact d.ne I (A:=X.A) (by omega) X.prog X.w _ _ ⟨.bl (!b),H,I,rfl,hq⟩
def rInD (K:PySem.W.Frag) (neg:Bool):R2:=fun x y H Q=>∃(p:Addr) (xs:List V) (e:V->Bool),y = .ref p/\(SqL K H p xs\/SqT K H p xs)/\(∀z∈xs,DEq K H 8 z x (e z))/\Q (.bl (if neg then !xs.any e else xs.any e)) H
theorem zoc:∀{xs:List V}{us:List Value}{u:Value},Vals xs us->u∈us->∃x∈xs,RelV x u
  | _,_,_,.cons r t,h=>by
    rcases List.mem_cons.mp h with h | h
    · subst h;exact⟨_,List.mem_cons_self ..,r⟩
    · obtain⟨x,hx,q⟩:=zoc t h
      exact⟨x,List.mem_cons_of_mem _ hx,q⟩
def absE (e:V->Bool) (u:Value):Bool:=match absV u with
  | some x=>e x
  | none=>false
theorem zod {e:V->Bool}{x:V}{u:Value}(r:RelV x u):absE e u=e x:=by unfold absE;rw[r.abs]
theorem zj5 {e:V->Bool}:∀{xs:List V}{us:List Value},Vals xs us->us.any (absE e)=xs.any e
  | _,_,.nil=>rfl
  | _,_,.cons r t=>by rw[List.any_cons,List.any_cons,zod r,zj5 t]
theorem zoe (hu:X.A.units+10<cLine):OpR X (compareOp .NotIn) (rInD X.K true):=by
  intro pins s σ H x y v u Q I rx ry h
  obtain⟨p,xs,e,rfl,hq,hd,q⟩:=h
  cases ry
  have h1:=zdw X.A
  have items:∀{its:List Value},Vals xs its->∀z,z∈its.toArray->SeqAt.EqAt X.A.in1 s z v (absE e z):=fun {its} r z hz=>by
    obtain⟨x',hx',rz⟩:=zoc r (by simpa using hz)
    rw[zod rz]
    exact ((hd x' hx').at I rz rx (A:=X.A.in1) (by omega)).1
  rcases hq with hq | hq
  · obtain⟨its,r,pl,hz⟩:=I.list hq
    refine SeqAt.notIn_listAt (absE e) pl.isList (items r) ⟨.bl _,H,I,rfl,?_⟩
    rw[show its.toArray.any (absE e)=its.any (absE e) by simp,zj5 r]
    exact q
  · obtain⟨its,r,pl,hz⟩:=I.tuple hq
    refine SeqAt.notIn_tupleAt (absE e) pl (items r) ⟨.bl _,H,I,rfl,?_⟩
    rw[show its.toArray.any (absE e)=its.any (absE e) by simp,zj5 r]
    exact q
end
def Wd (v:V):Prop:=(∃x,v = .str x/\x.length<=100)\/∃i:Int,v = .int i/\i.natAbs<10 ^ 60
theorem Wd.flat {v:V}(h:Wd v):zcy v=true:=by
  rcases h with ⟨x,rfl,_⟩ | ⟨i,rfl,_⟩<;>rfl
def eqL (xs ys:List V):Bool:=(List.range (min xs.length ys.length)).all (fun i=>match xs[i]?,ys[i]? with | some x,some y=>eqV x y | _,_=>true)&&xs.length == ys.length
theorem DEq.flatT {K:PySem.W.Frag}{H:Hp}{n:Nat}{a b:Addr}{xs ys:List V}(hx:SqT K H a xs) (hy:SqT K H b ys) (fx:∀x∈xs,zcy x=true) (fy:∀x∈ys,zcy x=true):DEq K H (n+1) (.ref a) (.ref b) (eqL xs ys):=by
  refine DEq.tup _ hx hy fun i x y e1 e2=>?_
  rw[e1,e2]
  exact DEq.flat (fx x (List.mem_of_getElem? e1)) (fy y (List.mem_of_getElem? e2))
theorem zg4 {xs:List V}(h:∀x∈xs,zcy x=true):eqL xs xs=true:=by
  unfold eqL
  rw[beq_self_eq_true,Bool.and_true,List.all_eq_true]
  intro i hi
  rw[Nat.min_self] at hi
  have hi:=List.mem_range.mp hi
  rw[List.getElem?_eq_getElem hi]
  exact zk8 (h _ (List.getElem_mem hi))
theorem DEq.sameL {K:PySem.W.Frag}{H:Hp}{n:Nat}{a b:Addr}{xs:List V}(hx:SqL K H a xs) (hy:SqL K H b xs) (h:∀x∈xs,DEq K H n x x true):DEq K H (n+1) (.ref a) (.ref b) true:=by
  have:=DEq.lst (n:=n) (fun _=>true) hx hy rfl fun i x y e1 e2=>by
    rw[e1] at e2;cases e2
    exact h x (List.mem_of_getElem? e1)
  rw[show (List.range xs.length).all (fun _=>true)=true from List.all_eq_true.mpr fun _ _=>rfl] at this
  exact this
theorem Same.tup {K:PySem.W.Frag}{H H':Hp}{a:Addr}{xs:List V}(e:Same H H') (h:SqT K H a xs):SqT K H' a xs:=by
  rcases h with (h | ⟨o,h⟩) | h
  · exact .inl (.inl (e _ _ h))
  · exact .inl (.inr ⟨o,e _ _ h⟩)
  · exact .inr h
theorem Same.new {H:Hp}{D:Addr}{o:HO}(h:H D=none):Same H (upd H D o):=fun b u e=>by rw[zf (ze e h)];exact e
theorem Same.upd {H H':Hp}{D:Addr}{o:HO}(e:Same H H') (h:H D=none):Same H (upd H' D o):=fun b u q=>by
  rw[zf (ze q h)];exact e b u q
section
variable {X:Cx}(K:PySem.W.Frag) (h:X.K=K)
include h
theorem zaf:IxR X (rIxL K):=h▸zte
theorem zar:IxR X (rIxT K):=h▸zvl
theorem zdx:SlR X (rSlL K):=h▸ztf
theorem zmd:OpR X (compareOp .In) (rIn K false):=h▸zny
theorem zff (hu:X.A.units+9<cLine):OpR X (compareOp .Eq) (rEqD K):=h▸zvu hu
theorem zdj (hu:X.A.units+9<cLine):OpR X (compareOp .NotEq) (rNeD K):=h▸zvv hu
theorem zgk (hu:X.A.units+10<cLine):OpR X (compareOp .NotIn) (rInD K true):=h▸zoe hu
theorem zx:zcb X (.builtin "len") (fun xs H Q=>∃p ys,xs = [.ref p]/\(SqL K H p ys\/SqT K H p ys)/\Q (.int ys.length) H):=h▸zih
theorem zcz:zcb X (.builtin "isinstance") (fun xs H Q=>∃x t n b,xs = [x,V.ty n]/\TyOf K H x t/\PySem.W.kitOne K t (.type n)=some b/\Q (.bl b) H):=h▸zqx
theorem zee (hc:X.calm=true):zcb X (.builtin "all") (fun xs H Q=>∃(a:Addr) (bs:List Bool),xs = [V.ref a]/\SqL K H a (bs.map V.bl)/\Q (.bl (bs.all id)) H):=h▸zn9 hc
theorem zg5:MtR X "str.join" (fun x xs H Q=>∃(sep:Str) (p:Addr) (ys:List Str),x=V.str sep/\xs = [V.ref p]/\SqL K H p (ys.map V.str)/\(ys.map (·.length)).sum+ys.length * sep.length<=16777216/\Q (.str (Txt.join sep ys)) H):=h▸ztr
variable {o e:Expr}{es:List Expr}{to:TE}{t:TA}{name:Str}{apos cpos:Pos}{T id:String}{r:V->List V->Hp->VK->Prop}
theorem zts (pa:PlainAttrs T) (slot:Slot T name id) (hty:typeOf (.builtin id)=pure (.type "method_descriptor")) (hm:MtR X id r) (ho:PE X o to)
    (hbase:attributeBase o name X.env (eval o X.env)=eval o X.env:=by rfl) (hline:(apos.endLine == cpos.line)=true:=by rfl):PE X (.Call (.Attribute o name apos) [] [] cpos) (tBM0 K T r to):=h▸zvn pa slot hty hm ho hbase hline
theorem zau (pa:PlainAttrs T) (slot:Slot T name id) (hty:typeOf (.builtin id)=pure (.type "method_descriptor")) (hm:MtR X id r) (ho:PE X o to) (ha:PA X (e::es) t)
    (hbase:attributeBase o name X.env (eval o X.env)=eval o X.env:=by rfl)
    (hfew:((backTo cpos (starEach (e::es) X.env)).all (fun x=>!x.1)&&(backToKw cpos (keywordEach [] X.env)).all (fun x=>x.1.isSome)
      && decide ((e::es).length+([]:List Keyword).length+(if ([]:List Keyword).isEmpty then 0 else 1)<30))=true:=by rfl)
    (hline:(apos.endLine == cpos.line)=true:=by rfl) (hs:starEach (e::es) X.env=(false,eval e X.env)::starEach es X.env:=by rfl) (hplain:(backTo cpos (starEach es X.env)).any (·.1)=false:=by rfl) :
    PE X (.Call (.Attribute o name apos) (e::es) [] cpos) (tBM K T r to t):=h▸zw4 pa slot hty hm ho ha hbase hfew hline hs hplain
end
section
variable {X:Cx}{tg:Expr}(K:PySem.W.Frag) (h:X.K=K)
include h
theorem zad {l:Expr}{tl:TE}(hl:PE X l tl):PI X tg l (zvf K tl):=h▸zs4 hl
theorem zct {es:List Expr}{k:Nat}{t:TGs}{n:Nat}{pos:Pos}(hc:X.calm=true) (h':PGs X es t)
    (hn:(assignEach es X.env).length=n:=by rfl) (hst:(assignEach es X.env).findIdx? (·.1)=none:=by rfl):PG X (.Tuple es k pos) (gTup K n t):=h▸zvd hc h' hn hst
end
theorem hu10 {A:Around}{k:Nat}(hr:Room k A):A.units+9<cLine:=Nat.lt_of_le_of_lt (Nat.add_le_add_left (by decide:9<=64) _) hr.units
theorem hu11 {A:Around}{k:Nat}(hr:Room k A):A.units+10<cLine:=Nat.lt_of_le_of_lt (Nat.add_le_add_left (by decide:10<=64) _) hr.units
theorem zaw {c:TT}{t u:TS}{D:Ends}{σ:St}{H:Hp}(b:Bool) (ht:∀Q':Bool->Hp->Prop,(∀H',Same H H'->Q' b H')->c σ H Q') (hs:∀H',Same H H'->if b=true then t D σ H' else u D σ H'):tIfS c t u D σ H:=ht _ hs
theorem zvw {c:TT}{t u:TS}{D:Ends}{σ:St}{H:Hp}(b:Bool) (ht:∀Q':Bool->Hp->Prop,Q' b H->c σ H Q') (hs:if b=true then t D σ H else u D σ H):tIfS c t u D σ H:=ht _ hs
theorem DEq.nilL {K:PySem.W.Frag}{H:Hp}{n:Nat}{a b:Addr}{xs:List V}(hx:SqL K H a xs) (hy:SqL K H b []):DEq K H (n+1) (.ref a) (.ref b) (decide (xs = [])):=by
  by_cases h:xs = []
  · subst h
    exact DEq.lst (fun _=>true) hx hy rfl fun i x y e _=>by simp at e
  · rw[decide_eq_false h]
    exact DEq.lstN hx hy fun z=>h (List.length_eq_zero_iff.mp z)
theorem ziq {α:Type}{x:α}{xs:List α}:atI (x::xs) 0=some x:=by
  have:=zba (xs:=x::xs) (j:=0) (v:=x) rfl
  exact this
theorem zme {x:V}{xs:List V}:cutV (x::xs) (some 1) none=xs:=by
  unfold cutV HT.sIx
  simp
theorem zr {n:Nat}(h:n<=1000):n<=sizeLine:=Nat.le_of_lt (zo h)
open Builtin Builtin.Str
theorem zdy:∀(ys:List Str) (k:Nat),Vals (ys.map V.str) (strsFrom k ys)
  | [],_=>.nil
  | y::ys,k=>.cons ⟨k,rfl⟩ (zdy ys (k+1))
section
variable {X:Cx}
theorem zla {pins:List (Addr×Obj)}{σ:St}{H:Hp}{s:Shared}{Q:VK}{ys:List Str}{us:List Value}{k n:Nat}(I:Inv X pins σ H s) (r:Vals (ys.map V.str) us) (hz:ys.length<=sizeLine) (q:∀p,H p=none->Q (.ref p) (upd H p (.lst (ys.map V.str)))) :
    EP X pins σ Q (.ref s.heap.objs.size) { s with heap:=s.heap.push { cls:=.type "list",data:=.seq us.toArray n },toks:=k }:=
  ⟨.ref s.heap.objs.size,_,I.laid (t':=k) (o:=.lst (ys.map V.str)) (fun b u e=>Heap.get?_push_of_some _ e) (Nat.le_refl _) ⟨by rw[List.length_map];exact hz,us,n,r,Heap.get?_push_size _ rfl⟩,rfl,q _ (I.hok.fresh (Nat.le_refl _))⟩
theorem zlb:MtR X "str.split" (fun x xs H Q=>∃a b,x=V.str a/\xs = [V.str b]/\(b.length == 0)=false/\a.length<=sizeLine/\(Txt.split a b).length<=sizeLine/\∀p,H p=none->Q (.ref p) (upd H p (.lst ((Txt.split a b).map V.str)))):=by
  intro pins s σ H x xs v us Q I rx rs h
  obtain⟨a,b,rfl,rfl,hb,ha,hn,q⟩:=h
  obtain⟨t,rfl⟩:=rx
  obtain⟨u,rfl,t',rfl⟩:=zbs rs
  have one:Txt.split a b = [a]->EP X pins σ Q (.ref s.heap.objs.size) { s with heap:=s.heap.push { cls:=.type "list",data:=.seq [Value.str a t].toArray 0 },toks:=s.toks }:=fun e=>by
    rw[e] at q
    exact zla I (ys:=[a]) (.cons ⟨t,rfl⟩ .nil) (by show 1<=sizeLine;decide) q
  cases h1:(decide (a.length<b.length)||decide (strKind a<strKind b))
  · cases hf:(occurrences a b 0 a.length (a.length+1)).isEmpty
    · have e:Txt.split a b=partsBetween a (occurrences a b 0 a.length (a.length+1)) b.length:=by
        unfold Txt.split
        rw[h1,hf];rfl
      rw[e] at hn q
      refine call_meets F.slot_str_split (typeIs_str _ _ _) F.entry_str_split (F.args_str_split_2 _ _) (meets_str_split_sep a b t t' h1 hb hf ha hn) ?_
      exact zla I (zdy _ _) hn q
    · exact call_meets F.slot_str_split (typeIs_str _ _ _) F.entry_str_split (F.args_str_split_2 _ _) (meets_str_split_not_found a b t t' h1 hb hf) (one (by unfold Txt.split;rw[h1,hf];rfl))
  · exact call_meets F.slot_str_split (typeIs_str _ _ _) F.entry_str_split (F.args_str_split_2 _ _) (meets_str_split_cannot_occur a b t t' h1) (one (by unfold Txt.split;rw[h1];rfl))
end
section
variable {X:Cx}{pins:List (Addr×Obj)}{σ:St}{H:Hp}{s:Shared}{h':Heap}
theorem Inv.turnedL {t':Nat}{ch:List Addr}(I:Inv X pins σ H s) (k:∀b o,b ∉ ch->s.heap.get? b=some o->h'.get? b=some o) (hf:∀b∈ch,FpOk X pins H b):Inv X pins σ H { s with heap:=h',toks:=t' }:=by
  have nit:∀b u,H b=some u->b ∉ ch:=fun b u e z=>by rw[(hf b z).1] at e;cases e
  refine I.step (g':=s.gens) (d':=s.drawn) (ch:=ch) (fun b hb=>⟨(hf b hb).2.2.2.1,(hf b hb).2.1,(hf b hb).2.2.2.2.1,(hf b hb).2.2.2.2.2⟩) (fun b o _ _ hc e _=>k b o hc e) (fun b o _ _ hc e _=>⟨o.slots,k b o hc e⟩) (fun _ _ _ _ n=>n)
    (fun b o hc e=>⟨o,k b o hc e⟩) (fun _ _ e=>e) (fun _ _ _ e=>e) (fun b ps e=>⟨#[],by rw[e];simp⟩) (fun m hm=>?_) (fun b u e=>?_) I.bare
  · obtain⟨o,es,ep,ho,r⟩:=hm
    exact⟨o,es,ep,k _ o (fun z=>(hf _ z).2.1 rfl) ho,r⟩
  · refine (I.hok b u e).stay (fun c v hc q=>k c v ?_ q) (fun _ q=>q) fun _ _ q=>q
    rcases hc with z | z
    · rw[z];exact nit b u e
    · exact nit c _ z
theorem Inv.turnedNew {t':Nat}{ch:List Addr}{T:Addr}{o:HO}(I:Inv X pins σ H s) (k:∀b u,b ∉ ch->s.heap.get? b=some u->h'.get? b=some u) (hf:∀b∈ch,FpOk X pins H b) (hT:s.heap.objs.size<=T)
    (new:ObjOk X.prog X.w (upd H T o) h' T o):Inv X pins σ (upd H T o) { s with heap:=h',toks:=t' }:=by
  have hn:H T=none:=I.hok.fresh hT
  have nit:∀b u,H b=some u->b ∉ ch:=fun b u e z=>by rw[(hf b z).1] at e;cases e
  have neT:∀b u,s.heap.get? b=some u->b≠T:=fun b u e=>Nat.ne_of_lt (Nat.lt_of_lt_of_le (Heap.lt_size e) hT)
  refine I.step (g':=s.gens) (d':=s.drawn) (ch:=ch) (fun b hb=>⟨(hf b hb).2.2.2.1,(hf b hb).2.1,(hf b hb).2.2.2.2.1,(hf b hb).2.2.2.2.2⟩) (fun b u _ _ hc e _=>k b u hc e) (fun b u _ _ hc e _=>⟨u.slots,k b u hc e⟩) (fun b u _ e n=>by rw[zf (neT b u e)];exact n)
    (fun b u hc e=>⟨u,k b u hc e⟩) (fun b xs e=>by rw[zf (ze e hn)];exact e) (fun b u v e=>by rw[zf (ze e hn)];exact e) (fun b ps e=>⟨#[],by rw[zf (ze e hn),e];simp⟩) (fun m hm=>?_) (fun b u e=>?_) I.bare
  · obtain⟨u,es,ep,ho,r⟩:=hm
    exact⟨u,es,ep,k _ u (fun z=>(hf _ z).2.1 rfl) ho,r⟩
  · by_cases hb:b=T
    · subst hb
      rw[zb] at e
      cases e
      exact new
    · rw[zf hb] at e
      refine (I.hok b u e).stay (fun c v hc q=>k c v ?_ q) (fun c q=>by rw[zf (ze q hn)];exact q) fun c xs q=>by rw[zf (ze q hn)];exact q
      rcases hc with z | z
      · rw[z];exact nit b u e
      · exact nit c _ z
end
theorem zj6 {prog:Program}{w:World}{A:Around}{it:Addr}{fp:List Addr}{n:Nat}{P:Nat->Value->Prop}{St:Nat->Heap->Prop}(D:Draws prog w A it fp n P St) (a:Nat) :
    Draws prog w A it fp (n+a) (fun i v=>P (i-a) v) (fun i h=>a<=i/\St (i-a) h) where
  live:=fun i h st=>D.live _ h st.2
  frame:=fun i h h' st k=>⟨st.1,D.frame _ h h' st.2 k⟩
  item:=fun i s Q E hi st hQ=>D.item (i-a) s Q E (by have:=st.1;omega) st.2 fun x h1 tk p q r=>hQ x h1 tk p ⟨by have:=st.1;omega,by
    have:i+1-a=i-a+1:=by have:=st.1;omega
    rw[this];exact q⟩ r
  done:=fun s Q E st hE=>D.done s Q E (by have:=st.2;rwa [Nat.add_sub_cancel] at this) hE
theorem zqy {prog:Program}{w:World}{A:Around}{E:Value->Shared->Prop}{s:Shared}{e it l:Addr}{i:Nat}{j:Int}{items:Array Value}{old:Value}{Q:Option Value->Shared->Prop}(hd:A.handled=none)
    (he:IsEnum s.heap e it j old) (hi:s.heap.IsListIter it l i) (hl:s.heap.IsList l items) (hx:items[i]? = none) (hQ:∀h1,Heap.ExtBut it s.heap h1->Q none { s with heap:=h1 }):wpAny (model prog w) A (pyNext (.ref e)) Q E s:=by
  have D:Draws prog w A.in1 it [it,l] i (fun _ _=>False) (fun k h=>(k<i->False)/\h.IsListIter it l i/\h.IsList l items):=
    ⟨fun _ _ q=>let ⟨o,ho,_⟩:=q.2.1;⟨o,ho⟩,fun _ _ _ q k=>⟨q.1,q.2.1.at fun o x=>k it (by simp) o x,q.2.2.at fun o x=>k l (by simp) o x⟩,fun k _ _ _ hk q _=>(q.1 hk).elim,fun s1 _ _ q hE=>wpAny_nextOf_list_end (A:=A.in1) hd q.2.1 q.2.2 hx hE⟩
  exact wpAny_pyNext_enum_endD D he ⟨fun z=>Nat.lt_irrefl _ z,hi,hl⟩ hQ
def Ite (K:PySem.W.Frag) (a:Addr) (st:Nat):It:=
  ⟨fun i H=>∃xs x,SqL K H a xs/\xs[i]? = some x,fun i H v H'=>∃T x,H T=none/\v = .ref T/\H'=upd H T (.tup [.int ((st+i:Nat):Int),x])/\∀xs,SqL K H a xs->xs[i]? = some x,fun i H=>∃xs,SqL K H a xs/\xs.length<=i⟩
theorem zof {P:Program}{w:World}{K:PySem.W.Frag}{elts:List Expr}{ct:Nat}{pos:Pos}(a e it:Addr) (st:Nat) (hne:e≠it) :
    Turn P w K (.Tuple elts ct pos) (Ite K a st) [e,it] e (fun i h=>(∃old,IsEnum h e it ((st+i:Nat):Int) old)/\h.IsListIter it a i) where
  mem:=by simp
  obj:=fun i h q b hb=>by
    obtain⟨⟨old,he⟩,o,ho,c,d⟩:=q
    rcases List.mem_cons.mp hb with hb | hb
    · subst hb
      exact⟨_,he,fun v z=>by cases z⟩
    · rw[List.mem_singleton] at hb
      subst hb
      exact⟨o,ho,fun v z=>by rw[d] at z;cases z⟩
  keep:=fun i h h' q k=>⟨let ⟨old,he⟩:=q.1;⟨old,k e (by simp) _ he⟩,q.2.at fun o x=>k it (by simp) o x⟩
  item:=by
    intro X hP hw hK hc i pins s σ H E I hf q hg
    subst hP hw hK
    obtain⟨xs,x,hq,hx⟩:=hg
    obtain⟨⟨old,he⟩,hit⟩:=q
    obtain⟨its,rv,p,hz⟩:=I.list hq
    obtain⟨u,hu,ru⟩:=rv.get hx
    have hl:=p.isList
    have li:a≠it:=by
      rintro rfl
      obtain⟨o,ho,c,d⟩:=hit
      obtain⟨o2,ho2,c2,_⟩:=hl
      rw[ho] at ho2;cases ho2;rw[c] at c2
      injection c2 with c2
      exact absurd c2 (by decide)
    have le:e≠a:=by
      rintro rfl
      obtain⟨o2,ho2,c2,_⟩:=hl
      rw[he] at ho2;cases ho2
      injection c2 with c2
      exact absurd c2 (by decide)
    have hi:i<its.toArray.size:=by
      have:=(List.getElem?_eq_some_iff.mp hu).1
      simpa using this
    have hel:e<s.heap.objs.size:=Heap.lt_size he
    have hil:it<s.heap.objs.size:=by obtain⟨o,ho,_⟩:=hit;exact Heap.lt_size ho
    refine wpAny_pyNext_enum_itemD (zj6 (Draws.list (A:=X.A.in1) (I.ok.hd hc) it a li its.toArray) st) he ⟨by omega,by rw[Nat.add_sub_cancel_left];exact⟨hit,hl⟩⟩ (by omega) hne (by simp[hne,le]) fun y h1 tk py eo sy ht hsz kk=>?_
    have ey:y=u:=by
      have py:its.toArray[st+i-st]? = some y:=py
      rw[Nat.add_sub_cancel_left] at py
      have hu':its.toArray[i]? = some u:=by simpa using hu
      rw[hu'] at py
      exact (Option.some.inj py).symm
    subst ey
    refine⟨_,rfl,?_⟩
    have I1:Inv X pins σ (upd H s.heap.objs.size (.tup [.int ((st+i:Nat):Int),x])) { s with heap:=h1,toks:=tk+1 }:=
      I.turnedNew (ch:=[e,it]) (o:=.tup [.int ((st+i:Nat):Int),x]) (fun b o hb q=>kk b o (fun z=>hb (by simp[z])) (fun z=>hb (by simp[z])) q) hf (Nat.le_refl _) ⟨(by show 2<=sizeLine;decide),[_,y],.cons ⟨_,rfl⟩ (.cons ru .nil),_,ht,rfl,_,rfl⟩
    refine wpAny_letOwnedTupleGo_enum eo fun h2 he2 hs2=>?_
    have fn:∀b∈[e,it],upd H s.heap.objs.size (.tup [.int ((st+i:Nat):Int),x]) b=none:=fun b hb=>by
      have hb':b≠s.heap.objs.size:=by
        rcases List.mem_cons.mp hb with z | z
        · subst z;exact Nat.ne_of_lt hel
        · rw[List.mem_singleton] at z;subst z;exact Nat.ne_of_lt hil
      rw[zf hb']
      exact (hf b hb).1
    have I2:=I1.turnedL (t':=tk+1) (h':=h2) (ch:=[e]) (fun b o hb q=>(hs2.2 b (fun z=>hb (by simp[z]))).trans q) (fun b hb=>by
      rw[List.mem_singleton] at hb
      subst hb
      exact⟨fn _ (by simp),(hf _ (by simp)).2⟩)
    have sy:=sy.2
    rw[show st+i+1-st=i+1 by omega] at sy
    refine⟨.ref s.heap.objs.size,_,I2,rfl,⟨_,x,I.hok.fresh (Nat.le_refl _),rfl,rfl,fun ys hy=>by rw[I.list_inj hy hq];exact hx⟩,⟨⟨y,?_⟩,sy.1.at fun o q=>(hs2.2 it hne.symm).trans q⟩,fn⟩
    have:((st+(i+1):Nat):Int)=((st+i:Nat):Int)+1:=by omega
    rw[this]
    exact he2
  done:=by
    intro X hP hw hK hc i pins s σ H E I hf q hg
    subst hP hw hK
    obtain⟨xs,hq,hx⟩:=hg
    obtain⟨⟨old,he⟩,hit⟩:=q
    obtain⟨its,rv,p,hz⟩:=I.list hq
    have hl:=rv.length
    have hlist:=p.isList
    have li:a≠it:=by
      rintro rfl
      obtain⟨o,ho,c,d⟩:=hit
      obtain⟨o2,ho2,c2,_⟩:=hlist
      rw[ho] at ho2;cases ho2;rw[c] at c2
      injection c2 with c2
      exact absurd c2 (by decide)
    exact zqy (I.ok.hd hc) he hit hlist (by simp;omega) fun h1 eb=>⟨rfl,I.turnedL (t':=s.toks) (ch:=[it]) (fun b o hb q=>eb b o (fun z=>hb (by simp[z])) q) (fun b hb=>hf b (by rw[List.mem_singleton] at hb;simp[hb]))⟩
  self:=fun _ _ _ _ _ q h=>let ⟨_,he⟩:=q.1;wpAny_pyIter_enum he h
def SIt (b:Bool) (h:Heap) (it a:Addr) (i:Nat):Prop:=if b=true then h.IsTupleIter it a i else h.IsListIter it a i
def SSq (b:Bool) (h:Heap) (a:Addr) (items:Array Value):Prop:=if b=true then h.IsTuple a items else h.IsList a items
def zog (b:Bool):String:=if b=true then "tuple_iterator" else "list_iterator"
section
variable {prog:Program}{w:World}{A:Around}{E:Value->Shared->Prop}{s:Shared}{z TI TO i1 i2 l1 l2:Addr}{k1 k2:Nat}{xs ys:Array Value}{x y a b:Value}{t1 t2:Bool}
theorem zg6 {b:Bool}{l:Addr}{items:Array Value}{Q:Value->Shared->Prop}(h:SSq b s.heap l items) (q:Q (.ref s.heap.objs.size) { s with heap:=s.heap.push { cls:=.type (zog b),data:=.fields #[.ref l,.int 0 0] } }):wpAny (model prog w) A (pyIter (.ref l)) Q E s:=by
  cases b with
  | true=>exact wpAny_pyIter_tuple (show s.heap.IsTuple l items from h) q
  | false=>exact wpAny_pyIter_list (show s.heap.IsList l items from h) q
end
def SqV (K:PySem.W.Frag) (b:Bool) (H:Hp) (a:Addr) (xs:List V):Prop:=if b=true then SqT K H a xs else SqL K H a xs
section
variable {X:Cx}{pins:List (Addr×Obj)}{σ:St}{H:Hp}{s:Shared}{a:Addr}{xs ys:List V}
theorem Inv.sq {b:Bool}(I:Inv X pins σ H s) (h:SqV X.K b H a xs):∃its:List Value,Vals xs its/\SSq b s.heap a its.toArray:=by
  cases b with
  | true=>
    obtain⟨its,r,p,_⟩:=I.tuple (show SqT X.K H a xs from h)
    exact⟨its,r,p⟩
  | false=>
    obtain⟨its,r,p,_⟩:=I.list (show SqL X.K H a xs from h)
    exact⟨its,r,p.isList⟩
end
open Sem (wp)
def zf3 (b:Bool) (l:Addr):Obj:={ cls:=.type (zog b),data:=.fields #[.ref l,.int 0 0] }
def zj7 (it:Addr) (n:Int):Obj:={ cls:=.type "enumerate",data:=.fields #[.none,.bool false,.ref it,rawInt n,.none,.none] }
theorem zep (a b:Value):checkTypeCall "enumerate" ⟨[a],[("start",b)]⟩=pure ():=by kernel_rfl
theorem zfg (a b:Value):checkBuiltinCall "enumerate.__new__" ⟨[.type "enumerate",a],[("start",b)]⟩=pure ():=by kernel_rfl
theorem zmf (b:Bool) (l:Addr) (xs:Array Value) (n:Int) (t:Tok) (hn:Builtin.SmallTypes.fitsIndex n=true) :
    Meets (Builtin.«enumerate.__new__» ⟨[.type "enumerate",.ref l],[("start",.int n t)]⟩) (fun _ R s=>SSq b s.heap l xs/\R (.ok (.ret (.ref (s.heap.push (zf3 b l)).objs.size))) { s with heap:=(s.heap.push (zf3 b l)).push (zj7 s.heap.objs.size n) }):=
  .of_wp fun prog w A R s h=>by
    obtain⟨hp,g,d,tk,os⟩:=s
    obtain⟨q1,h⟩:=h
    have sub:=sub_enumerate
    have a1:SSq b (Shared.heap ⟨hp,g,d,tk,os⟩) l xs:=q1
    wp_walk using zg6 a1
    refine wpAny_stack_any (fun stk=>wpAny_pure ?_)
    split
    · rename_i c _ _ _ _ _
      generalize (c == Value.type "enumerate")=short
      cases short
      all_goals
        wp_walk using zg6 a1
        exact⟨_,rfl,h⟩
    · wp_walk using zg6 a1
      exact⟨_,rfl,h⟩
theorem zj8 (a b c:Value):argsOk "object.__init__" ⟨[a,b],[("start",c)]⟩:=by
  unfold argsOk
  rw[signature?_of (id:="object.__init__") (n:="__tini__".toList) (o:="tcejbo".toList) (by kernel_rfl) F.owner_object]
  kernel_rfl
theorem zmg {self a b:Value}{k:Str}:Meets (Builtin.«object.__init__» ⟨[self,a],[(k,b)]⟩) (fun _ R s=>s.TypeIs self "enumerate"/\R (.ok (.ret .none)) s):=by
  refine Meets.of_wp fun prog w A R s hs=>?_
  obtain⟨hT,hq⟩:=hs
  have hl:typeLookup (.type "enumerate") "__init__" = pure (some (.builtin "object.__init__")):=F.called_enumerate.init.lookup
  have hm:=F.called_enumerate.made
  have hne:(some "enumerate.__new__" != some "object.__new__")=true:=by decide
  repeat (any_goals first | wp_step | assumption)
  exact⟨_,rfl,hq⟩
section
variable {prog:Program}{w:World}{A:Around}{E:Value->Shared->Prop}{s:Shared}
theorem zoh {b:Bool}{l:Addr}{xs:Array Value}{n:Int}{t:Tok}{Q:Value->Shared->Prop}(hn:Builtin.SmallTypes.fitsIndex n=true) (q1:SSq b s.heap l xs)
    (h:∀g,IsEnum g (s.heap.objs.size+1) s.heap.objs.size n .none->SIt b g s.heap.objs.size l 0->(∀c o,s.heap.get? c=some o->g.get? c=some o)->Q (.ref (s.heap.objs.size+1)) { s with heap:=g }) :
    wpAny (model prog w) A (call (.type "enumerate") [.ref l] [("start",.int n t)]) Q E s:=by
  have ft:=F.called_enumerate
  obtain⟨c,tl,hmro⟩:=ft.mro
  have hmade:=ft.made
  have hsub:=ft.sub
  have hct:=zep (.ref l) (.int n t)
  refine wpAny_call (codeAny_of_tree ?_)
  show wpAny (model prog w) _ (callAny (.type "enumerate") _) _ _ _
  refine wpAny_pure ⟨Code.quiet_builtin _ (by decide +kernel),codeAny_builtin F.entry_type_call ?_⟩
  rw[Around.under_plain (weight_type_call_type "enumerate" [.ref l] [("start",.int n t)]) (units_type_call_type "enumerate" [.ref l] [("start",.int n t)])]
  have h1:=ft.notType
  have h2:=ft.canCreate
  repeat (any_goals first | wp_step | assumption)
  have sz:(s.heap.push (zf3 b l)).objs.size=s.heap.objs.size+1:=Heap.size_push ..
  have en:IsEnum ((s.heap.push (zf3 b l)).push (zj7 s.heap.objs.size n)) (s.heap.objs.size+1) s.heap.objs.size n .none:=by
    have:=Heap.get?_push_size (s.heap.push (zf3 b l)) (o:=zj7 s.heap.objs.size n) rfl
    rwa [sz] at this
  have itg:((s.heap.push (zf3 b l)).push (zj7 s.heap.objs.size n)).get? s.heap.objs.size=some (zf3 b l):=Heap.get?_push_of_some _ (Heap.get?_push_size _ rfl)
  refine codeAny_mono (codeAny_call_builtin ft.plain F.entry_enumerate_new (wpAny_of_eq (zfg _ _) (zmf b l xs n t hn prog w A.in1
    (wants (fun obj s1=>obj = .ref (s.heap.objs.size+1)/\s1 = { s with heap:=(s.heap.push (zf3 b l)).push (zj7 s.heap.objs.size n) }) E) s ⟨q1,by rw[sz];exact⟨rfl,rfl⟩⟩))) fun r s1 hr=>?_
  cases r with
  | error e=>exact hr
  | ok fl=>
    cases fl with
    | ret obj=>
      obtain⟨rfl,rfl⟩:=hr
      have hT:({ s with heap:=(s.heap.push (zf3 b l)).push (zj7 s.heap.objs.size n) }:Shared).TypeIs (.ref (s.heap.objs.size+1)) "enumerate":=⟨_,en,rfl⟩
      have hli:=ft.init.lookup
      have hbi:=ft.init.bind (.ref (s.heap.objs.size+1))
      repeat (any_goals first | wp_step | assumption)
      refine codeAny_mono (codeAny_call_builtin ft.init.plain F.entry_object_init (ft.init.check _ _ _ _ _ _ _ _ hT (zj8 _ _ _) (zmg prog w A.in1 (wants (fun r s2=>r = .none/\s2 = { s with heap:=(s.heap.push (zf3 b l)).push (zj7 s.heap.objs.size n) }) E) _ ⟨hT,rfl,rfl⟩))) fun r2 s2 hr2=>?_
      cases r2 with
      | error e=>exact hr2
      | ok fl2=>
        cases fl2 with
        | ret r=>
          obtain⟨rfl,rfl⟩:=hr2
          repeat (any_goals first | wp_step | assumption)
          refine h _ en ?_ fun c o e=>Heap.get?_push_of_some _ (Heap.get?_push_of_some _ e)
          cases b with
          | true=>exact⟨_,itg,rfl,rfl⟩
          | false=>exact⟨_,itg,rfl,rfl⟩
        | _=>exact hr2.elim
    | _=>exact hr.elim
end
def zvx (K:PySem.W.Frag) (n:Nat) (te:TE):TI:=fun σ H R=>te σ H fun x H1=>∃l xs,x = .ref l/\SqL K H1 l xs/\R (Ite K l n) H1
section
variable {X:Cx}
theorem ztt {elts:List Expr}{ct:Nat}{tpos:Pos}{e:Expr}{te:TE}{p pos kpos cpos:Pos}{j:Nat}(n:Nat) (hn:Builtin.SmallTypes.fitsIndex (n:Int)=true) (hg:Gl X "enumerate") (hm:X.mg "enumerate" = none) (he:PE X e te)
    (hs:starEach [e] X.env = [(false,eval e X.env)]:=by rfl) :
    PI X (.Tuple elts ct tpos) (.Call (.Name "enumerate" p) [e] [⟨some "start",.Constant (.int (n:Int)) j cpos,kpos⟩] pos) (zvx X.K n te):=by
  intro pins s σ H R I h
  refine wpAny_Call_Name_kw (zdo I hg hm boot_enumerate ?_)
  refine PySem.W.callWith_of (P:=fun _=>True) (first:=[]) (by rw[hs];rfl) (fun h _=>⟨.machine,.inr (.inl rfl),fun _ _ _ _ _ q=>wpAny_pure q⟩) (PyProof.Rows.evalArgs_kw2 rfl ?_ hs)
  refine thn (za he zd hs pos pins s σ H (fun vs H1=>match vs with | [x]=>∃l xs,x = .ref l/\SqL X.K H1 l xs/\R (Ite X.K l n) H1 | _=>False) I h) fun us s1 hq0=>?_
  obtain⟨vs,H1,I1,r,q⟩:=hq0
  match vs,q with
  | [x],q=>
    obtain⟨l,xs,rfl,hl,q⟩:=q
    obtain⟨u,rfl,ru⟩:=zbs r
    cases ru
    refine thn (znv (nm:=some "start") (kpos:=kpos) (zj (i:=(n:Int)) (j:=j) (pos:=cpos)) zsf pos pins s1 σ H1 (fun zs H2=>zs = [.int (n:Int)]/\H2=H1) I1 ⟨rfl,rfl⟩) fun ws s2 ⟨zs,H2,I2,rz,q2⟩=>⟨trivial,?_⟩
    obtain⟨rfl,rfl⟩:=q2
    obtain⟨v,rfl,t,rfl⟩:=zbs rz
    obtain⟨its,r',g1⟩:=I2.sq (b:=false) hl
    refine zoh hn g1 fun g en it kk=>wpAny_pyIter_enum en ?_
    have f:∀k,FpOk X pins H2 (s2.heap.objs.size+k):=fun k=>I2.fpOk (Nat.le_add_right _ _) (I2.hok.fresh (Nat.le_add_right _ _))
    refine⟨s2.heap.objs.size+1,[s2.heap.objs.size+1,s2.heap.objs.size],_,_,H2,rfl,I2.kept (t':=s2.toks) kk,zof l _ _ n (Nat.succ_ne_self _),⟨⟨_,en⟩,it⟩,fun b hb=>?_,q⟩
    simp only [List.mem_cons,List.not_mem_nil,or_false] at hb
    rcases hb with rfl | rfl
    · exact f 1
    · exact f 0
end
open Sem (wp)
def RawD (h:Heap) (d:Addr) (es:Array DictEntry) (ep:Nat):Prop:=∃o,h.get? d=some o/\o.ExactDict/\o.data = .dict es ep
theorem RawD.at {h h':Heap}{d:Addr}{es:Array DictEntry}{ep:Nat}(q:RawD h d es ep) (k:∀o,h.get? d=some o->h'.get? d=some o):RawD h' d es ep:=let ⟨o,ho,r⟩:=q;⟨o,k o ho,r⟩
theorem RawD.typeIs {s:Shared}{d:Addr}{es:Array DictEntry}{ep:Nat}(q:RawD s.heap d es ep):s.TypeIs (.ref d) "dict":=let ⟨o,ho,c,_⟩:=q;⟨o,ho,c.1⟩
section
variable {prog:Program}{w:World}{A:Around}{E:Value->Shared->Prop}{s:Shared}
theorem zg7 {d:Addr}{es:Array DictEntry}{ep:Nat}{Q:Value->Shared->Prop}(hd:(d == sysModules)=false) (hm:RawD s.heap d es ep)
    (hQ:Q (.ref s.heap.objs.size) { s with heap:=s.heap.push { cls:=.type "dict_keyiterator",data:=.fields #[.ref d,.int 0 0,.int es.size 0,.int ep 0] } }):wpAny (model prog w) A (pyIter (.ref d)) Q E s:=by
  obtain⟨o,ho,hc,hdat⟩:=id hm
  have T:s.TypeIs (.ref d) "dict":=hm.typeIs
  refine wpAny_pyIter_slot T F.slot_dict_iter (wpAny_call_entry F.slot_dict_iter T F.entry_dict_iter ?_ (F.args_dict_iter_1 _))
  unfold Builtin.«dict.__iter__»
  refine wpAny_bind ?_
  unfold Builtin.Dict.dictSlotNone
  refine wpAny_bind (wpAny_notOrdered_dict T ?_)
  show wpAny (model prog w) _ (pure (Value.ref d)) _ _ s
  refine wpAny_pure ?_
  show wpAny (model prog w) _ (Builtin.Dict.showsAll d >>= _) _ _ s
  unfold Builtin.Dict.showsAll
  rw[if_neg (by rw[hd];exact Bool.false_ne_true)]
  refine wpAny_bind (wpAny_pure (wpAny_bind (wpAny_dictEntries ho hdat (wpAny_bind (wpAny_dictEpoch ho hdat ?_)))))
  exact wpAny_bind (wpAny_newObj_type (wpAny_pure ⟨_,rfl,"dict_keyiterator",_,⟨_,Heap.get?_push_size _ rfl,rfl⟩,F.slot_dict_keyiterator_next.lookup,hQ⟩))
theorem zlc {it d:Addr}{i ep:Nat}{es:Array DictEntry}{e:DictEntry}{Q:Option Value->Shared->Prop}(hit:s.heap.IsKeyIter it d i es.size ep) (hm:RawD s.heap d es ep) (hx:es[i]? = some e)
    (hQ:∀h1,h1.IsKeyIter it d (i+1) es.size ep->Heap.SameBut it s.heap h1->Q (some e.key) { s with heap:=h1 }):wpAny (model prog w) A (pyNext (.ref it)) Q E s:=by
  obtain⟨o,ho,hc,hd⟩:=id hit
  obtain⟨od,hod,hcd,hdd⟩:=id hm
  obtain⟨hlt,he⟩:=Array.getElem?_eq_some_iff.mp hx
  subst he
  unfold pyNext
  refine wpAny_bind (wpAny_attempt (wpAny_callSpecial?_slot (name:=Str.ofString "__next__") hit.typeIs F.slot_dict_keyiterator_next (wpAny_call_entry F.slot_dict_keyiterator_next hit.typeIs F.entry_dict_keyiterator_next ?_ (F.args_dict_keyiterator_next_1 _))))
  refine wpAny_bind (wpAny_pure (wpAny_bind (wpAny_bind ?_)))
  refine wpAny_bind (wpAny_typeNameOfWhole_keyiter hit.typeIs (wpAny_pure (wpAny_bind (wpAny_fieldsOf ho hd ?_))))
  have own:Builtin.Dict_items.ownsTuple "dict_keyiterator" = false:=by decide
  simp only [own,Bool.false_eq_true,if_false]
  show wpAny (model prog w) _ (if (Value.ref d == Value.none)=true then _ else _) _ _ s
  rw[if_neg (show ¬((Value.ref d == Value.none)=true) from Bool.false_ne_true)]
  refine wpAny_bind (wpAny_pure (wpAny_bind (wpAny_dictEntries hod hdd ?_)))
  rw[if_neg (by simp)]
  refine wpAny_bind (wpAny_pure (wpAny_bind (wpAny_dictEpoch hod hdd ?_)))
  rw[if_neg (by simp)]
  refine wpAny_pure ?_
  simp only [show ¬((i:Int)<0) from by omega,if_false,Int.toNat_natCast,Array.getElem?_eq_getElem hlt]
  refine wpAny_bind (wpAny_bind (wpAny_typeNameOfWhole_keyiter hit.typeIs (wpAny_pure (wpAny_bind (wpAny_isOneOf_keyiter hit.typeIs ?_)))))
  show wpAny (model prog w) _ (setField (.ref it) 1 (rawInt ((i:Int)+1)) >>= _) _ _ s
  refine wpAny_bind (wpAny_setField ho hd (by simp) ?_)
  have nx:(s.heap.update it (Obj.mapFields (·.setIfInBounds 1 (rawInt ((i:Int)+1))))).IsKeyIter it d (i+1) es.size ep:=
    ⟨_,Heap.get?_update_self _ ho (Obj.isFreed_of_fields (Obj.data_mapFields hd _)),(Obj.cls_mapFields ..).trans hc,by rw[Obj.data_mapFields hd];simp[rawInt]⟩
  refine wpAny_bind (wpAny_holding (wpAny_bind (wpAny_isOneOf_keyiter (s:={ s with heap:=s.heap.update it (Obj.mapFields (·.setIfInBounds 1 (rawInt ((i:Int)+1)))) }) nx.typeIs ?_)))
  show wpAny (model prog w) _ (pure es[i].key) _ _ _
  exact wpAny_pure (wpAny_pure ⟨_,rfl,wpAny_pure (hQ _ nx (Heap.SameBut.update ..))⟩)
theorem zoi {it d:Addr}{i ep:Nat}{es:Array DictEntry}{Q:Option Value->Shared->Prop}(hh:A.handled=none) (hit:s.heap.IsKeyIter it d i es.size ep) (hm:RawD s.heap d es ep) (hx:es.size<=i)
    (hQ:∀h1,Heap.ExtBut it s.heap h1->Q none { s with heap:=h1 }):wpAny (model prog w) A (pyNext (.ref it)) Q E s:=by
  obtain⟨o,ho,hc,hd⟩:=id hit
  obtain⟨od,hod,hcd,hdd⟩:=id hm
  unfold pyNext
  refine wpAny_bind (wpAny_attempt (wpAny_callSpecial?_slot (name:=Str.ofString "__next__") hit.typeIs F.slot_dict_keyiterator_next (wpAny_call_entry F.slot_dict_keyiterator_next hit.typeIs F.entry_dict_keyiterator_next ?_ (F.args_dict_keyiterator_next_1 _))))
  refine wpAny_bind (wpAny_pure (wpAny_bind (wpAny_bind ?_)))
  refine wpAny_bind (wpAny_typeNameOfWhole_keyiter hit.typeIs (wpAny_pure (wpAny_bind (wpAny_fieldsOf ho hd ?_))))
  have own:Builtin.Dict_items.ownsTuple "dict_keyiterator" = false:=by decide
  simp only [own,Bool.false_eq_true,if_false]
  show wpAny (model prog w) _ (if (Value.ref d == Value.none)=true then _ else _) _ _ s
  rw[if_neg (show ¬((Value.ref d == Value.none)=true) from Bool.false_ne_true)]
  refine wpAny_bind (wpAny_pure (wpAny_bind (wpAny_dictEntries hod hdd ?_)))
  rw[if_neg (by simp)]
  refine wpAny_bind (wpAny_pure (wpAny_bind (wpAny_dictEpoch hod hdd ?_)))
  rw[if_neg (by simp)]
  refine wpAny_pure ?_
  simp only [show ¬((i:Int)<0) from by omega,if_false,Int.toNat_natCast,Array.getElem?_eq_none hx]
  refine wpAny_bind (wpAny_bind (wpAny_typeNameOfWhole_keyiter hit.typeIs (wpAny_pure ?_)))
  show wpAny (model prog w) _ (setField (.ref it) 0 .none >>= _) _ _ s
  refine wpAny_bind (wpAny_setField ho hd (by simp) ?_)
  show wpAny (model prog w) _ (newExc (.type "StopIteration") [] >>= _) _ _ _
  refine wpAny_bind ?_
  simp only [newExc,newTuple]
  refine wpAny_bind (wpAny_newObj_type (wpAny_bind (m:=firstArgMember _ _) (wpAny_of_eq (a:=Value.none) (by first | rfl | (simp only [firstArgMember];rfl)) (wpAny_newObj_type ?_ (by size_fits)))) (by size_fits))
  simp only [raiseNew]
  refine wpAny_bind (wpAny_handled ?_)
  rw[show A.in1.handled=none from hh]
  refine wpAny_bind (wpAny_pure (wpAny_throw ?_))
  exact wpAny_bind (wpAny_isInstance (T:="StopIteration") (b:=true) ⟨_,Heap.get?_push_size _ rfl,rfl⟩ isSubtype_stop (wpAny_pure (hQ _ (((Heap.SameBut.update ..).extBut.push _).push _))))
theorem zir (hh:A.handled=none) (I d:Addr) (hne:d≠I) (es:Array DictEntry) (ep:Nat) :
    Walks prog w A I [I,d] [I] es.size (fun i v=>∃e,es[i]? = some e/\v=e.key) (fun i h=>h.IsKeyIter I d i es.size ep/\RawD h d es ep) where
  sub:=fun b hb=>by simp at hb;simp[hb]
  frame:=fun _ _ _ st hk=>⟨st.1.at fun o e=>hk I (by simp) o e,st.2.at fun o e=>hk d (by simp) o e⟩
  item:=fun i s Q E hi st hQ=>by
    have hx:es[i]? = some es[i]:=Array.getElem?_eq_getElem hi
    exact zlc st.1 st.2 hx fun h1 it' hs=>hQ _ h1 s.toks ⟨_,hx,rfl⟩ ⟨it',st.2.at fun o e=>(hs.2 d hne).trans e⟩ fun b o hb e=>(hs.2 b (fun h=>hb (by simp[h]))).trans e
  done:=fun s Q E st hQ=>zoi hh st.1 st.2 (Nat.le_refl _) fun h1 he=>hQ h1 s.toks fun b o hb e=>he b o (fun h=>hb (by simp[h])) e
  self:=fun _ _ _ _ st hQ=>wpAny_pyIter_keyiter st.1 hQ
theorem zis {d:Addr}{Q:Bool->Shared->Prop}(T:s.TypeIs (.ref d) "dict") (hq:Q false s):wpAny (model prog w) A (Builtin.List.listLengthHint (.ref d)) Q E s:=by
  unfold Builtin.List.listLengthHint
  refine wpAny_bind (wpAny_specialOf T F.slot_dict_len.lookup ?_)
  have e:splitId "dict.__len__" = some ("dict","__len__"):=by kernel_rfl
  simp only [e]
  have sub:isSubtype (.type "dict") (.type "dict")=pure true:=by rw[isSubtype_type];kernel_rfl
  exact wpAny_bind (wpAny_isInstance (T:="dict") (b:=true) T sub (wpAny_bind (wpAny_typeOf T (wpAny_pure hq))))
theorem zoj {d:Addr}{Q:Bool->Shared->Prop}(T:s.TypeIs (.ref d) "dict_values") (hq:Q false s):wpAny (model prog w) A (Builtin.List.listLengthHint (.ref d)) Q E s:=by
  unfold Builtin.List.listLengthHint
  refine wpAny_bind (wpAny_specialOf T F.slot_dict_values_len.lookup ?_)
  have e:splitId "dict_values.__len__" = some ("dict_values","__len__"):=by kernel_rfl
  simp only [e]
  have sub:isSubtype (.type "dict_values") (.type "dict_values")=pure true:=by rw[isSubtype_type];kernel_rfl
  exact wpAny_bind (wpAny_isInstance (T:="dict_values") (b:=true) T sub (wpAny_bind (wpAny_typeOf T (wpAny_pure hq))))
end
section
variable {prog:Program}{w:World}{A:Around}{s:Shared}{R:Result->Shared->Prop}{I:Addr}{fp wr:List Addr}{n:Nat}{P:Nat->Value->Prop}{St:Nat->Heap->Prop}
theorem zit (W:Walks prog w A.in1 I fp wr n P St) (hn:n<=sizeLine) (S:Addr) (c:Nat) (hst:St 0 s.heap) (hS:S ∉ fp) (hl:s.heap.get? S=some { cls:=.type "list",data:=.seq #[] c })
    (hR:∀s1 acc c1,Moved (S::wr) (fun a b=>b=a) s s1->s1.heap.get? S=some { cls:=.type "list",dict:=none,data:=.seq acc c1,slots:=#[] }->ItemsOf P acc n->R (.ok (.ret .none)) s1) :
    wpAny (model prog w) A.in1 (rule "list.extend.makes-room" >>= fun _=>Builtin.List.listTouch (.ref S) >>= fun _=>again (.builtin "list.extend.loop" ⟨[.ref S,.ref I,.none],[]⟩))
      (fun fin s1=>match fin with | .done f=>R (.ok f) s1 | .again c1=>c1.quiet=true/\codeAny (model prog w) A c1 R s1) (fun e s1=>R (.error e) s1) s:=by
  refine wpAny_bind (wpAny_rule (wpAny_bind ?_))
  show wpAny (model prog w) A.in1 (updateSeq S (·.push .none) >>= fun _=>updateSeq S (·.pop)) _ _ _
  refine wpAny_bind (wpAny_updateSeq hl rfl ?_)
  have l2:=Heap.get?_update_self (Obj.mapSeq (·.push Value.none)) hl rfl
  refine wpAny_updateSeq (hz:=by seq_fits) l2 rfl ?_
  have l3:=Heap.get?_update_self (Obj.mapSeq (·.pop)) l2 rfl
  have oth:∀b o,b≠S->s.heap.get? b=some o->((s.heap.update S (Obj.mapSeq (·.push Value.none))).update S (Obj.mapSeq (·.pop))).get? b=some o:=fun b o hb e=>(Heap.get?_update_other _ _ (Ne.symm hb)).trans ((Heap.get?_update_other _ _ (Ne.symm hb)).trans e)
  refine wpAny_pure ⟨plainId_quiet F.plain_extend_loop _,codeAny_extend_loopS W.toS hn _ hS _ n 0 _ _ _ rfl (Nat.zero_le _) (W.toS.frame 0 s _ s.toks hst (Nat.le_refl _) fun b hb o e=>oth b o (fun h=>hS (h▸hb)) e) l3 (ItemsOf.nil P) fun s1 acc c1 hm h1 h2=>?_⟩
  have m0:Moved (S::wr) (fun (a b:Array GenState)=>b=a) s { s with heap:=(s.heap.update S (Obj.mapSeq (·.push Value.none))).update S (Obj.mapSeq (·.pop)) }:=⟨fun b o hb e=>oth b o (fun h=>hb (by simp[h])) e,rfl,rfl,rfl,Nat.le_refl _⟩
  exact hR s1 acc c1 (Moved.trans (fun _ _ _ h1 h2=>h2.trans h1) m0 hm) h1 h2
end
section
variable {prog:Program}{w:World}{A:Around}{s:Shared}{R:Result->Shared->Prop}
theorem zfh {S:Addr}{x:Value}(hl:s.heap.get? S=some { cls:=.type "list",data:=.seq #[] })
    (h:wpAny (model prog w) A.in1 (Builtin.List.listExtendWith (.ref S) x .none) (fun fin s1=>match fin with | .done f=>R (.ok f) s1 | .again c1=>c1.quiet=true/\codeAny (model prog w) A c1 R s1) (fun e s1=>R (.error e) s1)
      { s with heap:=s.heap.update S (Obj.mapSeq (fun _=>(#[]:Array Value))) }) :
    wpAny (model prog w) A.in1 (Builtin.«list.__init__» ⟨[.ref S,x],[]⟩) (fun fin s1=>match fin with | .done f=>R (.ok f) s1 | .again c1=>c1.quiet=true/\codeAny (model prog w) A c1 R s1) (fun e s1=>R (.error e) s1) s:=by
  show wpAny (model prog w) A.in1 (do let was ←Builtin.List.listItems (.ref S);Builtin.List.listUpdate (.ref S) (fun _=>#[]);letGo was.toList.reverse;Builtin.List.listExtendWith (.ref S) x .none) _ _ s
  refine wpAny_bind ?_
  unfold Builtin.List.listItems
  refine wpAny_bind (wpAny_seqItems hl rfl (wpAny_pure ?_))
  show wpAny (model prog w) A.in1 (updateSeq S (fun _=>#[]) >>= fun _=>letGo (#[]:Array Value).toList.reverse >>= fun _=>Builtin.List.listExtendWith (.ref S) x .none) _ _ s
  exact wpAny_bind (wpAny_updateSeq hl rfl (wpAny_bind (wpAny_letGo h)))
end
section
variable {prog:Program}{w:World}{A:Around}{E:Value->Shared->Prop}{s:Shared}
theorem ziu {d:Addr}{es:Array DictEntry}{ep:Nat}{Q:Value->Shared->Prop}(hh:A.handled=none) (hd:(d == sysModules)=false) (hm:RawD s.heap d es ep) (hn:es.size<=sizeLine)
    (hQ:∀h1 acc c tk,(∀b o,s.heap.get? b=some o->h1.get? b=some o)->h1.get? s.heap.objs.size=some { cls:=.type "list",dict:=none,data:=.seq acc c,slots:=#[] }->ItemsOf (fun i v=>∃e,es[i]? = some e/\v=e.key) acc es.size->
      Q (.ref s.heap.objs.size) { s with heap:=h1,toks:=tk }):wpAny (model prog w) A (call (.type "list") [.ref d]) Q E s:=by
  have dl:d<s.heap.objs.size:=by obtain⟨o,ho,_⟩:=hm;exact Heap.lt_size ho
  refine callType_codes (Q₁:=fun obj s1=>obj = .ref s.heap.objs.size/\s1 = { s with heap:=s.heap.push { cls:=.type "list",data:=.seq #[] } }) F.called_list (F.typeCall_list_1 _) F.entry_list_init (code_list_new _ ⟨rfl,rfl⟩) fun obj s1 h1=>?_
  obtain⟨rfl,rfl⟩:=h1
  have hS:(s.heap.push { cls:=.type "list",data:=.seq #[] }).get? s.heap.objs.size=some { cls:=.type "list",data:=.seq #[] }:=Heap.get?_push_size _ rfl
  refine⟨⟨_,hS,rfl⟩,F.args_list_init_2 _ _,zfh hS ?_⟩
  have l2:=Heap.get?_update_self (Obj.mapSeq (fun _=>(#[]:Array Value))) hS rfl
  have old:∀b o,s.heap.get? b=some o->((s.heap.push { cls:=.type "list",data:=.seq #[] }).update s.heap.objs.size (Obj.mapSeq (fun _=>(#[]:Array Value)))).get? b=some o:=fun b o e=>
    (Heap.get?_update_other _ _ (fun z=>Nat.lt_irrefl _ (z▸Heap.lt_size e))).trans (Heap.get?_push_of_some _ e)
  have hm2:=hm.at (h':=(s.heap.push { cls:=.type "list",data:=.seq #[] }).update s.heap.objs.size (Obj.mapSeq (fun _=>(#[]:Array Value)))) fun o e=>old d o e
  have zu:((s.heap.push { cls:=.type "list",data:=.seq #[] }).update s.heap.objs.size (Obj.mapSeq (fun _=>(#[]:Array Value)))).objs.size=s.heap.objs.size+1:=by rw[Heap.size_update,Heap.size_push]
  generalize (s.heap.push { cls:=.type "list",data:=.seq #[] }).update s.heap.objs.size (Obj.mapSeq (fun _=>(#[]:Array Value)))=g at l2 old hm2 zu
  have T:({ s with heap:=g }:Shared).TypeIs (.ref d) "dict":=hm2.typeIs
  unfold Builtin.List.listExtendWith
  refine wpAny_bind (wpAny_typeOf T ?_)
  have sr:Builtin.List.listSameRef (.ref s.heap.objs.size) (.ref d)=false:=by
    have:s.heap.objs.size≠d:=Ne.symm (Nat.ne_of_lt dl)
    simp[Builtin.List.listSameRef,this]
  have t1:(Value.type "dict" == Value.type "list")=false:=by decide
  have t2:(Value.type "dict" == Value.type "tuple")=false:=by decide
  simp only [sr,t1,t2,Bool.or_false,Bool.false_eq_true,if_false]
  refine wpAny_bind (zg7 (s:={ s with heap:=g }) hd hm2 ?_)
  have hm3:=hm2.at (h':=g.push { cls:=.type "dict_keyiterator",data:=.fields #[.ref d,.int 0 0,.int es.size 0,.int ep 0] }) fun o e=>Heap.get?_push_of_some _ e
  refine wpAny_bind (wpAny_holding (zis (s:={ s with heap:=g.push { cls:=.type "dict_keyiterator",data:=.fields #[.ref d,.int 0 0,.int es.size 0,.int ep 0] } }) hm3.typeIs ?_))
  have dI:d≠g.objs.size:=by rw[zu];exact Nat.ne_of_lt (Nat.lt_succ_of_lt dl)
  have SI:s.heap.objs.size ∉ [g.objs.size,d]:=by
    rw[zu]
    intro z
    simp only [List.mem_cons,List.not_mem_nil,or_false] at z
    rcases z with z | z
    · exact absurd z (Nat.ne_of_lt (Nat.lt_succ_self _))
    · exact absurd z (Ne.symm (Nat.ne_of_lt dl))
  refine zit (A:=A.in1) (s:={ s with heap:=g.push { cls:=.type "dict_keyiterator",data:=.fields #[.ref d,.int 0 0,.int es.size 0,.int ep 0] } }) (zir (A:=A.in1.in1) hh g.objs.size d dI es ep) hn _ _ ⟨⟨_,Heap.get?_push_size _ rfl,rfl,rfl⟩,hm3⟩ SI (Heap.get?_push_of_some _ l2) fun s2 acc c hmv h2 h3=>?_
  obtain⟨hp,ge,dr,tk,os⟩:=s2
  obtain⟨m1,m2,m3,m4,m5⟩:=hmv
  obtain rfl:ge=s.gens:=m2
  obtain rfl:dr=s.drawn:=m3
  obtain rfl:os=s.os:=m4
  refine⟨rfl,hQ hp acc c tk (fun b o e=>m1 b o ?_ (Heap.get?_push_of_some _ (old b o e))) h2 h3⟩
  intro z
  have bl:=Heap.lt_size e
  simp only [List.mem_cons,List.not_mem_nil,or_false] at z
  rcases z with z | z
  · exact absurd bl (by rw[z];exact Nat.lt_irrefl _)
  · have z:b=g.objs.size:=z
    rw[z,zu] at bl
    exact absurd bl (Nat.not_lt_of_le (Nat.le_succ _))
theorem ziv {κ:Type} [DecidableEq κ] {knd:KeyKind prog w κ}{d v:Addr}{kvs:List (κ×Value)}{Q:Value->Shared->Prop}(hh:A.handled=none) (hv:s.heap.IsValuesView v d) (hm:s.heap.DictOf knd d kvs) (hn:kvs.length<=sizeLine)
    (hQ:∀h1 acc c tk,(∀b o,s.heap.get? b=some o->h1.get? b=some o)->h1.get? s.heap.objs.size=some { cls:=.type "list",dict:=none,data:=.seq acc c,slots:=#[] }->ItemsOf (fun i v=>∃k,kvs[i]? = some (k,v)) acc kvs.length->
      Q (.ref s.heap.objs.size) { s with heap:=h1,toks:=tk }):wpAny (model prog w) A (call (.type "list") [.ref v]) Q E s:=by
  obtain⟨ep,hm⟩:=hm.dictAt
  have dl:d<s.heap.objs.size:=hm.lt_size
  have vl:v<s.heap.objs.size:=by obtain⟨o,ho,_⟩:=hv;exact Heap.lt_size ho
  refine callType_codes (Q₁:=fun obj s1=>obj = .ref s.heap.objs.size/\s1 = { s with heap:=s.heap.push { cls:=.type "list",data:=.seq #[] } }) F.called_list (F.typeCall_list_1 _) F.entry_list_init (code_list_new _ ⟨rfl,rfl⟩) fun obj s1 h1=>?_
  obtain⟨rfl,rfl⟩:=h1
  have hS:(s.heap.push { cls:=.type "list",data:=.seq #[] }).get? s.heap.objs.size=some { cls:=.type "list",data:=.seq #[] }:=Heap.get?_push_size _ rfl
  refine⟨⟨_,hS,rfl⟩,F.args_list_init_2 _ _,zfh hS ?_⟩
  have l2:=Heap.get?_update_self (Obj.mapSeq (fun _=>(#[]:Array Value))) hS rfl
  have old:∀b o,s.heap.get? b=some o->((s.heap.push { cls:=.type "list",data:=.seq #[] }).update s.heap.objs.size (Obj.mapSeq (fun _=>(#[]:Array Value)))).get? b=some o:=fun b o e=>
    (Heap.get?_update_other _ _ (fun z=>Nat.lt_irrefl _ (z▸Heap.lt_size e))).trans (Heap.get?_push_of_some _ e)
  have hm2:=hm.keep old
  have hv2:((s.heap.push { cls:=.type "list",data:=.seq #[] }).update s.heap.objs.size (Obj.mapSeq (fun _=>(#[]:Array Value)))).IsValuesView v d:=let ⟨o,ho,r⟩:=hv;⟨o,old v o ho,r⟩
  have zu:((s.heap.push { cls:=.type "list",data:=.seq #[] }).update s.heap.objs.size (Obj.mapSeq (fun _=>(#[]:Array Value)))).objs.size=s.heap.objs.size+1:=by rw[Heap.size_update,Heap.size_push]
  generalize (s.heap.push { cls:=.type "list",data:=.seq #[] }).update s.heap.objs.size (Obj.mapSeq (fun _=>(#[]:Array Value)))=g at l2 old hm2 hv2 zu
  have T:({ s with heap:=g }:Shared).TypeIs (.ref v) "dict_values":=hv2.typeIs
  unfold Builtin.List.listExtendWith
  refine wpAny_bind (wpAny_typeOf T ?_)
  have sr:Builtin.List.listSameRef (.ref s.heap.objs.size) (.ref v)=false:=by
    have:s.heap.objs.size≠v:=Ne.symm (Nat.ne_of_lt vl)
    simp[Builtin.List.listSameRef,this]
  have t1:(Value.type "dict_values" == Value.type "list")=false:=by decide
  have t2:(Value.type "dict_values" == Value.type "tuple")=false:=by decide
  simp only [sr,t1,t2,Bool.or_false,Bool.false_eq_true,if_false]
  refine wpAny_bind (wpAny_pyIter_values (s:={ s with heap:=g }) hv2 hm2 ?_)
  have hm3:=hm2.push { cls:=.type "dict_valueiterator",data:=.fields #[.ref d,.int 0 0,.int kvs.length 0,.int ep 0] }
  have hv3:(g.push { cls:=.type "dict_valueiterator",data:=.fields #[.ref d,.int 0 0,.int kvs.length 0,.int ep 0] }).IsValuesView v d:=let ⟨o,ho,r⟩:=hv2;⟨o,Heap.get?_push_of_some _ ho,r⟩
  refine wpAny_bind (wpAny_holding (zoj (s:={ s with heap:=g.push { cls:=.type "dict_valueiterator",data:=.fields #[.ref d,.int 0 0,.int kvs.length 0,.int ep 0] } }) hv3.typeIs ?_))
  have dI:d≠g.objs.size:=by rw[zu];exact Nat.ne_of_lt (Nat.lt_succ_of_lt dl)
  have SI:s.heap.objs.size ∉ [g.objs.size,d]:=by
    rw[zu]
    intro z
    simp only [List.mem_cons,List.not_mem_nil,or_false] at z
    rcases z with z | z
    · exact absurd z (Nat.ne_of_lt (Nat.lt_succ_self _))
    · exact absurd z (Ne.symm (Nat.ne_of_lt dl))
  refine zit (A:=A.in1) (s:={ s with heap:=g.push { cls:=.type "dict_valueiterator",data:=.fields #[.ref d,.int 0 0,.int kvs.length 0,.int ep 0] } }) (Walks.dictValues (A:=A.in1.in1) hh g.objs.size d dI kvs ep) hn _ _ ⟨⟨_,Heap.get?_push_size _ rfl,rfl,rfl⟩,hm3⟩ SI (Heap.get?_push_of_some _ l2) fun s2 acc c hmv h2 h3=>?_
  obtain⟨hp,ge,dr,tk,os⟩:=s2
  obtain⟨m1,m2,m3,m4,m5⟩:=hmv
  obtain rfl:ge=s.gens:=m2
  obtain rfl:dr=s.drawn:=m3
  obtain rfl:os=s.os:=m4
  refine⟨rfl,hQ hp acc c tk (fun b o e=>m1 b o ?_ (Heap.get?_push_of_some _ (old b o e))) h2 h3⟩
  intro z
  have bl:=Heap.lt_size e
  simp only [List.mem_cons,List.not_mem_nil,or_false] at z
  rcases z with z | z
  · exact absurd bl (by rw[z];exact Nat.lt_irrefl _)
  · have z:b=g.objs.size:=z
    rw[z,zu] at bl
    exact absurd bl (Nat.not_lt_of_le (Nat.le_succ _))
end
theorem Vals.of_get:∀{xs:List V}{us:List Value},xs.length=us.length->(∀(i:Nat) x u,xs[i]? = some x->us[i]? = some u->RelV x u)->Vals xs us
  | [],[],_,_=>.nil
  | x::xs,u::us,hl,h=>.cons (h 0 x u rfl rfl) (Vals.of_get (by simpa using hl) fun i y v e1 e2=>h (i+1) y v (by simpa using e1) (by simpa using e2))
  | [],_::_,hl,_=>by simp at hl
  | _::_,[],hl,_=>by simp at hl
theorem zok {k:Key}{v:Value}(h:zjw k v=true):RelV (kV k) v:=by
  rcases zap h with ⟨i,t,rfl,rfl⟩ | ⟨x,t,rfl,rfl⟩
  · exact⟨t,rfl⟩
  · exact⟨t,rfl⟩
theorem Paired.get' {α β:Type}{F:α->β->Prop}:∀{l₁:List α}{l₂:List β}{i:Nat}{a:α},Paired F l₁ l₂->l₁[i]? = some a->∃b,l₂[i]? = some b/\F a b
  | _,_,_,_,.nil,e=>by simp at e
  | _,_,0,_,.cons r _,e=>by simp at e;subst e;exact⟨_,rfl,r⟩
  | _,_,i+1,a,.cons _ t,e=>by
    obtain⟨u,h1,h2⟩:=Paired.get' (i:=i) (a:=a) t (by simpa using e)
    exact⟨u,by simpa using h1,h2⟩
section
variable {X:Cx}
theorem zld {pins:List (Addr×Obj)}{σ:St}{H:Hp}{s:Shared}{Q:VK}{ys:List V}{h1:Heap}{acc:Array Value}{c tk:Nat}(I:Inv X pins σ H s) (kp:∀b o,s.heap.get? b=some o->h1.get? b=some o)
    (e:h1.get? s.heap.objs.size=some { cls:=.type "list",dict:=none,data:=.seq acc c,slots:=#[] }) (r:Vals ys acc.toList) (hz:ys.length<=sizeLine) (q:∀l,H l=none->Q (.ref l) (upd H l (.lst ys))):EP X pins σ Q (.ref s.heap.objs.size) { s with heap:=h1,toks:=tk }:=
  ⟨.ref s.heap.objs.size,_,I.laid (t':=tk) (o:=.lst ys) kp (Nat.le_refl _) ⟨hz,acc.toList,c,r,by simpa using e⟩,rfl,q _ (I.hok.fresh (Nat.le_refl _))⟩
theorem zek (hc:X.calm=true):zcb X (.type "list") (fun xs H Q=>∃p kvs,xs = [V.ref p]/\H p=some (.dK kvs)/\∀l,H l=none->Q (.ref l) (upd H l (.lst (kvs.map fun kv=>kV kv.1)))):=by
  intro pins s σ H xs us Q I r h
  obtain⟨p,kvs,rfl,hp,q⟩:=h
  obtain⟨u,rfl,ru⟩:=zbs r
  cases ru
  obtain⟨z,hd,vs,rel,o,es,ep,e,ex,dt,kk,pr,nd⟩:=I.hok p _ hp
  have l1:kvs.length=vs.length:=Paired.length rel
  have l2:es.size=vs.length:=by rw[←pr.length];simp
  refine ziu (I.ok.hd hc) hd ⟨o,e,ex,dt⟩ (by omega) fun h1 acc c tk kp el it=>zld I kp el (Vals.of_get ?_ fun i x v ex ev=>?_) (by rw[List.length_map];exact z) q
  · have:=it.1
    simp only [List.length_map,Array.length_toList]
    omega
  · rw[List.getElem?_map] at ex
    cases ek:kvs[i]? with
    | none=>rw[ek] at ex;cases ex
    | some kv=>
      rw[ek] at ex
      cases ex
      obtain⟨en,hen,rfl⟩:=it.2 i v (by simpa using ev)
      obtain⟨w',hw,rw'⟩:=Paired.get' rel ek
      have:=(pr.get? (e:=en) (k:=w'.1) (v:=w'.2) (by simpa using hen) (by rw[hw])).1
      have e1:kv.1=w'.1:=rw'.1
      show RelV (kV kv.1) en.key
      rw[e1]
      exact zok this
def vwO (p d:Addr):HO:=.ext fun h=>h.IsValuesView p d
theorem zol:MtR X "dict.values" (fun x xs H Q=>∃d kvs,x=V.ref d/\xs = []/\H d=some (.dK kvs)/\∀p,H p=none->Q (.ref p) (upd H p (vwO p d))):=by
  intro pins s σ H x xs v us Q I rx rs h
  obtain⟨d,kvs,rfl,rfl,hd,q⟩:=h
  cases rx
  cases rs
  obtain⟨z,hs,vs,rel,dd⟩:=I.hok d _ hd
  refine call_meetsIn PySem.F.slot_dict_values dd.typeIs PySem.F.entry_dict_values (PySem.F.args_dict_values_1 _) (meets_dict_values (za7 X.prog X.w) d hs) ⟨⟨vs,dd⟩,?_⟩
  refine⟨.ref s.heap.objs.size,_,I.laid (t':=s.toks) (a:=s.heap.objs.size) (o:=vwO s.heap.objs.size d) (fun b u e=>Heap.get?_push_of_some _ e) (Nat.le_refl _) ⟨⟨_,Heap.get?_push_size _ rfl,rfl,rfl⟩,⟨_,Heap.get?_push_size _ rfl⟩,fun h1 h2 ⟨o,ho,r⟩ k=>⟨o,k o ho,r⟩⟩,rfl,q _ (I.hok.fresh (Nat.le_refl _))⟩
theorem ziw (hc:X.calm=true):zcb X (.type "list") (fun xs H Q=>∃p d kvs,xs = [V.ref p]/\H p=some (vwO p d)/\H d=some (.dK kvs)/\∀l,H l=none->Q (.ref l) (upd H l (.lst (kvs.map (·.2))))):=by
  intro pins s σ H xs us Q I r h
  obtain⟨p,d,kvs,rfl,hp,hd,q⟩:=h
  obtain⟨u,rfl,ru⟩:=zbs r
  cases ru
  obtain⟨z,hs,vs,rel,dd⟩:=I.hok d _ hd
  obtain⟨hv,_,_⟩:=I.hok p _ hp
  have l1:kvs.length=vs.length:=Paired.length rel
  refine ziv (I.ok.hd hc) hv dd (by omega) fun h1 acc c tk kp el it=>zld I kp el (Vals.of_get ?_ fun i x v ex ev=>?_) (by rw[List.length_map];exact z) q
  · have:=it.1
    simp only [List.length_map,Array.length_toList]
    omega
  · rw[List.getElem?_map] at ex
    cases ek:kvs[i]? with
    | none=>rw[ek] at ex;cases ex
    | some kv=>
      rw[ek] at ex
      cases ex
      obtain⟨k,hk⟩:=it.2 i v (by simpa using ev)
      obtain⟨w',hw,rw'⟩:=Paired.get' rel ek
      rw[hk] at hw
      cases hw
      exact rw'.2
end
def DfM (K:PySem.W.Frag) (C:Addr) (qual m:Str) (st:Stmt) (ps:List Str):Prop:=
  ∃(f:Addr) (fd:FuncData),Fun K m qual st f fd/\Meth K C m f/\∀us:List Value,us.length=ps.length->bindArgs fd ⟨us,[]⟩=pure (ps.zip us)
theorem dfm_mk {K:PySem.W.Frag}{C:Addr}{qual m:Str}{st:Stmt}{ps:List Str}{f:Addr}{oc kV dc pm cd ct:Value}{od an:Option Addr}{sl:Array (Option Value)}
    (hb:∀(kV doc pm:Value) (an:Option Addr) (cdv ct:Value) (us:List Value),us.length=ps.length->bindArgs (PySem.W.fnOf m qual (zdh st) (zce st) (zi st) .none kV doc pm an cdv ct) ⟨us,[]⟩=pure (ps.zip us))
    (a:PySem.W.findIn K (.ref C) m=some (some (.ref f))) (l:K.lookup f=some ⟨oc,od,.func (PySem.W.fnOf m qual (zdh st) (zce st) (zi st) .none kV dc pm an cd ct),sl⟩) (c:PySem.W.codeIn K cd qual=true) (k:PySem.W.keepIn K (.ref f)=true)
    (i:PySem.W.isFn K (.ref f)=true):DfM K C qual m st ps:=⟨f,_,zsk l c k,⟨a,i,k⟩,fun us hl=>hb kV dc pm an cd ct us hl⟩
def HasM (P:Program) (w:World) (K:PySem.W.Frag) (mg:Str->Option Value) (base:Heap) (C:Addr) (m:Str) (ps:List Str) (k:Nat) (sp:Sp):Prop:=
  ∃(f:Addr) (fd:FuncData),Meth K C m f/\(∀us:List Value,us.length=ps.length->bindArgs fd ⟨us,[]⟩=pure (ps.zip us))/\FnOk P w K mg base CX0 k f fd ps sp
section
variable {P:Program}{w:World}{K:PySem.W.Frag}{mg:Str->Option Value}{base:Heap}
theorem DfM.has {C:Addr}{qual m:Str}{st:Stmt}{N ps:List Str}{k:Nat}{sp:Sp}(D:DfM K C qual m st ps) (S:FnScope N ps (zi st)) (len:∀vs H Q E,sp vs H Q E->vs.length=ps.length)
    (hbody:∀(f:Addr) (cdv:Value) (A:Around) (outer:List Env) (s:Shared) (H:Hp) (vs:List V) (Q:VK) (E:XK),Room k (A.deeper (envOfC qual (zi st) s.heap.objs.size f cdv))->sp vs H Q E->
      ∃t,PSs (cxOf CX0 P w K mg base N qual (zi st) f cdv A outer s H E).nox (zce st) t/\t { nx:=fun _ H'=>Q .non H',rt:=Q } (start N vs) H):HasM P w K mg base C m ps (k+1) sp:=by
  obtain⟨f,fd,F,a,b⟩:=D
  obtain⟨oc,od,kV,doc,pm,an,cdv,ct,osl,e,lk,hcd⟩:=id F.ex
  exact⟨f,fd,a,b,F.ok S len (hbody f)⟩
end
section
variable {X:Cx}{k:Nat}{ps:List Str}{sp:Sp}{C:Addr}{m x:Str}{p pos apos:Pos}{o e:Expr}{es:List Expr}{t:TA}{ta:TE}
theorem zle {pl:Sem Bool}(F:HasM X.prog X.w X.K X.mg X.base C m ps k sp) (c:Cls X.K C) (hr:Room k X.A) (he:PE X o ta) (ha:PA X (e::es) t)
    (hst:starEach (e::es) X.env=(false,eval e X.env)::starEach es X.env:=by rfl) (hpl:(backTo pos (starEach es X.env)).any (·.1)=false:=by rfl)
    (ht:eval (.Call (.Attribute o m apos) (e::es) [] pos) X.env=(do
      let ov ←eval o X.env
      standAt apos.atName
      let (f,first) ←holding [ov] (getMethod ov m pl)
      callWith pos f first (backTo pos (starEach (e::es) X.env)) (backToKw pos (keywordEach [] X.env))):=by rfl) :
    PE X (.Call (.Attribute o m apos) (e::es) [] pos) (zvi C m sp [] E0 ta t):=by
  obtain⟨f,fd,a,b,G⟩:=F
  exact ztb he c a G hr (.all b) .nil zto ha hst hpl ht
theorem ztu (F:HasM X.prog X.w X.K X.mg X.base C "__init__" ps k sp) (hmk:PySem.W.makesIn X.K C=true) (hk:PySem.W.keepIn X.K (.ref C)=true) (hr:Room (k+1) X.A) (hg:Gl X x) (hm:X.mg x=some (.ref C)) (hdb:(x == ("__debug__" : Str))=false:=by decide) :
    PE X (.Call (.Name x p) [] [] pos) (zvj C sp [] E0 tNil):=by
  obtain⟨f,fd,a,b,G⟩:=F
  exact zqm ⟨hmk,a.at_,a.fn,hk⟩ G hr hg hm (.all b) .nil zto hdb
end
section
variable {X:Cx}(K:PySem.W.Frag) (h:X.K=K)
include h
theorem zqz {elts:List Expr}{ct:Nat}{tpos:Pos}{e:Expr}{te:TE}{p pos kpos cpos:Pos}{j:Nat}(n:Nat) (hn:Builtin.SmallTypes.fitsIndex (n:Int)=true) (hg:Gl X "enumerate") (hm:X.mg "enumerate" = none) (he:PE X e te)
    (hs:starEach [e] X.env = [(false,eval e X.env)]:=by rfl) :
    PI X (.Tuple elts ct tpos) (.Call (.Name "enumerate" p) [e] [⟨some "start",.Constant (.int (n:Int)) j cpos,kpos⟩] pos) (zvx K n te):=h▸ztt n hn hg hm he hs
end
theorem zq0 {K:PySem.W.Frag}{a:Addr}{n:Nat}{xs:List V}{g:TG}{tb:TS}{D:Ends}{σ:St}{H:Hp}(Pv:Nat->St->Hp->Prop) (h0:Pv 0 σ H) (hl:∀i σ H,i<=xs.length->Pv i σ H->SqL K H a xs)
    (hs:∀i x σ H T,xs[i]? = some x->Pv i σ H->H T=none->g (.ref T) σ (upd H T (.tup [.int ((n+i:Nat):Int),x])) fun σ2 H2=>tb { D with nx:=Pv (i+1),ct:=Pv (i+1),bk:=D.nx } σ2 H2) (hd:∀σ H,Pv xs.length σ H->D.nx σ H) :
    ∃W:Nat->Nat->St->Hp->Prop,(∃m,W 0 m σ H)/\∀i m σ H,W i m σ H->
      ((Ite K a n).stop i H/\D.nx σ H)\/((Ite K a n).go i H/\∃N:St->Hp->Prop,(∀σ' H',N σ' H'->∃m',m'<m/\W (i+1) m' σ' H')/\∀x H',(Ite K a n).yld i H x H'->g x σ H' fun σ2 H2=>tb { D with nx:=N,ct:=N,bk:=D.nx } σ2 H2):=by
  refine⟨fun i m σ H=>m=xs.length-i/\i<=xs.length/\Pv i σ H,⟨xs.length,by simp,Nat.zero_le _,h0⟩,?_⟩
  rintro i m σ H ⟨rfl,hi,p⟩
  have q:=hl i σ H hi p
  by_cases hlt:i<xs.length
  · refine .inr ⟨⟨xs,xs[i],q,by simp[hlt]⟩,Pv (i+1),fun σ' H' p'=>⟨xs.length-(i+1),by omega,rfl,hlt,p'⟩,fun x H' y=>?_⟩
    obtain⟨T,z,hT,rfl,rfl,y⟩:=y
    exact hs i z σ H T (y xs q) p hT
  · have e:i=xs.length:=by omega
    subst e
    exact .inl ⟨⟨xs,q,Nat.le_refl _⟩,hd σ H p⟩
def ztv (n i:Nat) (p:Prop):Prop:=∃m',m'<n-i/\m'=n-(i+1)/\i+1<=n/\p
theorem zf4 {n i:Nat}{p:Prop}(h:i<n) (q:p):ztv n i p:=⟨n-(i+1),by omega,rfl,h,q⟩
theorem zav {α:Type}{xs:List α}{i:Nat}{x:α}(h:xs[i]? = some x):i<xs.length:=(List.getElem?_eq_some_iff.mp h).1
theorem zb7 {J:It}{xs:List V}{P:Hp->Prop}{own:List Str}{ix:List Nat}{g:TG}{tc:TT}{te:TE}{σ:St}{H1:Hp}{D:Addr}{Q:VK}(F:Fix J xs P)
    (R:Nat->St->List V->Hp->Prop) (h0:R 0 (st0 own ix σ) [] (upd H1 D (.lst [])))
    (hP:∀i σ' ys H',R i σ' ys H'->P H'/\H' D=some (.lst ys)/\ys.length<=i) (hz:xs.length<=sizeLine)
    (hs:∀i x σ' ys H',xs[i]? = some x->R i σ' ys H'->g x σ' H' fun σ3 H3=>tc σ3 H3 fun b H4=>
      if b=true then te σ3 H4 fun y H5=>H5 D=some (.lst ys)/\ztv xs.length i (R (i+1) σ3 (ys++[y]) (upd H5 D (.lst (ys++[y])))) else H4 D=some (.lst ys)/\ztv xs.length i (R (i+1) σ3 ys H4))
    (hQ:∀σ' ys H',R xs.length σ' ys H'->Q (.ref D) H'):zqw own ix J g tc te σ H1 D Q:=by
  refine⟨fun i m σ' ys H'=>m=xs.length-i/\i<=xs.length/\R i σ' ys H',⟨xs.length,by simp,Nat.zero_le _,h0⟩,?_⟩
  rintro i m σ' ys H' ⟨rfl,hi,r⟩
  obtain⟨p1,p2,p3⟩:=hP i σ' ys H' r
  refine⟨p2,?_⟩
  by_cases hlt:i<xs.length
  · refine .inr ⟨F.go i _ p1 hlt,by omega,fun x H2 y=>?_⟩
    obtain⟨e,y'⟩:=F.yld i _ x H2 p1 y
    subst e
    exact hs i x σ' ys _ (y' hlt) r
  · have e:i=xs.length:=by omega
    subst e
    exact .inl ⟨F.stop _ _ p1 (Nat.le_refl _),hQ σ' ys H' r⟩
end L2
namespace Dm
open PySem PySem.NumText
abbrev co (x:Str):List Nat:=x.cps.toList
theorem zq (x:Str):(co x).length=x.length:=by simp[Str.length]
theorem zb8 {x y:Str}(h:co x=co y):x=y:=by
  cases x with
  | mk a=>cases y with
    | mk b=>
      have:a=b:=by
        have h:a.toList=b.toList:=h
        exact Array.toList_inj.mp h
      rw[this]
theorem zvy (l:List Nat):co ⟨l.toArray⟩=l:=by simp[co]
theorem ztw (x:Str) (c:Nat):(0+1<=x.length&&Builtin.Str.subAt x ⟨#[c]⟩ 0)=decide ((co x).head? = some c):=by
  obtain⟨a⟩:=x
  obtain⟨l⟩:=a
  cases l with
  | nil=>simp[co,Str.length]
  | cons d r=>
    show (decide (0+1<=((d::r).toArray).size)&&(((d::r).toArray.extract 0 (0+1)) == #[c]))=decide ((d::r).head? = some c)
    have e1:decide (0+1<=((d::r).toArray).size)=true:=decide_eq_true (by simp)
    rw[e1,Bool.true_and]
    have e2:((d::r).toArray.extract 0 (0+1)) = #[d]:=by simp
    rw[e2]
    by_cases h:d=c
    · subst h;simp
    · have:¬(d::r).head? = some c:=by simp[h]
      rw[decide_eq_false this]
      simp[h]
theorem zgl (x:Str) (c:Nat):Txt.startswith x ⟨#[c]⟩=decide ((co x).head? = some c):=ztw x c
def sIx' (n d:Nat):Option Int->Nat
  | none=>d
  | some i=>if i<0 then (max (i+(n:Int)) 0).toNat else min i.toNat n
theorem zw8 (l:List Nat) (i k:Nat):((List.range k).map fun m=>i+m).filterMap (fun j=>l[j]?)=(l.drop i).take k:=by
  induction k generalizing i with
  | zero=>simp
  | succ k ih=>
    rw[List.range_succ_eq_map,List.map_cons,List.map_map]
    have e:((List.range k).map ((fun m=>i+m) ∘ Nat.succ))=(List.range k).map fun m=>(i+1)+m:=by
      apply List.map_congr_left
      intro a _
      simp only [Function.comp,Nat.succ_eq_add_one];omega
    rw[e,List.filterMap_cons]
    simp only [Nat.add_zero]
    rw[ih (i+1)]
    cases h:l[i]? with
    | none=>
      have hl:l.length<=i:=List.getElem?_eq_none_iff.mp h
      rw[List.drop_eq_nil_of_le hl,List.drop_eq_nil_of_le (by omega)];simp
    | some v=>
      obtain⟨hi,e⟩:=List.getElem?_eq_some_iff.mp h
      rw[List.drop_eq_getElem_cons hi,List.take_succ_cons,e]
def zq1 (n:Nat) (d:Int):Option Int->Int
  | none=>d
  | some i=>max 0 (min (if i<0 then i+(n:Int) else i) n)
theorem zlf (n d:Nat) (hd:d<=n) (o:Option Int):zq1 n d o=((sIx' n d o:Nat):Int):=by
  cases o with
  | none=>rfl
  | some i=>simp only [sIx',zq1];split<;>omega
theorem ztx (n d:Nat) (hd:d<=n) (o:Option Int):sIx' n d o<=n:=by
  cases o with
  | none=>exact hd
  | some i=>simp only [sIx'];split<;>omega
theorem zgm (lo hi:Option Int) (n:Nat):Builtin.Str.strSliceIndices lo hi 1 n=(List.range (sIx' n n hi-sIx' n 0 lo)).map fun m=>sIx' n 0 lo+m:=by
  have:Builtin.Str.strSliceIndices lo hi 1 n=sliceRange (zq1 n 0 lo) (zq1 n n hi) 1:=by
    cases lo<;>cases hi<;>rfl
  rw[this,show (0:Int)=((0:Nat):Int) from rfl,zlf n 0 (Nat.zero_le _),zlf n n (Nat.le_refl _)]
  unfold sliceRange
  simp only [show (1:Int) > 0 by decide,if_true,Int.one_mul,Int.ediv_one]
  have ec:(if ((sIx' n 0 lo:Nat):Int)<((sIx' n n hi:Nat):Int) then ((sIx' n n hi:Nat):Int)-((sIx' n 0 lo:Nat):Int)+1-1 else 0).toNat=sIx' n n hi-sIx' n 0 lo:=by
    split<;>omega
  rw[ec]
  apply List.map_congr_left
  intro a _
  omega
theorem ze0 (x:Str) (lo hi:Option Int):co (Txt.slice x lo hi)=((co x).drop (sIx' x.length 0 lo)).take (sIx' x.length x.length hi-sIx' x.length 0 lo):=by
  have key:(Builtin.Str.strSliceIndices lo hi 1 x.length).filterMap (x.cps[·]?)=((co x).drop (sIx' x.length 0 lo)).take (sIx' x.length x.length hi-sIx' x.length 0 lo):=by
    rw[zgm,←zw8 (co x)]
    congr 1
    funext j
    simp[co]
  unfold Txt.slice
  split
  · rename_i h
    have hl:(Builtin.Str.strSliceIndices lo hi 1 x.length).length=x.length:=by
      simpa using h
    rw[zgm,List.length_map,List.length_range] at hl
    have h1:=ztx x.length x.length (Nat.le_refl _) hi
    have h2:sIx' x.length 0 lo=0\/x.length=0:=by omega
    have h3:=zq x
    rcases h2 with h2 | h2
    · rw[hl,h2,List.drop_zero,List.take_of_length_le (by omega)]
    · have:co x = []:=List.length_eq_zero_iff.mp (by omega)
      rw[this];simp
  · rw[zvy];exact key
theorem zj9 (x:Str):co (Txt.slice x (some 1) none)=(co x).drop 1:=by
  rw[ze0]
  have h:=zq x
  simp only [sIx']
  rw[if_neg (by decide)]
  cases e:co x with
  | nil=>simp
  | cons c r=>
    rw[e,List.length_cons] at h
    have e1:min (1:Int).toNat x.length=1:=by
      show min 1 x.length=1
      omega
    rw[e1,List.take_of_length_le (by simp;omega)]
def NAMES:Str:="abcdefghijklmnopqrstuvwxyz0123456789-"
def FIGS:Str:="0123456789"
def zg8 (l:List Nat) (sg:Str):Bool:=l.all fun c=>decide (c∈co sg)
def zao (x:Str):Bool:=decide (1<=x.length)&&decide (x.length<=12)&&zg8 (co x) NAMES
def figs:List Nat->List Nat
  | []=>[]
  | c::r=>if c=45 then r else c::r
theorem zdz (r:List Nat):figs (45::r)=r:=by unfold figs;exact if_pos rfl
theorem zd0 {c:Nat}(r:List Nat) (h:c≠45):figs (c::r)=c::r:=by unfold figs;exact if_neg h
def ZERO:Str:="0"
def zdk (x:Str):Bool:=decide (1<=(figs (co x)).length)&&decide ((figs (co x)).length<=60)&&zg8 (figs (co x)) FIGS && !(decide ((figs (co x)).head? = some 48) && !decide (x=ZERO))
def numI (x:Str):Int:=if (co x).head? = some 45 then 0-((digitsVal (figs (co x)):Nat):Int) else ((digitsVal (figs (co x)):Nat):Int)
theorem zlg (c:Nat):c∈co FIGS↔48<=c/\c<=57:=by
  have e:co FIGS=List.range' 48 10:=by decide +kernel
  rw[e,List.mem_range'_1]
  exact⟨fun h=>⟨h.1,Nat.le_of_lt_succ h.2⟩,fun h=>⟨h.1,Nat.lt_succ_of_le h.2⟩⟩
theorem zix {l:List Nat}(h:zg8 l FIGS=true):AllDigits l:=fun c hc=>by
  have:=List.all_eq_true.mp h c hc
  exact (zlg c).mp (of_decide_eq_true this)
theorem zdf {l:List Nat}(h:AllDigits l):zg8 l FIGS=true:=List.all_eq_true.mpr fun c hc=>decide_eq_true ((zlg c).mpr (h c hc))
theorem zq2 {x:Str}(h:zdk x=true):intText? x=some (numI x)/\x.length<=61:=by
  unfold zdk at h
  simp only [Bool.and_eq_true,decide_eq_true_eq] at h
  obtain⟨⟨⟨h1,h2⟩,h3⟩,_⟩:=h
  have hd:=zix h3
  have hl:=zq x
  unfold numI
  cases e:co x with
  | nil=>rw[e] at h1;simp[figs] at h1
  | cons c r=>
    rw[e] at h1 h2 hd hl
    rw[List.length_cons] at hl
    by_cases hc:c=45
    · subst hc
      rw[zdz] at h1 h2 hd
      rw[zdz,if_pos (by rfl),Int.zero_sub]
      exact⟨intText_neg e hd (by intro z;rw[z] at h1;simp at h1) (by omega),by omega⟩
    · rw[zd0 r hc] at h1 h2 hd
      rw[zd0 r hc,if_neg (by simp[hc])]
      rw[List.length_cons] at h2
      have hne:x.cps.toList≠[]:=by
        show co x≠[]
        rw[e];simp
      have hd':AllDigits x.cps.toList:=by
        show AllDigits (co x)
        rw[e];exact hd
      have q:=intText_digits hd' hne (by omega)
      have q':intText? x=some ((digitsVal (co x):Nat):Int):=q
      rw[e] at q'
      exact⟨q',by omega⟩
def dg (m:Nat):List Nat:=(Nat.toDigits 10 m).map Char.toNat
theorem zfi (t:String):co (Str.ofString t)=t.toList.map Char.toNat:=by rw[Str.ofString_eq_toList]
theorem zef (m:Nat):co (Str.ofString (toString ((m:Nat):Int)))=dg m:=by
  rw[zfi]
  show (Nat.repr m).toList.map Char.toNat=_
  rw[Nat.toList_repr];rfl
theorem zgn (m:Nat):co (Str.ofString (toString (Int.negSucc m)))=45::dg (m+1):=by
  rw[zfi]
  show ("-" ++ Nat.repr (m+1)).toList.map Char.toNat=_
  rw[String.toList_append,List.map_append,Nat.toList_repr]
  try rfl
theorem zgo:∀d:Nat,d<10->(Nat.digitChar d).toNat=d+48:=by decide
theorem zty {m:Nat}(h:m<10):dg m = [m+48]:=by
  unfold dg
  rw[Nat.toDigits_of_lt_base h,List.map_cons,List.map_nil,zgo m h]
theorem ztz {m:Nat}(h:10<=m):dg m=dg (m / 10)++[m%10+48]:=by
  have hm:m%10<10:=Nat.mod_lt m (by decide)
  unfold dg
  rw[Nat.toDigits_of_base_le (by decide) h,List.map_append,List.map_cons,List.map_nil,zgo _ hm]
theorem zsl (m:Nat):digitsVal (dg m)=m:=by
  induction m using Nat.strongRecOn with
  | _ m ih=>
    by_cases h:m<10
    · rw[zty h]
      show 0 * 10+(m+48-48)=m
      omega
    · rw[ztz (by omega)]
      have:=ih (m / 10) (by omega)
      unfold digitsVal at this ⊢
      rw[List.foldl_append,this]
      show m / 10 * 10+(m%10+48-48)=m
      omega
theorem zlh (m:Nat):AllDigits (dg m):=by
  induction m using Nat.strongRecOn with
  | _ m ih=>
    by_cases h:m<10
    · rw[zty h]
      intro c hc
      rw[List.mem_singleton] at hc
      omega
    · rw[ztz (by omega)]
      intro c hc
      rcases List.mem_append.mp hc with hc | hc
      · exact ih (m / 10) (by omega) c hc
      · rw[List.mem_singleton] at hc
        omega
theorem zsm {m k:Nat}(hk:1<=k) (h:m<10 ^ k):(dg m).length<=k:=by
  unfold dg
  rw[List.length_map]
  exact (Nat.length_toDigits_le_iff (by decide) hk).mpr h
theorem zom (m:Nat):1<=(dg m).length:=by
  unfold dg
  rw[List.length_map]
  exact Nat.length_toDigits_pos
theorem zon (m:Nat) (h:0<m):∃c r,dg m=c::r/\49<=c/\c<=57:=by
  induction m using Nat.strongRecOn with
  | _ m ih=>
    by_cases h1:m<10
    · exact⟨m+48,[],zty h1,by omega,by omega⟩
    · obtain⟨c,r,e,h2,h3⟩:=ih (m / 10) (by omega) (by omega)
      exact⟨c,r++[m%10+48],by rw[ztz (by omega),e];rfl,h2,h3⟩
theorem zt0 (n:Int) (h1:n.natAbs<10 ^ 60):zdk (Str.ofString (toString n))=true/\numI (Str.ofString (toString n))=n/\(Str.ofString (toString n)).length<=61:=by
  have hl:=zq (Str.ofString (toString n))
  unfold zdk numI
  cases n with
  | ofNat m=>
    have e:co (Str.ofString (toString (Int.ofNat m)))=dg m:=zef m
    have h1:m<10 ^ 60:=h1
    have p:=zsm (by decide) h1
    have p1:=zom m
    rw[e] at hl
    by_cases hm:m=0
    · subst hm
      have z:Str.ofString (toString (Int.ofNat 0))=ZERO:=by decide +kernel
      rw[z]
      refine⟨by decide +kernel,by decide +kernel,by decide +kernel⟩
    · obtain⟨c,r,ed,h2,h3⟩:=zon m (by omega)
      have hc:c≠45:=by omega
      have ef:figs (dg m)=dg m:=by rw[ed,zd0 r hc]
      rw[e,ef]
      refine⟨?_,?_,by omega⟩
      · rw[decide_eq_true p1,decide_eq_true p,zdf (zlh m),ed]
        have:¬(c::r).head? = some 48:=by
          intro z
          have:c=48:=Option.some.inj z
          omega
        rw[decide_eq_false this];rfl
      · rw[zsl,if_neg]
        · rfl
        · rw[ed]
          intro z
          have:c=45:=Option.some.inj z
          omega
  | negSucc m=>
    have e:co (Str.ofString (toString (Int.negSucc m)))=45::dg (m+1):=zgn m
    have h1:m+1<10 ^ 60:=h1
    have p:=zsm (by decide) h1
    have p1:=zom (m+1)
    rw[e,List.length_cons] at hl
    rw[e,zdz]
    obtain⟨c,r,ed,h2,h3⟩:=zon (m+1) (by omega)
    refine⟨?_,?_,by omega⟩
    · rw[decide_eq_true p1,decide_eq_true p,zdf (zlh (m+1)),ed]
      have:¬(c::r).head? = some 48:=by
        intro z
        have:c=48:=Option.some.inj z
        omega
      rw[decide_eq_false this];rfl
    · rw[zsl,if_pos (by rfl)]
      omega
def zde (ns:List Int) (i:Int):Int:=ns.getD i.toNat 0
def pt (c k m:Int):Int:=(c%99991+17) * (48271+7919 * k)%65537 * (k+3)%8191%m
theorem zmh (c k m:Int) (h:0<m):0<=pt c k m/\pt c k m<m:=⟨Int.emod_nonneg _ (by omega),Int.emod_lt_of_pos _ h⟩
def nmI (one at':Int) (k j:Nat):Int:=if (j:Int)=at' then pt one ((j:Int)+2) 37+k else pt one ((j:Int)+2) 37
def nmN (one at':Int) (k j:Nat):Nat:=(co NAMES).getD (nmI one at' k j%37).toNat 0
def nmC (one at':Int) (k size:Nat):List Nat:=(List.range size).map (nmN one at' k)
theorem zoo:(co NAMES).length=37:=by decide +kernel
theorem zq3:(co NAMES).Nodup:=by decide +kernel
theorem ix37 (z:Int):0<=z%37/\(z%37).toNat<(co NAMES).length:=by
  have h1:=Int.emod_nonneg z (show (37:Int)≠0 by decide)
  have h2:=Int.emod_lt_of_pos z (show (0:Int)<37 by decide)
  rw[zoo]
  omega
theorem zt1 (one at':Int) (k j:Nat):nmN one at' k j∈co NAMES:=by
  unfold nmN
  have h:=(ix37 (nmI one at' k j)).2
  rw[List.getD_eq_getElem?_getD,List.getElem?_eq_getElem h]
  exact List.getElem_mem h
theorem zop {i j:Nat}(hi:i<(co NAMES).length) (hj:j<(co NAMES).length) (h:(co NAMES).getD i 0=(co NAMES).getD j 0):i=j:=by
  rw[List.getD_eq_getElem?_getD,List.getD_eq_getElem?_getD,List.getElem?_eq_getElem hi,List.getElem?_eq_getElem hj] at h
  have h:(co NAMES)[i]=(co NAMES)[j]:=h
  exact (List.getElem_inj zq3).mp h
theorem zdl (one at':Int) (k size:Nat):(nmC one at' k size).length=size:=by unfold nmC;simp
theorem zoq {one at':Int}{k size j:Nat}(h:j<size):(nmC one at' k size)[j]? = some (nmN one at' k j):=by
  unfold nmC
  rw[List.getElem?_map,List.getElem?_range h];rfl
def zat (l:List Nat):Str:=⟨l.toArray⟩
theorem zt (l:List Nat):co (zat l)=l:=zvy l
theorem ziy {l m:List Nat}(h:zat l=zat m):l=m:=by
  have:=congrArg co h
  rwa [zt,zt] at this
theorem zd1 {x:Str}(h1:1<=(co x).length) (h2:(co x).length<=12) (h3:∀c∈co x,c∈co NAMES):zao x=true:=by
  rw[zq] at h1 h2
  unfold zao
  rw[decide_eq_true h1,decide_eq_true h2]
  show zg8 (co x) NAMES=true
  exact List.all_eq_true.mpr fun c hc=>decide_eq_true (h3 c hc)
theorem zor {one at':Int}{k size c:Nat}(h:c∈nmC one at' k size):c∈co NAMES:=by
  obtain⟨j,_,rfl⟩:=List.mem_map.mp h
  exact zt1 ..
theorem zbw {f:Nat->Str}{n:Nat}(h:∀i j,i<n->j<n->f i=f j->i=j):((List.range n).map f).Nodup:=by
  unfold List.Nodup
  rw[List.pairwise_map]
  refine List.Pairwise.imp_of_mem (R:=(·≠·)) (fun {a b} ha hb hab e=>?_) List.nodup_range
  exact hab (h a b (List.mem_range.mp ha) (List.mem_range.mp hb) e)
theorem zvz:(Str.ofString "" : Str)=zat []:=by decide +kernel
theorem ziz (l m:List Nat):zat l++zat m=zat (l++m):=by
  apply zb8
  show (l.toArray++m.toArray).toList=(l++m).toArray.toList
  simp
theorem zc0 (l:List Nat):(zat l).length=l.length:=by show l.toArray.size=_;simp
theorem zmi (l:List Nat) (z:Int) (h0:0<=z) (h1:z<=l.length):Txt.slice (zat l) none (some z)=zat (l.take z.toNat):=by
  apply zb8
  rw[ze0,zt,zt,zc0]
  simp only [sIx']
  rw[if_neg (by omega),List.drop_zero,Nat.sub_zero]
  congr 1
  omega
end Dm
namespace Dm
open PySem PySem.NumText L2
def zt2:List Str:=["over","cuts","fills","same"]
def zv0 (z:Int):Prop:=z.natAbs<10 ^ 60
inductive TieOk (us:List Str):List V->Prop where
  | plain {kd x y:Str}(hk:kd∈zt2) (hx:x∈us) (hy:y∈us):TieOk us [.str kd,.str x,.str y]
  | after {x y:Str}{n:Int}(hx:x∈us) (hy:y∈us) (h0:0<=n) (h1:zv0 n):TieOk us [.str "after",.str x,.str y,.int n]
theorem zt3 {x:Str}(h:zao x=true):x.length<=12:=by
  unfold zao at h
  simp only [Bool.and_eq_true,decide_eq_true_eq] at h
  exact h.1.2
theorem zq4:∀k∈zt2,k.length<=100:=by decide +kernel
theorem TieOk.words {us:List Str}{ws:List V}(h:TieOk us ws) (hu:∀x∈us,zao x=true):(∀v∈ws,Wd v)/\ws.length<=5/\∃x r,ws = .str x::r:=by
  have nm:∀x∈us,Wd (.str x):=fun x hx=>.inl ⟨x,rfl,Nat.le_trans (zt3 (hu x hx)) (by decide)⟩
  cases h with
  | plain hk hx hy=>
    refine⟨fun v hv=>?_,by simp,_,_,rfl⟩
    simp only [List.mem_cons,List.not_mem_nil,or_false] at hv
    rcases hv with rfl | rfl | rfl
    · exact .inl ⟨_,rfl,zq4 _ hk⟩
    · exact nm _ hx
    · exact nm _ hy
  | after hx hy h0 h1=>
    refine⟨fun v hv=>?_,by simp,_,_,rfl⟩
    simp only [List.mem_cons,List.not_mem_nil,or_false] at hv
    rcases hv with rfl | rfl | rfl | rfl
    · exact .inl ⟨_,rfl,by decide +kernel⟩
    · exact nm _ hx
    · exact nm _ hy
    · exact .inr ⟨_,rfl,h1⟩
abbrev Tups (H:Hp):List Addr->List (List V)->Prop:=Paired fun a ws=>H a=some (.tup ws)
theorem Tups.same {H H':Hp}(s:Same H H'):∀{as:List Addr}{wss:List (List V)},Tups H as wss->Tups H' as wss
  | _,_,.nil=>.nil
  | _,_,.cons h t=>.cons (s _ _ h) (Tups.same s t)
theorem Tups.get {H:Hp}:∀{as:List Addr}{wss:List (List V)}{a:Addr},Tups H as wss->a∈as->∃ws∈wss,H a=some (.tup ws)
  | _,_,_,.cons h t,ha=>by
    rcases List.mem_cons.mp ha with ha | ha
    · subst ha;exact⟨_,List.mem_cons_self ..,h⟩
    · obtain⟨ws,hw,e⟩:=Tups.get t ha
      exact⟨ws,List.mem_cons_of_mem _ hw,e⟩
theorem Tups.snoc {H:Hp}{a:Addr}{ws:List V}{as:List Addr}{wss:List (List V)}(t:Tups H as wss) (h:H a=some (.tup ws)):Tups H (as++[a]) (wss++[ws]):=Paired.snoc t h
theorem Tups.stay {H H':Hp}(s:∀b xs,H b=some (.tup xs)->H' b=some (.tup xs)):∀{as:List Addr}{wss:List (List V)},Tups H as wss->Tups H' as wss
  | _,_,.nil=>.nil
  | _,_,.cons h t=>.cons (s _ _ h) (Tups.stay s t)
theorem zc7 {H:Hp}{p:Addr}{xs ys:List V}(h:H p=some (.lst xs)):∀b zs,H b=some (.tup zs)->upd H p (.lst ys) b=some (.tup zs):=fun b zs e=>by
  rw[zf (zdc e h (by intro z;cases z))];exact e
theorem zcl {xs:List Str}(nd:xs.Nodup) (k:Nat) (h:k<xs.length):xs[k] ∉ xs.take k:=by
  intro z
  obtain⟨j,hj,e⟩:=List.mem_iff_getElem.mp z
  rw[List.getElem_take] at e
  rw[List.length_take] at hj
  have:=(List.getElem_inj nd).mp e
  omega
theorem zv1 {x y:V}(hx:Wd x) (hy:Wd y):eqV x y=decide (x=y):=by
  rcases hx with ⟨a,rfl,_⟩ | ⟨a,rfl,_⟩<;>rcases hy with ⟨b,rfl,_⟩ | ⟨b,rfl,_⟩
  · show (a == b)=_
    by_cases h:a=b
    · subst h;simp
    · rw[decide_eq_false (fun z=>h (V.str.inj z))]
      exact beq_eq_false_iff_ne.mpr h
  · exact (decide_eq_false (fun z=>nomatch z)).symm
  · exact (decide_eq_false (fun z=>nomatch z)).symm
  · show (a == b)=_
    by_cases h:a=b
    · subst h;simp
    · rw[decide_eq_false (fun z=>h (V.int.inj z))]
      exact beq_eq_false_iff_ne.mpr h
theorem zv2 {xs ys:List V}(hx:∀v∈xs,Wd v) (hy:∀v∈ys,Wd v):eqL xs ys=decide (xs=ys):=by
  by_cases h:xs=ys
  · subst h
    rw[zg4 fun x q=>(hx x q).flat,decide_eq_true rfl]
  · rw[decide_eq_false h]
    rw[←Bool.not_eq_true]
    intro q
    unfold eqL at q
    rw[Bool.and_eq_true] at q
    obtain⟨q1,q2⟩:=q
    have q2:xs.length=ys.length:=by simpa using q2
    apply h
    apply List.ext_getElem q2
    intro i h1 h2
    have:=List.all_eq_true.mp q1 i (List.mem_range.mpr (by omega))
    rw[List.getElem?_eq_getElem h1,List.getElem?_eq_getElem h2] at this
    have e:eqV xs[i] ys[i]=true:=this
    rw[zv1 (hx _ (List.getElem_mem h1)) (hy _ (List.getElem_mem h2))] at e
    exact of_decide_eq_true e
theorem Tups.len {H:Hp}{as:List Addr}{wss:List (List V)}(t:Tups H as wss):as.length=wss.length:=Paired.length t
theorem Tups.any {H:Hp}{as:List Addr}{wss:List (List V)}{ws:List V}(t:Tups H as wss):∀(e:V->Bool),(∀a vs,vs∈wss->H a=some (.tup vs)->e (.ref a)=decide (vs=ws))->(as.map V.ref).any e=decide (ws∈wss):=by
  intro e he
  induction t with
  | nil=>simp
  | @cons a vs as wss h t ih=>
    rw[List.map_cons,List.any_cons,he a vs (List.mem_cons_self ..) h,ih fun b us q r=>he b us (List.mem_cons_of_mem _ q) r]
    by_cases q:vs=ws
    · subst q;simp
    · rw[decide_eq_false q,Bool.false_or]
      have:ws∈vs::wss↔ws∈wss:=by
        rw[List.mem_cons]
        constructor
        · rintro (z | z)
          · exact absurd z.symm q
          · exact z
        · exact .inr
      exact decide_eq_decide.mpr this.symm
def tupE (H:Hp) (ws:List V):V->Bool
  | .ref a=>match H a with
    | some (.tup vs)=>decide (vs=ws)
    | _=>false
  | _=>false
theorem zka {H:Hp}{ws vs:List V}{a:Addr}(h:H a=some (.tup vs)):tupE H ws (.ref a)=decide (vs=ws):=by
  show (match H a with | some (.tup vs)=>decide (vs=ws) | _=>false)=_
  rw[h]
theorem Tups.anyE {H:Hp}{as:List Addr}{wss:List (List V)}{ws:List V}(t:Tups H as wss):(as.map V.ref).any (tupE H ws)=decide (ws∈wss):=t.any _ fun _ _ _ h=>zka h
theorem Tups.deq {K:PySem.W.Frag}{H:Hp}{n:Nat}{as:List Addr}{wss:List (List V)}{ws:List V}{p:Addr}(t:Tups H as wss) (hw:∀vs∈wss,∀v∈vs,Wd v) (hp:H p=some (.tup ws)) (hv:∀v∈ws,Wd v) :
    ∀z∈as.map V.ref,DEq K H (n+1) z (.ref p) (tupE H ws z):=by
  intro z hz
  obtain⟨a,ha,rfl⟩:=List.mem_map.mp hz
  obtain⟨vs,hvs,e⟩:=t.get ha
  rw[zka e,←zv2 (hw vs hvs) hv]
  exact DEq.flatT (SqT.of e) (SqT.of hp) (fun x q=>(hw vs hvs x q).flat) fun x q=>(hv x q).flat
def jc (s:List Nat):List (List Nat)->List Nat
  | []=>[]
  | [x]=>x
  | x::y::r=>x++s++jc s (y::r)
theorem zos (s:List Nat):∀l:List (List Nat),(jc s l).length<=(l.map List.length).sum+l.length * s.length
  | []=>Nat.zero_le _
  | [x]=>by simp[jc]
  | x::y::r=>by
    have:=zos s (y::r)
    show (x++s++jc s (y::r)).length<=_
    rw[List.length_append,List.length_append,List.map_cons,List.sum_cons,List.length_cons,Nat.succ_mul]
    omega
theorem zy (x y:Str):co (x++y)=co x++co y:=by
  show (x.cps++y.cps).toList=_
  simp
theorem zd2 (sep:Str):∀l:List Str,co (Txt.join sep l)=jc (co sep) (l.map co):=by
  have go:∀l:List Str,co (Str.join sep l)=jc (co sep) (l.map co):=by
    intro l
    induction l with
    | nil=>rfl
    | cons x r ih=>
      cases r with
      | nil=>rfl
      | cons y r=>
        show co (x++sep++Str.join sep (y::r))=co x++co sep++jc (co sep) ((y::r).map co)
        rw[zy,zy,ih]
  intro l
  cases l with
  | nil=>rfl
  | cons x r=>
    show co (Builtin.Str.glued sep (x::r))=_
    rw[StrLaws.glued_eq_join]
    exact go _
theorem zgp (sep:Str) (l:List Str):Txt.join sep l=zat (jc (co sep) (l.map co)):=zb8 (by rw[zd2,zt])
theorem zg9:(Str.ofString " " : Str)=zat [32]:=by decide +kernel
theorem zot:(Str.ofString "\n" : Str)=zat [10]:=by decide +kernel
theorem zou {l:List (List Nat)}{k:Nat}(h:∀x∈l,x.length<=k):(l.map List.length).sum<=l.length * k:=by
  induction l with
  | nil=>simp
  | cons x r ih=>
    rw[List.map_cons,List.sum_cons,List.length_cons,Nat.succ_mul]
    have:=h x (List.mem_cons_self ..)
    have:=ih fun y hy=>h y (List.mem_cons_of_mem _ hy)
    omega
theorem zov {α:Type}{H:Hp}{g:α->List V}{ads:List Addr}{ps:List α}{i:Nat}{x:V}(t:Tups H ads (ps.map g)) (hx:(ads.map V.ref)[i]? = some x) :
    ∃q p,x = .ref q/\ps[i]? = some p/\ads[i]? = some q/\H q=some (.tup (g p)):=by
  rw[List.getElem?_map] at hx
  cases e:ads[i]? with
  | none=>rw[e] at hx;cases hx
  | some q=>
    rw[e] at hx
    cases hx
    obtain⟨ws,h1,h2⟩:=Paired.get' t e
    rw[List.getElem?_map] at h1
    cases e':ps[i]? with
    | none=>rw[e'] at h1;cases h1
    | some p=>
      rw[e'] at h1
      cases h1
      exact⟨q,p,rfl,rfl,rfl,h2⟩
theorem zli {α:Type}{p:α->Prop}{xs:List α}{i:Nat}{x:α}(hx:xs[i]? = some x) (h:∀y∈xs.take i,p y) (hp:p x):∀y∈xs.take (i+1),p y:=by
  intro y hy
  rw[List.take_add_one,hx,List.mem_append] at hy
  rcases hy with hy | hy
  · exact h y hy
  · simp at hy;subst hy;exact hp
structure Tie where
  k:Str
  a:Str
  b:Str
  g:Option Int
def tieV (t:Tie):List V:=.str t.k :: .str t.a :: .str t.b::(match t.g with
  | some n=>[V.int n]
  | none=>[])
def SAME:Str:="same"
structure TOk (us:List Str) (t:Tie):Prop where
  ok:TieOk us (tieV t)
  a:t.a∈us
  b:t.b∈us
theorem zsn (t:Tie):atI (tieV t) 0=some (.str t.k):=ziq
theorem zso (t:Tie):atI (tieV t) 1=some (.str t.a):=zba (xs:=tieV t) (j:=1) rfl
theorem zsp (t:Tie):atI (tieV t) 2=some (.str t.b):=zba (xs:=tieV t) (j:=2) rfl
theorem zkb {x y:Str}(h1:¬co x<co y) (h2:¬co y<co x):x=y:=by
  rw[List.not_lt] at h1 h2
  exact zb8 (List.le_antisymm h2 h1)
theorem zd3 {x y:Str}(h1:co x<co y) (h2:co y<co x):False:=List.lt_irrefl _ (List.lt_trans h1 h2)
theorem zt4 {y m f:List Nat}(h1:y<m) (h2:¬f<m):y<f:=by
  exact Decidable.byContradiction fun z=>h2 (List.lt_of_le_of_lt (List.not_lt.mp z) h1)
def minS (x y:Str):Str:=if co y<co x then y else x
theorem zt5 (x y:Str):minS x y=x\/minS x y=y:=by unfold minS;split<;>simp
theorem zv3 (x y:Str):¬co x<co (minS x y):=by
  unfold minS
  split
  · next h=>exact fun z=>zd3 h z
  · exact List.lt_irrefl _
theorem zv4 (x y:Str):¬co y<co (minS x y):=by
  unfold minS
  split
  · exact List.lt_irrefl _
  · next h=>exact h
def Nb (ts:List Tie) (y z:Str):Prop:=∃t∈ts,t.k=SAME/\((t.a=y/\t.b=z)\/(t.b=y/\t.a=z))
inductive Cn (ts:List Tie):Str->Str->Prop where
  | refl (x:Str):Cn ts x x
  | step {x y z:Str}(h:Cn ts x y) (n:Nb ts y z):Cn ts x z
theorem Nb.symm {ts:List Tie}{y z:Str}(h:Nb ts y z):Nb ts z y:=by
  obtain⟨t,ht,hk,h⟩:=h
  exact⟨t,ht,hk,h.elim (fun q=>.inr ⟨q.2,q.1⟩) fun q=>.inl ⟨q.2,q.1⟩⟩
theorem Cn.trans {ts:List Tie}{x y z:Str}(h:Cn ts x y) (h2:Cn ts y z):Cn ts x z:=by
  induction h2 with
  | refl=>exact h
  | step _ n ih=>exact ih.step n
theorem Cn.one {ts:List Tie}{y z:Str}(n:Nb ts y z):Cn ts y z:=(Cn.refl y).step n
theorem Cn.symm {ts:List Tie}{x y:Str}(h:Cn ts x y):Cn ts y x:=by
  induction h with
  | refl=>exact .refl _
  | step _ n ih=>exact (Cn.one n.symm).trans ih
theorem Nb.mono {ts ts':List Tie}{y z:Str}(h:Nb ts y z) (s:∀t∈ts,t∈ts'):Nb ts' y z:=by
  obtain⟨t,ht,r⟩:=h
  exact⟨t,s t ht,r⟩
theorem Cn.mono {ts ts':List Tie}{y z:Str}(h:Cn ts y z) (s:∀t∈ts,t∈ts'):Cn ts' y z:=by
  induction h with
  | refl=>exact .refl _
  | step _ n ih=>exact ih.step (n.mono s)
theorem Nb.mem {us:List Str}{ts:List Tie}{y z:Str}(h:Nb ts y z) (ht:∀t∈ts,t.a∈us/\t.b∈us):z∈us:=by
  obtain⟨t,h1,_,h2⟩:=h
  rcases h2 with ⟨_,rfl⟩ | ⟨_,rfl⟩
  · exact (ht t h1).2
  · exact (ht t h1).1
theorem Cn.mem {us:List Str}{ts:List Tie}{y z:Str}(h:Cn ts y z) (hy:y∈us) (ht:∀t∈ts,t.a∈us/\t.b∈us):z∈us:=by
  cases h with
  | refl=>exact hy
  | step _ n=>exact n.mem ht
def jn (lab:Str->Str) (f s:Str):Str->Str:=fun x=>if lab x=f\/lab x=s then minS f s else lab x
def stp (lab:Str->Str) (t:Tie):Str->Str:=if t.k=SAME then jn lab (lab t.a) (lab t.b) else lab
def labs (ts:List Tie):Str->Str:=ts.foldl stp id
structure Good (ts:List Tie) (lab:Str->Str):Prop where
  to:∀x,Cn ts x (lab x)
  eq:∀x y,Cn ts x y->lab x=lab y
  le:∀x y,Cn ts x y->¬co y<co (lab x)
theorem zq5:Good [] id:=by
  have h:∀x y,Cn [] x y->x=y:=by
    intro x y c
    induction c with
    | refl=>rfl
    | step _ n _=>obtain⟨t,ht,_⟩:=n;cases ht
  exact⟨fun x=>.refl x,h,fun x y c=>by rw[h x y c];exact List.lt_irrefl _⟩
theorem zow {ts:List Tie}{lab:Str->Str}{t:Tie}(g:Good ts lab):Good (ts++[t]) (stp lab t):=by
  have sub:∀u∈ts,u∈ts++[t]:=fun u hu=>List.mem_append_left _ hu
  by_cases hk:t.k=SAME
  · unfold stp
    rw[if_pos hk]
    have nt:Nb (ts++[t]) t.a t.b:=⟨t,by simp,hk,.inl ⟨rfl,rfl⟩⟩
    have ca:∀x,lab x=lab t.a->Cn (ts++[t]) x t.a:=fun x e=>by
      have h1:=(g.to x).mono sub
      have h2:=(g.to t.a).mono sub
      rw[e] at h1
      exact h1.trans h2.symm
    have cb:∀x,lab x=lab t.b->Cn (ts++[t]) x t.b:=fun x e=>by
      have h1:=(g.to x).mono sub
      have h2:=(g.to t.b).mono sub
      rw[e] at h1
      exact h1.trans h2.symm
    have la:Cn (ts++[t]) t.a (lab t.a):=(g.to t.a).mono sub
    have lb:Cn (ts++[t]) t.b (lab t.b):=(g.to t.b).mono sub
    have to:∀x,Cn (ts++[t]) x (jn lab (lab t.a) (lab t.b) x):=by
      intro x
      unfold jn
      split
      · next h=>
        have hx:Cn (ts++[t]) x t.a:=h.elim (ca x) fun e=>(cb x e).trans (Cn.one nt.symm)
        rcases zt5 (lab t.a) (lab t.b) with e | e
        · rw[e];exact hx.trans la
        · rw[e];exact (hx.trans (Cn.one nt)).trans lb
      · exact (g.to x).mono sub
    have ja:jn lab (lab t.a) (lab t.b) t.a=minS (lab t.a) (lab t.b):=if_pos (.inl rfl)
    have jb:jn lab (lab t.a) (lab t.b) t.b=minS (lab t.a) (lab t.b):=if_pos (.inr rfl)
    have eq:∀x y,Cn (ts++[t]) x y->jn lab (lab t.a) (lab t.b) x=jn lab (lab t.a) (lab t.b) y:=by
      intro x y c
      induction c with
      | refl=>rfl
      | @step y z _ n ih=>
        rw[ih]
        obtain⟨u,hu,hku,h⟩:=n
        rcases List.mem_append.mp hu with hu | hu
        · have:lab y=lab z:=g.eq y z (Cn.one ⟨u,hu,hku,h⟩)
          unfold jn
          rw[this]
        · have hu:u=t:=by simpa using hu
          subst hu
          rcases h with ⟨rfl,rfl⟩ | ⟨rfl,rfl⟩
          · rw[ja,jb]
          · rw[ja,jb]
    refine⟨to,eq,fun x y c=>?_⟩
    rw[eq x y c]
    have old:=g.le y y (.refl y)
    unfold jn
    split
    · next h=>
      rcases h with e | e
      · intro z
        rw[e] at old
        exact old (zt4 z (zv3 _ _))
      · intro z
        rw[e] at old
        exact old (zt4 z (zv4 _ _))
    · exact old
  · unfold stp
    rw[if_neg hk]
    have back:∀x y,Cn (ts++[t]) x y->Cn ts x y:=by
      intro x y c
      induction c with
      | refl=>exact .refl _
      | step _ n ih=>
        obtain⟨u,hu,hku,h⟩:=n
        rcases List.mem_append.mp hu with hu | hu
        · exact ih.step ⟨u,hu,hku,h⟩
        · have hu:u=t:=by simpa using hu
          subst hu
          exact absurd hku hk
    exact⟨fun x=>(g.to x).mono sub,fun x y c=>g.eq x y (back x y c),fun x y c=>g.le x y (back x y c)⟩
theorem zlj:∀(ts2 ts:List Tie) (lab:Str->Str),Good ts lab->Good (ts++ts2) (ts2.foldl stp lab)
  | [],ts,lab,g=>by rw[List.append_nil];exact g
  | t::r,ts,lab,g=>by
    have:=zlj r (ts++[t]) (stp lab t) (zow g)
    rw[List.append_assoc] at this
    exact this
theorem zcm (ts:List Tie):Good ts (labs ts):=zlj ts [] id zq5
theorem zi0 {ts:List Tie}{i:Nat}{t:Tie}(h:ts[i]? = some t):labs (ts.take (i+1))=stp (labs (ts.take i)) t:=by
  unfold labs
  rw[List.take_add_one,h,List.foldl_append]
  rfl
theorem zlk {us:List Str}{ts:List Tie}{x:Str}(hx:x∈us) (ht:∀t∈ts,t.a∈us/\t.b∈us):labs ts x∈us:=((zcm ts).to x).mem hx ht
def dN (us:List Str) (lab:Str->Str):List (Key×V):=us.map fun x=>(Sum.inr x,V.str (lab x))
theorem zgq {us:List Str}{lab:Str->Str}{x:Str}(h:x∈us):valV (dN us lab) (Sum.inr x)=some (.str (lab x)):=by
  induction us with
  | nil=>cases h
  | cons y r ih=>
    unfold dN
    rw[List.map_cons]
    by_cases e:y=x
    · subst e
      exact zdr rfl
    · have hx:x∈r:=by
        rcases List.mem_cons.mp h with h | h
        · exact absurd h.symm e
        · exact h
      have:=ih hx
      unfold valV at this ⊢
      rw[List.find?_cons_of_neg (by simpa using e)]
      exact this
theorem zv5 {us:List Str}{lab:Str->Str}{x y:Str}(h:x∈us):putK (dN us lab) (Sum.inr x) (.str y)=dN us (fun z=>if z=x then y else lab z):=by
  have ha:((dN us lab).any fun kv=>decide (kv.1=(Sum.inr x:Key)))=true:=by
    rw[List.any_eq_true]
    exact⟨(Sum.inr x,V.str (lab x)),List.mem_map.mpr ⟨x,h,rfl⟩,decide_eq_true rfl⟩
  unfold putK
  rw[if_pos ha]
  unfold dN
  rw[List.map_map]
  apply List.map_congr_left
  intro z _
  show (if (Sum.inr z:Key)=Sum.inr x then (Sum.inr z,V.str y) else (Sum.inr z,V.str (lab z)))=_
  by_cases e:z=x
  · subst e;simp
  · rw[if_neg (fun q=>e (Sum.inr.inj q))]
    show _=(Sum.inr z,V.str (if z=x then y else lab z))
    rw[if_neg e]
theorem zv6 {us:List Str}{x:Str}(h:x ∉ us):putK (dN us id) (Sum.inr x) (.str x)=dN (us++[x]) id:=by
  have ha:¬((dN us id).any fun kv=>decide (kv.1=(Sum.inr x:Key)))=true:=by
    rw[List.any_eq_true]
    rintro ⟨kv,h1,h2⟩
    obtain⟨z,hz,rfl⟩:=List.mem_map.mp h1
    have h2:z=x:=Sum.inr.inj (of_decide_eq_true h2)
    subst h2
    exact h hz
  unfold putK
  rw[if_neg ha]
  unfold dN
  rw[List.map_append]
  rfl
theorem ze1 {us:List Str}{f g:Str->Str}(h:∀x∈us,f x=g x):dN us f=dN us g:=by
  unfold dN
  apply List.map_congr_left
  intro x hx
  rw[h x hx]
theorem zsq (us:List Str) (f:Str->Str):(dN us f).length=us.length:=List.length_map _
theorem zt6 (us:List Str) (f:Str->Str):((dN us f).map fun kv=>kV kv.1)=us.map V.str:=by
  unfold dN
  rw[List.map_map]
  rfl
theorem zbf {us rs:List Str}(hn:rs.Nodup) (hs:∀x∈rs,x∈us):rs.length<=us.length:=by
  induction rs generalizing us with
  | nil=>simp
  | cons a r ih=>
    rw[List.nodup_cons] at hn
    have ha:=hs a (by simp)
    have h2:∀x∈r,x∈us.erase a:=fun x hx=>by
      refine (List.mem_erase_of_ne (fun z=>by subst z;exact hn.1 hx)).mpr (hs x (List.mem_cons_of_mem _ hx))
    have:=ih hn.2 h2
    rw[List.length_erase_of_mem ha] at this
    have hp:0<us.length:=List.length_pos_of_mem ha
    rw[List.length_cons]
    omega
def zfj (l:List Str):Prop:=l.Pairwise (fun a b=>¬co b<co a)
theorem zc1:∀{a b:List Str},a.Perm b->zfj a->zfj b->a=b
  | [],b,p,_,_=>by rw[List.nil_perm.mp p]
  | x::r,[],p,_,_=>by have:=p.length_eq;cases this
  | x::r,y::r',p,ha,hb=>by
    have hx:x∈y::r':=p.mem_iff.mp (by simp)
    have hy:y∈x::r:=p.mem_iff.mpr (by simp)
    have e:x=y:=by
      rcases List.mem_cons.mp hx with h | h
      · exact h
      · rcases List.mem_cons.mp hy with h2 | h2
        · exact h2.symm
        · exact zkb ((List.pairwise_cons.mp hb).1 x h) ((List.pairwise_cons.mp ha).1 y h2)
    subst e
    rw[zc1 (List.Perm.cons_inv p) (List.pairwise_cons.mp ha).2 (List.pairwise_cons.mp hb).2]
def insS (x:Str):List Str->List Str
  | []=>[x]
  | y::r=>if co y<co x then y::insS x r else x::y::r
def srt:List Str->List Str
  | []=>[]
  | x::r=>insS x (srt r)
theorem zfk (x:Str):∀l,(insS x l).Perm (x::l)
  | []=>.refl _
  | y::r=>by
    unfold insS
    split
    · exact ((zfk x r).cons y).trans (.swap x y r)
    · exact .refl _
theorem zc8:∀l,(srt l).Perm l
  | []=>.refl _
  | x::r=>(zfk x (srt r)).trans ((zc8 r).cons x)
theorem zgr (x:Str):∀l,zfj l->zfj (insS x l)
  | [],_=>List.pairwise_singleton ..
  | y::r,h=>by
    unfold insS
    obtain⟨h1,h2⟩:=List.pairwise_cons.mp h
    split
    · next c=>
      refine List.pairwise_cons.mpr ⟨fun z hz=>?_,zgr x r h2⟩
      rcases List.mem_cons.mp ((zfk x r).mem_iff.mp hz) with e | hz
      · subst e;exact fun q=>zd3 q c
      · exact h1 z hz
    · next c=>
      refine List.pairwise_cons.mpr ⟨fun z hz=>?_,h⟩
      rcases List.mem_cons.mp hz with e | hz
      · subst e;exact c
      · intro q
        exact h1 z hz (zt4 q c)
theorem zd4:∀l,zfj (srt l)
  | []=>.nil
  | x::r=>zgr x (srt r) (zd4 r)
theorem zll {ms us:List Str}(p:ms.Perm us) (h:zfj ms):ms=srt us:=zc1 (p.trans (zc8 us).symm) h (zd4 us)
theorem zfl {us:List Str}(h:us.Nodup):(srt us).Nodup:=(zc8 us).nodup_iff.mpr h
theorem srt_mem {us:List Str}{x:Str}:x∈srt us↔x∈us:=(zc8 us).mem_iff
theorem zha (us:List Str):(srt us).length=us.length:=(zc8 us).length_eq
theorem zlm {us:List Str}(h:us.Nodup):(srt us).Pairwise (fun a b=>co a<co b):=by
  have h1:=zd4 us
  have h2:=zfl h
  refine (h1.and h2).imp fun {a b} hq0=>?_
  obtain⟨p,q⟩:=hq0
  exact Decidable.byContradiction fun k=>q (zkb k p)
theorem zq6 {ss:List Str}(h:ss.Pairwise (fun a b=>co a<co b)) {i j:Nat}{x y:Str}(hx:ss[i]? = some x) (hy:ss[j]? = some y) (hl:co x<co y):i<j:=by
  obtain⟨hi,ex⟩:=List.getElem?_eq_some_iff.mp hx
  obtain⟨hj,ey⟩:=List.getElem?_eq_some_iff.mp hy
  rcases Nat.lt_trichotomy i j with c | c | c
  · exact c
  · subst c
    rw[ex] at ey
    subst ey
    exact absurd hl (List.lt_irrefl _)
  · have:=(List.pairwise_iff_getElem.mp h) j i hj hi c
    rw[ex,ey] at this
    exact (zd3 hl this).elim
def dV (ks:List Str) (f:Str->V):List (Key×V):=ks.map fun x=>(Sum.inr x,f x)
theorem zcn {ks:List Str}{f:Str->V}{x:Str}(h:x∈ks):valV (dV ks f) (Sum.inr x)=some (f x):=by
  induction ks with
  | nil=>cases h
  | cons y r ih=>
    unfold dV
    rw[List.map_cons]
    by_cases e:y=x
    · subst e
      exact zdr rfl
    · have hx:x∈r:=by
        rcases List.mem_cons.mp h with h | h
        · exact absurd h.symm e
        · exact h
      have:=ih hx
      unfold valV at this ⊢
      rw[List.find?_cons_of_neg (by simpa using e)]
      exact this
theorem zfm {ks:List Str}{f:Str->V}{x:Str}(h:x ∉ ks):valV (dV ks f) (Sum.inr x)=none:=by
  unfold valV
  rw[List.find?_eq_none.mpr]
  · rfl
  · intro kv hkv
    obtain⟨z,hz,rfl⟩:=List.mem_map.mp hkv
    intro e
    have e:z=x:=Sum.inr.inj (of_decide_eq_true e)
    subst e
    exact h hz
theorem zv7 {ks:List Str}{f:Str->V}{x:Str}{v:V}(h:x∈ks):putK (dV ks f) (Sum.inr x) v=dV ks (fun z=>if z=x then v else f z):=by
  have ha:((dV ks f).any fun kv=>decide (kv.1=(Sum.inr x:Key)))=true:=by
    rw[List.any_eq_true]
    exact⟨(Sum.inr x,f x),List.mem_map.mpr ⟨x,h,rfl⟩,decide_eq_true rfl⟩
  unfold putK
  rw[if_pos ha]
  unfold dV
  rw[List.map_map]
  apply List.map_congr_left
  intro z _
  show (if (Sum.inr z:Key)=Sum.inr x then (Sum.inr z,v) else (Sum.inr z,f z))=(Sum.inr z,if z=x then v else f z)
  by_cases e:z=x
  · subst e;simp
  · rw[if_neg (fun q=>e (Sum.inr.inj q)),if_neg e]
theorem zi1 {ks:List Str}{f:Str->V}{x:Str}{v:V}(h:x ∉ ks):putK (dV ks f) (Sum.inr x) v=dV (ks++[x]) (fun z=>if z=x then v else f z):=by
  have ha:¬((dV ks f).any fun kv=>decide (kv.1=(Sum.inr x:Key)))=true:=by
    rw[List.any_eq_true]
    rintro ⟨kv,h1,h2⟩
    obtain⟨z,hz,rfl⟩:=List.mem_map.mp h1
    have h2:z=x:=Sum.inr.inj (of_decide_eq_true h2)
    subst h2
    exact h hz
  unfold putK
  rw[if_neg ha]
  unfold dV
  rw[List.map_append]
  congr 1
  · apply List.map_congr_left
    intro z hz
    have:¬z=x:=fun e=>h (e▸hz)
    show _=(Sum.inr z,if z=x then v else f z)
    rw[if_neg this]
  · show [(Sum.inr x,v)] = [(Sum.inr x,if x=x then v else f x)]
    rw[if_pos rfl]
theorem zc9 {ks:List Str}{f g:Str->V}(h:∀x∈ks,f x=g x):dV ks f=dV ks g:=by
  unfold dV
  apply List.map_congr_left
  intro x hx
  rw[h x hx]
theorem zbg (ks:List Str) (f:Str->V):(dV ks f).length=ks.length:=List.length_map _
theorem zkc (ks:List Str) (f:Str->V):((dV ks f).map fun kv=>kV kv.1)=ks.map V.str:=by
  unfold dV
  rw[List.map_map]
  rfl
theorem zt7 (ks:List Str) (f:Str->V):((dV ks f).map (·.2))=ks.map f:=by
  unfold dV
  rw[List.map_map]
  rfl
def zk (ts:List Tie) (ss:List Str):List Str:=ss.filter fun x=>decide (labs ts x=x)
def zc2 (ts:List Tie) (ss:List Str) (k:Str):List Str:=ss.filter fun x=>decide (labs ts x=k)
def zel (us:List Str) (ts:List Tie):List (List Str):=(zk ts (srt us)).map (zc2 ts (srt us))
theorem zi2 {ts:List Tie}{ss:List Str}{i:Nat}{u:Str}(h:ss[i]? = some u):zk ts (ss.take (i+1))=zk ts (ss.take i)++(if labs ts u=u then [u] else []):=by
  unfold zk
  rw[List.take_add_one,h,List.filter_append]
  by_cases c:labs ts u=u
  · rw[if_pos c];simp[c]
  · rw[if_neg c];simp[c]
theorem zhb {ts:List Tie}{ss:List Str}{i:Nat}{u k:Str}(h:ss[i]? = some u):zc2 ts (ss.take (i+1)) k=zc2 ts (ss.take i) k++(if labs ts u=k then [u] else []):=by
  unfold zc2
  rw[List.take_add_one,h,List.filter_append]
  by_cases c:labs ts u=k
  · rw[if_pos c];simp[c]
  · rw[if_neg c];simp[c]
theorem zi3 (ts:List Tie) (x:Str):labs ts (labs ts x)=labs ts x:=((zcm ts).eq x _ ((zcm ts).to x)).symm
theorem zkd (ts:List Tie) (x:Str):¬co x<co (labs ts x):=(zcm ts).le x x (.refl x)
theorem zt8 {us:List Str}{ts:List Tie}(nd:us.Nodup) (ht:∀t∈ts,t.a∈us/\t.b∈us) {i:Nat}{u:Str}(h:(srt us)[i]? = some u) (hne:labs ts u≠u):labs ts u∈zk ts ((srt us).take i):=by
  have hu:u∈us:=srt_mem.mp (List.mem_of_getElem? h)
  have hl:labs ts u∈srt us:=srt_mem.mpr (zlk hu ht)
  obtain⟨j,hj,ej⟩:=List.mem_iff_getElem.mp hl
  have ej':(srt us)[j]? = some (labs ts u):=by rw[List.getElem?_eq_getElem hj,ej]
  have hlt:co (labs ts u)<co u:=Decidable.byContradiction fun k=>hne (zkb k (zkd ts u))
  have hij:=zq6 (zlm nd) ej' h hlt
  unfold zk
  rw[List.mem_filter]
  refine⟨?_,decide_eq_true (zi3 ts u)⟩
  rw[List.mem_take_iff_getElem]
  exact⟨j,by omega,ej⟩
theorem zt9 {us:List Str}{ts:List Tie}(nd:us.Nodup) {i:Nat}{u:Str}(h:(srt us)[i]? = some u):u ∉ zk ts ((srt us).take i)/\(labs ts u=u->zc2 ts ((srt us).take i) u = []):=by
  have hi:=(List.getElem?_eq_some_iff.mp h).1
  have eu:=(List.getElem?_eq_some_iff.mp h).2
  have hlt:∀x∈(srt us).take i,co x<co u:=by
    intro x hx
    obtain⟨j,hj,ej⟩:=List.mem_take_iff_getElem.mp hx
    have:=(List.pairwise_iff_getElem.mp (zlm nd)) j i (by omega) hi (by omega)
    rw[ej,eu] at this
    exact this
  refine⟨fun z=>?_,fun e=>?_⟩
  · have:=hlt u (List.mem_filter.mp z).1
    exact List.lt_irrefl _ this
  · unfold zc2
    rw[List.filter_eq_nil_iff]
    intro x hx c
    have c:labs ts x=u:=of_decide_eq_true c
    have:=zkd ts x
    rw[c] at this
    exact this (hlt x hx)
section
variable {us:List Str}{ts:List Tie}
theorem keys_mem {k:Str}:k∈zk ts (srt us)↔k∈us/\labs ts k=k:=by
  unfold zk
  rw[List.mem_filter,srt_mem,decide_eq_true_iff]
theorem zbq (nd:us.Nodup):(zk ts (srt us)).Nodup:=(zfl nd).sublist (List.filter_sublist ..)
theorem zke (nd:us.Nodup):(zk ts (srt us)).Pairwise (fun a b=>co a<co b):=(zlm nd).sublist (List.filter_sublist ..)
theorem zv8 (nd:us.Nodup) (k:Str):(zc2 ts (srt us) k).Pairwise (fun a b=>co a<co b):=(zlm nd).sublist (List.filter_sublist ..)
theorem grp_mem {k y:Str}:y∈zc2 ts (srt us) k↔y∈us/\labs ts y=k:=by
  unfold zc2
  rw[List.mem_filter,srt_mem,decide_eq_true_iff]
theorem zln (ht:∀t∈ts,t.a∈us/\t.b∈us) {x:Str}(hx:x∈us):labs ts x∈zk ts (srt us):=keys_mem.mpr ⟨zlk hx ht,zi3 ts x⟩
theorem zq7 (nd:us.Nodup) {k:Str}(hk:k∈zk ts (srt us)):∃r,zc2 ts (srt us) k=k::r:=by
  obtain⟨h1,h2⟩:=keys_mem.mp hk
  have hm:k∈zc2 ts (srt us) k:=grp_mem.mpr ⟨h1,h2⟩
  have hp:=zv8 (ts:=ts) nd k
  cases e:zc2 ts (srt us) k with
  | nil=>rw[e] at hm;cases hm
  | cons x r=>
    rw[e] at hm hp
    rcases List.mem_cons.mp hm with z | z
    · rw[z];exact⟨r,rfl⟩
    · have h3:=(List.pairwise_cons.mp hp).1 k z
      have hx:x∈zc2 ts (srt us) k:=by rw[e];simp
      have h4:=zkd ts x
      rw[(grp_mem.mp hx).2] at h4
      exact absurd h3 h4
theorem zlo (nd:us.Nodup):(zel us ts).length<=us.length:=by
  unfold zel
  rw[List.length_map]
  have:=List.length_filter_le (fun x=>decide (labs ts x=x)) (srt us)
  rw[zha] at this
  exact this
end
structure Fnd where
  n:Str
  u:Str
  lo:Int
  hi:Int
abbrev Ln:=Str->List (Str×Addr)
def za4 (ts:List Tie) (z:List (Tie×Addr)):Ln:=fun k=>(z.filter fun p=>decide (p.1.k≠SAME/\labs ts p.1.a=k)).map fun p=>(labs ts p.1.b,p.2)
theorem zlp {ts:List Tie}{z:List (Tie×Addr)}{i:Nat}{t:Tie}{r:Addr}{k:Str}(h:z[i]? = some (t,r)):za4 ts (z.take (i+1)) k=za4 ts (z.take i) k++(if t.k≠SAME/\labs ts t.a=k then [(labs ts t.b,r)] else []):=by
  unfold za4
  rw[List.take_add_one,h,List.filter_append,List.map_append]
  by_cases c:t.k≠SAME/\labs ts t.a=k
  · rw[if_pos c]
    simp[c.1,c.2]
  · rw[if_neg c]
    congr 1
    have:((some (t,r)).toList.filter fun p=>decide (p.1.k≠SAME/\labs ts p.1.a=k)) = []:=by
      rw[List.filter_eq_nil_iff]
      intro p hp
      have:p=(t,r):=by simpa using hp
      subst this
      intro e
      exact c (of_decide_eq_true e)
    rw[this];rfl
theorem lnk_mem {ts:List Tie}{z:List (Tie×Addr)}{k l:Str}{r:Addr}:(l,r)∈za4 ts z k↔∃t,(t,r)∈z/\t.k≠SAME/\labs ts t.a=k/\labs ts t.b=l:=by
  unfold za4
  rw[List.mem_map]
  constructor
  · rintro ⟨⟨t,r'⟩,h,e⟩
    rw[List.mem_filter,decide_eq_true_iff] at h
    simp only [Prod.mk.injEq] at e
    obtain⟨e1,e2⟩:=e
    subst e2
    exact⟨t,h.1,h.2.1,h.2.2,e1⟩
  · rintro ⟨t,h1,h2,h3,h4⟩
    refine⟨(t,r),?_,by simp[h4]⟩
    rw[List.mem_filter,decide_eq_true_iff]
    exact⟨h1,h2,h3⟩
theorem zhc {ts:List Tie}{z:List (Tie×Addr)}{k:Str}:(za4 ts z k).length<=z.length:=by
  unfold za4
  rw[List.length_map]
  exact List.length_filter_le _ _
inductive Wk (ln:Ln) (s:Str):List Addr->Str->Prop
  | nil:Wk ln s [] s
  | snoc {rs:List Addr}{m l:Str}{r:Addr}(w:Wk ln s rs m) (h:(l,r)∈ln m):Wk ln s (rs++[r]) l
def Rc (ln:Ln) (s:Str) (n:Nat) (v:Str):Prop:=∃rs,Wk ln s rs v/\rs.length=n
theorem Rc.zero {ln:Ln}{s v:Str}(h:Rc ln s 0 v):v=s:=by
  obtain⟨rs,w,e⟩:=h
  cases w with
  | nil=>rfl
  | snoc w h=>simp at e
theorem Rc.succ {ln:Ln}{s v:Str}{n:Nat}(h:Rc ln s (n+1) v):∃u r,Rc ln s n u/\(v,r)∈ln u:=by
  obtain⟨rs,w,e⟩:=h
  cases w with
  | nil=>simp at e
  | snoc w h=>exact⟨_,_,⟨_,w,by simpa using e⟩,h⟩
theorem Rc.step {ln:Ln}{s v u:Str}{n:Nat}{r:Addr}(h:Rc ln s n u) (e:(v,r)∈ln u):Rc ln s (n+1) v:=by
  obtain⟨rs,w,q⟩:=h
  exact⟨_,w.snoc e,by simp[q]⟩
structure Bf (ln:Ln) (s:Str) (d:Nat) (M ns:List Str):Prop where
  met:∀v∈M,∃j,1<=j/\j<=d/\Rc ln s j v
  no:∀j,1<=j->j<=d->¬Rc ln s j s
  all:∀v,Rc ln s d v->(∀j,1<=j->j<d->¬Rc ln s j v)->v∈ns
theorem Bf.zero {ln:Ln}{s:Str}:Bf ln s 0 [] [s]:=
  ⟨fun v h=>(List.not_mem_nil h).elim,fun j h1 h2=>by omega,fun v h _=>by rw[h.zero];simp⟩
theorem Bf.succ {ln:Ln}{s:Str}{d:Nat}{M ns ms:List Str}(b:Bf ln s d M ns) (hm:∀v∈ms,Rc ln s (d+1) v) (hs:∀u∈ns,∀v r,(v,r)∈ln u->v≠s/\v∈M++ms):Bf ln s (d+1) (M++ms) ms:=by
  refine⟨fun v h=>?_,fun j h1 h2 q=>?_,fun v h hj=>?_⟩
  · rcases List.mem_append.mp h with h | h
    · obtain⟨j,a,c,e⟩:=b.met v h
      exact⟨j,a,by omega,e⟩
    · exact⟨d+1,by omega,by omega,hm v h⟩
  · by_cases c:j<=d
    · exact b.no j h1 c q
    · have e:j=d+1:=by omega
      subst e
      obtain⟨u,r,hu,he⟩:=q.succ
      by_cases c2:∃j,1<=j/\j<d/\Rc ln s j u
      · obtain⟨j,a1,a2,a3⟩:=c2
        exact b.no (j+1) (by omega) (by omega) (a3.step he)
      · exact (hs u (b.all u hu fun j a1 a2 a3=>c2 ⟨j,a1,a2,a3⟩) s r he).1 rfl
  · obtain⟨u,r,hu,he⟩:=h.succ
    have hu':u∈ns:=b.all u hu fun j a1 a2 a3=>hj (j+1) (by omega) (by omega) (a3.step he)
    rcases List.mem_append.mp (hs u hu' v r he).2 with h | h
    · obtain⟨j,a1,a2,a3⟩:=b.met v h
      exact absurd a3 (hj j a1 (by omega))
    · exact h
theorem Bf.done {ln:Ln}{s:Str}{d:Nat}{M:List Str}(b:Bf ln s d M []):∀j,1<=j->¬Rc ln s j s:=by
  have low:∀j v,1<=j->Rc ln s j v->∃j',1<=j'/\j'<=d/\Rc ln s j' v/\j'<max d 1:=by
    intro j
    induction j with
    | zero=>intro v h;omega
    | succ j ih=>
      intro v _ h
      have at_d:Rc ln s d v->∃j',1<=j'/\j'<=d/\Rc ln s j' v/\j'<max d 1:=fun q=>by
        by_cases c:∃j,1<=j/\j<d/\Rc ln s j v
        · obtain⟨i,a1,a2,a3⟩:=c
          exact⟨i,a1,by omega,a3,by omega⟩
        · exact nomatch b.all v q fun i a1 a2 a3=>c ⟨i,a1,a2,a3⟩
      by_cases c1:j+1<d
      · exact⟨j+1,by omega,by omega,h,by omega⟩
      · by_cases c2:j+1=d
        · exact at_d (c2▸h)
        · obtain⟨u,r,hu,he⟩:=h.succ
          by_cases c3:j=0
          · have:d=0:=by omega
            subst this
            subst c3
            exact (nomatch b.all s ⟨[],.nil,rfl⟩ fun i a1 a2 a3=>by omega)
          · obtain⟨j',a1,a2,a3,a4⟩:=ih u (by omega) hu
            by_cases c4:j'+1=d
            · exact at_d (c4▸a3.step he)
            · exact⟨j'+1,by omega,by omega,a3.step he,by omega⟩
  intro j h q
  obtain⟨j',a1,a2,a3,_⟩:=low j s h q
  exact b.no j' a1 a2 a3
structure Bn (H:Hp) (pd:Addr) (ob:Obj) (keys:List Str) (ln:Ln) (ad:Str->Addr) (bs:Str->List Addr):Prop where
  d:H pd=some (.frz ob (.dK (dV keys fun k=>.ref (ad k))))
  l:∀k∈keys,H (ad k)=some (.lst ((bs k).map V.ref))
  e:∀k∈keys,Paired (fun b (p:Str×Addr)=>H b=some (.tup [.str p.1,.ref p.2])) (bs k) (ln k)
theorem Bn.same {H H':Hp}{pd:Addr}{ob:Obj}{keys:List Str}{ln:Ln}{ad:Str->Addr}{bs:Str->List Addr}(b:Bn H pd ob keys ln ad bs) (s:Same H H'):Bn H' pd ob keys ln ad bs:=
  ⟨s _ _ b.d,fun k hk=>s _ _ (b.l k hk),fun k hk=>Paired.mapP (b.e k hk) fun _ _ h=>s _ _ h⟩
theorem zbm {α:Type}{F:Addr->α->Prop}{as:List Addr}{ps:List α}{i:Nat}{x:V}(t:Paired F as ps) (hx:(as.map V.ref)[i]? = some x):∃q p,x = .ref q/\ps[i]? = some p/\as[i]? = some q/\F q p:=by
  rw[List.getElem?_map] at hx
  cases e:as[i]? with
  | none=>rw[e] at hx;cases hx
  | some q=>
    rw[e] at hx
    cases hx
    obtain⟨p,h1,h2⟩:=Paired.get' t e
    exact⟨q,p,rfl,h1,rfl,h2⟩
def zv9 (H:Hp) (b:Addr) (e:Str×List Addr):Prop:=∃q,H b=some (.tup [.str e.1,.ref q])/\H q=some (.lst (e.2.map V.ref))
def WayN (pl:Addr) (H:Hp) (b:Addr) (e:Str×List Addr):Prop:=∃q,q≠pl/\H b=some (.tup [.str e.1,.ref q])/\H q=some (.lst (e.2.map V.ref))
def tru:Str->V:=fun _=>.bl true
theorem zox {M:List Str}{v:Str}(h:v ∉ M):putK (dV M tru) (Sum.inr v) (.bl true)=dV (M++[v]) tru:=by
  rw[zi1 h]
  refine zc9 fun z _=>?_
  unfold tru
  split<;>rfl
structure Grow (Hw H':Hp) (pm pl:Addr) (ln:Ln) (s:Str) (keys M:List Str) (d:Nat) (ml:List Addr) (fs:List (Str×List Addr)):Prop where
  kp:∀b o,b≠pm->Hw b=some o->H' b=some o
  m:H' pm=some (.dK (dV (M++fs.map Prod.fst) tru))
  l:H' pl=some (.lst (ml.map V.ref))
  w:Paired (WayN pl H') ml fs
  ok:∀e∈fs,Wk ln s e.2 e.1/\e.2.length=d+1/\e.1∈keys
  nd:(M++fs.map Prod.fst).Nodup
section
variable {Hw H':Hp}{pm pl:Addr}{ln:Ln}{s:Str}{keys M:List Str}{d:Nat}{ml:List Addr}{fs:List (Str×List Addr)}
theorem Grow.add (g:Grow Hw H' pm pl ln s keys M d ml fs) (hw:Hw pl=none) (npl:pl≠pm) {v:Str}{rs:List Addr}(hv:v ∉ M++fs.map Prod.fst) {H2:Hp}(s2:Same (upd H' pm (.dK (dV (M++fs.map Prod.fst++[v]) tru))) H2) {q b:Addr}
    (hq:H2 q=some (.lst (rs.map V.ref))) (nq:q≠pl) (hb:H2 b=some (.tup [.str v,.ref q])) (ok:Wk ln s rs v/\rs.length=d+1/\v∈keys) :
    Grow Hw (upd H2 pl (.lst (ml.map V.ref++[.ref b]))) pm pl ln s keys M d (ml++[b]) (fs++[(v,rs)]):=by
  have l2:H2 pl=some (.lst (ml.map V.ref)):=s2 _ _ (by rw[zf npl];exact g.l)
  have ntup:∀b vs,H2 b=some (.tup vs)->b≠pl:=fun b vs e z=>by rw[z,l2] at e;cases e
  refine⟨fun c o n e=>?_,?_,?_,?_,fun e he=>?_,?_⟩
  · rw[zf (ze e hw)]
    exact s2 _ _ (by rw[zf n];exact g.kp c o n e)
  · rw[zf (Ne.symm npl),List.map_append,←List.append_assoc]
    exact s2 _ _ zb
  · rw[zb,List.map_append];rfl
  · refine Paired.snoc (Paired.mapP g.w fun c e h=>?_) ?_
    · obtain⟨q',n',h1,h2⟩:=h
      have h1':=s2 _ _ (show upd H' pm (.dK (dV (M++fs.map Prod.fst++[v]) tru)) c=_ by rw[zf (fun z=>by rw[z,g.m] at h1;cases h1)];exact h1)
      have h2':=s2 _ _ (show upd H' pm (.dK (dV (M++fs.map Prod.fst++[v]) tru)) q'=_ by rw[zf (fun z=>by rw[z,g.m] at h2;cases h2)];exact h2)
      exact⟨q',n',by rw[zf (ntup _ _ h1')];exact h1',by rw[zf n'];exact h2'⟩
    · exact⟨q,nq,by rw[zf (ntup _ _ hb)];exact hb,by rw[zf nq];exact hq⟩
  · rcases List.mem_append.mp he with he | he
    · exact g.ok e he
    · have:e=(v,rs):=by simpa using he
      subst this
      exact ok
  · rw[List.map_append,←List.append_assoc]
    rw[List.nodup_append]
    refine⟨g.nd,by simp,fun a ha c hc e=>?_⟩
    have hc:c=v:=by simpa using hc
    subst hc
    subst e
    exact hv ha
end
theorem Bn.get {H:Hp}{pd:Addr}{ob:Obj}{keys:List Str}{ln:Ln}{ad:Str->Addr}{bs:Str->List Addr}(b:Bn H pd ob keys ln ad bs) {k:Str}(hk:k∈keys):DGet H pd (.str k) (some (.ref (ad k))):=by
  have:DGet H pd (kV (Sum.inr k)) (valV (dV keys fun k=>.ref (ad k)) (Sum.inr k)):=.inl ⟨_,_,.inr ⟨ob,b.d⟩,rfl,rfl⟩
  rwa [zcn hk] at this
def Shr (ln:Ln) (s:Str) (rs:List Addr):Prop:=(rs = []/\∀j,1<=j->¬Rc ln s j s)\/(rs≠[]/\Wk ln s rs s/\∀j,1<=j->j<rs.length->¬Rc ln s j s)
def Rnd (ln:Ln) (keys:List Str) (rs:List Addr):Prop:=(rs = []/\∀s∈keys,∀j,1<=j->¬Rc ln s j s)\/(rs≠[]/\(∃s∈keys,Wk ln s rs s)/\∀s∈keys,∀j,1<=j->j<rs.length->¬Rc ln s j s)
theorem Rnd.nil {ln:Ln}:Rnd ln [] []:=.inl ⟨rfl,fun s h=>(List.not_mem_nil h).elim⟩
theorem Rnd.step {ln:Ln}{keys:List Str}{u:Str}{rs xs:List Addr}(h:Rnd ln keys rs) (g:Shr ln u xs):Rnd ln (keys++[u]) (if xs≠[]/\(rs = []\/xs.length<rs.length) then xs else rs):=by
  have mem:∀{s:Str},s∈keys++[u]->s∈keys\/s=u:=fun h=>by simpa using h
  have low:∀{n:Nat},n<=xs.length\/xs = []->∀j,1<=j->j<n->¬Rc ln u j u:=fun hn j h1 h2=>by
    rcases g with ⟨e,g⟩ | ⟨e,_,g⟩
    · exact g j h1
    · exact g j h1 (by rcases hn with hn | hn;omega;exact absurd hn e)
  by_cases c:xs≠[]/\(rs = []\/xs.length<rs.length)
  · rw[if_pos c]
    rcases g with ⟨e,_⟩ | ⟨_,g1,g2⟩
    · exact absurd e c.1
    · refine .inr ⟨c.1,⟨u,by simp,g1⟩,fun s hs j h1 h2=>?_⟩
      rcases mem hs with hs | rfl
      · rcases h with ⟨_,h⟩ | ⟨hn,_,h⟩
        · exact h s hs j h1
        · rcases c.2 with z | z
          · exact absurd z hn
          · exact h s hs j h1 (by omega)
      · exact g2 j h1 h2
  · rw[if_neg c]
    rcases h with ⟨e,h⟩ | ⟨hn,⟨s,hs,hw⟩,h⟩
    · have ex:xs = []:=Decidable.byContradiction fun z=>c ⟨z,.inl e⟩
      refine .inl ⟨e,fun s hs j h1=>?_⟩
      rcases mem hs with hs | rfl
      · exact h s hs j h1
      · rcases g with ⟨_,g⟩ | ⟨z,_⟩
        · exact g j h1
        · exact absurd ex z
    · refine .inr ⟨hn,⟨s,List.mem_append_left _ hs,hw⟩,fun s hs j h1 h2=>?_⟩
      rcases mem hs with hs | rfl
      · exact h s hs j h1 h2
      · refine low (n:=rs.length) ?_ j h1 h2
        by_cases z:xs = []
        · exact .inr z
        · exact .inl (Nat.le_of_not_lt fun q=>c ⟨z,.inr q⟩)
theorem zda {us:List Str}{ts:List Tie}{ads:List Addr}(ht:∀t∈ts,t.a∈us/\t.b∈us):∀k∈zk ts (srt us),∀l r,(l,r)∈za4 ts (ts.zip ads) k->l∈zk ts (srt us):=by
  intro k _ l r h
  obtain⟨t,h1,_,_,rfl⟩:=lnk_mem.mp h
  exact zln ht (ht t (List.of_mem_zip h1).1).2
theorem zwa {ks:List Str}{f:Str->V}{i:Nat}{k:Key}{v:V}(h:(dV ks f)[i]? = some (k,v)):∃u,ks[i]? = some u/\k=Sum.inr u/\v=f u:=by
  unfold dV at h
  rw[List.getElem?_map] at h
  cases e:ks[i]? with
  | none=>rw[e] at h;cases h
  | some u=>
    rw[e] at h
    cases h
    exact⟨u,rfl,rfl,rfl⟩
abbrev Lk:=List (Str×Str)
def lkOf (ts:List Tie):Lk:=(ts.filter fun t=>decide (t.k≠SAME)).map fun t=>(labs ts t.a,labs ts t.b)
theorem zwb {ts:List Tie}{x y:Str}:(x,y)∈lkOf ts↔∃t∈ts,t.k≠SAME/\labs ts t.a=x/\labs ts t.b=y:=by
  unfold lkOf
  rw[List.mem_map]
  constructor
  · rintro ⟨t,h,e⟩
    rw[List.mem_filter,decide_eq_true_iff] at h
    simp only [Prod.mk.injEq] at e
    exact⟨t,h.1,h.2,e⟩
  · rintro ⟨t,h1,h2,h3,h4⟩
    exact⟨t,by rw[List.mem_filter,decide_eq_true_iff];exact⟨h1,h2⟩,by rw[h3,h4]⟩
theorem zw9 {ts:List Tie}{ads:List Addr}(hl:ads.length=ts.length) {x y:Str}:(x,y)∈lkOf ts↔∃r,(y,r)∈za4 ts (ts.zip ads) x:=by
  rw[zwb]
  constructor
  · rintro ⟨t,h1,h2,h3,h4⟩
    obtain⟨i,hi,e⟩:=List.mem_iff_getElem.mp h1
    refine⟨ads[i]'(by omega),lnk_mem.mpr ⟨t,?_,h2,h3,h4⟩⟩
    rw[List.mem_iff_getElem]
    exact⟨i,by rw[List.length_zip];omega,by rw[List.getElem_zip,e]⟩
  · rintro ⟨r,h⟩
    obtain⟨t,h1,h2,h3,h4⟩:=lnk_mem.mp h
    exact⟨t,(List.of_mem_zip h1).1,h2,h3,h4⟩
theorem zi4 {ln:Ln}{F:List Str}(hn:F≠[]) (h:∀x∈F,∃y∈F,∃r,(y,r)∈ln x):∃s∈F,∃j,1<=j/\Rc ln s j s:=by
  obtain⟨x0,h0⟩:=List.exists_mem_of_ne_nil F hn
  have hf:∃f:Str->Str,∀x∈F,f x∈F/\∃r,(f x,r)∈ln x:=by
    refine⟨fun x=>if c:x∈F then (h x c).choose else x,fun x hx=>?_⟩
    dsimp only
    rw[dif_pos hx]
    exact (h x hx).choose_spec
  obtain⟨f,hf⟩:=hf
  let x:Nat->Str:=fun n=>Nat.rec x0 (fun _ y=>f y) n
  have hx:∀n,x n∈F:=by
    intro n
    induction n with
    | zero=>exact h0
    | succ n ih=>exact (hf _ ih).1
  have go:∀i d,Rc ln (x i) d (x (i+d)):=by
    intro i d
    induction d with
    | zero=>exact⟨[],.nil,rfl⟩
    | succ d ih=>
      obtain⟨r,e⟩:=(hf _ (hx (i+d))).2
      exact ih.step e
  have rep:∃i j,i<j/\x i=x j:=by
    refine Classical.byContradiction fun hn=>?_
    have nd:((List.range (F.length+1)).map x).Nodup:=zbw fun i j _ _ e=>by
      rcases Nat.lt_trichotomy i j with c | c | c
      · exact absurd ⟨i,j,c,e⟩ hn
      · exact c
      · exact absurd ⟨j,i,c,e.symm⟩ hn
    have:=zbf nd (us:=F) fun y hy=>by
      obtain⟨i,_,rfl⟩:=List.mem_map.mp hy
      exact hx i
    simp at this
    omega
  obtain⟨i,j,hij,e⟩:=rep
  refine⟨x i,hx i,j-i,by omega,?_⟩
  have:=go i (j-i)
  rwa [show i+(j-i)=j by omega,←e] at this
structure Tel (K:PySem.W.Frag) (H:Hp) (p pu pt:Addr) (x y:V) (us:List Str) (ads:List Addr) (ts:List Tie):Prop where
  p:SqT K H p [x,.ref pu,.ref pt,y]
  u:SqL K H pu (us.map V.str)
  t:SqL K H pt (ads.map V.ref)
  tt:Tups H ads (ts.map tieV)
  nd:us.Nodup
  ul:us.length<64
  tl:ts.length<=900
  ok:∀t∈ts,TOk us t
section
variable {K:PySem.W.Frag}{H H':Hp}{p pu pt:Addr}{x y:V}{us:List Str}{ads:List Addr}{ts:List Tie}
theorem Tel.same (h:Tel K H p pu pt x y us ads ts) (s:Same H H'):Tel K H' p pu pt x y us ads ts:=⟨s.tup h.p,s.seq h.u,s.seq h.t,h.tt.same s,h.nd,h.ul,h.tl,h.ok⟩
theorem Tel.ends (h:Tel K H p pu pt x y us ads ts):∀t∈ts,t.a∈us/\t.b∈us:=fun t ht=>⟨(h.ok t ht).a,(h.ok t ht).b⟩
theorem Tel.len (h:Tel K H p pu pt x y us ads ts):ads.length=ts.length:=by have:=h.tt.len;rw[List.length_map] at this;exact this
theorem Tel.klen (h:Tel K H p pu pt x y us ads ts):(zk ts (srt us)).length<=63:=by
  have:=zlo (us:=us) (ts:=ts) h.nd
  have:=h.ul
  unfold zel at *
  rw[List.length_map] at *
  omega
end
theorem Rnd.nil_iff {ln:Ln}{keys:List Str}{rs:List Addr}(h:Rnd ln keys rs):rs≠[]↔∃s∈keys,∃j,1<=j/\Rc ln s j s:=by
  rcases h with ⟨e,h⟩ | ⟨e,⟨s,hs,w⟩,_⟩
  · exact⟨fun z=>absurd e z,fun ⟨s,hs,j,hj,r⟩=>absurd r (h s hs j hj)⟩
  · exact⟨fun _=>⟨s,hs,_,List.length_pos_iff.mpr e,_,w,rfl⟩,fun _=>e⟩
def NoR (ln:Ln) (keys:List Str):Prop:=∀s∈keys,∀j,1<=j->¬Rc ln s j s
def zeq (M:List Str) (L:List (Str×Addr)):Bool:=L.all fun p=>decide (p.1∈M)
def zeg (ln:Ln) (keys M:List Str):List Str:=keys.filter fun x=>decide (x ∉ M)&&zeq M (ln x)
theorem zoy {M:List Str}{L:List (Str×Addr)}:zeq M L=true↔∀l r,(l,r)∈L->l∈M:=by
  unfold zeq
  rw[List.all_eq_true]
  constructor
  · intro h l r hm
    exact of_decide_eq_true (h (l,r) hm)
  · intro h p hp
    exact decide_eq_true (h p.1 p.2 hp)
theorem frees_mem {ln:Ln}{keys M:List Str}{x:Str}:x∈zeg ln keys M↔x∈keys/\x ∉ M/\∀l r,(l,r)∈ln x->l∈M:=by
  unfold zeg
  rw[List.mem_filter,Bool.and_eq_true,decide_eq_true_iff,zoy]
theorem zq8 {ln:Ln}{keys M:List Str}(cl:∀k∈keys,∀l r,(l,r)∈ln k->l∈keys) (nr:NoR ln keys) (hx:∃x∈keys,x ∉ M):zeg ln keys M≠[]:=by
  intro z
  obtain⟨x,h1,h2⟩:=hx
  obtain⟨s,hs,j,hj,r⟩:=zi4 (ln:=ln) (F:=keys.filter fun x=>decide (x ∉ M)) (List.ne_nil_of_mem (List.mem_filter.mpr ⟨h1,decide_eq_true h2⟩)) fun y hy=>by
    rw[List.mem_filter,decide_eq_true_iff] at hy
    refine Classical.byContradiction fun hn=>?_
    have:y∈zeg ln keys M:=frees_mem.mpr ⟨hy.1,hy.2,fun l r hl=>Decidable.byContradiction fun q=>hn ⟨l,List.mem_filter.mpr ⟨cl y hy.1 l r hl,decide_eq_true q⟩,r,hl⟩⟩
    rw[z] at this
    cases this
  exact nr s (List.mem_filter.mp hs).1 j hj r
structure Ord (ln:Ln) (keys os:List Str):Prop where
  nd:os.Nodup
  sub:∀x∈os,x∈keys
  low:∀(i:Nat) o,os[i]? = some o->∀l r,(l,r)∈ln o->l∈os.take i
  least:∀(i:Nat) o,os[i]? = some o->∀x∈keys,x ∉ os.take i->(∀l r,(l,r)∈ln x->l∈os.take i)->¬co x<co o
theorem Ord.nil {ln:Ln}{keys:List Str}:Ord ln keys []:=⟨by simp,by simp,by simp,by simp⟩
theorem Ord.snoc {ln:Ln}{keys os:List Str}{u:Str}{r:List Str}(h:Ord ln keys os) (kl:keys.Pairwise (fun a b=>co a<co b)) (hu:zeg ln keys os=u::r):Ord ln keys (os++[u]):=by
  have hm:u∈zeg ln keys os:=by rw[hu];simp
  obtain⟨m1,m2,m3⟩:=frees_mem.mp hm
  have at':∀(i:Nat) o,(os++[u])[i]? = some o->(i<os.length/\os[i]? = some o/\(os++[u]).take i=os.take i)\/(i=os.length/\o=u/\(os++[u]).take i=os):=by
    intro i o e
    by_cases c:i<os.length
    · rw[List.getElem?_append_left c] at e
      exact .inl ⟨c,e,by rw[List.take_append_of_le_length (by omega)]⟩
    · have hi:=(List.getElem?_eq_some_iff.mp e).1
      rw[List.length_append] at hi
      have hi:i<os.length+1:=hi
      have:i=os.length:=by omega
      subst this
      simp at e
      exact .inr ⟨rfl,e.symm,by simp⟩
  refine⟨?_,fun x hx=>?_,fun i o e l r' hl=>?_,fun i o e x hx hn hl=>?_⟩
  · rw[List.nodup_append]
    refine⟨h.nd,by simp,fun a ha b hb e=>?_⟩
    have hb:b=u:=by simpa using hb
    subst hb
    subst e
    exact m2 ha
  · rcases List.mem_append.mp hx with hx | hx
    · exact h.sub x hx
    · have:x=u:=by simpa using hx
      rw[this];exact m1
  · rcases at' i o e with ⟨c,e',et⟩ | ⟨c,rfl,et⟩
    · rw[et];exact h.low i o e' l r' hl
    · rw[et];exact m3 l r' hl
  · rcases at' i o e with ⟨c,e',et⟩ | ⟨c,rfl,et⟩
    · rw[et] at hn hl
      exact h.least i o e' x hx hn hl
    · rw[et] at hn hl
      have hxf:x∈zeg ln keys os:=frees_mem.mpr ⟨hx,hn,hl⟩
      have pw:(zeg ln keys os).Pairwise (fun a b=>co a<co b):=kl.sublist (List.filter_sublist ..)
      rw[hu] at hxf pw
      rcases List.mem_cons.mp hxf with rfl | hxf
      · exact List.lt_irrefl _
      · exact fun z=>zd3 z ((List.pairwise_cons.mp pw).1 x hxf)
theorem Ord.perm {ln:Ln}{keys os:List Str}(h:Ord ln keys os) (kn:keys.Nodup) (hl:os.length=keys.length):os.Perm keys:=by
  rw[List.perm_ext_iff_of_nodup h.nd kn]
  intro x
  refine⟨h.sub x,fun hx=>?_⟩
  refine Decidable.byContradiction fun hn=>?_
  have:=zbf (us:=keys) (rs:=x::os) (List.nodup_cons.mpr ⟨hn,h.nd⟩) fun y hy=>by
    rcases List.mem_cons.mp hy with rfl | hy
    · exact hx
    · exact h.sub y hy
  rw[List.length_cons] at this
  omega
theorem zi5 {K:PySem.W.Frag}{H:Hp}{n:Nat}{xs:List Str}:∀x∈xs.map V.str,DEq K H n x x true:=fun x hx=>by
  obtain⟨z,_,rfl⟩:=List.mem_map.mp hx
  have:=DEq.flat (K:=K) (H:=H) (n:=n) (x:=.str z) (y:=.str z) rfl rfl
  rwa [show eqV (.str z) (.str z)=true from by simp[eqV]] at this
theorem zoz {ts:List Tie}{pl:Str->Int}(h:∀t∈ts,(t.k=SAME->pl t.a=pl t.b)/\(¬t.k=SAME->pl t.b<pl t.a)) {x y:Str}(c:Cn ts x y):pl x=pl y:=by
  induction c with
  | refl=>rfl
  | step _ n ih=>
    obtain⟨t,ht,hk,h2⟩:=n
    have:=(h t ht).1 hk
    rcases h2 with ⟨rfl,rfl⟩ | ⟨rfl,rfl⟩
    · rw[ih,this]
    · rw[ih,this]
theorem zq9 {us:List Str}{ts:List Tie}{ads:List Addr}{pl:Str->Int}(h:∀t∈ts,(t.k=SAME->pl t.a=pl t.b)/\(¬t.k=SAME->pl t.b<pl t.a)):NoR (za4 ts (ts.zip ads)) (zk ts (srt us)):=by
  have step:∀(n:Nat) s v,Rc (za4 ts (ts.zip ads)) s n v->pl v+n<=pl s:=by
    intro n
    induction n with
    | zero=>intro s v q;rw[q.zero];simp
    | succ n ih=>
      intro s v q
      obtain⟨u,r,hu,he⟩:=q.succ
      have h1:=ih s u hu
      obtain⟨t,hz,hk,ha,hb⟩:=lnk_mem.mp he
      have h2:=(h t (List.of_mem_zip hz).1).2 hk
      have h3:=zoz h ((zcm ts).to t.a)
      have h4:=zoz h ((zcm ts).to t.b)
      rw[ha] at h3
      rw[hb] at h4
      omega
  intro s _ j hj q
  have:=step j s s q
  omega
end Dm
namespace L2
open PySem PySem.Spec PyProof.Rows
theorem zra {prog:Program}{w:World}{A:Around}{P:Nat->Value->Prop}(val:Nat->Str) (hval:∀i v,P i v->∃t,v=Value.str (val i) t) :
    CmpOf prog w A .Lt P (fun i j=>decide ((val i).cps.toList<(val j).cps.toList)):=fun i j vi vj s Q E hi hj h=>by
  obtain⟨t,rfl⟩:=hval i vi hi
  obtain⟨u,rfl⟩:=hval j vj hj
  exact richCompare_gives (op:=.Lt) (typeIs_str s _ t) (typeIs_str s _ u) PySem.F.slot_str_lt PySem.F.entry_str_lt (PySem.F.args_str_lt_2 _ _) (gives_str_lt _ _ t u) (fun x=>nomatch x) h
theorem zi6 {prog:Program}{w:World}{A:Around}{E:Value->Shared->Prop}{s:Shared}{a b:Str}{t u:Tok}{Q:Value->Shared->Prop}(hh:A.handled=none)
    (h:∀h' tk,(∀c o,s.heap.get? c=some o->h'.get? c=some o)->Q (if b.cps.toList<a.cps.toList then .str b u else .str a t) { s with heap:=h',toks:=tk }) :
    wpAny (model prog w) A (call (.builtin "min") [.str a t,.str b u]) Q E s:=by
  have hT:(s.heap.push { cls:=.type "tuple",data:=.seq #[.str a t,.str b u] }).IsTuple s.heap.objs.size #[.str a t,.str b u]:=⟨_,Heap.get?_push_size _ rfl,rfl,0,rfl⟩
  refine call_min_two (wpAny_pyIter_tuple hT ?_)
  have hsz:(s.heap.push { cls:=.type "tuple",data:=.seq #[.str a t,.str b u] }).objs.size=s.heap.objs.size+1:=Heap.size_push ..
  refine⟨_,[_,s.heap.objs.size],[_],_,_,_,_,rfl,Walks.tuple (A:=A.in1) hh _ s.heap.objs.size (by rw[hsz];exact Nat.ne_of_lt (Nat.lt_succ_self _)) #[.str a t,.str b u],
    ⟨⟨_,Heap.get?_push_size _ rfl,rfl,rfl⟩,hT.push _⟩,fun c hc=>?_,(by show 0<2;decide),zra (fun i=>if i=0 then a else b) (fun i v e=>?_),fun v h' tk hP hk=>?_⟩
  · show c<((s.heap.push _).push _).objs.size
    rw[Heap.size_push,hsz]
    rcases List.mem_cons.mp hc with rfl | hc
    · rw[hsz];exact Nat.lt_succ_self _
    · rcases List.mem_cons.mp hc with rfl | hc
      · exact Nat.lt_succ_of_lt (Nat.lt_succ_self _)
      · cases hc
  · match i,e with
    | 0,e=>cases e;exact⟨t,rfl⟩
    | 1,e=>cases e;exact⟨u,rfl⟩
    | i+2,e=>simp at e
  · have hold:∀c o,s.heap.get? c=some o->h'.get? c=some o:=fun c o e=>by
      refine hk c o (fun hm=>?_) (Heap.get?_push_of_some _ (Heap.get?_push_of_some _ e))
      rcases List.mem_cons.mp hm with e1 | hm
      · have:=Heap.lt_size e;rw[e1,hsz] at this;exact Nat.lt_irrefl _ (Nat.lt_of_succ_lt this)
      · cases hm
    have:=h h' tk hold
    have hv:v=if b.cps.toList<a.cps.toList then Value.str b u else Value.str a t:=by
      have hP':(#[Value.str a t,Value.str b u])[argBest (fun i j=>decide ((if i=0 then a else b).cps.toList<(if j=0 then a else b).cps.toList)) 1]? = some v:=hP
      by_cases hba:b.cps.toList<a.cps.toList
      · have e:argBest (fun i j=>decide ((if i=0 then a else b).cps.toList<(if j=0 then a else b).cps.toList)) 1=1:=by simp[argBest,hba]
        rw[e] at hP'
        rw[if_pos hba]
        exact (Option.some.inj hP').symm
      · have e:argBest (fun i j=>decide ((if i=0 then a else b).cps.toList<(if j=0 then a else b).cps.toList)) 1=0:=by simp[argBest,hba]
        rw[e] at hP'
        rw[if_neg hba]
        exact (Option.some.inj hP').symm
    rw[hv];exact this
theorem zcv:∀(r:List Str) (x:Str),risingS x r=true->(x::r).Pairwise (fun a b=>¬b.cps.toList<a.cps.toList)
  | [],x,_=>List.pairwise_singleton ..
  | y::r,x,h=>by
    unfold risingS at h
    rw[Bool.and_eq_true] at h
    have ih:=zcv r y h.2
    have h1:¬y.cps.toList<x.cps.toList:=by
      intro z
      have:ltCps y.cps.toList x.cps.toList=true:=by rw[ltCps_eq];exact decide_eq_true z
      rw[this] at h
      simp at h
    refine List.pairwise_cons.mpr ⟨fun b hb=>?_,ih⟩
    rcases List.mem_cons.mp hb with rfl | hb
    · exact h1
    · intro z
      have h2:=(List.pairwise_cons.mp ih).1 b hb
      rw[List.not_lt] at h1 h2
      exact absurd z (List.not_lt.mpr (List.le_trans h1 h2))
theorem zer {ss:List Str}(h:sortedS ss=true):ss.Pairwise (fun a b=>¬b.cps.toList<a.cps.toList):=by
  cases ss with
  | nil=>exact .nil
  | cons x r=>exact zcv r x h
section
variable {X:Cx}
theorem zmj (hc:X.calm=true):zcb X (.builtin "min") (fun xs H Q=>∃i j,xs = [.str i,.str j]/\Q (.str (if j.cps.toList<i.cps.toList then j else i)) H):=by
  intro pins s σ H xs us Q I r h
  obtain⟨i,j,rfl,q⟩:=h
  obtain⟨u,w',rfl,⟨t,rfl⟩,⟨t',rfl⟩⟩:=zqi r
  refine zi6 (I.ok.hd hc) fun h' tk k=>⟨_,H,I.kept k,?_,q⟩
  by_cases hj:j.cps.toList<i.cps.toList
  · rw[if_pos hj,if_pos hj];exact⟨_,rfl⟩
  · rw[if_neg hj,if_neg hj];exact⟨_,rfl⟩
theorem zb9 {K:PySem.W.Frag}(h:X.K=K):zcb X (.builtin "sorted") (fun xs H Q=>∃(a:Addr) (ns:List Str),xs = [V.ref a]/\SqL K H a (ns.map V.str)/\ns.length<64/\
    ∀(p:Addr) (ms:List Str),H p=none->ms.Perm ns->ms.Pairwise (fun a b=>¬b.cps.toList<a.cps.toList)->Q (.ref p) (upd H p (.lst (ms.map V.str)))):=by
  subst h
  intro pins s σ H xs us Q I r h
  obtain⟨a,ns,rfl,ha,hn,q⟩:=h
  obtain⟨u,rfl,ru⟩:=zbs r
  cases ru
  obtain⟨its,rv,pl,hz⟩:=I.list ha
  have hl:=rv.length
  rw[List.length_map] at hl
  refine PyProof.Rows.sorted_strs pl.isList (zed rv) (by omega) fun out ms a1 a2 a3=>?_
  obtain⟨e,he⟩:=PyProof.Rows.sortedAll_at s.heap its out
  have hn':H (s.heap.objs.size+1)=none:=I.hok.fresh (Nat.le_succ _)
  have hm:ms.length=ns.length:=a2.length_eq
  have hs:sizeLine=16777216:=sizeLine_eq
  have vs:∀{us:List Value}{ys:List Str},StrsAre us ys->Vals (ys.map V.str) us:=by
    intro us ys h
    induction h with
    | nil=>exact .nil
    | cons x t _ ih=>exact .cons ⟨t,rfl⟩ ih
  refine⟨.ref (s.heap.objs.size+1),_,I.laid (t':=s.toks) (a:=s.heap.objs.size+1) (o:=.lst (ms.map V.str)) (fun b o eb=>PyProof.Rows.sortedAll_old eb) (Nat.le_succ _) ⟨?_,out.toList,e,vs a1,?_⟩,rfl,q _ ms hn' a2 (zer a3)⟩
  · rw[List.length_map];omega
  · rw[he]
end
end L2
namespace HT
open PySem PySem.Spec PyProof.Rows PySem.Calls
end HT
namespace L2
open PySem PySem.Spec PyProof.Rows
section
variable {X:Cx}{pins:List (Addr×Obj)}{σ:St}{H:Hp}{s:Shared}{a:Addr}{u r:Value}{A:Around}{E:Value->Shared->Prop}
theorem zi7 {kvs:List (Key×V)}{k:Key}{z:V}{Q:Value->Shared->Prop}(I:Inv X pins σ H s) (e:H a=some (.dK kvs)) (ry:RelV (kV k) u) (rz:RelV z r) (hl:kvs.length<sizeLine)
    (h1:∀v,valV kvs k=some v->∀w' s',Inv X pins σ H s'->RelV v w'->Q w' s') (h2:valV kvs k=none->∀s',Inv X pins σ (upd H a (.dK (putK kvs k z))) s'->Q r s') :
    wpAny (model X.prog X.w) A (call (.builtin "dict.setdefault") [.ref a,u,r]) Q E s:=by
  obtain⟨hz,hd,vs,rel,dd⟩:=ztj I.hok e
  refine call_meetsIn PySem.F.slot_dict_setdefault dd.typeIs PySem.F.entry_dict_setdefault (PySem.F.args_dict_setdefault_3 _ _ _) (kt_meets_setdefault (za7 X.prog X.w) a (zmb ry) hd r)
    ⟨vs,dd,by rw[←rel.length];exact hz,fun v hv=>?_,fun hn h' dd' hs=>?_⟩
  · cases l:valV kvs k with
    | some v0=>
      obtain⟨w',hw,rw'⟩:=RelO.some_of (v:=v0) (o:=valueAt vs k) (by rw[←l];exact rel.val k)
      rw[hw] at hv
      cases hv
      exact h1 v0 l _ _ (I.tok _) rw'
    | none=>
      have hn:valueAt vs k=none:=RelO.none_of (by have:=rel.val k;rw[l] at this;exact this)
      rw[hn] at hv
      cases hv
  · cases l:valV kvs k with
    | some v0=>
      obtain⟨w',hw,rw'⟩:=RelO.some_of (v:=v0) (o:=valueAt vs k) (by rw[←l];exact rel.val k)
      rw[hw] at hn
      cases hn
    | none=>
      have hl2:(putK kvs k z).length<=sizeLine:=by have:=zcr kvs k z;omega
      have he:∃q,h'.get? a=some q:=let ⟨q,_,_,hq,_⟩:=dd';⟨q,hq⟩
      exact h2 l _ (zg3 I (by rw[e];exact True.intro) hs he (zn1 hl2 hd (rel.put k rz) dd'))
end
def zxa (td ty tx:TE):TE:=fun σ H Q=>td σ H fun x H1=>∃a,x = .ref a/\IsD H1 a/\ty σ H1 fun y H2=>tx σ H2 fun z H3=>∃kvs k,H3 a=some (.dK kvs)/\y=kV k/\kvs.length<sizeLine/\
  (∀v,valV kvs k=some v->Q v H3)/\(valV kvs k=none->Q z (upd H3 a (.dK (putK kvs k z))))
theorem zmk {X:Cx}{o e f:Expr}{apos cpos:Pos}{td ty tx:TE}(ho:PE X o td) (he:PE X e ty) (hf:PE X f tx) (m:M2 X o "setdefault" apos e f cpos):PE X (.Call (.Attribute o "setdefault" apos) [e,f] [] cpos) (zxa td ty tx):=by
  intro pins s σ H Q I h
  refine wpAny_Call_method m.base m.few m.line PySem.F.plainAttrs_dict PySem.F.slot_dict_setdefault PySem.F.type_dict_setdefault (thn (ho pins s σ H _ I h) fun u s1 hq0=>?_)
  obtain⟨x,H1,I1,rx,a,ex,d,q1⟩:=hq0
  subst ex
  obtain rfl:u=Value.ref a:=rx
  obtain⟨t1,t2,_⟩:=zvr I1 d
  refine⟨t1,t2,?_⟩
  rw[m.trees]
  refine Calls.callWith_builtin rfl (Calls.evalArgs_plain (Calls.spliced_cons (thn (he pins s1 σ H1 _ I1 q1) fun iv s2 ⟨y,H2,I2,ry,q2⟩=>
    Calls.spliced_cons (thn (hf pins s2 σ H2 _ I2 q2) fun fv s3 ⟨z,H3,I3,rz,kvs,k,ea,ey,hl,q3,q4⟩=>Calls.spliced_nil ?_))))
  subst ey
  exact zi7 I3 ea ry rz hl (fun v l w' s4 I4 rw'=>⟨v,H3,I4,rw',q3 v l⟩) fun l s4 I4=>⟨z,_,I4,rz,q4 l⟩
def dd (val:Nat->Str):Nat->List Str
  | 0=>[]
  | i+1=>if val i∈dd val i then dd val i else dd val i++[val i]
section
variable {prog:Program}{w:World}{A:Around}{s:Shared}{R:Result->Shared->Prop}{I:Addr}{fp wr:List Addr}{n:Nat}{P:Nat->Value->Prop}{St:Nat->Heap->Prop}
theorem zml (W:Walks prog w A.in1 I fp wr n P St) (hn:n<=sizeLine) (S:Addr) (c:Nat) (hst:St 0 s.heap) (hS:S ∉ fp) (hl:s.heap.get? S=some { cls:=.type "list",data:=.seq #[] c }) (r:Value)
    (hR:∀s1 acc c1,Moved (S::wr) (fun a b=>b=a) s s1->s1.heap.get? S=some { cls:=.type "list",dict:=none,data:=.seq acc c1,slots:=#[] }->ItemsOf P acc n->R (.ok (.ret r)) s1) :
    wpAny (model prog w) A.in1 (rule "list.extend.makes-room" >>= fun _=>Builtin.List.listTouch (.ref S) >>= fun _=>again (.builtin "list.extend.loop" ⟨[.ref S,.ref I,r],[]⟩))
      (fun fin s1=>match fin with | .done f=>R (.ok f) s1 | .again c1=>c1.quiet=true/\codeAny (model prog w) A c1 R s1) (fun e s1=>R (.error e) s1) s:=by
  refine wpAny_bind (wpAny_rule (wpAny_bind ?_))
  show wpAny (model prog w) A.in1 (updateSeq S (·.push .none) >>= fun _=>updateSeq S (·.pop)) _ _ _
  refine wpAny_bind (wpAny_updateSeq hl rfl ?_)
  have l2:=Heap.get?_update_self (Obj.mapSeq (·.push Value.none)) hl rfl
  refine wpAny_updateSeq (hz:=by seq_fits) l2 rfl ?_
  have l3:=Heap.get?_update_self (Obj.mapSeq (·.pop)) l2 rfl
  have oth:∀b o,b≠S->s.heap.get? b=some o->((s.heap.update S (Obj.mapSeq (·.push Value.none))).update S (Obj.mapSeq (·.pop))).get? b=some o:=fun b o hb e=>(Heap.get?_update_other _ _ (Ne.symm hb)).trans ((Heap.get?_update_other _ _ (Ne.symm hb)).trans e)
  refine wpAny_pure ⟨plainId_quiet PySem.F.plain_extend_loop _,codeAny_extend_loopS W.toS hn _ hS _ n 0 _ _ _ rfl (Nat.zero_le _) (W.toS.frame 0 s _ s.toks hst (Nat.le_refl _) fun b hb o e=>oth b o (fun h=>hS (h▸hb)) e) l3 (ItemsOf.nil P) fun s1 acc c1 hm h1 h2=>?_⟩
  have m0:Moved (S::wr) (fun (a b:Array GenState)=>b=a) s { s with heap:=(s.heap.update S (Obj.mapSeq (·.push Value.none))).update S (Obj.mapSeq (·.pop)) }:=⟨fun b o hb e=>oth b o (fun h=>hb (by simp[h])) e,rfl,rfl,rfl,Nat.le_refl _⟩
  exact hR s1 acc c1 (Moved.trans (fun _ _ _ h1 h2=>h2.trans h1) m0 hm) h1 h2
end
section
variable {prog:Program}{w:World}{A:Around}{E:Value->Shared->Prop}{s:Shared}
theorem zmm {P:Nat->Value->Prop}{acc:Array Value}{n:Nat}(h:ItemsOf P acc n) (l:List Value) (hl:l.length=n) (hp:∀i v,P i v->l[i]? = some v):acc.toList=l:=by
  apply List.ext_getElem?
  intro i
  by_cases hi:i<n
  · have hs:i<acc.size:=by rw[h.1];exact hi
    have e:acc[i]? = some acc[i]:=Array.getElem?_eq_getElem hs
    rw[hp i _ (h.2 i _ e),Array.getElem?_toList,e]
  · have h1:acc.toList.length<=i:=by rw[Array.length_toList,h.1];omega
    have h2:l.length<=i:=by omega
    rw[List.getElem?_eq_none h1,List.getElem?_eq_none h2]
end
def Itd (a:Addr) (ob:Obj) (kvs:List (Key×V)):It:=
  ⟨fun i H=>H a=some (.frz ob (.dK kvs))/\i<kvs.length,fun i H x H'=>H'=H/\∃kv,kvs[i]? = some kv/\x=kV kv.1,fun i H=>H a=some (.frz ob (.dK kvs))/\kvs.length<=i⟩
theorem zo0 {P:Program}{w:World}{K:PySem.W.Frag}{tg:Expr}(a it:Addr) {ob:Obj}{kvs:List (Key×V)}{es:Array DictEntry}{ep:Nat}(hd:ob.data = .dict es ep) (hl:es.size=kvs.length):Turn P w K tg (Itd a ob kvs) [it] it (fun i h=>h.IsKeyIter it a i es.size ep) where
  mem:=by simp
  obj:=fun i h st b hb=>by
    have e:b=it:=by simpa using hb
    subst e
    obtain⟨o,e,c,d⟩:=st
    exact⟨o,e,fun v z=>by rw[d] at z;cases z⟩
  keep:=fun i h h' st k=>st.at fun o e=>k it (by simp) o e
  item:=by
    intro X hP hw hK hc i pins s σ H E I hf st hg
    subst hP hw hK
    obtain⟨hq,hx⟩:=hg
    obtain⟨e0,z,hs,vs,rel,o,es',ep',e,ex,dt,kk,pr,nd⟩:=I.hok a _ hq
    rw[e0] at e
    cases e
    rw[hd] at dt
    cases dt
    have hi:i<es.size:=by omega
    have hen:es[i]? = some es[i]:=Array.getElem?_eq_getElem hi
    obtain⟨f0,f1,f2,f3,f4,f5⟩:=hf it (by simp)
    refine zlc st ⟨ob,e0,ex,hd⟩ hen fun h' st' sb=>?_
    have I1:Inv X pins σ H { s with heap:=h' }:=I.turned (t':=s.toks) (fun b o hb e=>(sb.2 b hb).trans e) f0 f1 f3 f4 f5
    obtain⟨oi,ei,ci,di⟩:=id st'
    have ek:kvs[i]? = some kvs[i]:=List.getElem?_eq_getElem hx
    obtain⟨w',hw,rw'⟩:=Paired.get' rel ek
    have:=(pr.get? (e:=es[i]) (k:=w'.1) (v:=w'.2) (i:=i) (by rw[Array.getElem?_toList];exact hen) (by rw[hw])).1
    have e1:kvs[i].1=w'.1:=rw'.1
    exact⟨_,rfl,zni (s:={ s with heap:=h' }) ei ci di (by decide) ⟨kV kvs[i].1,H,I1,by rw[e1];exact zok this,⟨rfl,_,ek,rfl⟩,st',fun b hb=>(hf b hb).1⟩⟩
  done:=by
    intro X hP hw hK hc i pins s σ H E I hf st hg
    subst hP hw hK
    obtain⟨hq,hx⟩:=hg
    obtain⟨e0,z,hs,vs,rel,o,es',ep',e,ex,dt,kk,pr,nd⟩:=I.hok a _ hq
    rw[e0] at e
    cases e
    obtain⟨f0,f1,f2,f3,f4,f5⟩:=hf it (by simp)
    exact zoi (I.ok.hd hc) st ⟨ob,e0,ex,hd⟩ (by omega) fun h' eb=>⟨rfl,I.turned (t':=s.toks) (fun b o hb e=>eb b o hb e) f0 f1 f3 f4 f5⟩
  self:=fun _ _ _ _ _ st h=>wpAny_pyIter_keyiter st h
section
variable {X:Cx}{tg:Expr}
def zxb (tl:TE):TI:=fun σ H R=>tl σ H fun x H1=>∃a ob kvs,x = .ref a/\H1 a=some (.frz ob (.dK kvs))/\R (Itd a ob kvs) H1
theorem zhd {l:Expr}{tl:TE}(hl:PE X l tl):PI X tg l (zxb tl):=by
  intro pins s σ H R I h
  refine thn (hl pins s σ H _ I h) fun v s1 hq0=>?_
  obtain⟨x,H1,I1,r1,q1⟩:=hq0
  obtain⟨a,ob,kvs,e,hq,q⟩:=q1
  subst e
  cases r1
  obtain⟨e0,z,hs,vs,rel,o,es,ep,e,ex,dt,kk,pr,nd⟩:=I1.hok a _ hq
  have e0':=e0
  rw[e0] at e
  cases e
  have l1:kvs.length=vs.length:=Paired.length rel
  have l2:es.size=vs.length:=by rw[←pr.length];simp
  refine zg7 hs ⟨ob,e0,ex,dt⟩ ?_
  refine⟨s1.heap.objs.size,[s1.heap.objs.size],_,_,H1,rfl,I1.kept (t':=s1.toks) fun b o e=>Heap.get?_push_of_some _ e,zo0 a _ dt (l2.trans l1.symm),⟨_,Heap.get?_push_size _ rfl,rfl,rfl⟩,fun b hb=>?_,q⟩
  have e:b=s1.heap.objs.size:=by simpa using hb
  subst e
  exact I1.fpOk (Nat.le_refl _) (I1.hok.fresh (Nat.le_refl _))
theorem zlq {a:Addr}{ob:Obj}{kvs:List (Key×V)}{g:TG}{tb:TS}{D:Ends}{σ:St}{H:Hp}(Pv:Nat->St->Hp->Prop) (h0:Pv 0 σ H) (hl:∀i σ H,i<=kvs.length->Pv i σ H->H a=some (.frz ob (.dK kvs)))
    (hs:∀i k v σ H,kvs[i]? = some (k,v)->Pv i σ H->g (kV k) σ H fun σ2 H2=>tb { D with nx:=Pv (i+1),ct:=Pv (i+1),bk:=D.nx } σ2 H2) (hd:∀σ H,Pv kvs.length σ H->D.nx σ H) :
    ∃W:Nat->Nat->St->Hp->Prop,(∃m,W 0 m σ H)/\∀i m σ H,W i m σ H->
      ((Itd a ob kvs).stop i H/\D.nx σ H)\/((Itd a ob kvs).go i H/\∃N:St->Hp->Prop,(∀σ' H',N σ' H'->∃m',m'<m/\W (i+1) m' σ' H')/\∀x H',(Itd a ob kvs).yld i H x H'->g x σ H' fun σ2 H2=>tb { D with nx:=N,ct:=N,bk:=D.nx } σ2 H2):=by
  refine⟨fun i m σ H=>m=kvs.length-i/\i<=kvs.length/\Pv i σ H,⟨kvs.length,by simp,Nat.zero_le _,h0⟩,?_⟩
  rintro i m σ H ⟨rfl,hi,p⟩
  have q:=hl i σ H hi p
  by_cases hlt:i<kvs.length
  · refine .inr ⟨⟨q,hlt⟩,Pv (i+1),fun σ' H' p'=>⟨kvs.length-(i+1),by omega,rfl,hlt,p'⟩,fun x H' y=>?_⟩
    obtain⟨e,kv,y,rfl⟩:=y
    subst e
    exact hs i kv.1 kv.2 σ _ y p
  · have e:i=kvs.length:=by omega
    subst e
    exact .inl ⟨⟨q,Nat.le_refl _⟩,hd σ H p⟩
theorem Inv.frozen {pins:List (Addr×Obj)}{σ:St}{H:Hp}{s:Shared}{a:Addr}{kvs:List (Key×V)}(I:Inv X pins σ H s) (h:H a=some (.dK kvs)):∃ob,Inv X pins σ (upd H a (.frz ob (.dK kvs))) s:=by
  obtain⟨o,e⟩:∃o,s.heap.get? a=some o:=by
    obtain⟨_,_,_,_,o,_,_,e,_⟩:=I.hok a _ h
    exact⟨o,e⟩
  have ok:=I.hok a _ h
  refine⟨o,I.write (e:=a) (h':=s.heap) (t':=s.toks) (by rw[h];trivial) (.inl rfl) (fun b u _ q=>q) ⟨o,e⟩ ⟨e,?_⟩⟩
  obtain⟨z,hd,vs,r⟩:=ok
  exact⟨z,hd,vs,r⟩
def tFrz (ts:TS):TS:=fun D σ H=>ts D σ H\/∃a kvs,H a=some (.dK kvs)/\∀ob,ts D σ (upd H a (.frz ob (.dK kvs)))
theorem zwc {st:Stmt}{ts:TS}(h:PS X st ts):PS X st (tFrz ts):=by
  intro pins s σ H D I q
  rcases q with q | ⟨a,kvs,ha,q⟩
  · exact h pins s σ H D I q
  · obtain⟨ob,I'⟩:=I.frozen ha
    exact h pins s σ _ D I' (q ob)
end
section
variable {X:Cx}{tg:Expr}
theorem zlr {a:Addr}{ob:Obj}{kvs:List (Key×V)}:Fix (Itd a ob kvs) (kvs.map fun kv=>kV kv.1) (fun H=>H a=some (.frz ob (.dK kvs))):=
  ⟨fun i H h hi=>⟨h,by simpa using hi⟩,fun i H x H' h y=>⟨y.1,fun _=>by obtain⟨kv,h1,h2⟩:=y.2;rw[List.getElem?_map,h1,h2];rfl⟩,fun i H h hi=>⟨h,by simpa using hi⟩⟩
theorem zmn:zcb X (.builtin "len") (fun xs H Q=>∃a kvs,xs = [V.ref a]/\Rd H a (.dK kvs)/\Q (.int kvs.length) H):=by
  intro pins s σ H xs us Q I r h
  obtain⟨a,kvs,rfl,ha,q⟩:=h
  obtain⟨u,rfl,ru⟩:=zbs r
  cases ru
  exact zvo I ha fun t s' I'=>⟨.int kvs.length,H,I',⟨t,rfl⟩,q⟩
end
section
variable {prog:Program}{w:World}{A:Around}{E:Value->Shared->Prop}{s:Shared}
theorem zkf {S d:Addr}{es:Array DictEntry}{ep:Nat}{c:Nat}{r:Value}{R:Result->Shared->Prop}(hh:A.handled=none) (hd:(d == sysModules)=false) (hm:RawD s.heap d es ep) (hz:es.size<=sizeLine)
    (hS:s.heap.get? S=some { cls:=.type "list",data:=.seq #[] c }) (hne:S≠d)
    (hR:∀h1 acc c1 tk,(∀b o,b≠S->s.heap.get? b=some o->h1.get? b=some o)->h1.get? S=some { cls:=.type "list",dict:=none,data:=.seq acc c1,slots:=#[] }->acc.toList=es.toList.map (·.key)->R (.ok (.ret r)) { s with heap:=h1,toks:=tk }) :
    wpAny (model prog w) A.in1 (Builtin.List.listExtendWith (.ref S) (.ref d) r) (fun fin s1=>match fin with | .done f=>R (.ok f) s1 | .again c1=>c1.quiet=true/\codeAny (model prog w) A c1 R s1) (fun e s1=>R (.error e) s1) s:=by
  have dl:d<s.heap.objs.size:=by obtain⟨o,ho,_⟩:=hm;exact Heap.lt_size ho
  have sl:S<s.heap.objs.size:=Heap.lt_size hS
  have T:s.TypeIs (.ref d) "dict":=hm.typeIs
  unfold Builtin.List.listExtendWith
  refine wpAny_bind (wpAny_typeOf T ?_)
  have sr:Builtin.List.listSameRef (.ref S) (.ref d)=false:=by simp[Builtin.List.listSameRef,hne]
  have t1:(Value.type "dict" == Value.type "list")=false:=by decide
  have t2:(Value.type "dict" == Value.type "tuple")=false:=by decide
  simp only [sr,t1,t2,Bool.or_false,Bool.false_eq_true,if_false]
  refine wpAny_bind (zg7 hd hm ?_)
  have old:∀b o,s.heap.get? b=some o->(s.heap.push { cls:=.type "dict_keyiterator",data:=.fields #[.ref d,.int 0 0,.int es.size 0,.int ep 0] }).get? b=some o:=fun b o e=>Heap.get?_push_of_some _ e
  have hm3:=hm.at (h':=s.heap.push { cls:=.type "dict_keyiterator",data:=.fields #[.ref d,.int 0 0,.int es.size 0,.int ep 0] }) fun o e=>old d o e
  refine wpAny_bind (wpAny_holding (zis (s:={ s with heap:=s.heap.push { cls:=.type "dict_keyiterator",data:=.fields #[.ref d,.int 0 0,.int es.size 0,.int ep 0] } }) hm3.typeIs ?_))
  have SI:S ∉ [s.heap.objs.size,d]:=by
    simp only [List.mem_cons,List.not_mem_nil,or_false]
    exact fun z=>z.elim (Nat.ne_of_lt sl) hne
  refine zml (A:=A) (s:={ s with heap:=s.heap.push { cls:=.type "dict_keyiterator",data:=.fields #[.ref d,.int 0 0,.int es.size 0,.int ep 0] } }) (zir (A:=A.in1) hh s.heap.objs.size d (Nat.ne_of_lt dl) es ep) hz S c ⟨⟨_,Heap.get?_push_size _ rfl,rfl,rfl⟩,hm3⟩ SI (old _ _ hS) r fun s1 acc c1 hmv h1 h2=>?_
  obtain⟨hp1,ge,dr,tk,os⟩:=s1
  obtain⟨m1,m2,m3,m4,m5⟩:=hmv
  obtain rfl:ge=s.gens:=m2
  obtain rfl:dr=s.drawn:=m3
  obtain rfl:os=s.os:=m4
  refine hR hp1 acc c1 tk (fun b o hb e=>m1 b o ?_ (old b o e)) h1 (zmm h2 (es.toList.map (·.key)) (by rw[List.length_map,Array.length_toList]) fun i v ⟨e,h3,h4⟩=>by rw[List.getElem?_map,Array.getElem?_toList,h3,h4];rfl)
  intro z
  simp only [List.mem_cons,List.not_mem_nil,or_false] at z
  exact z.elim hb fun z=>absurd (Heap.lt_size e) (by rw[z];exact Nat.lt_irrefl _)
theorem zi8 {d:Addr}{es:Array DictEntry}{ep:Nat}{Q:List Value->Shared->Prop}(hh:A.handled=none) (hd:(d == sysModules)=false) (hm:RawD s.heap d es ep) (hz:es.size<=sizeLine)
    (hQ:∀h1 tk,(∀b o,s.heap.get? b=some o->h1.get? b=some o)->s.heap.objs.size<h1.objs.size->Q (es.toList.map (·.key)) { s with heap:=h1,toks:=tk }):wpAny (model prog w) A (collect (.ref d)) Q E s:=by
  have dl:d<s.heap.objs.size:=by obtain⟨o,ho,_⟩:=hm;exact Heap.lt_size ho
  unfold collect
  refine wpAny_bind (wpAny_runValue (codeAny_builtin PySem.F.entry_proto_collect ?_))
  rw[Around.under_plainId PySem.F.plain_proto_collect _]
  show wpAny _ A.in1 (newList [] >>= fun l=>again (.builtin "list.__iadd__" ⟨[l,.ref d],[]⟩)) _ _ s
  refine wpAny_bind (wpAny_newObj_type ?_)
  refine wpAny_pure ⟨plainId_quiet PySem.F.plain_list_iadd _,codeAny_builtin PySem.F.entry_list_iadd ?_⟩
  rw[Around.under_plainId PySem.F.plain_list_iadd _]
  show wpAny _ A.in1 (Builtin.List.listExtendWith (.ref s.heap.objs.size) (.ref d) (.ref s.heap.objs.size)) _ _ _
  have hS:(s.heap.push { cls:=.type "list",data:=.seq ([]:List Value).toArray }).get? s.heap.objs.size=some { cls:=.type "list",data:=.seq #[] }:=Heap.get?_push_size _ rfl
  have old:∀b o,s.heap.get? b=some o->(s.heap.push { cls:=.type "list",data:=.seq ([]:List Value).toArray }).get? b=some o:=fun b o e=>Heap.get?_push_of_some _ e
  have hm2:=hm.at (h':=s.heap.push { cls:=.type "list",data:=.seq ([]:List Value).toArray }) (fun o e=>old d o e)
  refine zkf (prog:=prog) (A:=A) (r:=.ref s.heap.objs.size) (R:=fun r s'=>match r with
    | .ok (.ret v)=>wpAny (model prog w) A (match v with
      | .ref a=>do
        let o ←load a
        match o.data with
        | .seq xs _=>pure xs.toList
        | _=>unsupported "internal:collect"
      | _=>unsupported "internal:collect") Q E s'
    | .ok _=>False
    | .error e=>E e s') (s:={ s with heap:=s.heap.push { cls:=.type "list",data:=.seq ([]:List Value).toArray } }) hh hd hm2 hz hS (Ne.symm (Nat.ne_of_lt dl)) fun h1 acc c1 tk k e p=>?_
  show wpAny _ A (load s.heap.objs.size >>= _) _ _ _
  refine wpAny_bind (wpAny_load e ?_)
  rw[←p] at hQ
  exact wpAny_pure (hQ h1 tk (fun b o eb=>k b o (fun z=>Nat.lt_irrefl _ (z▸Heap.lt_size eb)) (old b o eb)) (Heap.lt_size e))
end
theorem zua {prog:Program}{w:World}{A:Around}{s:Shared}{a b:Int}{t u:Tok}{Q:Value->Shared->Prop}{E:Value->Shared->Prop}(q:Q (.bool (decide (a > b))) s):wpAny (model prog w) A (richCompare .Gt (.int a t) (.int b u)) Q E s:=
  CmpOf.ints_gt (P:=fun i v=>(i=0/\v = .int a t)\/(i=1/\v = .int b u)) (fun i=>if i=0 then a else b) (fun i v h=>by
    rcases h with ⟨rfl,rfl⟩ | ⟨rfl,rfl⟩
    · exact⟨t,rfl⟩
    · exact⟨u,rfl⟩) 0 1 _ _ s Q E (.inl ⟨rfl,rfl⟩) (.inr ⟨rfl,rfl⟩) q
section
variable {prog:Program}{w:World}{A:Around}{R:Result->Shared->Prop}
structure MaxAt (h:Heap) (l it S:Addr) (its:Array Value) (vb:Value) (j:Nat) (c:Nat):Prop where
  i:h.IsListIter it l j
  l:h.IsList l its
  s:h.get? S=some { cls:=.type "list",dict:=none,data:=.seq #[vb,vb] c,slots:=#[] }
theorem zo1 {l it S:Addr}{its:Array Value}{val:Nat->Int}{dv:Value}(hh:A.handled=none) (hv:∀i v,its[i]? = some v->∃t,v=Value.int (val i) t) (n1:S≠it) (n2:S≠l) (n3:l≠it) :
    ∀(k j b:Nat) (s:Shared) (vb:Value) (c:Nat),its.size-j=k->MaxAt s.heap l it S its vb j c->its[b]? = some vb->(∀i,i<j->val i<=val b)->j<=its.size->
      (∀(v:Value) (b':Nat) (h':Heap) (tk:Nat),its[b']? = some v->(∀i,i<its.size->val i<=val b')->(∀d o,d≠it->d≠S->s.heap.get? d=some o->h'.get? d=some o)->R (.ok (.ret v)) { s with heap:=h',toks:=tk })->
      codeAny (model prog w) A (.builtin "max.loop" ⟨[.ref it,.none,.ref S],[("default",dv)]⟩) R s:=by
  have nm:(toString "max" ++ toString ".loop" : String) = "max.loop":=by decide
  intro k
  induction k with
  | zero=>
    intro j b s vb c hk M eb best hj q
    refine codeAny_builtin F.entry_max_loop ?_
    rw[Around.under_plainId F.plain_max_loop _]
    show wpAny _ A.in1 (seqItems? (.ref S) >>= _) _ _ s
    refine wpAny_bind (wpAny_seqItems M.s rfl (wpAny_bind (wpAny_tryCatch (wpAny_pyNext_list_end (A:=A.in1) hh M.i M.l (Array.getElem?_eq_none (show its.size<=j by omega)) fun h' eb'=>?_))))
    have s':=eb' S _ n1 M.s
    refine wpAny_bind (m:=updateSeq S (fun _=>#[])) ?_
    refine wpAny_updateSeq s' rfl (wpAny_bind (wpAny_letGo (wpAny_pure ?_)))
    exact q vb b _ s.toks eb (fun i hi=>best i (by omega)) fun d o d1 d2 e=>by
      rw[Heap.get?_update_other _ _ (Ne.symm d2)]
      exact eb' d o d1 e
  | succ k ih=>
    intro j b s vb c hk M eb best hj q
    have hlt:j<its.size:=by omega
    have ej:its[j]? = some its[j]:=Array.getElem?_eq_getElem hlt
    obtain⟨t1,e1⟩:=hv j _ ej
    obtain⟨t2,e2⟩:=hv b _ eb
    refine codeAny_builtin F.entry_max_loop ?_
    rw[Around.under_plainId F.plain_max_loop _]
    show wpAny _ A.in1 (seqItems? (.ref S) >>= _) _ _ s
    refine wpAny_bind (wpAny_seqItems M.s rfl (wpAny_bind (wpAny_tryCatch (wpAny_pyNext_list_item M.i M.l ej fun h' it' sb=>?_))))
    have s':h'.get? S=_:=(sb.2 S n1).trans M.s
    have l':h'.IsList l its:=by
      obtain⟨o,ho,r⟩:=M.l
      exact⟨o,(sb.2 l n3).trans ho,r⟩
    rw[e1,e2]
    rw[e1] at ej
    rw[e2] at s' eb
    refine wpAny_bind (wpAny_pure ?_)
    refine wpAny_bind (wpAny_tryCatch (wpAny_holding (wpAny_bind (zua (s:={ s with heap:=h' }) (t:=t1) (u:=t2) ?_))))
    refine wpAny_bind (wpAny_holding (wpAny_truthy_bool (wpAny_bind (wpAny_letGo (wpAny_pure ?_)))))
    by_cases c1:val j > val b
    · rw[decide_eq_true c1,if_pos rfl]
      refine wpAny_bind (m:=updateSeq S (fun _=>#[Value.int (val j) t1,Value.int (val j) t1])) ?_
      refine wpAny_updateSeq s' rfl (wpAny_bind (wpAny_letGo ?_))
      rw[nm]
      have keep:∀d o,d≠S->h'.get? d=some o->(h'.update S (Obj.mapSeq fun _=>#[Value.int (val j) t1,Value.int (val j) t1])).get? d=some o:=fun d o d1 e=>(Heap.get?_update_other _ _ (Ne.symm d1)).trans e
      obtain⟨c',M'⟩:∃c',MaxAt (h'.update S (Obj.mapSeq fun _=>#[Value.int (val j) t1,Value.int (val j) t1])) l it S its (Value.int (val j) t1) (j+1) c':=by
        refine⟨_,it'.at fun o e=>keep it o (Ne.symm n1) e,?_,Heap.get?_update_self _ s' rfl⟩
        obtain⟨o,ho,r⟩:=l'
        exact⟨o,keep l o (Ne.symm n2) ho,r⟩
      refine wpAny_pure ⟨plainId_quiet F.plain_max_loop _,ih (j+1) j _ _ _ (by omega) M' ej (fun i hi=>?_) hlt fun v b' h2 tk ev hb kp=>?_⟩
      · by_cases c2:i=j
        · subst c2;exact Int.le_refl _
        · have:=best i (by omega);omega
      · exact q v b' h2 tk ev hb fun d o d1 d2 e=>kp d o d1 d2 (keep d o d2 ((sb.2 d d1).trans e))
    · rw[decide_eq_false c1,if_neg Bool.false_ne_true]
      refine wpAny_bind (wpAny_letGo ?_)
      rw[nm]
      refine wpAny_pure ⟨plainId_quiet F.plain_max_loop _,ih (j+1) b { s with heap:=h' } _ c (by omega) ⟨it',l',s'⟩ eb (fun i hi=>?_) hlt fun v b' h2 tk ev hb kp=>?_⟩
      · by_cases c2:i=j
        · subst c2;omega
        · exact best i (by omega)
      · exact q v b' h2 tk ev hb fun d o d1 d2 e=>kp d o d1 d2 ((sb.2 d d1).trans e)
theorem zmo {l it S:Addr}{its:Array Value}{val:Nat->Int}{dv:Value}{s:Shared}{c:Nat}(hh:A.handled=none) (hv:∀i v,its[i]? = some v->∃t,v=Value.int (val i) t) (n1:S≠it) (n2:S≠l) (n3:l≠it)
    (hi:s.heap.IsListIter it l 0) (hl:s.heap.IsList l its) (hS:s.heap.get? S=some { cls:=.type "list",dict:=none,data:=.seq #[] c,slots:=#[] })
    (q:∀(v:Value) (h':Heap) (tk:Nat),(its.size=0/\v=dv)\/(∃b,its[b]? = some v/\∀i,i<its.size->val i<=val b)->(∀d o,d≠it->d≠S->s.heap.get? d=some o->h'.get? d=some o)->R (.ok (.ret v)) { s with heap:=h',toks:=tk }) :
    codeAny (model prog w) A (.builtin "max.loop" ⟨[.ref it,.none,.ref S],[("default",dv)]⟩) R s:=by
  have nm:(toString "max" ++ toString ".loop" : String) = "max.loop":=by decide
  refine codeAny_builtin F.entry_max_loop ?_
  rw[Around.under_plainId F.plain_max_loop _]
  show wpAny _ A.in1 (seqItems? (.ref S) >>= _) _ _ s
  by_cases h0:its.size=0
  · refine wpAny_bind (wpAny_seqItems hS rfl (wpAny_bind (wpAny_tryCatch (wpAny_pyNext_list_end (A:=A.in1) hh hi hl (Array.getElem?_eq_none (by omega)) fun h' eb'=>?_))))
    refine wpAny_bind (wpAny_rule (wpAny_pure ?_))
    exact q dv h' s.toks (.inl ⟨h0,rfl⟩) fun d o d1 _ e=>eb' d o d1 e
  · have ej:its[0]? = some its[0]:=Array.getElem?_eq_getElem (by omega)
    refine wpAny_bind (wpAny_seqItems hS rfl (wpAny_bind (wpAny_tryCatch (wpAny_pyNext_list_item hi hl ej fun h' it' sb=>?_))))
    have s':h'.get? S=_:=(sb.2 S n1).trans hS
    have l':h'.IsList l its:=by
      obtain⟨o,ho,r⟩:=hl
      exact⟨o,(sb.2 l n3).trans ho,r⟩
    refine wpAny_bind (wpAny_pure ?_)
    refine wpAny_bind (m:=updateSeq S (fun _=>#[its[0],its[0]])) ?_
    refine wpAny_updateSeq s' rfl ?_
    rw[nm]
    have keep:∀d o,d≠S->h'.get? d=some o->(h'.update S (Obj.mapSeq fun _=>#[its[0],its[0]])).get? d=some o:=fun d o d1 e=>(Heap.get?_update_other _ _ (Ne.symm d1)).trans e
    obtain⟨c',M'⟩:∃c',MaxAt (h'.update S (Obj.mapSeq fun _=>#[its[0],its[0]])) l it S its its[0] 1 c':=by
      refine⟨_,it'.at fun o e=>keep it o (Ne.symm n1) e,?_,Heap.get?_update_self _ s' rfl⟩
      obtain⟨o,ho,r⟩:=l'
      exact⟨o,keep l o (Ne.symm n2) ho,r⟩
    refine wpAny_pure ⟨plainId_quiet F.plain_max_loop _,zo1 hh hv n1 n2 n3 _ 1 0 _ _ _ rfl M' ej (fun i hi=>?_) (by omega) fun v b' h2 tk ev hb kp=>?_⟩
    · have:i=0:=by omega
      subst this
      exact Int.le_refl _
    · exact q v h2 tk (.inr ⟨b',ev,hb⟩) fun d o d1 d2 e=>kp d o d1 d2 (keep d o d2 ((sb.2 d d1).trans e))
end
section
variable {prog:Program}{w:World}{A:Around}{E:Value->Shared->Prop}{s:Shared}
theorem zrb (a d:Value):argsOk "max" ⟨[a],[("default",d)]⟩:=by unfold argsOk;kernel_rfl
theorem zo2 {l:Addr}{its:Array Value}{val:Nat->Int}{dv:Value}{Q:Value->Shared->Prop}(hh:A.handled=none) (hl:s.heap.IsList l its) (hv:∀i v,its[i]? = some v->∃t,v=Value.int (val i) t)
    (q:∀(v:Value) (h':Heap) (tk:Nat),(its.size=0/\v=dv)\/(∃b,its[b]? = some v/\∀i,i<its.size->val i<=val b)->(∀d o,s.heap.get? d=some o->h'.get? d=some o)->Q v { s with heap:=h',toks:=tk }) :
    wpAny (model prog w) A (call (.builtin "max") [.ref l] [("default",dv)]) Q E s:=by
  have nm:(toString "max" ++ toString ".loop" : String) = "max.loop":=by decide
  have hlt:l<s.heap.objs.size:=by obtain⟨_,e,_⟩:=hl;exact Heap.lt_size e
  have body:wpAny (model prog w) A.in1 (Builtin.«max» ⟨[.ref l],[("default",dv)]⟩) (fun fin s'=>match fin with
      | .done f=>(match (Except.ok f:Result) with | .ok (.ret v)=>Q v s' | .ok _=>False | .error e=>E e s')
      | .again c'=>c'.quiet=true/\codeAny (model prog w) A c' (fun r s'=>match r with | .ok (.ret v)=>Q v s' | .ok _=>False | .error e=>E e s') s') E s:=by
    show wpAny _ A.in1 (Builtin.Builtins.bindParams "max" ["key","default"] 0 ⟨[],[("default",dv)]⟩ >>= _) _ _ s
    refine wpAny_bind (wpAny_of_eq (show Builtin.Builtins.bindParams "max" ["key","default"] 0 ⟨[],[("default",dv)]⟩=pure [none,some dv] from rfl) ?_)
    refine wpAny_bind (wpAny_pure (wpAny_bind (wpAny_pyIter_list hl ?_)))
    refine wpAny_bind (wpAny_newObj_type ?_)
    rw[nm]
    have zu:(s.heap.push { cls:=.type "list_iterator",data:=.fields #[.ref l,.int 0 0] }).objs.size=s.heap.objs.size+1:=Heap.size_push ..
    have old1:∀d o,s.heap.get? d=some o->(s.heap.push { cls:=.type "list_iterator",data:=.fields #[.ref l,.int 0 0] }).get? d=some o:=fun d o e=>Heap.get?_push_of_some _ e
    have hit:(s.heap.push { cls:=.type "list_iterator",data:=.fields #[.ref l,.int 0 0] }).IsListIter s.heap.objs.size l 0:=⟨_,Heap.get?_push_size _ rfl,rfl,rfl⟩
    have hl1:(s.heap.push { cls:=.type "list_iterator",data:=.fields #[.ref l,.int 0 0] }).IsList l its:=by
      obtain⟨o,ho,r⟩:=hl
      exact⟨o,old1 l o ho,r⟩
    generalize s.heap.push { cls:=.type "list_iterator",data:=.fields #[.ref l,.int 0 0] } = g at zu old1 hit hl1
    have hl2:(g.push { cls:=.type "list",data:=.seq ([]:List Value).toArray }).IsList l its:=by
      obtain⟨o,ho,r⟩:=hl1
      exact⟨o,Heap.get?_push_of_some _ ho,r⟩
    refine wpAny_pure ⟨plainId_quiet F.plain_max_loop _,zmo (it:=s.heap.objs.size) (S:=g.objs.size) hh hv ?_ ?_ ?_ (hit.at fun o e=>Heap.get?_push_of_some _ e) hl2 (Heap.get?_push_size _ rfl) fun v h' tk hb kp=>?_⟩
    · rw[zu];exact Nat.succ_ne_self _
    · rw[zu];exact Ne.symm (Nat.ne_of_lt (Nat.lt_succ_of_lt hlt))
    · exact Nat.ne_of_lt hlt
    · refine q v h' tk hb fun d o e=>kp d o (fun z=>?_) (fun z=>?_) (Heap.get?_push_of_some _ (old1 d o e))
      · exact absurd (Heap.lt_size e) (by rw[z];exact Nat.lt_irrefl _)
      · exact absurd (Heap.lt_size e) (by rw[z,zu];exact Nat.not_lt_of_le (Nat.le_succ _))
  refine wpAny_call (codeAny_call_builtin F.plain_max F.entry_max ?_)
  have ha:=zrb (.ref l) dv
  simp only [checkBuiltinCall,F.kind_max]
  cases sg:Manifest.signature? "max" with
  | none=>exact wpAny_pure body
  | some g=>
    simp only [argsOk,sg] at ha
    have ha:Bind.checkArgs "max" g ⟨[.ref l],[("default",dv)]⟩=pure ():=ha
    show wpAny _ A.in1 (Bind.checkArgs "max" g ⟨[.ref l],[("default",dv)]⟩) _ _ s
    rw[ha]
    exact wpAny_pure body
end
def zkg (ns:List Int) (d m:Int):Prop:=(ns = []/\m=d)\/(m∈ns/\∀y∈ns,y<=m)
def zxc (K:PySem.W.Frag) (d:Int) (te:TE):TE:=fun σ H Q=>te σ H fun x H1=>∃(p:Addr) (ns:List Int),x = .ref p/\SqL K H1 p (ns.map V.int)/\∀m,zkg ns d m->Q (.int m) H1
section
variable {X:Cx}
theorem zub (K:PySem.W.Frag) (hK:X.K=K) (d:Int) {e:Expr}{te:TE}{p pos kpos cpos:Pos}{j:Nat}(hc:X.calm=true) (hg:Gl X "max") (hm:X.mg "max" = none) (he:PE X e te)
    (hs:starEach [e] X.env = [(false,eval e X.env)]:=by rfl):PE X (.Call (.Name "max" p) [e] [⟨some "default",.Constant (.int d) j cpos,kpos⟩] pos) (zxc K d te):=by
  subst hK
  intro pins s σ H Q I h
  refine wpAny_Call_Name_kw (zdo I hg hm boot_max ?_)
  refine PySem.W.callWith_of (P:=fun _=>True) (first:=[]) (by rw[hs];rfl) (fun h _=>⟨.machine,.inr (.inl rfl),fun _ _ _ _ _ q=>wpAny_pure q⟩) (PyProof.Rows.evalArgs_kw2 rfl ?_ hs)
  refine thn (za he zd hs pos pins s σ H (fun vs H1=>match vs with | [x]=>∃(p:Addr) (ns:List Int),x = .ref p/\SqL X.K H1 p (ns.map V.int)/\∀m,zkg ns d m->Q (.int m) H1 | _=>False) I h) fun us s1 hq0=>?_
  obtain⟨vs,H1,I1,r,q⟩:=hq0
  match vs,q with
  | [x],q=>
    obtain⟨l,ns,rfl,hl,q⟩:=q
    obtain⟨u,rfl,ru⟩:=zbs r
    cases ru
    refine thn (znv (nm:=some "default") (kpos:=kpos) (zj (i:=d) (j:=j) (pos:=cpos)) zsf pos pins s1 σ H1 (fun zs H2=>zs = [.int d]/\H2=H1) I1 ⟨rfl,rfl⟩) fun ws s2 ⟨zs,H2,I2,rz,q2⟩=>⟨trivial,?_⟩
    obtain⟨rfl,rfl⟩:=q2
    obtain⟨v,rfl,t,rfl⟩:=zbs rz
    obtain⟨its,rv,pl,hz⟩:=I2.list hl
    have len:=rv.length
    rw[List.length_map] at len
    have hv:∀i v,its.toArray[i]? = some v->∃t,v=Value.int (ns.getD i 0) t:=by
      intro i v e
      have e':its[i]? = some v:=by simpa using e
      have hi:i<ns.length:=by have:=(List.getElem?_eq_some_iff.mp e').1;omega
      obtain⟨w,e2,rw'⟩:=rv.get (i:=i) (x:=.int ns[i]) (by simp[hi])
      rw[e'] at e2
      cases e2
      have:ns.getD i 0=ns[i]:=by rw[List.getD_eq_getElem?_getD,List.getElem?_eq_getElem hi];rfl
      rw[this]
      exact rw'
    refine zo2 (I2.ok.hd hc) pl.isList hv fun v h' tk hb kp=>?_
    have sz:its.toArray.size=ns.length:=by rw[List.size_toArray];exact len.symm
    rcases hb with ⟨h0,rfl⟩ | ⟨b,eb,hb⟩
    · refine⟨.int d,_,I2.kept kp,⟨t,rfl⟩,q d (.inl ⟨?_,rfl⟩)⟩
      exact List.length_eq_zero_iff.mp (by omega)
    · obtain⟨t',rfl⟩:=hv b _ eb
      have hbn:b<ns.length:=by
        have:=(Array.getElem?_eq_some_iff.mp eb).1
        omega
      have eg:∀i (hi:i<ns.length),ns.getD i 0=ns[i]:=fun i hi=>by rw[List.getD_eq_getElem?_getD,List.getElem?_eq_getElem hi];rfl
      refine⟨.int (ns.getD b 0),_,I2.kept kp,⟨t',rfl⟩,q _ (.inr ⟨?_,fun y hy=>?_⟩)⟩
      · rw[eg b hbn];exact List.getElem_mem _
      · obtain⟨i,hi,rfl⟩:=List.mem_iff_getElem.mp hy
        have:=hb i (by omega)
        rwa [eg i hi] at this
end
end L2
namespace Dm
open PySem PySem.NumText L2
def rowB (lv:Str->Nat) (j:Nat) (x:Str):Bool:=decide (lv x=j)
def lvN (lv:Str->Nat) (L:List (Str×Addr)):List Int:=L.map fun p=>(lv p.1:Int)+1
def lvU (lv:Str->Nat) (u:Str) (m:Nat):Str->Nat:=fun x=>if x=u then m else lv x
structure Lv (ln:Ln) (M:List Str) (lv:Str->Nat) (n:Nat):Prop where
  cl:∀x∈M,∀l r,(l,r)∈ln x->l∈M
  mx:∀x∈M,zkg (lvN lv (ln x)) 0 (lv x)
  lt:∀x∈M,lv x<n
  all:∀j,j<n->∃x∈M,lv x=j
theorem Lv.nil {ln:Ln}{lv:Str->Nat}:Lv ln [] lv 0:=⟨by simp,by simp,by simp,by simp⟩
theorem Lv.mem {ln:Ln}{M M':List Str}{lv:Str->Nat}{n:Nat}(h:Lv ln M lv n) (e:∀x,x∈M↔x∈M'):Lv ln M' lv n:=
  ⟨fun x hx l r hl=>(e l).mp (h.cl x ((e x).mpr hx) l r hl),fun x hx=>h.mx x ((e x).mpr hx),fun x hx=>h.lt x ((e x).mpr hx),fun j hj=>by
    obtain⟨x,hx,z⟩:=h.all j hj
    exact⟨x,(e x).mp hx,z⟩⟩
theorem Lv.next {ln:Ln}{M:List Str}{lv:Str->Nat}{n:Nat}{u:Str}(h:Lv ln M lv n) (hc:∀l r,(l,r)∈ln u->l∈M) {m:Int}(hm:zkg (lvN lv (ln u)) 0 m):∃k:Nat,m=k/\k<=n:=by
  rcases hm with ⟨_,rfl⟩ | ⟨hm,_⟩
  · exact⟨0,rfl,by omega⟩
  · unfold lvN at hm
    rw[List.mem_map] at hm
    obtain⟨⟨l,r⟩,hl,rfl⟩:=hm
    have:=h.lt l (hc l r hl)
    exact⟨lv l+1,by simp,by omega⟩
theorem zi9 {lv lv':Str->Nat}{L:List (Str×Addr)}(h:∀l r,(l,r)∈L->lv l=lv' l):lvN lv L=lvN lv' L:=by
  unfold lvN
  refine List.map_congr_left fun p hp=>?_
  rw[h p.1 p.2 hp]
theorem zfn {lv:Str->Nat}{u x:Str}{k:Nat}(h:x≠u):lvU lv u k x=lv x:=by unfold lvU;rw[if_neg h]
theorem zhe {lv:Str->Nat}{u:Str}{k:Nat}:lvU lv u k u=k:=by unfold lvU;rw[if_pos rfl]
theorem Lv.step {ln:Ln}{M:List Str}{lv:Str->Nat}{n:Nat}{u:Str}(h:Lv ln M lv n) (hu:u ∉ M) (hc:∀l r,(l,r)∈ln u->l∈M) {k:Nat}(hm:zkg (lvN lv (ln u)) 0 k) (hk:k<=n) :
    Lv ln (M++[u]) (lvU lv u k) (if k=n then n+1 else n):=by
  have ne:∀x∈M,x≠u:=fun x hx z=>hu (z▸hx)
  have cg:∀x,(∀l r,(l,r)∈ln x->l∈M)->lvN (lvU lv u k) (ln x)=lvN lv (ln x):=fun x hx=>zi9 fun l r hl=>zfn (ne l (hx l r hl))
  have sp:∀x,x∈M++[u]->x∈M\/x=u:=fun x hx=>by
    rcases List.mem_append.mp hx with h | h
    · exact .inl h
    · exact .inr (by simpa using h)
  refine⟨fun x hx l r hl=>?_,fun x hx=>?_,fun x hx=>?_,fun j hj=>?_⟩
  · rcases sp x hx with hx | rfl
    · exact List.mem_append_left _ (h.cl x hx l r hl)
    · exact List.mem_append_left _ (hc l r hl)
  · rcases sp x hx with hx | rfl
    · rw[cg x (h.cl x hx),zfn (ne x hx)];exact h.mx x hx
    · rw[cg x hc,zhe];exact hm
  · rcases sp x hx with hx | rfl
    · rw[zfn (ne x hx)]
      have:=h.lt x hx
      split<;>omega
    · rw[zhe]
      split<;>omega
  · by_cases c:j<n
    · obtain⟨x,hx,e⟩:=h.all j c
      exact⟨x,List.mem_append_left _ hx,by rw[zfn (ne x hx)];exact e⟩
    · refine⟨u,by simp,?_⟩
      rw[zhe]
      split at hj<;>omega
theorem zrc {M:List Str}{lv:Str->Nat}{u:Str}{k j:Nat}(hu:u ∉ M):(M++[u]).filter (rowB (lvU lv u k) j)=M.filter (rowB lv j)++(if k=j then [u] else []):=by
  rw[List.filter_append]
  congr 1
  · refine List.filter_congr fun x hx=>?_
    unfold rowB
    have ne:x≠u:=fun z=>hu (by rw[←z];exact hx)
    rw[zfn ne]
  · have e:rowB (lvU lv u k) j u=decide (k=j):=by unfold rowB;rw[zhe]
    by_cases c:k=j
    · rw[if_pos c,List.filter_cons_of_pos (by rw[e];exact decide_eq_true c)];rfl
    · rw[if_neg c,List.filter_cons_of_neg (by rw[e,decide_eq_false c];exact Bool.false_ne_true)];rfl
theorem zmp {os keys:List Str}{p:Str->Bool}(pm:os.Perm keys) (kl:keys.Pairwise (fun a b=>co a<co b)):srt (os.filter p)=keys.filter p:=by
  refine (zll (pm.filter p).symm ?_).symm
  unfold zfj
  exact (kl.imp (fun h=>zd3 h)).sublist (List.filter_sublist ..)
theorem zwd {l:List Addr}(h:l.Nodup) {i j:Nat}{a:Addr}(hi:l[i]? = some a) (hj:l[j]? = some a):i=j:=by
  obtain⟨h1,e1⟩:=List.getElem?_eq_some_iff.mp hi
  obtain⟨h2,e2⟩:=List.getElem?_eq_some_iff.mp hj
  have pw:=List.pairwise_iff_getElem.mp h
  rcases Nat.lt_trichotomy i j with c | c | c
  · exact absurd (e1.trans e2.symm) (pw i j h1 h2 c)
  · exact c
  · exact absurd (e2.trans e1.symm) (pw j i h2 h1 c)
end Dm
namespace L2
open PySem PySem.Spec PyProof.Rows
theorem zrd {c:TT}{t u:TS}{D:Ends}{σ:St}{H:Hp}(P:St->Hp->Prop) (b:Bool) (ht:∀Q':Bool->Hp->Prop,Q' b H->c σ H Q') (h1:b=true->(∀σ' H',P σ' H'->D.nx σ' H')->t D σ H) (h2:b=false->(∀σ' H',P σ' H'->D.nx σ' H')->u D σ H)
    (hn:∀σ' H',P σ' H'->D.nx σ' H'):tIfS c t u D σ H:=by
  refine zvw b ht ?_
  cases b with
  | true=>exact iteT (h1 rfl hn)
  | false=>exact iteF (h2 rfl hn)
end L2
namespace Dm
open PySem PySem.NumText L2
theorem Lv.row_nil {ln:Ln}{M:List Str}{lv:Str->Nat}{n:Nat}(h:Lv ln M lv n) {j:Nat}(hj:n<=j):M.filter (rowB lv j) = []:=by
  rw[List.filter_eq_nil_iff]
  intro x hx
  have:=h.lt x hx
  unfold rowB
  rw[decide_eq_true_iff]
  omega
theorem zmq {ns ns':List Int}{d m m':Int}(h:zkg ns d m) (h':zkg ns' d m') (e:∀y,y∈ns↔y∈ns'):m=m':=by
  rcases h with ⟨h1,h2⟩ | ⟨h1,h2⟩
  · rcases h' with ⟨_,h4⟩ | ⟨h3,_⟩
    · rw[h2,h4]
    · have:=(e m').mpr h3
      rw[h1] at this
      cases this
  · rcases h' with ⟨h3,_⟩ | ⟨h3,h4⟩
    · have:=(e m).mp h1
      rw[h3] at this
      cases this
    · have a:=h2 m' ((e m').mpr h3)
      have b:=h4 m ((e m).mp h1)
      omega
end Dm
namespace L2
open PySem PySem.Spec PyProof.Rows
abbrev IS:=Int×Str
theorem zbx {α β:Type}{F:α->β->Prop}{as:List α}{bs:List β}(h:Paired F as bs):∀{i:Nat}{a:α}{b:β},as[i]? = some a->bs[i]? = some b->F a b:=by
  induction h with
  | nil=>intro i a b e _;simp at e
  | cons h _ ih=>
    intro i a b e1 e2
    cases i with
    | zero=>simp at e1 e2;rw[←e1,←e2];exact h
    | succ i=>exact ih (by simpa using e1) (by simpa using e2)
end L2
namespace Dm
open PySem PySem.NumText L2
theorem zo3 {H:Hp}{pd:Addr}{ob:Obj}{keys:List Str}{f:Str->V}(h:H pd=some (.frz ob (.dK (dV keys f)))) {k:Str}(hk:k∈keys):DGet H pd (.str k) (some (f k)):=by
  have:=zcn (f:=f) hk
  exact .inl ⟨_,Sum.inr k,.inr ⟨ob,h⟩,rfl,this.symm⟩
end Dm
namespace L2
open PySem
theorem DEq.allL {K:PySem.W.Frag}{H:Hp}{n:Nat}{a b:Addr}{xs ys:List V}(hx:SqL K H a xs) (hy:SqL K H b ys) (hl:xs.length=ys.length) (h:∀(i:Nat) x y,xs[i]? = some x->ys[i]? = some y->DEq K H n x y true):DEq K H (n+1) (.ref a) (.ref b) true:=by
  have:=DEq.lst (n:=n) (fun _=>true) hx hy hl h
  rw[List.all_eq_true.mpr fun _ _=>rfl] at this
  exact this
end L2
namespace L2
open PySem PySem.W PyProof.Rows
def askB (N:Nat) (lt:Nat->Nat->Bool):Nat->Nat->(Bool->Shared->Prop)->Shared->Prop:=fun i j C s=>i<N/\j<N/\i≠j/\C (lt i j) s
structure Tot (N:Nat) (lt:Nat->Nat->Bool):Prop where
  irr:∀a,a<N->lt a a=false
  tr:∀a b c,a<N->b<N->c<N->lt a b=true->lt b c=true->lt a c=true
  tot:∀a b,a<N->b<N->a≠b->lt a b=false->lt b a=true
structure Good (N:Nat) (p:Array Nat):Prop where
  sz:p.size=N
  lt:∀i,i<N->p.getD i 0<N
  inj:∀i j,i<N->j<N->p.getD i 0=p.getD j 0->i=j
def Asc (lt:Nat->Nat->Bool) (p:Array Nat) (k:Nat):Prop:=∀i j,i<j->j<k->lt (p.getD i 0) (p.getD j 0)=true
def Dsc (lt:Nat->Nat->Bool) (p:Array Nat) (k:Nat):Prop:=∀i j,i<j->j<k->lt (p.getD j 0) (p.getD i 0)=true
section
variable {N:Nat}{lt:Nat->Nat->Bool}{s:Shared}
theorem Asc.snoc (T:Tot N lt) {p:Array Nat}(G:Good N p) {n:Nat}(h:Asc lt p n) (hn:n<N) (h1:1<=n) (q:lt (p.getD (n-1) 0) (p.getD n 0)=true):Asc lt p (n+1):=by
  intro i j hij hj
  by_cases c:j<n
  · exact h i j hij c
  · have:j=n:=by omega
    subst this
    by_cases c2:i=j-1
    · rw[c2];exact q
    · exact T.tr _ _ _ (G.lt i (by omega)) (G.lt (j-1) (by omega)) (G.lt j hn) (h i (j-1) (by omega) (by omega)) q
theorem Dsc.snoc (T:Tot N lt) {p:Array Nat}(G:Good N p) {n:Nat}(h:Dsc lt p n) (hn:n<N) (h1:1<=n) (q:lt (p.getD n 0) (p.getD (n-1) 0)=true):Dsc lt p (n+1):=by
  intro i j hij hj
  by_cases c:j<n
  · exact h i j hij c
  · have:j=n:=by omega
    subst this
    by_cases c2:i=j-1
    · rw[c2];exact q
    · exact T.tr _ _ _ (G.lt j hn) (G.lt (j-1) (by omega)) (G.lt i (by omega)) q (h i (j-1) (by omega) (by omega))
theorem zo4 (T:Tot N lt) {p:Array Nat}(G:Good N p) {Q:Nat->Shared->Prop}:∀(f n:Nat),1<=n->n+f<=N->Asc lt p n->(∀m,n<=m->m<=n+f->Asc lt p m->(m<n+f->lt (p.getD m 0) (p.getD (m-1) 0)=true)->Q m s)->(kas_asc p f n).kasWp (askB N lt) Q s
  | 0,n,_,_,a,k=>k n (Nat.le_refl _) (Nat.le_refl _) a (fun z=>absurd z (Nat.lt_irrefl _))
  | f+1,n,h1,hn,a,k=>by
    refine⟨G.lt n (by omega),G.lt (n-1) (by omega),fun z=>by have:=G.inj n (n-1) (by omega) (by omega) z;omega,?_⟩
    cases c:lt (p.getD n 0) (p.getD (n-1) 0) with
    | true=>
      dsimp only
      rw[if_pos rfl]
      exact k n (Nat.le_refl _) (by omega) a fun _=>c
    | false=>
      dsimp only
      rw[if_neg (by simp)]
      have ne:p.getD n 0≠p.getD (n-1) 0:=fun z=>by have:=G.inj n (n-1) (by omega) (by omega) z;omega
      have q:=T.tot _ _ (G.lt n (by omega)) (G.lt (n-1) (by omega)) ne c
      refine zo4 T G f (n+1) (by omega) (by omega) (a.snoc T G (by omega) h1 q) fun m m1 m2 am hm=>k m (by omega) (by omega) am fun z=>hm (by omega)
theorem zo5 (T:Tot N lt) {p:Array Nat}(G:Good N p) {Q:Array Nat×Nat×Nat->Shared->Prop}:∀(f n:Nat),1<=n->n+f<=N->Dsc lt p n->(∀m,n<=m->m<=n+f->Dsc lt p m->Q (p,m,0) s)->(kas_desc f p n 0).kasWp (askB N lt) Q s
  | 0,n,_,_,a,k=>k n (Nat.le_refl _) (Nat.le_refl _) a
  | f+1,n,h1,hn,a,k=>by
    refine⟨G.lt n (by omega),G.lt (n-1) (by omega),fun z=>by have:=G.inj n (n-1) (by omega) (by omega) z;omega,?_⟩
    cases c:lt (p.getD n 0) (p.getD (n-1) 0) with
    | true=>
      dsimp only
      rw[if_pos rfl,if_neg (by omega)]
      exact zo5 T G f (n+1) (by omega) (by omega) (a.snoc T G (by omega) h1 c) fun m m1 m2 am=>k m (by omega) (by omega) am
    | false=>
      dsimp only
      rw[if_neg (by simp)]
      have ne:p.getD n 0≠p.getD (n-1) 0:=fun z=>by have:=G.inj n (n-1) (by omega) (by omega) z;omega
      have q:=T.tot _ _ (G.lt n (by omega)) (G.lt (n-1) (by omega)) ne c
      refine⟨G.lt (n-1) (by omega),G.lt n (by omega),Ne.symm ne,?_⟩
      rw[q]
      dsimp only
      rw[if_pos rfl]
      exact k n (Nat.le_refl _) (by omega) a
theorem zfo {p:Array Nat}{i:Nat}{q:Array Nat}{j:Nat}(h:p[i]? = q[j]?):p.getD i 0=q.getD j 0:=by
  rw[Array.getD_eq_getD_getElem?,Array.getD_eq_getD_getElem?,h]
theorem zfp {p:Array Nat}{j:Nat}(hj:j<=p.size) (k:Nat):(kas_rev p 0 j).getD k 0=if k<j then p.getD (j-1-k) 0 else p.getD k 0:=by
  have e:=getElem?_mirror_all (xs:=p) (i:=0) hj k
  unfold kas_rev
  by_cases c:k<j
  · rw[if_pos c]
    rw[if_pos ⟨Nat.zero_le _,c⟩] at e
    rw[Nat.zero_add] at e
    exact zfo e
  · rw[if_neg c]
    rw[if_neg (fun z=>c z.2)] at e
    exact zfo e
theorem Good.rev {p:Array Nat}(G:Good N p) {j:Nat}(hj:j<=N):Good N (kas_rev p 0 j):=by
  have hz:j<=p.size:=by rw[G.sz];exact hj
  refine⟨by rw[kas_rev_size];exact G.sz,fun i hi=>?_,fun a b ha hb e=>?_⟩
  · rw[zfp hz]
    split
    · exact G.lt _ (by omega)
    · exact G.lt _ hi
  · rw[zfp hz,zfp hz] at e
    by_cases c1:a<j<;>by_cases c2:b<j
    · rw[if_pos c1,if_pos c2] at e
      have:=G.inj _ _ (by omega) (by omega) e
      omega
    · rw[if_pos c1,if_neg c2] at e
      have:=G.inj _ _ (by omega) (by omega) e
      omega
    · rw[if_neg c1,if_pos c2] at e
      have:=G.inj _ _ (by omega) (by omega) e
      omega
    · rw[if_neg c1,if_neg c2] at e
      exact G.inj _ _ (by omega) (by omega) e
theorem Dsc.rev {p:Array Nat}(G:Good N p) {j:Nat}(hj:j<=N) (h:Dsc lt p j):Asc lt (kas_rev p 0 j) j:=by
  have hz:j<=p.size:=by rw[G.sz];exact hj
  intro a b hab hb
  rw[zfp hz,zfp hz,if_pos (by omega),if_pos hb]
  exact h _ _ (by omega) (by omega)
theorem zre (T:Tot N lt) {p:Array Nat}(G:Good N p) (h2:2<=N) {Q:Nat×Array Nat->Shared->Prop}(k:∀m p',1<=m->m<=N->Good N p'->Asc lt p' m->Q (m,p') s):(kas_count N p).kasWp (askB N lt) Q s:=by
  unfold kas_count
  rw[KasT.kasWp_bind]
  refine zo4 T G (N-1) 1 (Nat.le_refl _) (by omega) (fun i j a b=>by omega) fun n n1 n2 an hn=>?_
  by_cases c:n=N
  · rw[if_pos (by rw[c];simp)]
    exact k n p n1 (by omega) G an
  · rw[if_neg (by simpa using c)]
    by_cases c2:n > 1
    · rw[if_pos c2]
      refine⟨G.lt 0 (by omega),G.lt (n-1) (by omega),fun z=>by have:=G.inj 0 (n-1) (by omega) (by omega) z;omega,?_⟩
      rw[an 0 (n-1) (by omega) (by omega)]
      dsimp only
      rw[if_pos rfl]
      exact k n p n1 (by omega) G an
    · rw[if_neg c2]
      have e1:n=1:=by omega
      subst e1
      have h10:=hn (by omega)
      unfold kas_descPart
      rw[KasT.kasWp_bind]
      have d2:Dsc lt p (1+1):=fun i j hij hj=>by
        have:i=0:=by omega
        have:j=1:=by omega
        subst i j
        exact h10
      refine zo5 T G (N-(1+1)) (1+1) (by omega) (by omega) d2 fun m m1 m2 dm=>?_
      show KasT.kasWp _ (if (0:Nat) > 0 then _ else kas_tail3 m N p) _ _
      rw[if_neg (by omega)]
      unfold kas_tail3
      rw[KasT.kasWp_bind]
      refine zo4 T (G.rev (j:=m) (by omega)) (N-m) m (by omega) (by omega) (dm.rev G (by omega)) fun r r1 r2 ar _=>?_
      exact k r _ (by omega) (by omega) (G.rev (by omega)) ar
theorem zhf (T:Tot N lt) {p:Array Nat}(G:Good N p) {k:Nat}(hk:k<N) {Q:Nat->Shared->Prop}:∀(f l r:Nat),l<=r->r<=k->r-l<=f->(∀i,i<l->lt (p.getD i 0) (p.getD k 0)=true)->(∀i,r<=i->i<k->lt (p.getD k 0) (p.getD i 0)=true)->Asc lt p k->
      (∀m,m<=k->(∀i,i<m->lt (p.getD i 0) (p.getD k 0)=true)->(∀i,m<=i->i<k->lt (p.getD k 0) (p.getD i 0)=true)->Q m s)->(kas_place p k f l r).kasWp (askB N lt) Q s
  | 0,l,r,h1,h2,h3,a,b,_,q=>q l (by omega) a fun i hi hk'=>b i (by omega) hk'
  | f+1,l,r,h1,h2,h3,a,b,as,q=>by
    unfold kas_place
    by_cases c:l≥r
    · rw[if_pos c]
      exact q l (by omega) a fun i hi hk'=>b i (by omega) hk'
    · rw[if_neg c]
      have hm:(l+r) / 2<r:=by omega
      have hl:l<=(l+r) / 2:=by omega
      generalize (l+r) / 2=m at hm hl
      refine⟨G.lt k hk,G.lt m (by omega),fun z=>by have:=G.inj k m hk (by omega) z;omega,?_⟩
      cases e:lt (p.getD k 0) (p.getD m 0) with
      | true=>
        dsimp only
        rw[if_pos rfl]
        refine zhf T G hk f l m hl (by omega) (by omega) a (fun i hi hik=>?_) as q
        by_cases c3:i=m
        · rw[c3];exact e
        · exact T.tr _ _ _ (G.lt k hk) (G.lt m (by omega)) (G.lt i (by omega)) e (as m i (by omega) hik)
      | false=>
        dsimp only
        rw[if_neg (by simp)]
        have ne:p.getD k 0≠p.getD m 0:=fun z=>by have:=G.inj k m hk (by omega) z;omega
        have e2:=T.tot _ _ (G.lt k hk) (G.lt m (by omega)) ne e
        refine zhf T G hk f (m+1) r (by omega) h2 (by omega) (fun i hi=>?_) b as q
        by_cases c3:i=m
        · rw[c3];exact e2
        · exact T.tr _ _ _ (G.lt i (by omega)) (G.lt m (by omega)) (G.lt k hk) (as i m (by omega) (by omega)) e2
theorem zkh {p:Array Nat}{k d:Nat}(hk:k<p.size) (hd:d<=k) (j:Nat):(bubble p k d).getD j 0=if j=k-d then p.getD k 0 else if k-d<j/\j<=k then p.getD (j-1) 0 else p.getD j 0:=by
  have e:=getElem?_bubble hk d hd j
  by_cases c1:j=k-d
  · rw[if_pos c1] at e ⊢
    exact zfo e
  · rw[if_neg c1] at e ⊢
    by_cases c2:k-d<j/\j<=k
    · rw[if_pos c2] at e ⊢
      exact zfo e
    · rw[if_neg c2] at e ⊢
      exact zfo e
def bubI (k d j:Nat):Nat:=if j=k-d then k else if k-d<j/\j<=k then j-1 else j
theorem zhg {p:Array Nat}{k d:Nat}(hk:k<p.size) (hd:d<=k) (j:Nat):(bubble p k d).getD j 0=p.getD (bubI k d j) 0:=by
  rw[zkh hk hd]
  unfold bubI
  by_cases c1:j=k-d
  · rw[if_pos c1,if_pos c1]
  · rw[if_neg c1,if_neg c1]
    by_cases c2:k-d<j/\j<=k
    · rw[if_pos c2,if_pos c2]
    · rw[if_neg c2,if_neg c2]
theorem zki {N k d j:Nat}(hk:k<N) (hj:j<N):bubI k d j<N:=by
  unfold bubI
  split
  · exact hk
  · split<;>omega
theorem zrf {k d a b:Nat}(hd:d<=k) (e:bubI k d a=bubI k d b):a=b:=by
  unfold bubI at e
  split at e<;>split at e<;>(try split at e)<;>(try split at e)<;>omega
theorem Good.bub {p:Array Nat}(G:Good N p) {k d:Nat}(hk:k<N) (hd:d<=k):Good N (bubble p k d):=by
  have hz:k<p.size:=by rw[G.sz];exact hk
  refine⟨by rw[bubble_size];exact G.sz,fun i hi=>?_,fun a b ha hb e=>?_⟩
  · rw[zhg hz hd]
    exact G.lt _ (zki hk hi)
  · rw[zhg hz hd,zhg hz hd] at e
    exact zrf hd (G.inj _ _ (zki hk ha) (zki hk hb) e)
theorem zsr (T:Tot N lt) {Q:Array Nat->Shared->Prop}:∀(f:Nat) (p:Array Nat) (k:Nat),Good N p->1<=k->k+f=N->Asc lt p k->(∀p',Good N p'->Asc lt p' N->Q p' s)->(kas_bin f p k).kasWp (askB N lt) Q s
  | 0,p,k,G,h1,hk,a,q=>q p G (by rw[←hk];exact a)
  | f+1,p,k,G,h1,hk,a,q=>by
    unfold kas_bin
    rw[KasT.kasWp_bind]
    have hkN:k<N:=by omega
    refine zhf T G hkN k 0 k (Nat.zero_le _) (Nat.le_refl _) (by omega) (fun i hi=>by omega) (fun i hi hik=>by omega) a fun m hm lo hi=>?_
    have hz:k<p.size:=by rw[G.sz];exact hkN
    have hd:k-m<=k:=by omega
    refine zsr T f _ (k+1) (G.bub hkN hd) (by omega) (by omega) (fun i j hij hj=>?_) q
    rw[zkh hz hd,zkh hz hd]
    have em:k-(k-m)=m:=by omega
    rw[em]
    by_cases c1:i=m
    · rw[if_pos c1,if_neg (by omega),if_pos ⟨by omega,by omega⟩]
      exact hi (j-1) (by omega) (by omega)
    · rw[if_neg c1]
      by_cases c2:j=m
      · rw[if_pos c2,if_neg (by omega)]
        exact lo i (by omega)
      · rw[if_neg c2]
        by_cases c3:m<i/\i<=k
        · rw[if_pos c3,if_pos ⟨by omega,by omega⟩]
          exact a _ _ (by omega) (by omega)
        · rw[if_neg c3]
          by_cases c4:m<j/\j<=k
          · rw[if_pos c4]
            exact a _ _ (by omega) (by omega)
          · rw[if_neg c4]
            exact a _ _ (by omega) (by omega)
theorem zgs:Good N (List.toArray (List.range N)):=by
  have e:∀i,i<N->(List.toArray (List.range N)).getD i 0=i:=fun i hi=>by
    rw[Array.getD_eq_getD_getElem?]
    simp[hi]
  refine⟨by simp,fun i hi=>by rw[e i hi];exact hi,fun i j hi hj z=>by rw[e i hi,e j hj] at z;exact z⟩
theorem zuc (T:Tot N lt) (h2:2<=N) {Q:Array Nat->Shared->Prop}(q:∀p,Good N p->Asc lt p N->Q p s):(kas_sort N).kasWp (askB N lt) Q s:=by
  unfold kas_sort
  rw[KasT.kasWp_bind]
  refine zre T zgs h2 fun m p m1 m2 G a=>?_
  dsimp only
  by_cases c:m<N
  · rw[if_pos c]
    have e:max m 1=m:=by omega
    rw[e]
    exact zsr T (N-m) p m G m1 (by omega) a q
  · rw[if_neg c]
    have e:m=N:=by omega
    subst e
    exact q p G a
end
theorem zls {α:Type}{cmp cmp':Nat->Nat->(Bool->Shared->Prop)->Shared->Prop}{s:Shared}{Q:α->Shared->Prop}(h:∀i j (C:Bool->Shared->Prop),cmp i j (fun b s'=>s'=s/\C b s) s->cmp' i j C s) (m:∀i j (C C':Bool->Shared->Prop),(∀b,C b s->C' b s)->cmp i j C s->cmp i j (fun b s'=>s'=s/\C' b s) s):∀(t:KasT α),t.kasWp cmp Q s->t.kasWp cmp' Q s
  | .ret a,q=>q
  | .ask i j k,q=>h i j _ (m i j (fun b s'=>(k b).kasWp cmp Q s') _ (fun b z=>zls h m (k b) z) q)
section
variable {prog:Program}{w:World}{A:Around}{E:Value->Shared->Prop}{s:Shared}
def zbh (h:Heap) (d:Addr) (us:List Value):Heap:=((h.update d (Obj.mapSeq fun _=>#[])).push (seqObj "tuple" us.toArray 0)).push (seqObj "list" #[] 0)
theorem zmr {h:Heap}{d b:Addr}{us:List Value}{o:Obj}(n:b≠d) (e:h.get? b=some o):(zbh h d us).get? b=some o:=by
  unfold zbh
  refine Heap.get?_push_of_some _ (Heap.get?_push_of_some _ ?_)
  rw[Heap.get?_update_other _ _ (Ne.symm n)]
  exact e
def Put (us:List Value) (lt:Nat->Nat->Bool) (out:List Value):Prop:=∃p:Array Nat,Good us.length p/\Asc lt p us.length/\out=p.toList.map fun i=>us.getD i Value.none
theorem zo6 {d:Addr}{us:List Value}{n:Nat}{κ:SortKind}{lt:Nat->Nat->Bool}{P:PySem.Fin->Shared->Prop}(T:Tot us.length lt) (hd:s.heap.get? d=some (seqObj "list" us.toArray n)) (small:us.length<64)
    (kind:2<=us.length->∀(Q:SortKind->Shared->Prop) (E':Value->Shared->Prop),Q κ { s with heap:=zbh s.heap d us }->wpAny (model prog w) A (keyKind' us.toArray) Q E' { s with heap:=zbh s.heap d us })
    (less:∀i j,i<us.length->j<us.length->i≠j->∀(Q:Bool->Shared->Prop),Q (lt i j) { s with heap:=zbh s.heap d us }->wpAny (model prog w) A (keyLt' κ (us.getD i Value.none) (us.getD j Value.none)) Q (fun _ _=>False) { s with heap:=zbh s.heap d us })
    (fin:∀out:List Value,out.length=us.length->Put us lt out->P (.done (.ret .none)) { s with heap:=sortedHeap s.heap d us out.toArray }) :
    wpAny (model prog w) A (Builtin.«list.sort» ⟨[.ref d],[]⟩) P E s:=by
  rw[list_sort_plain]
  have dl:d<s.heap.objs.size:=Heap.lt_size hd
  refine wpAny_bind (listItems_at hd rfl (wpAny_bind (listUpdate_at hd rfl ?_)))
  obtain⟨n1,hd1⟩:∃n1,(s.heap.update d (Obj.mapSeq fun _=>#[])).get? d=some (seqObj "list" #[] n1):=⟨_,get?_update_seq hd (fun _=>#[])⟩
  refine wpAny_bind (seqEpoch_at hd1 rfl (wpAny_bind (wpAny_newTuple (wpAny_bind (wpAny_newList (wpAny_holding ?_))))))
  have hd6:(zbh s.heap d us).get? d=some (seqObj "list" #[] n1):=Heap.get?_push_of_some _ (Heap.get?_push_of_some _ hd1)
  show wpAny (model prog w) A _ P E { s with heap:=zbh s.heap d us }
  dsimp only
  have zl:us.toArray.size=us.length:=by simp
  by_cases c:us.toArray.size<2
  · rw[if_pos c,if_pos c]
    refine wpAny_bind (wpAny_pure ?_)
    rw[StateT.run_pure]
    refine wpAny_bind (wpAny_pure ?_)
    dsimp only
    have ez:(us.toArray.zip us.toArray).map (·.2)=us.toArray:=by
      apply Array.ext'
      simp[List.map_snd_zip]
    refine wpAny_bind (seqEpoch_at hd6 rfl (wpAny_bind (listUpdate_at hd6 rfl ?_ (hsz2:=by rw[Array.size_map];show (us.toArray.zip us.toArray).size<=_;rw[sizeLine_eq];simp;omega))))
    simp only [bne_self_eq_false,Bool.false_eq_true,if_false]
    have go:=fin us rfl ⟨_,zgs,fun i j a b=>by omega,by
      apply List.ext_getElem?
      intro i
      by_cases hi:i<us.length
      · simp[hi]
      · simp[Nat.le_of_not_lt hi]⟩
    refine wpAny_pure ?_
    have e2:(arrOf (SortSt.mk' general' (us.toArray.zip us.toArray) #[] 7 none)).map (·.2)=us.toArray:=ez
    rw[e2]
    exact go
  · rw[if_neg c,if_neg c]
    have two:2<=us.length:=by omega
    refine wpAny_bind (kind two _ _ ?_)
    refine wpAny_bind (wpAny_mono (kat_run (E:=E) (ks:=us) (vs:=us) (G:=fun p s'=>s' = { s with heap:=zbh s.heap d us }/\Good us.length p/\Asc lt p us.length) (Q:=fun st' s'=>s' = { s with heap:=zbh s.heap d us }/\failedOf st'=none/\∃p,Good us.length p/\Asc lt p us.length/\arrOf st'=p.map (kas_item (us.toArray.zip us.toArray))) rfl two small (fun p st' s' _ e1 e2 g=>⟨g.1,e2,p,g.2.1,g.2.2,e1⟩) ?_) (fun r s' q=>?_) fun _ _ z=>z)
    · refine zls (cmp:=askB us.length lt) (fun i j C h=>?_) (fun i j C C' h q=>⟨q.1,q.2.1,q.2.2.1,rfl,h _ q.2.2.2⟩) _ (zuc T two fun p g a=>⟨rfl,g,a⟩)
      obtain⟨h1,h2,n12,_,h3⟩:=h
      exact less i j h1 h2 n12 _ h3
    · obtain⟨⟨⟩,st'⟩:=r
      obtain⟨rfl,nf,p,g,a,ea⟩:=q
      dsimp only at ea nf ⊢
      have eo:(arrOf st').map (·.2)=(p.toList.map fun i=>us.getD i Value.none).toArray:=by
        rw[ea]
        apply Array.ext'
        simp only [Array.toList_map,List.map_map]
        refine List.map_congr_left fun i _=>?_
        show (kas_item (us.toArray.zip us.toArray) i).2=_
        rw[kat_item rfl]
      have el:(p.toList.map fun i=>us.getD i Value.none).length=us.length:=by rw[List.length_map,Array.length_toList,g.sz]
      refine wpAny_bind (seqEpoch_at hd6 rfl (wpAny_bind (listUpdate_at hd6 rfl ?_ (hsz2:=by rw[eo];show (p.toList.map fun i=>us.getD i Value.none).toArray.size<=_;rw[List.size_toArray,el,sizeLine_eq];omega))))
      rw[nf]
      simp only [bne_self_eq_false,Bool.false_eq_true,if_false]
      have go:=fin _ el ⟨p,g,a,rfl⟩
      unfold sortedHeap at go
      rw[←eo] at go
      exact wpAny_pure go
theorem zja {l:Addr}{us:List Value}{κ:SortKind}{lt:Nat->Nat->Bool}{Q:Value->Shared->Prop}(T:Tot us.length lt) (small:us.length<64)
    (col:∀(E':Value->Shared->Prop) (Q':List Value->Shared->Prop),(∀h1 tk,(∀b o,s.heap.get? b=some o->h1.get? b=some o)->s.heap.objs.size<h1.objs.size->Q' us { s with heap:=h1,toks:=tk })->wpAny (model prog w) A.in1 (collect (.ref l)) Q' E' s)
    (kind:2<=us.length->∀(s':Shared),(∀b o,s.heap.get? b=some o->s'.heap.get? b=some o)->∀{A':Around}{E':Value->Shared->Prop}{Q':SortKind->Shared->Prop},Q' κ s'->wpAny (model prog w) A' (keyKind' us.toArray) Q' E' s')
    (less:∀i j,i<us.length->j<us.length->i≠j->∀(s':Shared),(∀b o,s.heap.get? b=some o->s'.heap.get? b=some o)->∀{Q':Bool->Shared->Prop},Q' (lt i j) s'->wpAny (model prog w) A.in1.in1 (keyLt' κ (us.getD i Value.none) (us.getD j Value.none)) Q' (fun _ _=>False) s')
    (fin:∀(D:Addr) (out:List Value) (h':Heap) (tk c:Nat),out.length=us.length->Put us lt out->(∀b o,s.heap.get? b=some o->h'.get? b=some o)->s.heap.objs.size<=D->h'.get? D=some (seqObj "list" out.toArray c)->Q (.ref D) { s with heap:=h',toks:=tk }) :
    wpAny (model prog w) A (call (.builtin "sorted") [.ref l]) Q E s:=by
  refine Calls.call_function_entry kind_sorted plain_sorted entry_sorted (args_sorted1 _) ?_
  show wpAny _ _ (Builtin.«sorted» ⟨[.ref l],[]⟩) _ _ _
  unfold Builtin.«sorted»
  refine wpAny_bind (m:=checkCount "sorted" 1 1 _) (wpAny_pure (wpAny_bind (col _ _ fun h1 tk k1 z1=>wpAny_bind (wpAny_newList ?_ (by rw[sizeLine_eq];omega)))))
  have hd:(h1.push (seqObj "list" us.toArray 0)).get? h1.objs.size=some (seqObj "list" us.toArray 0):=Heap.get?_push_size _ rfl
  show wpAny _ _ _ _ _ { s with heap:=h1.push (seqObj "list" us.toArray 0),toks:=tk }
  have k2:∀b o,s.heap.get? b=some o->(h1.push (seqObj "list" us.toArray 0)).get? b=some o:=fun b o e=>Heap.get?_push_of_some _ (k1 b o e)
  have nb:∀b o,s.heap.get? b=some o->b≠h1.objs.size:=fun b o e=>Nat.ne_of_lt (Heap.lt_size (k1 b o e))
  generalize h1.push (seqObj "list" us.toArray 0)=g at hd k2
  have kp:∀b o,s.heap.get? b=some o->(zbh g h1.objs.size us).get? b=some o:=fun b o e=>zmr (nb b o e) (k2 b o e)
  have kd:2<=us.length->∀(Q':SortKind->Shared->Prop) (E':Value->Shared->Prop),Q' κ { s with heap:=zbh g h1.objs.size us,toks:=tk }->wpAny (model prog w) A.in1.in1 (keyKind' us.toArray) Q' E' { s with heap:=zbh g h1.objs.size us,toks:=tk }:=fun two Q' E' q=>kind two { s with heap:=zbh g h1.objs.size us,toks:=tk } kp q
  have ls:∀i j,i<us.length->j<us.length->i≠j->∀(Q':Bool->Shared->Prop),Q' (lt i j) { s with heap:=zbh g h1.objs.size us,toks:=tk }->wpAny (model prog w) A.in1.in1 (keyLt' κ (us.getD i Value.none) (us.getD j Value.none)) Q' (fun _ _=>False) { s with heap:=zbh g h1.objs.size us,toks:=tk }:=fun i j a b n Q' q=>less i j a b n { s with heap:=zbh g h1.objs.size us,toks:=tk } kp q
  refine wpAny_bind (wpAny_holding (wpAny_call_entry slot_list_sort ⟨_,hd,rfl⟩ entry_list_sort (zo6 (s:={ s with heap:=g,toks:=tk }) T hd small kd ls fun out lo po=>⟨_,rfl,?_⟩) (args_list_sort _)))
  obtain⟨c,hc⟩:=sortedHeap_at (out:=out.toArray) hd
  refine wpAny_pure ⟨_,rfl,fin h1.objs.size out _ tk c lo po (fun b o e=>?_) (Nat.le_of_lt z1) hc⟩
  have e2:=k2 b o e
  rw[sortedHeap_old (nb b o e) (Heap.lt_size e2)]
  exact e2
theorem zrg {l:Addr}{us:List Value}(hl:s.heap.IsList l us.toArray) (hz:us.length<=sizeLine):∀(E':Value->Shared->Prop) (Q':List Value->Shared->Prop),(∀h1 tk,(∀b o,s.heap.get? b=some o->h1.get? b=some o)->s.heap.objs.size<h1.objs.size->Q' us { s with heap:=h1,toks:=tk })->wpAny (model prog w) A (collect (.ref l)) Q' E' s:=fun E' Q' q=>by
  refine collect_list hl (q _ s.toks (fun b o e=>?_) ?_) hz
  · rw[Heap.get?_update_other _ _ (Nat.ne_of_gt (Heap.lt_size e))]
    exact Heap.get?_push_of_some _ e
  · rw[Heap.size_update,size_push']
    exact Nat.lt_succ_self _
end
theorem zss:∀{rs us:List Nat},rs.Nodup->(∀x∈rs,x∈us)->rs.length<=us.length
  | [],us,_,_=>Nat.zero_le _
  | a::r,us,hn,hs=>by
    rw[List.nodup_cons] at hn
    have ha:=hs a (by simp)
    have:=zss (rs:=r) (us:=us.erase a) hn.2 fun x hx=>by
      have:x≠a:=fun z=>hn.1 (z▸hx)
      exact (List.mem_erase_of_ne this).mpr (hs x (List.mem_cons_of_mem _ hx))
    rw[List.length_erase_of_mem ha] at this
    have:=List.length_pos_of_mem ha
    rw[List.length_cons]
    omega
abbrev SS:=Str×Str
def ltPP (p q:SS):Bool:=if p.1=q.1 then decide (p.2.cps.toList<q.2.cps.toList) else decide (p.1.cps.toList<q.1.cps.toList)
theorem zud {a b:Str}(h:a.cps.toList=b.cps.toList):a=b:=by
  obtain⟨x⟩:=a
  obtain⟨y⟩:=b
  have:x=y:=Array.toList_inj.mp h
  rw[this]
theorem zwe {a b:Str}(h:a≠b) (n:¬a.cps.toList<b.cps.toList):b.cps.toList<a.cps.toList:=by
  rcases List.le_iff_lt_or_eq.mp (List.not_lt.mp n) with z | z
  · exact z
  · exact absurd (zud z.symm) h
theorem ze2 (p:SS):ltPP p p=false:=by
  unfold ltPP
  rw[if_pos rfl]
  exact decide_eq_false (List.lt_irrefl _)
theorem zo7 {a b c:SS}(h1:ltPP a b=true) (h2:ltPP b c=true):ltPP a c=true:=by
  unfold ltPP at *
  by_cases c1:a.1=b.1
  · rw[if_pos c1] at h1
    by_cases c2:b.1=c.1
    · rw[if_pos c2] at h2
      rw[if_pos (c1.trans c2)]
      exact decide_eq_true (List.lt_trans (of_decide_eq_true h1) (of_decide_eq_true h2))
    · rw[if_neg c2] at h2
      rw[if_neg (fun z=>c2 (c1.symm.trans z)),c1]
      exact h2
  · rw[if_neg c1] at h1
    by_cases c2:b.1=c.1
    · rw[if_neg (fun z=>c1 (z.trans c2.symm)),←c2]
      exact h1
    · rw[if_neg c2] at h2
      have h3:=List.lt_trans (of_decide_eq_true h1) (of_decide_eq_true h2)
      rw[if_neg (fun z=>by rw[z] at h3;exact List.lt_irrefl _ h3)]
      exact decide_eq_true h3
theorem zrh {a b:SS}(ne:a≠b) (h:ltPP a b=false):ltPP b a=true:=by
  unfold ltPP at *
  by_cases c1:a.1=b.1
  · rw[if_pos c1] at h
    rw[if_pos c1.symm]
    exact decide_eq_true (zwe (fun z=>ne (Prod.ext c1 z)) (of_decide_eq_false h))
  · rw[if_neg c1] at h
    rw[if_neg (Ne.symm c1)]
    exact decide_eq_true (zwe c1 (of_decide_eq_false h))
theorem zst {ps:List SS}(nd:ps.Nodup):Tot ps.length fun i j=>ltPP (ps.getD i ("","")) (ps.getD j ("","")):=by
  have e:∀i (h:i<ps.length),ps.getD i ("","")=ps[i]:=fun i h=>by rw[List.getD_eq_getElem?_getD,List.getElem?_eq_getElem h];rfl
  refine⟨fun a _=>ze2 _,fun a b c _ _ _ h1 h2=>zo7 h1 h2,fun a b ha hb n h=>zrh (fun z=>n ?_) h⟩
  rw[e a ha,e b hb] at z
  have pw:=List.pairwise_iff_getElem.mp nd
  rcases Nat.lt_trichotomy a b with c | c | c
  · exact absurd z (pw a b ha hb c)
  · exact c
  · exact absurd z.symm (pw b a hb ha c)
theorem zri {us out:List Value}{lt:Nat->Nat->Bool}{α:Type}(xs:List α) (d:α) (h:Put us lt out) (hl:us.length=xs.length):∃ys:List α,ys.Perm xs/\ys.length=out.length/\(∀i:Nat,i<ys.length->∃j,j<xs.length/\out[i]? = us[j]?/\ys[i]? = xs[j]?)/\
    ∀i j (hi:i<ys.length) (hj:j<ys.length),i<j->∃a b,a<xs.length/\b<xs.length/\ys[i]? = xs[a]?/\ys[j]? = xs[b]?/\lt a b=true:=by
  obtain⟨p,G,A,rfl⟩:=h
  rw[hl] at G A
  have pl:p.toList.length=xs.length:=by rw[Array.length_toList,G.sz]
  have pg:∀i (h:i<xs.length),p.toList[i]? = some (p.getD i 0):=fun i h=>by
    have hi:i<p.size:=by rw[G.sz];exact h
    rw[Array.getElem?_toList,Array.getElem?_eq_getElem hi,Array.getD_eq_getD_getElem?,Array.getElem?_eq_getElem hi]
    rfl
  have pr:p.toList.Perm (List.range xs.length):=by
    rw[List.perm_ext_iff_of_nodup ?_ List.nodup_range]
    · intro a
      rw[List.mem_range]
      constructor
      · intro h
        obtain⟨i,hi⟩:=List.mem_iff_getElem?.mp h
        have hl':=(List.getElem?_eq_some_iff.mp hi).1
        rw[pg i (by omega)] at hi
        cases hi
        exact G.lt i (by omega)
      · intro h
        have inj:p.toList.Nodup:=by
          rw[List.nodup_iff_pairwise_ne,List.pairwise_iff_getElem]
          intro i j hi hj hij z
          have e1:=pg i (by omega)
          have e2:=pg j (by omega)
          rw[List.getElem?_eq_getElem hi] at e1
          rw[List.getElem?_eq_getElem hj] at e2
          have:=G.inj i j (by omega) (by omega) ((Option.some.inj e1).symm.trans (z.trans (Option.some.inj e2)))
          omega
        have sub:∀x∈p.toList,x∈List.range xs.length:=fun x hx=>by
          obtain⟨i,hi⟩:=List.mem_iff_getElem?.mp hx
          have hl':=(List.getElem?_eq_some_iff.mp hi).1
          rw[pg i (by omega)] at hi
          cases hi
          exact List.mem_range.mpr (G.lt i (by omega))
        refine Decidable.byContradiction fun n=>?_
        have:(p.toList).length<=((List.range xs.length).erase a).length:=by
          refine zss inj fun x hx=>?_
          rw[List.Nodup.mem_erase_iff List.nodup_range]
          exact⟨fun z=>n (z▸hx),sub x hx⟩
        rw[List.length_erase_of_mem (List.mem_range.mpr h),List.length_range,pl] at this
        omega
    · rw[List.nodup_iff_pairwise_ne,List.pairwise_iff_getElem]
      intro i j hi hj hij z
      have e1:=pg i (by omega)
      have e2:=pg j (by omega)
      rw[List.getElem?_eq_getElem hi] at e1
      rw[List.getElem?_eq_getElem hj] at e2
      have:=G.inj i j (by omega) (by omega) ((Option.some.inj e1).symm.trans (z.trans (Option.some.inj e2)))
      omega
  have ex:xs=(List.range xs.length).map fun i=>xs.getD i d:=by
    apply List.ext_getElem?
    intro i
    by_cases hi:i<xs.length
    · simp[hi]
    · simp[Nat.le_of_not_lt hi]
  refine⟨p.toList.map fun i=>xs.getD i d,?_,by rw[List.length_map,List.length_map],fun i hi=>?_,fun i j hi hj hij=>?_⟩
  · have:=pr.map fun i=>xs.getD i d
    rw[←ex] at this
    exact this
  · rw[List.length_map] at hi
    have hlt:=G.lt i (by omega)
    refine⟨p.getD i 0,hlt,?_,?_⟩
    · rw[List.getElem?_map,pg i (by omega)]
      show some (us.getD _ _)=_
      rw[List.getD_eq_getElem?_getD,List.getElem?_eq_getElem (show p.getD i 0<us.length by omega)]
      rfl
    · rw[List.getElem?_map,pg i (by omega)]
      show some (xs.getD _ _)=_
      rw[List.getD_eq_getElem?_getD,List.getElem?_eq_getElem hlt]
      rfl
  · rw[List.length_map] at hi hj
    have h1:=G.lt i (by omega)
    have h2:=G.lt j (by omega)
    refine⟨p.getD i 0,p.getD j 0,h1,h2,?_,?_,A i j hij (by omega)⟩
    · rw[List.getElem?_map,pg i (by omega)]
      show some (xs.getD _ _)=_
      rw[List.getD_eq_getElem?_getD,List.getElem?_eq_getElem h1]
      rfl
    · rw[List.getElem?_map,pg j (by omega)]
      show some (xs.getD _ _)=_
      rw[List.getD_eq_getElem?_getD,List.getElem?_eq_getElem h2]
      rfl
section
variable {prog:Program}{w:World}{A:Around}{E:Value->Shared->Prop}{s:Shared}
def TupSS (h:Heap) (v:Value) (p:SS):Prop:=∃a t u,v = .ref a/\IsTup h a #[.str p.1 t,.str p.2 u]
theorem TupSS.kept {h h':Heap}{v:Value}{p:SS}(t:TupSS h v p) (k:∀b o,h.get? b=some o->h'.get? b=some o):TupSS h' v p:=by
  obtain⟨a,x,y,rfl,o,ho,hc,n,hd⟩:=t
  exact⟨a,x,y,rfl,o,k a o ho,hc,n,hd⟩
theorem zo8 {v1 v2:Value}{p q:SS}{Q:Bool->Shared->Prop}(h1:TupSS s.heap v1 p) (h2:TupSS s.heap v2 q) (h:Q (ltPP p q) s):wpAny (model prog w) A (keyLt' (tuples' true) v1 v2) Q (fun _ _=>False) s:=by
  obtain⟨a,t1,u1,rfl,oa,hoa,_,na,hda⟩:=h1
  obtain⟨b,t2,u2,rfl,ob,hob,_,nb,hdb⟩:=h2
  refine kat_lt hoa hda hob hdb ?_
  show KatLex prog w A true false Q [(Value.str p.1 t1,Value.str q.1 t2),(Value.str p.2 u1,Value.str q.2 u2)] 0 s
  refine kat_cons (wpAny_eqBool_str ?_)
  unfold ltPP at h
  by_cases c:p.1=q.1
  · rw[decide_eq_true c]
    rw[if_pos c] at h
    refine kat_yes (kat_cons (wpAny_eqBool_str ?_))
    by_cases c2:p.2=q.2
    · rw[decide_eq_true c2]
      refine kat_yes (kat_nil ?_)
      rw[c2,decide_eq_false (List.lt_irrefl _)] at h
      exact h
    · rw[decide_eq_false c2]
      refine kat_no ?_
      show wpAny _ _ (oneLt' false (Value.str p.2 u1) (Value.str q.2 u2)) _ _ _
      exact kat_one _ _ (lt_str h)
  · rw[decide_eq_false c]
    rw[if_neg c] at h
    refine kat_no ?_
    show wpAny _ _ (oneLt' true (Value.str p.1 t1) (Value.str q.1 t2)) _ _ _
    exact oneLt_str h
theorem zo9 {vs:List Value}{ps:List SS}{Q:SortKind->Shared->Prop}(h:Paired (TupSS s.heap) vs ps) (hne:0<ps.length) (q:Q (tuples' true) s):wpAny (model prog w) A (keyKind' vs.toArray) Q E s:=by
  obtain⟨fs,kt,hl,hf⟩:∃fs,KatTups s.heap vs fs/\fs.length=ps.length/\∀v∈fs,∃x t,v=Value.str x t:=by
    clear hne
    induction h with
    | nil=>exact⟨[],.nil,rfl,by simp⟩
    | cons h _ ih=>
      obtain⟨fs,k,l,f⟩:=ih
      obtain⟨a,t,u,rfl,o,ho,hc,n,hd⟩:=h
      refine⟨_::fs,.cons ho hc hd rfl k,by simp[l],fun v hv=>?_⟩
      rcases List.mem_cons.mp hv with rfl | hv
      · exact⟨_,_,rfl⟩
      · exact f v hv
  refine kat_kind (T:=.type "str") kt (by omega) (fun v hv=>?_) rfl q
  obtain⟨x,t,rfl⟩:=hf v hv
  exact Looks.now
end
theorem zby {α β:Type}{F:α->β->Prop}:∀{as:List α}{bs:List β},as.length=bs.length->(∀(i:Nat) a b,as[i]? = some a->bs[i]? = some b->F a b)->Paired F as bs
  | [],[],_,_=>.nil
  | [],_::_,h,_=>by simp at h
  | _::_,[],h,_=>by simp at h
  | a::as,b::bs,h,k=>.cons (k 0 a b rfl rfl) (zby (by simpa using h) fun i a b e1 e2=>k (i+1) a b (by simpa using e1) (by simpa using e2))
theorem zpa {us out:List Value}{lt:Nat->Nat->Bool}{α:Type}(as:List Addr) (xs:List α) (d:α) (hv:Vals (as.map V.ref) us) (h:Put us lt out) (la:as.length=xs.length) :
    ∃(bs:List Addr) (ys:List α),Vals (bs.map V.ref) out/\bs.length=ys.length/\ys.Perm xs/\(∀(i:Nat) b y,bs[i]? = some b->ys[i]? = some y->∃j:Nat,as[j]? = some b/\xs[j]? = some y)/\ys.Pairwise (fun y z=>∃(a b:Nat),xs[a]? = some y/\xs[b]? = some z/\lt a b=true):=by
  have lu:us.length=(as.zip xs).length:=by
    have:=hv.length
    rw[List.length_map] at this
    rw[List.length_zip]
    omega
  obtain⟨zs,pm,lz,at',up⟩:=zri (as.zip xs) (0,d) h lu
  have sn:(as.zip xs).map Prod.snd=xs:=List.map_snd_zip (by omega)
  refine⟨zs.map Prod.fst,zs.map Prod.snd,?_,by rw[List.length_map,List.length_map],by have:=pm.map Prod.snd;rwa [sn] at this,fun i b y e1 e2=>?_,?_⟩
  · refine zby (by rw[List.length_map,List.length_map,lz]) fun i x v e1 e2=>?_
    rw[List.getElem?_map,List.getElem?_map] at e1
    cases ez:zs[i]? with
    | none=>rw[ez] at e1;cases e1
    | some z=>
      rw[ez] at e1
      cases e1
      obtain⟨j,hj,o1,o2⟩:=at' i (List.getElem?_eq_some_iff.mp ez).1
      rw[ez] at o2
      rw[e2] at o1
      obtain⟨h1,h2⟩:=List.getElem?_zip_eq_some.mp o2.symm
      obtain⟨v',e3,r⟩:=hv.get (i:=j) (x:=V.ref z.1) (by rw[List.getElem?_map,h1];rfl)
      rw[←o1] at e3
      cases e3
      exact r
  · rw[List.getElem?_map] at e1 e2
    cases ez:zs[i]? with
    | none=>rw[ez] at e1;cases e1
    | some z=>
      rw[ez] at e1 e2
      cases e1
      cases e2
      obtain⟨j,hj,_,o2⟩:=at' i (List.getElem?_eq_some_iff.mp ez).1
      rw[ez] at o2
      exact⟨j,List.getElem?_zip_eq_some.mp o2.symm⟩
  · rw[List.pairwise_iff_getElem]
    intro i j hi hj hij
    rw[List.length_map] at hi hj
    obtain⟨a,b,ha,hb,e1,e2,l⟩:=up i j hi hj hij
    refine⟨a,b,?_,?_,l⟩
    · rw[List.getElem?_eq_getElem hi] at e1
      have:=(List.getElem?_zip_eq_some.mp e1.symm).2
      rw[List.getElem_map]
      exact this
    · rw[List.getElem?_eq_getElem hj] at e2
      have:=(List.getElem?_zip_eq_some.mp e2.symm).2
      rw[List.getElem_map]
      exact this
section
variable {X:Cx}
theorem Inv.tupSS {pins:List (Addr×Obj)}{σ:St}{H:Hp}{s:Shared}{K:PySem.W.Frag}(hK:X.K=K) (I:Inv X pins σ H s) {a:Addr}{p:SS}(t:SqT K H a [.str p.1,.str p.2]):TupSS s.heap (.ref a) p:=by
  subst hK
  obtain⟨ts,rt,it,_⟩:=I.tuple t
  obtain⟨u1,u2,rfl,⟨t1,rfl⟩,⟨t2,rfl⟩⟩:=zqi rt
  exact⟨a,t1,t2,rfl,it⟩
theorem zjb {K:PySem.W.Frag}(h:X.K=K):zcb X (.builtin "sorted") (fun xs H Q=>∃(l:Addr) (as:List Addr) (ps:List SS),xs = [V.ref l]/\SqL K H l (as.map V.ref)/\Paired (fun a (p:SS)=>SqT K H a [.str p.1,.str p.2]) as ps/\ps.Nodup/\ps.length<64/\
    ∀(D:Addr) (bs:List Addr) (qs:List SS),H D=none->Paired (fun a (p:SS)=>SqT K H a [.str p.1,.str p.2]) bs qs->qs.Perm ps->qs.Pairwise (fun a b=>ltPP a b=true)->Q (.ref D) (upd H D (.lst (bs.map V.ref)))):=by
  subst h
  intro pins s σ H xs us Q I r h
  obtain⟨l,as,ps,rfl,hl,pr,nd,h64,q⟩:=h
  obtain⟨u,rfl,ru⟩:=zbs r
  cases ru
  obtain⟨its,rv,pl,hz⟩:=I.list hl
  have len:=rv.length
  rw[List.length_map] at len
  have lp:as.length=ps.length:=Paired.length pr
  have lip:its.length=ps.length:=by omega
  have hT:Paired (TupSS s.heap) its ps:=zby lip fun i v p e1 e2=>by
    have hi:i<as.length:=by have:=(List.getElem?_eq_some_iff.mp e1).1;omega
    obtain⟨w',e3,r'⟩:=rv.get (i:=i) (x:=V.ref as[i]) (by simp[hi])
    rw[e1] at e3
    cases e3
    cases r'
    exact I.tupSS rfl (zbx pr (List.getElem?_eq_getElem hi) e2)
  have T:=zst nd
  rw[←lip] at T
  have gd:∀i (h:i<ps.length),ps[i]? = some (ps.getD i ("","")):=fun i h=>by rw[List.getD_eq_getElem?_getD,List.getElem?_eq_getElem h];rfl
  have gi:∀i (h:i<its.length),its[i]? = some (its.getD i Value.none):=fun i h=>by rw[List.getD_eq_getElem?_getD,List.getElem?_eq_getElem h];rfl
  refine zja (κ:=tuples' true) T (by omega) (zrg pl.isList (by rw[sizeLine_eq];omega)) (fun two s' kp _ _ Q' q'=>zo9 (Paired.mapP hT fun v p t=>t.kept kp) (by omega) q') (fun i j hi hj n s' kp Q' q'=>zo8 ((zbx hT (gi i hi) (gd i (by omega))).kept kp) ((zbx hT (gi j hj) (gd j (by omega))).kept kp) q') fun D out h' tk c lo po kp hD hg=>?_
  obtain⟨bs,ys,vb,lb,pm,ab,up⟩:=zpa as ps ("","") rv po lp
  have hn:H D=none:=I.hok.fresh hD
  refine⟨.ref D,_,I.laid (t':=tk) (h':=h') (a:=D) (o:=.lst (bs.map V.ref)) kp hD ⟨?_,out,c,vb,by rw[hg]⟩,rfl,q D bs ys hn ?_ pm (up.imp fun ⟨a,b,e1,e2,l⟩=>?_)⟩
  · rw[List.length_map,lb,pm.length_eq,sizeLine_eq];omega
  · refine zby lb fun i b y e1 e2=>?_
    obtain⟨j,h1,h2⟩:=ab i b y e1 e2
    exact zbx pr h1 h2
  · rw[List.getD_eq_getElem?_getD,List.getD_eq_getElem?_getD,e1,e2] at l
    exact l
end
end L2
namespace L2
open PySem PySem.Spec PyProof.Rows
section
variable {X:Cx}
theorem zpb:MtM X "dict.update" (fun x vs H Q=>∃(d o:Addr) (kvs more:List (Key×V)),x = .ref d/\vs = [.ref o]/\d≠o/\H d=some (.dK kvs)/\Rd H o (.dK more)/\kvs.length+more.length<=1000/\Q .non (upd H d (.dK (zgh kvs more)))):=by
  intro pins s σ H x vs v us Q I rx rv h
  obtain⟨d,o,kvs,more,rfl,rfl,ne,hd,ho,hz,q⟩:=h
  cases rx
  obtain⟨u,rfl,ru⟩:=zbs rv
  cases ru
  obtain⟨z1,y1,vs1,r1,d1⟩:=ztj I.hok hd
  obtain⟨z2,y2,vs2,r2,d2⟩:=zij I.hok ho
  have hs:sizeLine=16777216:=sizeLine_eq
  refine call_meetsIn PySem.F.slot_dict_update d1.typeIs PySem.F.entry_dict_update (PySem.F.args_dict_update_2 _ _) (meets_dict_update (za7 X.prog X.w) d o ne y2) ⟨vs1,vs2,d1,d2,by rw[←r1.length,←r2.length];omega,fun h' dd' _ sb=>?_⟩
  have he:∃q,h'.get? d=some q:=let ⟨q,_,_,hq,_⟩:=dd';⟨q,hq⟩
  have ml:=zdt more kvs
  exact⟨.non,_,zg3 (t':=s.toks) I (by rw[hd];exact True.intro) sb he (zn1 (by omega) y1 (KV.merge r2 r1) dd'),rfl,q⟩
theorem zpc (K:PySem.W.Frag) (hK:X.K=K) (hc:X.calm=true):zcb X (.builtin "any") (fun xs H Q=>∃(a:Addr) (bs:List Bool),xs = [V.ref a]/\SqL K H a (bs.map V.bl)/\Q (.bl (bs.any id)) H):=by
  subst hK
  intro pins s σ H xs us Q I r h
  obtain⟨a,bs,rfl,ha,q⟩:=h
  obtain⟨u,rfl,ru⟩:=zbs r
  cases ru
  obtain⟨its,rv,pl,hz⟩:=I.list ha
  have e:its=bs.map Value.bool:=zdi rv
  subst e
  have hl:=pl.isList
  have hlt:a<s.heap.objs.size:=by obtain⟨_,e,_⟩:=hl;exact Heap.lt_size e
  refine call_any_walk (wpAny_pyIter_list hl ?_)
  refine⟨s.heap.objs.size,[s.heap.objs.size,a],[s.heap.objs.size],(bs.map Value.bool).toArray.size,_,_,fun i=>(bs[i]?).getD false,rfl,Walks.list (A:=X.A.in1) (I.ok.hd hc) _ a (Nat.ne_of_lt hlt) (bs.map Value.bool).toArray,
    ⟨⟨_,Heap.get?_push_size _ rfl,rfl,rfl⟩,hl.push _⟩,fun i v s' Q' E' hP hQ=>?_,fun h' tk hk=>?_⟩
  · have hP':(bs.map Value.bool)[i]? = some v:=by simpa using hP
    rw[List.getElem?_map] at hP'
    cases e:bs[i]? with
    | none=>rw[e] at hP';cases hP'
    | some b=>
      rw[e] at hP'
      cases hP'
      simp only [e,Option.getD_some] at hQ
      exact wpAny_truthy_bool hQ
  · have e:((List.range (bs.map Value.bool).toArray.size).any fun i=>(bs[i]?).getD false)=bs.any id:=by
      rw[Bool.eq_iff_iff,List.any_eq_true,List.any_eq_true]
      have z:(bs.map Value.bool).toArray.size=bs.length:=by simp
      rw[z]
      constructor
      · rintro ⟨i,hi,h⟩
        have hi:=List.mem_range.mp hi
        rw[List.getElem?_eq_getElem hi] at h
        exact⟨bs[i],List.getElem_mem hi,h⟩
      · rintro ⟨b,hb,h⟩
        obtain⟨i,hi,rfl⟩:=List.mem_iff_getElem.mp hb
        refine⟨i,List.mem_range.mpr hi,?_⟩
        rw[List.getElem?_eq_getElem hi]
        exact h
    rw[e]
    refine⟨.bl (bs.any id),H,I.kept fun b o q'=>?_,rfl,q⟩
    have hb:=Heap.lt_size q'
    exact hk b o (fun z=>absurd (List.mem_singleton.mp z) (Nat.ne_of_lt hb)) (Heap.get?_push_of_some _ q')
inductive Frzs (ts:TS) (D:Ends) (σ:St):Hp->Prop
  | go {H:Hp}(h:ts D σ H):Frzs ts D σ H
  | frz {H:Hp}(a:Addr) (kvs:List (Key×V)) (ha:H a=some (.dK kvs)) (k:∀ob,Frzs ts D σ (upd H a (.frz ob (.dK kvs)))):Frzs ts D σ H
def zxd (ts:TS):TS:=fun D σ H=>Frzs ts D σ H
theorem zue {st:Stmt}{ts:TS}(h:PS X st ts):PS X st (zxd ts):=by
  intro pins s σ H D I q
  have go:∀{H:Hp},Frzs ts D σ H->Inv X pins σ H s->wpAny (model X.prog X.w) X.A (exec st X.env) (SP X pins D) X.xe s:=fun q=>by
    induction q with
    | go q=>intro I;exact h pins s σ _ D I q
    | frz a kvs ha k ih=>
      intro I
      obtain⟨ob,I'⟩:=I.frozen ha
      exact ih ob I'
  exact go q I
theorem zhh {K:PySem.W.Frag}(hK:X.K=K) (hc:X.calm=true):zcb X (.builtin "sorted") (fun xs H Q=>∃(p:Addr) (kvs:List (List Key×V)) (ps:List SS),xs = [V.ref p]/\Rd H p (.dT kvs)/\(kvs.map fun kv=>kv.1)=ps.map (fun q=>[Sum.inr q.1,Sum.inr q.2])/\ps.Nodup/\ps.length<64/\
    ∀(D:Addr) (bs:List Addr) (qs:List SS),H D=none->Paired (fun a (p:SS)=>H a=some (.tup [.str p.1,.str p.2])) bs qs->qs.Perm ps->qs.Pairwise (fun a b=>ltPP a b=true)->Q (.ref D) (upd H D (.lst (bs.map V.ref)))):=by
  subst hK
  intro pins s σ H xs us Q I r h
  obtain⟨p,kvs,ps,rfl,hp,hk,nd,h64,q⟩:=h
  obtain⟨u,rfl,ru⟩:=zbs r
  cases ru
  obtain⟨z,hd,xs,rel,o,es,ep,h1,h2,h3,h4,h5⟩:=(show ObjOk X.prog X.w H s.heap p (.dT kvs) from zti I.hok hp)
  have lkx:kvs.length=xs.length:=Paired.length rel
  have lkp:kvs.length=ps.length:=by have:=congrArg List.length hk;simpa using this
  have les:es.size=xs.length:=by
    have:=congrArg List.length h4
    rw[Array.length_toList,List.length_map] at this
    exact this
  have ekeys:es.toList.map (·.key)=xs.map fun x=>Value.ref x.2.1:=by
    rw[h4,List.map_map]
    rfl
  have atx:∀i,i<ps.length->∃x,xs[i]? = some x/\∃q,ps[i]? = some q/\H x.2.1=some (.tup [.str q.1,.str q.2]):=fun i hi=>by
    have hx:i<xs.length:=by omega
    have hkv:i<kvs.length:=by omega
    refine⟨xs[i],List.getElem?_eq_getElem hx,ps[i],List.getElem?_eq_getElem hi,?_⟩
    have f:=zbx rel (List.getElem?_eq_getElem hkv) (List.getElem?_eq_getElem hx)
    have e:(kvs.map fun kv=>kv.1)[i]? = some [Sum.inr ps[i].1,Sum.inr ps[i].2]:=by rw[hk,List.getElem?_map,List.getElem?_eq_getElem hi];rfl
    rw[List.getElem?_map,List.getElem?_eq_getElem hkv] at e
    have e:kvs[i].1 = [Sum.inr ps[i].1,Sum.inr ps[i].2]:=Option.some.inj e
    have:=f.2.1
    rw[e] at this
    exact this
  have rv:Vals ((xs.map fun x=>x.2.1).map V.ref) (xs.map fun x=>Value.ref x.2.1):=zby (by simp) fun i a b e1 e2=>by
    rw[List.getElem?_map,List.getElem?_map] at e1
    rw[List.getElem?_map] at e2
    cases ex:xs[i]? with
    | none=>rw[ex] at e1;cases e1
    | some x=>
      rw[ex] at e1 e2
      cases e1
      cases e2
      rfl
  have hT:Paired (TupSS s.heap) (xs.map fun x=>Value.ref x.2.1) ps:=zby (by rw[List.length_map];omega) fun i v p e1 e2=>by
    obtain⟨x,ex,q',eq,hx⟩:=atx i (by have:=(List.getElem?_eq_some_iff.mp e2).1;exact this)
    rw[List.getElem?_map,ex] at e1
    cases e1
    rw[e2] at eq
    cases eq
    exact I.tupSS rfl (SqT.of hx)
  have li:(xs.map fun x=>Value.ref x.2.1).length=ps.length:=by rw[List.length_map];omega
  have T:=zst nd
  rw[←li] at T
  have gd:∀i (h:i<ps.length),ps[i]? = some (ps.getD i ("","")):=fun i h=>by rw[List.getD_eq_getElem?_getD,List.getElem?_eq_getElem h];rfl
  have gi:∀i (h:i<(xs.map fun x=>Value.ref x.2.1).length),(xs.map fun x=>Value.ref x.2.1)[i]? = some ((xs.map fun x=>Value.ref x.2.1).getD i Value.none):=fun i h=>by rw[List.getD_eq_getElem?_getD,List.getElem?_eq_getElem h];rfl
  have col:∀(E':Value->Shared->Prop) (Q':List Value->Shared->Prop),(∀h1 tk,(∀b o,s.heap.get? b=some o->h1.get? b=some o)->s.heap.objs.size<h1.objs.size->Q' (xs.map fun x=>Value.ref x.2.1) { s with heap:=h1,toks:=tk })->wpAny (model X.prog X.w) X.A.in1 (collect (.ref p)) Q' E' s:=fun E' Q' q'=>by
    refine zi8 (A:=X.A.in1) (I.ok.hd hc) hd ⟨o,h1,h2,h3⟩ (by rw[sizeLine_eq];omega) fun h1 tk k sz=>?_
    rw[ekeys]
    exact q' h1 tk k sz
  refine zja (κ:=tuples' true) T (by omega) col (fun two s' kp _ _ Q' q'=>zo9 (Paired.mapP hT fun v p t=>t.kept kp) (by omega) q') (fun i j hi hj n s' kp Q' q'=>zo8 ((zbx hT (gi i hi) (gd i (by omega))).kept kp) ((zbx hT (gi j hj) (gd j (by omega))).kept kp) q') fun D out h' tk c lo po kp hD hg=>?_
  obtain⟨bs,ys,vb,lb,pm,ab,up⟩:=zpa (xs.map fun x=>x.2.1) ps ("","") rv po (by rw[List.length_map];omega)
  have hn:H D=none:=I.hok.fresh hD
  refine⟨.ref D,_,I.laid (t':=tk) (h':=h') (a:=D) (o:=.lst (bs.map V.ref)) kp hD ⟨?_,out,c,vb,by rw[hg]⟩,rfl,q D bs ys hn ?_ pm (up.imp fun ⟨a,b,e1,e2,l⟩=>?_)⟩
  · rw[List.length_map,lb,pm.length_eq,sizeLine_eq];omega
  · refine zby lb fun i b y e1 e2=>?_
    obtain⟨j,g1,g2⟩:=ab i b y e1 e2
    obtain⟨x,ex,q',eq,hx⟩:=atx j (by exact (List.getElem?_eq_some_iff.mp g2).1)
    rw[List.getElem?_map,ex] at g1
    cases g1
    rw[g2] at eq
    cases eq
    exact hx
  · rw[List.getD_eq_getElem?_getD,List.getD_eq_getElem?_getD,e1,e2] at l
    exact l
end
end L2
namespace Dm
open PySem PySem.NumText L2
theorem Rc.refl {ln:Ln}{s:Str}:Rc ln s 0 s:=⟨[],.nil,rfl⟩
theorem zpd {ln:Ln}{s:Str}:∀{n:Nat}{v:Str},Rc ln s (n+1) v->∃l r,(l,r)∈ln s/\Rc ln l n v
  | 0,v,h=>by
    obtain⟨u,r,h1,h2⟩:=h.succ
    have:=h1.zero
    subst this
    exact⟨v,r,h2,Rc.refl⟩
  | n+1,v,h=>by
    obtain⟨u,r,h1,h2⟩:=h.succ
    obtain⟨l,r',h3,h4⟩:=zpd h1
    exact⟨l,r',h3,h4.step h2⟩
theorem zpe {ln:Ln}{s l:Str}{r:Addr}(h:(l,r)∈ln s):∀{n:Nat}{v:Str},Rc ln l n v->Rc ln s (n+1) v
  | 0,v,q=>by
    have:=q.zero
    subst this
    exact Rc.refl.step h
  | n+1,v,q=>by
    obtain⟨u,r',h1,h2⟩:=q.succ
    exact (zpe h h1).step h2
def Bel (ln:Ln) (x y:Str):Prop:=∃j,1<=j/\Rc ln x j y
theorem bel_iff {ln:Ln}{x y:Str}:Bel ln x y↔∃l r,(l,r)∈ln x/\(l=y\/Bel ln l y):=by
  constructor
  · rintro ⟨j,h1,h⟩
    obtain⟨n,rfl⟩:∃n,j=n+1:=⟨j-1,by omega⟩
    obtain⟨l,r,h2,h3⟩:=zpd h
    refine⟨l,r,h2,?_⟩
    cases n with
    | zero=>exact .inl h3.zero.symm
    | succ n=>exact .inr ⟨n+1,by omega,h3⟩
  · rintro ⟨l,r,h,rfl | ⟨j,h1,h2⟩⟩
    · exact⟨1,by omega,Rc.refl.step h⟩
    · exact⟨j+1,by omega,zpe h h2⟩
theorem Rc.inKeys {ln:Ln}{keys:List Str}(cl:∀k∈keys,∀l r,(l,r)∈ln k->l∈keys) {x:Str}(hx:x∈keys):∀{j:Nat}{y:Str},Rc ln x j y->y∈keys
  | 0,y,h=>by have:=h.zero;subst this;exact hx
  | j+1,y,h=>by
    obtain⟨u,r,h1,h2⟩:=h.succ
    exact cl u (Rc.inKeys cl hx h1) y r h2
def putS {α:Type} [DecidableEq α] (M:List α) (x:α):List α:=if x∈M then M else M++[x]
theorem zhi {α:Type} [DecidableEq α] {M:List α}{x y:α}:y∈putS M x↔y∈M\/y=x:=by
  unfold putS
  split
  · next h=>
    constructor
    · exact .inl
    · rintro (z | rfl)
      · exact z
      · exact h
  · rw[List.mem_append,List.mem_singleton]
theorem zeh {α:Type} [DecidableEq α] {M:List α}{x:α}(h:M.Nodup):(putS M x).Nodup:=by
  unfold putS
  split
  · exact h
  · next n=>
    rw[List.nodup_append]
    refine⟨h,by simp,fun a ha b hb e=>?_⟩
    have:b=x:=by simpa using hb
    subst this
    subst e
    exact n ha
def mrg (M M2:List Str):List Str:=M2.foldl putS M
theorem zpf {y:Str}:∀{M2 M:List Str},y∈mrg M M2↔y∈M\/y∈M2
  | [],M=>by simp[mrg]
  | x::r,M=>by
    show y∈mrg (putS M x) r↔_
    rw[zpf,zhi,List.mem_cons,or_assoc]
theorem zjc:∀{M2 M:List Str},M.Nodup->(mrg M M2).Nodup
  | [],_,h=>h
  | x::r,M,h=>zjc (M2:=r) (M:=putS M x) (zeh h)
theorem zpg {M:List Str}{x:Str}:putK (dV M tru) (Sum.inr x) (.bl true)=dV (putS M x) tru:=by
  unfold putS
  split
  · next h=>
    rw[zv7 h]
    refine zc9 fun z _=>?_
    split<;>rfl
  · next h=>exact zox h
theorem zsu:∀{M2 M:List Str},zgh (dV M tru) (dV M2 tru)=dV (mrg M M2) tru
  | [],M=>rfl
  | x::r,M=>by
    show zgh (putK (dV M tru) (Sum.inr x) (.bl true)) (dV r tru)=_
    rw[zpg,zsu]
    rfl
theorem zjd {α:Type} [DecidableEq α]:∀{rs us:List α},rs.Nodup->(∀x∈rs,x∈us)->rs.length<=us.length
  | [],us,_,_=>Nat.zero_le _
  | a::r,us,hn,hs=>by
    rw[List.nodup_cons] at hn
    have ha:=hs a (by simp)
    have:=zjd (rs:=r) (us:=us.erase a) hn.2 fun x hx=>by
      have:x≠a:=fun z=>hn.1 (z▸hx)
      exact (List.mem_erase_of_ne this).mpr (hs x (List.mem_cons_of_mem _ hx))
    rw[List.length_erase_of_mem ha] at this
    have:=List.length_pos_of_mem ha
    rw[List.length_cons]
    omega
structure Dp (H:Hp) (pd:Addr) (ob:Obj) (os:List Str) (bel:Str->List Str) (ad:Str->Addr) (obs:Str->Obj):Prop where
  d:H pd=some (.frz ob (.dK (dV os fun k=>.ref (ad k))))
  e:∀k∈os,H (ad k)=some (.frz (obs k) (.dK (dV (bel k) tru)))
theorem Dp.same {H H':Hp}{pd:Addr}{ob:Obj}{os:List Str}{bel:Str->List Str}{ad:Str->Addr}{obs:Str->Obj}(h:Dp H pd ob os bel ad obs) (s:Same H H'):Dp H' pd ob os bel ad obs:=⟨s _ _ h.d,fun k hk=>s _ _ (h.e k hk)⟩
theorem zwf {H:Hp}{a:Addr}{ob:Obj}{M:List Str}(h:H a=some (.frz ob (.dK (dV M tru)))) (y:Str):DGet H a (.str y) (if y∈M then some (.bl true) else none):=by
  refine .inl ⟨_,Sum.inr y,.inr ⟨ob,h⟩,rfl,?_⟩
  by_cases c:y∈M
  · rw[if_pos c,zcn c];rfl
  · rw[if_neg c,zfm c]
theorem zph {ts:TS}{D:Ends}{σ:St}{ad:Str->Addr}{f:Str->List (Key×V)}:∀(L:List Str) (H:Hp),(∀k∈L,H (ad k)=some (.dK (f k)))->(∀k∈L,∀k'∈L,ad k=ad k'->k=k')->L.Nodup->
    (∀(H':Hp) (obs:Str->Obj),(∀k∈L,H' (ad k)=some (.frz (obs k) (.dK (f k))))->(∀b,(∀k∈L,b≠ad k)->H' b=H b)->Frzs ts D σ H')->Frzs ts D σ H
  | [],H,_,_,_,k=>k H (fun _=>default) (by simp) fun b _=>rfl
  | x::r,H,h,inj,nd,k=>by
    rw[List.nodup_cons] at nd
    have ne:∀z∈r,ad z≠ad x:=fun z hz e=>nd.1 ((inj z (List.mem_cons_of_mem _ hz) x (by simp) e)▸hz)
    refine .frz (ad x) (f x) (h x (by simp)) fun ob=>?_
    refine zph r _ (fun z hz=>by rw[zf (ne z hz)];exact h z (List.mem_cons_of_mem _ hz)) (fun a ha b hb=>inj a (List.mem_cons_of_mem _ ha) b (List.mem_cons_of_mem _ hb)) nd.2 fun H' obs h1 h2=>?_
    refine k H' (fun z=>if z=x then ob else obs z) (fun z hz=>?_) fun b hb=>?_
    · by_cases c:z=x
      · subst c
        rw[if_pos rfl,h2 (ad z) fun w hw=>Ne.symm (ne w hw),zb]
      · rw[if_neg c]
        exact h1 z ((List.mem_cons.mp hz).resolve_left c)
    · rw[h2 b fun w hw=>hb w (List.mem_cons_of_mem _ hw),zf (hb x (by simp))]
def Drn (ln:Ln) (keys:List Str) (p:SS):Prop:=p.1∈keys/\(∃r,(p.2,r)∈ln p.1)/\¬∃t,Bel ln p.1 t/\Bel ln t p.2
def dP (ps:List SS):List (List Key×V):=ps.map fun p=>([Sum.inr p.1,Sum.inr p.2],V.bl true)
theorem zwg (ps:List SS):((dP ps).map fun kv=>kv.1)=ps.map fun q=>[Sum.inr q.1,Sum.inr q.2]:=by unfold dP;rw[List.map_map];rfl
theorem zwh {ps:List SS}{p:SS}:putK (dP ps) [Sum.inr p.1,Sum.inr p.2] (.bl true)=dP (putS ps p):=by
  have inj:∀a b:SS,([Sum.inr a.1,Sum.inr a.2]:List Key) = [Sum.inr b.1,Sum.inr b.2]↔a=b:=fun a b=>by
    constructor
    · intro h
      simp only [List.cons.injEq,Sum.inr.injEq,and_true] at h
      exact Prod.ext h.1 h.2
    · rintro rfl;rfl
  have any:((dP ps).any fun kv=>decide (kv.1 = [Sum.inr p.1,Sum.inr p.2]))=decide (p∈ps):=by
    rw[Bool.eq_iff_iff,List.any_eq_true,decide_eq_true_iff]
    unfold dP
    constructor
    · rintro ⟨x,hx,e⟩
      obtain⟨q,hq,rfl⟩:=List.mem_map.mp hx
      exact ((inj q p).mp (of_decide_eq_true e))▸hq
    · intro h
      exact⟨_,List.mem_map.mpr ⟨p,h,rfl⟩,decide_eq_true rfl⟩
  unfold putK putS
  rw[any]
  by_cases c:p∈ps
  · rw[if_pos (decide_eq_true c),if_pos c]
    unfold dP
    rw[List.map_map]
    refine List.map_congr_left fun q _=>?_
    show (if ([Sum.inr q.1,Sum.inr q.2]:List Key) = [Sum.inr p.1,Sum.inr p.2] then _ else _)=_
    split<;>rfl
  · rw[if_neg (by rw[decide_eq_false c];exact Bool.false_ne_true),if_neg c]
    unfold dP
    rw[List.map_append]
    rfl
theorem zje:∀{a b:List SS},a.Pairwise (fun x y=>ltPP x y=true)->b.Pairwise (fun x y=>ltPP x y=true)->(∀x,x∈a↔x∈b)->a=b
  | [],[],_,_,_=>rfl
  | [],y::b,_,_,h=>by have:=(h y).mpr (by simp);cases this
  | x::a,[],_,_,h=>by have:=(h x).mp (by simp);cases this
  | x::a,y::b,ha,hb,h=>by
    rw[List.pairwise_cons] at ha hb
    have asym:∀{p q:SS},ltPP p q=true->ltPP q p=true->False:=fun h1 h2=>by
      have:=zo7 h1 h2
      rw[ze2] at this
      cases this
    have e:x=y:=by
      rcases List.mem_cons.mp ((h x).mp (by simp)) with z | z
      · exact z
      · rcases List.mem_cons.mp ((h y).mpr (by simp)) with w | w
        · exact w.symm
        · exact (asym (ha.1 y w) (hb.1 x z)).elim
    subst e
    have:a=b:=zje ha.2 hb.2 fun z=>by
      have:=h z
      rw[List.mem_cons,List.mem_cons] at this
      constructor
      · intro hz
        rcases this.mp (.inr hz) with rfl | w
        · have:=ha.1 z hz
          rw[ze2] at this
          cases this
        · exact w
      · intro hz
        rcases this.mpr (.inr hz) with rfl | w
        · have:=hb.1 z hz
          rw[ze2] at this
          cases this
        · exact w
    rw[this]
def ssV (p:SS):List V:=[.str p.1,.str p.2]
theorem zuf {p q:SS}(h:ssV p=ssV q):p=q:=by
  unfold ssV at h
  simp only [List.cons.injEq,V.str.injEq,and_true] at h
  exact Prod.ext h.1 h.2
theorem zdb (p:SS):∀v∈ssV p,zcy v=true:=fun v hv=>by
  unfold ssV at hv
  simp at hv
  rcases hv with rfl | rfl<;>rfl
theorem zwi (p q:SS):eqL (ssV p) (ssV q)=decide (ssV p=ssV q):=by
  rw[Bool.eq_iff_iff,decide_eq_true_iff]
  unfold ssV
  constructor
  · intro h
    simp[eqL,eqV] at h
    have h0:=h 0 (by omega)
    have h1:=h 1 (by omega)
    simp at h0 h1
    rw[h0,h1]
  · intro h
    rw[h]
    exact zg4 (zdb q)
abbrev TupsS (H:Hp):List Addr->List SS->Prop:=Paired fun a p=>H a=some (.tup (ssV p))
theorem TupsS.tups {H:Hp}{as:List Addr}{ps:List SS}(t:TupsS H as ps):Tups H as (ps.map ssV):=by
  induction t with
  | nil=>exact .nil
  | cons h _ ih=>exact .cons h ih
theorem TupsS.deq {K:PySem.W.Frag}{H:Hp}{n:Nat}{as:List Addr}{ps:List SS}{q:SS}{b:Addr}(t:TupsS H as ps) (hb:H b=some (.tup (ssV q))):∀z∈as.map V.ref,DEq K H (n+1) z (.ref b) (tupE H (ssV q) z):=by
  intro z hz
  obtain⟨a,ha,rfl⟩:=List.mem_map.mp hz
  obtain⟨vs,hvs,e⟩:=t.tups.get ha
  obtain⟨p,_,rfl⟩:=List.mem_map.mp hvs
  rw[zka e,←zwi]
  exact DEq.flatT (SqT.of e) (SqT.of hb) (zdb p) (zdb q)
theorem TupsS.any {H:Hp}{as:List Addr}{ps:List SS}{q:SS}(t:TupsS H as ps):(as.map V.ref).any (tupE H (ssV q))=decide (q∈ps):=by
  rw[t.tups.anyE,decide_eq_decide,List.mem_map]
  constructor
  · rintro ⟨p,hp,e⟩
    exact zuf e▸hp
  · intro h
    exact⟨q,h,rfl⟩
theorem zug {K:PySem.W.Frag}{H:Hp}{n:Nat}{D E:Addr}{as bs:List Addr}{ps:List SS}(hD:SqL K H D (as.map V.ref)) (hE:SqL K H E (bs.map V.ref)) (ta:Paired (fun a (p:SS)=>SqT K H a [.str p.1,.str p.2]) as ps) (tb:Paired (fun a (p:SS)=>SqT K H a [.str p.1,.str p.2]) bs ps):DEq K H (n+1+1) (.ref D) (.ref E) true:=by
  have l1:=Paired.length ta
  have l2:=Paired.length tb
  refine DEq.allL hD hE (by rw[List.length_map,List.length_map];omega) fun i x y e1 e2=>?_
  obtain⟨a,p,rfl,hp,_,ha⟩:=zbm ta e1
  obtain⟨b,q,rfl,hq,_,hb⟩:=zbm tb e2
  rw[hp] at hq
  cases hq
  have:=DEq.flatT (n:=n) ha hb (zdb p) (zdb p)
  have e:eqL [V.str p.1,V.str p.2] [V.str p.1,V.str p.2]=true:=zg4 (zdb p)
  rw[e] at this
  exact this
theorem zfq {c:Nat}:∀{a b p q:List Nat},c ∉ a->c ∉ b->a++c::p=b++c::q->a=b/\p=q
  | [],[],_,_,_,_,e=>⟨rfl,by simpa using e⟩
  | [],y::b,_,_,_,hb,e=>by
    have e1:c=y:=(List.cons.inj e).1
    exact absurd (by rw[e1];exact List.mem_cons_self ..) hb
  | x::a,[],_,_,ha,_,e=>by
    have e1:x=c:=(List.cons.inj e).1
    exact absurd (by rw[←e1];exact List.mem_cons_self ..) ha
  | x::a,y::b,p,q,ha,hb,e=>by
    obtain⟨e1,e2⟩:=List.cons.inj e
    obtain⟨r1,r2⟩:=zfq (fun z=>ha (List.mem_cons_of_mem _ z)) (fun z=>hb (List.mem_cons_of_mem _ z)) e2
    exact⟨by rw[e1,r1],r2⟩
theorem zsv {c:Nat}:∀{l m:List (List Nat)},l≠[]->m≠[]->(∀x∈l,c ∉ x)->(∀x∈m,c ∉ x)->jc [c] l=jc [c] m->l=m
  | [],_,h,_,_,_,_=>absurd rfl h
  | _,[],_,h,_,_,_=>absurd rfl h
  | [x],[y],_,_,_,_,e=>by rw[show x=y from e]
  | [x],y::z::m,_,_,hl,_,e=>by
    have e:x=y++[c]++jc [c] (z::m):=e
    exact absurd (by rw[e];simp) (hl x (List.mem_cons_self ..))
  | x::w::l,[y],_,_,_,hm,e=>by
    have e:x++[c]++jc [c] (w::l)=y:=e
    exact absurd (by rw[←e];simp) (hm y (List.mem_cons_self ..))
  | x::w::l,y::z::m,_,_,hl,hm,e=>by
    have e:x++[c]++jc [c] (w::l)=y++[c]++jc [c] (z::m):=e
    rw[List.append_assoc,List.append_assoc] at e
    obtain⟨e1,e2⟩:=zfq (hl x (List.mem_cons_self ..)) (hm y (List.mem_cons_self ..)) e
    rw[e1,zsv (List.cons_ne_nil _ _) (List.cons_ne_nil _ _) (fun u hu=>hl u (List.mem_cons_of_mem _ hu)) (fun u hu=>hm u (List.mem_cons_of_mem _ hu)) e2]
theorem zdm {c:Nat}{ls:List (List Nat)}(h0:ls≠[]) (hf:∀x∈ls,c ∉ x):Txt.split (zat (jc [c] ls)) ⟨#[c]⟩=ls.map zat:=by
  have j:=StrLaws.join_split (zat (jc [c] ls)) ⟨#[c]⟩
  have f:=StrLaws.split_free (zat (jc [c] ls)) c
  have p:=PyProof.Rows.split_pos (zat (jc [c] ls)) ⟨#[c]⟩
  generalize Txt.split (zat (jc [c] ls)) ⟨#[c]⟩=ps at j f p
  have hne:ps≠[]:=by
    rintro rfl
    simp at p
  have e:jc [c] (ps.map co)=jc [c] ls:=by
    have:=congrArg co j
    rw[zt] at this
    rw[←this]
    cases ps with
    | nil=>exact absurd rfl hne
    | cons a r=>
      have:=zd2 ⟨#[c]⟩ (a::r)
      rw[show Txt.join ⟨#[c]⟩ (a::r)=Str.join ⟨#[c]⟩ (a::r) from StrLaws.glued_eq_join _ _] at this
      exact this.symm
  have e2:=zsv (by simpa using hne) h0 (fun x hx=>by
    obtain⟨q,hq,rfl⟩:=List.mem_map.mp hx
    exact f q hq) hf e
  rw[←e2,List.map_map]
  refine (List.map_id' ps).symm.trans (List.map_congr_left fun x _=>?_)
  exact zb8 (by rw[Function.comp,zt])
theorem zjf:(Str.ofString " " : Str)=⟨#[32]⟩:=by decide +kernel
theorem zrj:(Str.ofString "\n" : Str)=⟨#[10]⟩:=by decide +kernel
def zpi (x:Str):List Str:=(Txt.split x " ").filter fun y=>!decide (y = "")
def zpj:List Str->Bool
  | []=>true
  | y::_=>Txt.startswith y ";"
theorem zkj:∀c∈co NAMES,c≠32/\c≠10/\c≠59:=by decide +kernel
theorem zbr {x:Str}(h:zao x=true):(∀c∈co x,c≠32/\c≠10/\c≠59)/\co x≠[]:=by
  unfold zao at h
  simp only [Bool.and_eq_true,decide_eq_true_eq] at h
  obtain⟨⟨h1,h2⟩,h3⟩:=h
  refine⟨fun c hc=>zkj c (of_decide_eq_true (List.all_eq_true.mp h3 c hc)),fun z=>?_⟩
  rw[←zq,z] at h1
  exact absurd h1 (by decide)
theorem zpk (n:Int):(∀c∈co (Str.ofString (toString n)),c≠32/\c≠10/\c≠59)/\co (Str.ofString (toString n))≠[]:=by
  have d:∀m:Nat,∀c∈dg m,c≠32/\c≠10/\c≠59:=fun m c hc=>by
    have:=zlh m c hc
    omega
  have e:∀m:Nat,dg m≠[]:=fun m z=>by
    have:=zom m
    rw[z] at this
    exact absurd this (by decide)
  cases n with
  | ofNat m=>
    have q:co (Str.ofString (toString (Int.ofNat m)))=dg m:=zef m
    rw[q]
    exact⟨d m,e m⟩
  | negSucc m=>
    have q:co (Str.ofString (toString (Int.negSucc m)))=45::dg (m+1):=zgn m
    rw[q]
    refine⟨fun c hc=>?_,by simp⟩
    rcases List.mem_cons.mp hc with rfl | hc
    · decide
    · exact d _ c hc
theorem zpl {s:List Nat}{c:Nat}:∀{l:List (List Nat)},c∈jc s l->c∈s\/∃x∈l,c∈x
  | [],h=>absurd h (by simp[jc])
  | [x],h=>.inr ⟨x,List.mem_cons_self ..,h⟩
  | x::y::r,h=>by
    have h:c∈x++s++jc s (y::r):=h
    rcases List.mem_append.mp h with h | h
    · rcases List.mem_append.mp h with h | h
      · exact .inr ⟨x,List.mem_cons_self ..,h⟩
      · exact .inl h
    · rcases zpl h with h | ⟨z,hz,h⟩
      · exact .inl h
      · exact .inr ⟨z,List.mem_cons_of_mem _ hz,h⟩
theorem zrk (x:Str) (ks:List Str):inV (.str x) (ks.map V.str)=decide (x∈ks):=by
  unfold inV
  induction ks with
  | nil=>rfl
  | cons k r ih=>
    rw[List.map_cons,List.any_cons,ih]
    show ((k == x)||decide (x∈r))=_
    by_cases h:k=x
    · subst h;simp
    · rw[beq_eq_false_iff_ne.mpr h,Bool.false_or]
      exact decide_eq_decide.mpr ⟨fun z=>List.mem_cons_of_mem _ z,fun z=>(List.mem_cons.mp z).resolve_left fun e=>h e.symm⟩
theorem zgt {κ:Type} [DecidableEq κ] {kvs:List (κ×V)}{k:κ}(h:k ∉ kvs.map (·.1)):valV kvs k=none:=by
  unfold valV
  rw[Option.map_eq_none_iff,List.find?_eq_none]
  intro x hx e
  exact h (List.mem_map.mpr ⟨x,hx,by simpa using e⟩)
theorem zgu {κ:Type} [DecidableEq κ] {kvs:List (κ×V)}{k:κ}(h:k∈kvs.map (·.1)):(valV kvs k).isSome=true:=by
  rw[←zez,List.any_eq_true]
  obtain⟨x,hx,e⟩:=List.mem_map.mp h
  exact⟨x,hx,decide_eq_true e⟩
theorem zrl {k x:Str}{v:V}{r:List (Str×V)}(h:k=x):List.lookup k ((x,v)::r)=some v:=by subst h;simp
theorem zf5 {k x:Str}{v:V}{r:List (Str×V)}(h:¬k=x):List.lookup k ((x,v)::r)=List.lookup k r:=by
  rw[List.lookup_cons,beq_eq_false_iff_ne.mpr h]
def dU (us:List Str):List (Key×V):=us.map fun x=>(Sum.inr x,V.bl true)
theorem dU_mem {us:List Str}{x:Str}:(Sum.inr x:Key)∈(dU us).map (·.1)↔x∈us:=by
  unfold dU
  rw[List.map_map]
  constructor
  · intro h
    obtain⟨y,hy,e⟩:=List.mem_map.mp h
    cases e;exact hy
  · intro h
    exact List.mem_map.mpr ⟨x,h,rfl⟩
theorem zuh {us:List Str}{x:Str}(h:x ∉ us):putK (dU us) (Sum.inr x:Key) (.bl true)=dU (us++[x]):=by
  rw[zqp _ (zgt fun z=>h (dU_mem.mp z))]
  unfold dU
  rw[List.map_append];rfl
theorem zd5 (x:Str):zat (co x)=x:=zb8 (by rw[zt])
structure PassLn (y:Str):Prop where
  pass:zpj (zpi y)=true
  feed:10 ∉ co y
  len:y.length<=900
instance (y:Str):Decidable (PassLn y):=decidable_of_iff (zpj (zpi y)=true/\10 ∉ co y/\y.length<=900) ⟨fun h=>⟨h.1,h.2.1,h.2.2⟩,fun h=>⟨h.pass,h.feed,h.len⟩⟩
theorem zms {ls:List Str}(h0:ls≠[]) (hf:∀l∈ls,10 ∉ co l):Txt.split (Txt.join "\n" ls) "\n" = ls:=by
  have:=zdm (c:=10) (ls:=ls.map co) (by simpa using h0) (fun x hx=>by
    obtain⟨v,hv,rfl⟩:=List.mem_map.mp hx
    exact hf v hv)
  rw[←zrj,List.map_map] at this
  have e:Txt.join "\n" ls=zat (jc [10] (ls.map co)):=by
    show Txt.join (Str.ofString "\n") ls=_
    rw[zgp,zot,zt]
  rw[e]
  exact this.trans ((List.map_congr_left fun v _=>zd5 _).trans (List.map_id ls))
theorem zfr {ls:List Str}(hl:ls.length<=400) (h:∀l∈ls,l.length<=900):(Txt.join "\n" ls).length<=1000000/\(ls.map (·.length)).sum+ls.length * (Str.ofString "\n" : Str).length<=16777216:=by
  have e:Txt.join "\n" ls=zat (jc [10] (ls.map co)):=by
    show Txt.join (Str.ofString "\n") ls=_
    rw[zgp,zot,zt]
  have h1:=zos [10] (ls.map co)
  have h2:=zou (l:=ls.map co) (k:=900) fun x hx=>by
    obtain⟨v,hv,rfl⟩:=List.mem_map.mp hx
    rw[zq]
    exact h v hv
  have h3:(ls.map co).map List.length=ls.map (·.length):=by
    rw[List.map_map]
    exact List.map_congr_left fun v _=>zq v
  have e1:(Str.ofString "\n" : Str).length=1:=by decide +kernel
  rw[h3] at h1 h2
  rw[List.length_map] at h1 h2
  have : [10].length=1:=rfl
  rw[this] at h1
  rw[e,zc0,e1]
  omega
theorem zrm {one at':Int}{k k' size:Nat}(h0:0<=at') (h1:at'<size) (hk:k<37) (hk':k'<37) (h:nmC one at' k size=nmC one at' k' size):k=k':=by
  have hj:at'.toNat<size:=by omega
  have e1:=zoq (one:=one) (at':=at') (k:=k) hj
  have e2:=zoq (one:=one) (at':=at') (k:=k') hj
  rw[h,e2] at e1
  have e:nmN one at' k' at'.toNat=nmN one at' k at'.toNat:=Option.some.inj e1
  unfold nmN at e
  have q:=zop (ix37 _).2 (ix37 _).2 e
  have a1:=(ix37 (nmI one at' k' at'.toNat)).1
  have a2:=(ix37 (nmI one at' k at'.toNat)).1
  have q2:nmI one at' k' at'.toNat%37=nmI one at' k at'.toNat%37:=by omega
  unfold nmI at q2
  rw[if_pos (Int.toNat_of_nonneg h0),if_pos (Int.toNat_of_nonneg h0)] at q2
  omega
def zhj (n:Nat) (one at':Int) (size:Nat):List Str:=(List.range n).map fun k=>zat (nmC one at' k size)
def zfs (n:Nat) (one at':Int) (size:Nat):List Str:=(List.range n).map fun k=>zat ((nmC one at' 0 size).take (size-k))
theorem zmt {n:Nat}{one at':Int}{size:Nat}(hn:n<=37) (h0:0<=at') (h1:at'<size) (h2:1<=size) (h3:size<=12):(zhj n one at' size).Nodup/\(∀x∈zhj n one at' size,zao x=true)/\(zhj n one at' size).length=n:=by
  refine⟨zbw fun i j hi hj e=>zrm h0 h1 (by omega) (by omega) (ziy e),fun x hx=>?_,by unfold zhj;simp⟩
  obtain⟨k,_,rfl⟩:=List.mem_map.mp hx
  exact zd1 (by rw[zt,zdl];exact h2) (by rw[zt,zdl];exact h3) fun c hc=>by rw[zt] at hc;exact zor hc
theorem zmu {n:Nat}{one at':Int}{size:Nat}(h2:n<=size) (h3:size<=12):(zfs n one at' size).Nodup/\(∀x∈zfs n one at' size,zao x=true)/\(zfs n one at' size).length=n:=by
  refine⟨zbw fun i j hi hj e=>?_,fun x hx=>?_,by unfold zfs;simp⟩
  · have e:=congrArg List.length (ziy e)
    rw[List.length_take,List.length_take,zdl] at e
    omega
  · obtain⟨k,hk,rfl⟩:=List.mem_map.mp hx
    have hk:=List.mem_range.mp hk
    refine zd1 ?_ ?_ fun c hc=>?_
    · rw[zt,List.length_take,zdl];omega
    · rw[zt,List.length_take,zdl];omega
    · rw[zt] at hc
      exact zor (List.mem_of_mem_take hc)
theorem Lv.uniq {ln:Ln}{M:List Str}{lv lv':Str->Nat}{n n':Nat}(h:Lv ln M lv n) (h':Lv ln M lv' n'):∀(k:Nat) (x:Str),x∈M->lv x=k->lv' x=k:=by
  intro k
  induction k using Nat.strongRecOn with
  | _ k ih=>
    intro x hx e
    have key:∀l r,(l,r)∈ln x->lv l=lv' l:=fun l r hl=>by
      have hm:=h.mx x hx
      have mem:((lv l:Int)+1)∈lvN lv (ln x):=List.mem_map.mpr ⟨(l,r),hl,rfl⟩
      have hlt:lv l<k:=by
        rcases hm with ⟨h1,_⟩ | ⟨_,h2⟩
        · rw[h1] at mem;cases mem
        · have:=h2 _ mem
          omega
      exact (ih (lv l) hlt l (h.cl x hx l r hl) rfl).symm
    have e2:=zi9 key
    have a:=h.mx x hx
    have b:=h'.mx x hx
    rw[e2] at a
    have:=zmq a b fun y=>Iff.rfl
    omega
theorem Lv.uniqN {ln:Ln}{M:List Str}{lv lv':Str->Nat}{n n':Nat}(h:Lv ln M lv n) (h':Lv ln M lv' n'):n=n':=by
  have go:∀{lv lv':Str->Nat}{n n':Nat},Lv ln M lv n->Lv ln M lv' n'->n<=n':=fun {lv lv' n n'} h h'=>by
    cases n with
    | zero=>exact Nat.zero_le _
    | succ n=>
      obtain⟨x,hx,e⟩:=h.all n (by omega)
      have:=h.uniq h' n x hx e
      have:=h'.lt x hx
      omega
  exact Nat.le_antisymm (go h h') (go h' h)
def rowT (i:Int) (names:List Str):Str:=Str.empty++(toString i:String) ++ ": " ++ Txt.join " " names
def zd6 (l0:Str) (xs:List Str):Str:=xs.foldl (fun l x=>l ++ " " ++ x) l0
def zc3 (p:SS):Str:=Str.empty++p.1 ++ " > " ++ p.2
theorem zei (x:Str):Str.empty++x=x:=zb8 (by rw[zy];rfl)
theorem zhk (xs:List Str):∀l0,co (zd6 l0 xs)=co l0++(xs.map fun x=>32::co x).flatten:=by
  induction xs with
  | nil=>intro l0;simp[zd6]
  | cons x r ih=>
    intro l0
    show co (zd6 (l0++Str.ofString " " ++ x) r)=_
    rw[ih,zy,zy,zg9,zt]
    simp
theorem zkk (x:List Nat):∀r:List (List Nat),jc [32] (x::r)=x++(r.map fun y=>32::y).flatten
  | []=>by simp[jc]
  | y::r=>by
    show x++[32]++jc [32] (y::r)=_
    rw[zkk y r]
    simp
theorem zrn:(Str.ofString ": " : Str)=zat [58,32]:=by decide +kernel
theorem zjg:(Str.ofString ":" : Str)=zat [58]:=by decide +kernel
theorem zhl (i:Int) {names:List Str}(h:names≠[]):rowT i names=zd6 ((toString i:String)++Str.ofString ":") names:=by
  cases names with
  | nil=>exact absurd rfl h
  | cons x r=>
    apply zb8
    unfold rowT
    show co (Str.empty++Str.ofString (toString i)++Str.ofString ": " ++ Txt.join (Str.ofString " ") (x::r))=_
    rw[zhk,zei,zy,zy,zd2,zg9,zt,zrn,zt]
    show _=co (Str.ofString (toString i)++Str.ofString ":")++_
    rw[zy,zjg,zt,List.map_cons,zkk,List.map_map]
    simp
    rfl
theorem zjh {xs:List Str}(h:∀x∈xs,x.length<=12):∀l0,(zd6 l0 xs).length<=l0.length+13 * xs.length:=by
  induction xs with
  | nil=>intro l0;simp[zd6]
  | cons x r ih=>
    intro l0
    have:=ih (fun y hy=>h y (List.mem_cons_of_mem _ hy)) (l0++Str.ofString " " ++ x)
    have hx:=h x (List.mem_cons_self ..)
    show (zd6 (l0++Str.ofString " " ++ x) r).length<=_
    have e:(l0++Str.ofString " " ++ x).length=l0.length+1+x.length:=by
      rw[←zq,zy,zy,List.length_append,List.length_append,zq,zq,zq]
      rw[show (Str.ofString " " : Str).length=1 by decide +kernel]
    rw[e] at this
    rw[List.length_cons]
    omega
theorem zdn:∀i:Nat,i<64->(Str.ofString (toString (i:Int)):Str).length<=2:=by decide +kernel
def zji (keys:List Str) (lv:Str->Nat) (n:Nat) (qs:List SS):List Str:=
  ((List.range n).map fun i=>rowT ((n:Int)-1-(i:Nat)) (keys.filter (rowB lv (n-1-i))))++qs.map zc3
theorem Lv.row_ne {ln:Ln}{M:List Str}{lv:Str->Nat}{n:Nat}(h:Lv ln M lv n) {j:Nat}(hj:j<n):M.filter (rowB lv j)≠[]:=by
  obtain⟨x,hx,e⟩:=h.all j hj
  intro z
  have:x∈M.filter (rowB lv j):=List.mem_filter.mpr ⟨hx,decide_eq_true e⟩
  rw[z] at this
  cases this
theorem zd7 {p:SS}(h1:p.1.length<=12) (h2:p.2.length<=12):(zc3 p).length<=30:=by
  unfold zc3
  show (Str.empty++p.1++Str.ofString " > " ++ p.2).length<=30
  rw[zei,←zq,zy,zy,List.length_append,List.length_append,zq,zq,zq]
  have:(Str.ofString " > " : Str).length=3:=by decide +kernel
  omega
end Dm
namespace L2
open PySem PySem.Spec PyProof.Rows
section
variable {M:Model}{A:Around}{E:Value->Shared->Prop}{s:Shared}{K:PySem.W.Frag}{e C D:Addr}{oe:Obj}{b:Bool}
end
abbrev TH:=Ends->St->Addr->Option Addr->Hp->Prop
end L2
namespace L2
end L2
namespace L2
open PySem
end L2
namespace L2
open PySem PySem.Spec PyProof.Rows
end L2
namespace L2
open PySem
end L2
namespace L2
open PySem PySem.Spec PyProof.Rows
open Sem (wp)
namespace Rv
theorem slot_next:Slot "list_reverseiterator" "__next__" "list_reverseiterator.__next__":=
  .of (owner:="list_reverseiterator") (n:="__next__") (by rw[typeLookup_type,builtinLookup_eq_fast];kernel_rfl) (by decide +kernel) (by decide +kernel) (by decide +kernel)
    (by first | exact .inl (by decide +kernel) | exact .inr (by decide +kernel)) (by rw[isSubtype_type];kernel_rfl)
theorem slot_iter:Slot "list_reverseiterator" "__iter__" "list_reverseiterator.__iter__":=
  .of (owner:="list_reverseiterator") (n:="__iter__") (by rw[typeLookup_type,builtinLookup_eq_fast];kernel_rfl) (by decide +kernel) (by decide +kernel) (by decide +kernel)
    (by first | exact .inl (by decide +kernel) | exact .inr (by decide +kernel)) (by rw[isSubtype_type];kernel_rfl)
theorem entry_next:entryFor table "list_reverseiterator.__next__" = some Builtin.«list_reverseiterator.__next__»:=entryFor_of_tree (by kernel_rfl)
theorem entry_iter:entryFor table "list_reverseiterator.__iter__" = some Builtin.«dict_keyiterator.__iter__»:=
  entryFor_alias (id':="dict_keyiterator.__iter__") (by kernel_rfl) (by first | rfl | decide +kernel | (unfold String.splitOn;simp +decide [String.splitOnAux])) (by decide +kernel) (by kernel_rfl)
theorem owner:Manifest.owners.lookup (String.ofList ['r','o','t','a','r','e','t','i','e','s','r','e','v','e','r','_','t','s','i','l'].reverse)=some Manifest.sig_list_reverseiterator:=by kernel_rfl
theorem args_next (a:Value):argsOk "list_reverseiterator.__next__" ⟨[a],[]⟩:=by
  unfold argsOk
  rw[signature?_of (id:="list_reverseiterator.__next__") (n:="__txen__".toList) (o:="rotaretiesrever_tsil".toList) (by kernel_rfl) owner]
  kernel_rfl
theorem args_iter (a:Value):argsOk "list_reverseiterator.__iter__" ⟨[a],[]⟩:=by
  unfold argsOk
  rw[signature?_of (id:="list_reverseiterator.__iter__") (n:="__reti__".toList) (o:="rotaretiesrever_tsil".toList) (by kernel_rfl) owner]
  kernel_rfl
theorem mro_reversed:mroOf (.type "reversed")=pure [.type "reversed",.type "object"]:=by rw[mroOf_type];kernel_rfl
theorem zmv:typeLookup (.type "reversed") "__new__" = pure (some (.builtin "reversed.__new__")):=by rw[typeLookup_type,builtinLookup_eq_fast];kernel_rfl
theorem made:Bind.madeBy (.type "reversed")=pure (some "reversed.__new__"):=madeBy_type mro_reversed zmv (by decide +kernel)
theorem typeCall (a:Value):checkTypeCall "reversed" ⟨[a],[]⟩=pure ():=by kernel_rfl
theorem newCall (a:Value):checkBuiltinCall "reversed.__new__" ⟨[.type "reversed",a],[]⟩=pure ():=by kernel_rfl
theorem entry_new:entryFor table "reversed.__new__" = some Builtin.«reversed.__new__»:=entryFor_of_tree (by kernel_rfl)
theorem sub_no:isSubtype (.type "list_reverseiterator") (.type "reversed")=pure false:=by rw[isSubtype_type];kernel_rfl
theorem sub_self:isSubtype (.type "reversed") (.type "reversed")=pure true:=by rw[isSubtype_type];kernel_rfl
end Rv
def IsRev (h:Heap) (it l:Addr) (j:Int):Prop:=∃o,h.get? it=some o/\o.cls = .type "list_reverseiterator"/\o.data = .fields #[.ref l,.int j 0]
theorem IsRev.typeIs {s:Shared}{it l:Addr}{j:Int}(x:IsRev s.heap it l j):s.TypeIs (.ref it) "list_reverseiterator":=let ⟨o,ho,hc,_⟩:=x;⟨o,ho,hc⟩
theorem IsRev.at {h h':Heap}{it l:Addr}{j:Int}(x:IsRev h it l j) (e:∀o,h.get? it=some o->h'.get? it=some o):IsRev h' it l j:=let ⟨o,ho,r⟩:=x;⟨o,e _ ho,r⟩
section
variable {prog:Program}{w:World}{A:Around}{E:Value->Shared->Prop}{s:Shared}
theorem zlt {it l:Addr}{j:Int}{Q:Value->Shared->Prop}(hit:IsRev s.heap it l j) (h:Q (.ref it) s):wpAny (model prog w) A (pyIter (.ref it)) Q E s:=by
  refine wpAny_pyIter_slot hit.typeIs Rv.slot_iter (wpAny_call_entry Rv.slot_iter hit.typeIs Rv.entry_iter ?_ (Rv.args_iter _))
  show wpAny _ _ (ret (.ref it)) _ _ s
  exact wpAny_pure ⟨_,rfl,"list_reverseiterator",_,hit.typeIs,Rv.slot_next.lookup,h⟩
theorem zro {it l:Addr}{j:Nat}{items:Array Value}{x:Value}{Q:Option Value->Shared->Prop}(hit:IsRev s.heap it l (j:Int)) (hl:s.heap.IsList l items) (hx:items[j]? = some x)
    (hQ:∀h',IsRev h' it l ((j:Int)-1)->Heap.SameBut it s.heap h'->Q (some x) { s with heap:=h' }):wpAny (model prog w) A (pyNext (.ref it)) Q E s:=by
  obtain⟨o,ho,hc,hd⟩:=id hit
  obtain⟨ol,hol,_,nl,hdl⟩:=hl
  unfold pyNext
  refine wpAny_bind (wpAny_attempt (wpAny_callSpecial?_slot (name:=Str.ofString "__next__") hit.typeIs Rv.slot_next (wpAny_call_entry Rv.slot_next hit.typeIs Rv.entry_next ?_ (Rv.args_next _))))
  show wpAny _ _ (field (.ref it) 1 >>= _) _ _ s
  refine wpAny_bind (wpAny_field ho hd (x:=.int j 0) rfl ?_)
  show wpAny _ _ (if (j:Int)<0 then _ else _) _ _ s
  rw[if_neg (by omega)]
  show wpAny _ _ (field (.ref it) 0 >>= _) _ _ s
  refine wpAny_bind (wpAny_field ho hd (x:=.ref l) rfl ?_)
  refine wpAny_bind (wpAny_seqItems hol hdl ?_)
  simp only [Int.toNat_natCast,hx]
  refine wpAny_bind (wpAny_setField ho hd (by simp) (wpAny_pure ⟨x,rfl,wpAny_pure (hQ _ ?_ (Heap.SameBut.update ..))⟩))
  exact⟨_,Heap.get?_update_self _ ho (Obj.isFreed_of_fields (Obj.data_mapFields hd _)),(Obj.cls_mapFields ..).trans hc,by rw[Obj.data_mapFields hd];simp[rawInt]⟩
theorem zui {it l:Addr}{j:Int}{Q:Option Value->Shared->Prop}(hh:A.handled=none) (hit:IsRev s.heap it l j) (hj:j<0)
    (hQ:∀h',(∀b o,s.heap.get? b=some o->h'.get? b=some o)->Q none { s with heap:=h' }):wpAny (model prog w) A (pyNext (.ref it)) Q E s:=by
  obtain⟨o,ho,hc,hd⟩:=id hit
  unfold pyNext
  refine wpAny_bind (wpAny_attempt (wpAny_callSpecial?_slot (name:=Str.ofString "__next__") hit.typeIs Rv.slot_next (wpAny_call_entry Rv.slot_next hit.typeIs Rv.entry_next ?_ (Rv.args_next _))))
  show wpAny _ _ (field (.ref it) 1 >>= _) _ _ s
  refine wpAny_bind (wpAny_field ho hd (x:=.int j 0) rfl ?_)
  show wpAny _ _ (if j<0 then _ else _) _ _ s
  rw[if_pos hj]
  refine wpAny_bind (wpAny_rule (wpAny_bind ?_))
  show wpAny _ _ (newExc (.type "StopIteration") [] >>= _) _ _ _
  refine wpAny_bind ?_
  simp only [newExc,newTuple]
  refine wpAny_bind (wpAny_newObj_type ?_ (by size_fits))
  refine wpAny_bind (m:=firstArgMember _ _) (wpAny_of_eq (a:=Value.none) (by first | rfl | (simp only [firstArgMember];rfl)) ?_)
  refine wpAny_newObj_type ?_ (by size_fits)
  simp only [raiseNew]
  refine wpAny_bind (wpAny_handled ?_)
  rw[show A.in1.handled=none from hh]
  refine wpAny_bind (wpAny_pure (wpAny_throw ?_))
  refine wpAny_bind (wpAny_isInstance (T:="StopIteration") (b:=true) ⟨_,Heap.get?_push_size _ rfl,rfl⟩ isSubtype_stop ?_)
  exact wpAny_pure (hQ _ fun b o e=>Heap.get?_push_of_some _ (Heap.get?_push_of_some _ e))
end
def zf6 (l:Addr) (n:Nat):Obj:={ cls:=.type "list_reverseiterator",data:=.fields #[.ref l,rawInt ((n:Int)-1)] }
theorem zmw (l:Addr) (items:Array Value) :
    Meets (Builtin.«list.__reversed__» ⟨[.ref l],[]⟩) (fun _ R s=>s.heap.IsList l items/\R (.ok (.ret (.ref s.heap.objs.size))) { s with heap:=s.heap.push (zf6 l items.size) }):=
  .of_wp fun prog w A R s h=>by
    obtain⟨hl,h⟩:=h
    obtain⟨o,ho,hc,n,hd⟩:=hl
    wp_walk
    rw[hd]
    wp_walk
    exact⟨_,rfl,h⟩
theorem zpm (l:Addr) (items:Array Value) :
    Meets (Builtin.«reversed.__new__» ⟨[.type "reversed",.ref l],[]⟩) (fun _ R s=>s.heap.IsList l items/\R (.ok (.ret (.ref s.heap.objs.size))) { s with heap:=s.heap.push (zf6 l items.size) }):=
  .of_wp fun prog w A R s h=>by
    obtain⟨hl,h⟩:=h
    have hT:=hl.typeIs
    have hk:=F.slot_list_reversed.lookup
    have hb:=F.slot_list_reversed.bind (.ref l)
    have sub:=Rv.sub_self
    wp_walk
    refine codeAny_mono (codeAny_call_builtin F.slot_list_reversed.plain F.entry_list_reversed (F.slot_list_reversed.check _ _ _ _ _ _ _ _ hT (F.args_list_reversed_1 _) (zmw l items prog w A.in1
      (wants (fun v s1=>v = .ref s.heap.objs.size/\s1 = { s with heap:=s.heap.push (zf6 l items.size) }) (fun e s'=>R (.error e) s')) s ⟨hl,rfl,rfl⟩))) fun r s1 hr=>?_
    cases r with
    | error e=>exact hr
    | ok fl=>
      cases fl with
      | ret obj=>
        obtain⟨rfl,rfl⟩:=hr
        exact wpAny_pure ⟨_,rfl,h⟩
      | _=>exact hr.elim
section
variable {prog:Program}{w:World}{A:Around}{E:Value->Shared->Prop}{s:Shared}
theorem zrp {l:Addr}{items:Array Value}{Q:Value->Shared->Prop}(hl:s.heap.IsList l items)
    (h:Q (.ref s.heap.objs.size) { s with heap:=s.heap.push (zf6 l items.size) }):wpAny (model prog w) A (call (.type "reversed") [.ref l]) Q E s:=by
  have hct:=Rv.typeCall (.ref l)
  have hmade:=Rv.made
  have hmro:=Rv.mro_reversed
  refine wpAny_call (codeAny_of_tree ?_)
  show wpAny (model prog w) _ (callAny (.type "reversed") _) _ _ _
  refine wpAny_pure ⟨Code.quiet_builtin _ (by decide +kernel),codeAny_builtin F.entry_type_call ?_⟩
  rw[Around.under_plain (weight_type_call_type "reversed" [.ref l] []) (units_type_call_type "reversed" [.ref l] [])]
  have h1:(Value.type "reversed" == Value.type "type")=false:=by decide +kernel
  have h2:((Manifest.find? "reversed").bind (·.mro.findSome? fun t=>(Manifest.find? t).bind fun b=>if b.noNew then some true else if b.attrs.any (·.1 == "__new__") then some false else none)).getD false=false:=by decide +kernel
  repeat (any_goals first | wp_step | assumption)
  refine codeAny_mono (codeAny_call_builtin (by decide +kernel) Rv.entry_new (wpAny_of_eq (Rv.newCall _) (zpm l items prog w A.in1
    (wants (fun obj s1=>obj = .ref s.heap.objs.size/\s1 = { s with heap:=s.heap.push (zf6 l items.size) }) E) s ⟨hl,rfl,rfl⟩))) fun r s1 hr=>?_
  cases r with
  | error e=>exact hr
  | ok fl=>
    cases fl with
    | ret obj=>
      obtain⟨rfl,rfl⟩:=hr
      have hT:({ s with heap:=s.heap.push (zf6 l items.size) }:Shared).TypeIs (.ref s.heap.objs.size) "list_reverseiterator":=⟨_,Heap.get?_push_size _ rfl,rfl⟩
      have hsub:=Rv.sub_no
      repeat (any_goals first | wp_step | assumption)
    | _=>exact hr.elim
end
theorem zpn (a b:Int):Builtin.Range.rangeSize a b (-1)=((a-b).toNat:Int):=by
  have h:¬((-1:Int) > 0):=by decide
  unfold Builtin.Range.rangeSize
  rw[if_neg h]
  have e:(-(-1):Int)=1:=rfl
  rw[e,Int.ediv_one]
  split<;>omega
theorem zrq {a b:Int}(h1 : -(2 ^ 62)<=a) (h2:a<2 ^ 62) (h3 : -(2 ^ 62)<=b) (h4:b<2 ^ 62):Builtin.Range.small a b (-1)=true:=by
  have h:¬((-1:Int) > 0):=by decide
  unfold Builtin.Range.small Builtin.Range.rangeFitsLong
  rw[zpn]
  simp only [if_neg h,Bool.and_eq_true,Bool.or_eq_true,decide_eq_true_eq,beq_iff_eq]
  omega
def Itdn (hi:Int) (n:Nat):It:=⟨fun i _=>i<n,fun i H x H'=>H'=H/\x = .int (hi-i),fun i _=>n<=i⟩
theorem zpo {P:Program}{w:World}{K:PySem.W.Frag}{tg:Expr}(it:Addr) (hi:Int) (n:Nat):Turn P w K tg (Itdn hi n) [it] it (fun i h=>IsRangeIter h it (hi+(i:Nat) * (-1)) ((n:Int)-(i:Nat)) (-1)) where
  mem:=by simp
  obj:=fun i h st b hb=>by
    have e:b=it:=by simpa using hb
    subst e
    exact⟨_,st,fun v z=>by
      have z':Data.fields _=Data.cell v:=z
      cases z'⟩
  keep:=fun i h h' st k=>k it (by simp) _ st
  item:=by
    intro X hP hw hK hc i pins s σ H E I hf st hg
    subst hP hw hK
    obtain⟨f0,f1,f2,f3,f4,f5⟩:=hf it (by simp)
    have W:=Walks.range (prog:=X.prog) (w:=X.w) (I.ok.hd hc) it hi (-1) n
    refine W.item i s _ _ hg st fun v h' tk hv st' kk=>?_
    obtain⟨t,rfl⟩:=hv
    have I1:Inv X pins σ H { s with heap:=h',toks:=tk }:=I.turned (fun b o hb e=>kk b o (by simpa using hb) e) f0 f1 f3 f4 f5
    refine⟨_,rfl,zni (s:={ s with heap:=h',toks:=tk }) (n:="range_iterator") st' rfl rfl (by decide) ⟨.int (hi-i),H,I1,⟨t,?_⟩,⟨rfl,rfl⟩,st',fun b hb=>(hf b hb).1⟩⟩
    congr 1
    omega
  done:=by
    intro X hP hw hK hc i pins s σ H E I hf st hg
    subst hP hw hK
    obtain⟨f0,f1,f2,f3,f4,f5⟩:=hf it (by simp)
    exact wpAny_pyNext_range_end (I.ok.hd hc) st (by have:n<=i:=hg;omega) fun h' eb=>⟨rfl,I.turned (t':=s.toks) (fun b o hb e=>eb b o hb e) f0 f1 f3 f4 f5⟩
  self:=fun _ _ _ _ _ st h=>wpAny_pyIter_rangeiter st h
section
variable {X:Cx}{tg:Expr}
theorem zuj {pins:List (Addr×Obj)}{σ:St}{H:Hp}{s:Shared}{R:It->Hp->Prop}{E:Value->Shared->Prop}{hi lo:Int}{t u v:Tok}{tk:Nat}(I:Inv X pins σ H s) (h1 : -(2 ^ 62)<=hi) (h2:hi<2 ^ 62) (h3 : -(2 ^ 62)<=lo) (h4:lo<2 ^ 62)
    (q:R (Itdn hi (hi-lo).toNat) H):wpAny (model X.prog X.w) X.A (pyIter (.ref s.heap.objs.size)) (PIE X pins σ tg R) E { s with heap:=s.heap.push { cls:=.type "range",data:=.fields #[.int hi t,.int lo u,.int (-1) v] },toks:=tk }:=by
  refine wpAny_pyIter_range (IsRange.new ..) (zrq h1 h2 h3 h4) ?_
  have I1:Inv X pins σ H { s with heap:=s.heap.push { cls:=.type "range",data:=.fields #[.int hi t,.int lo u,.int (-1) v] },toks:=tk }:=I.kept fun b o e=>Heap.get?_push_of_some _ e
  refine⟨(s.heap.push { cls:=.type "range",data:=.fields #[.int hi t,.int lo u,.int (-1) v] }).objs.size,[(s.heap.push { cls:=.type "range",data:=.fields #[.int hi t,.int lo u,.int (-1) v] }).objs.size],_,_,H,rfl,
    I1.kept (t':=tk) fun b o e=>Heap.get?_push_of_some _ e,zpo _ hi (hi-lo).toNat,?_,fun b hb=>?_,q⟩
  · have e1:hi+((0:Nat):Int) * (-1)=hi:=by simp
    have e2:(((hi-lo).toNat:Nat):Int)-((0:Nat):Int)=Builtin.Range.rangeSize hi lo (-1):=by rw[zpn];simp
    show IsRangeIter _ _ (hi+((0:Nat):Int) * (-1)) ((((hi-lo).toNat:Nat):Int)-((0:Nat):Int)) (-1)
    rw[e1,e2]
    exact Heap.get?_push_size _ rfl
  · have e:b=(s.heap.push { cls:=.type "range",data:=.fields #[.int hi t,.int lo u,.int (-1) v] }).objs.size:=by simpa using hb
    subst e
    exact I1.fpOk (Nat.le_refl _) (I1.hok.fresh (Nat.le_refl _))
def zxe (ta:TA):TI:=fun σ H R=>ta σ H fun vs H1=>∃i j:Int,vs = [.int i,.int j,.int (-1)]/\(-(2 ^ 61)<=i/\i<2 ^ 61/\-(2 ^ 61)<=j/\j<2 ^ 61)/\R (Itdn i (i-j).toNat) H1
theorem zpp {a b c:Expr}{ta:TA}{p pos:Pos}(hg:Gl X "range") (hm:X.mg "range" = none) (ha:PA X [a,b,c] ta) (hs:starEach [a,b,c] X.env = [(false,eval a X.env),(false,eval b X.env),(false,eval c X.env)]:=by rfl) (hs2:starEach [b,c] X.env = [(false,eval b X.env),(false,eval c X.env)]:=by rfl) :
    PI X tg (.Call (.Name "range" p) [a,b,c] [] pos) (zxe ta):=by
  intro pins s σ H R I h
  refine Call_ (zdo I hg hm boot_range (PyProof.Rows.callWith_type1 (thn (ha pos pins s σ H _ I h) fun us s1 hq0=>?_) (by rw[hs,hs2]) (by rw[hs2];rfl)))
  obtain⟨vs,H1,I1,r1,q1⟩:=hq0
  obtain⟨i,j,e,⟨q1,q2,q3,q4⟩,q⟩:=q1
  subst e
  cases r1 with
  | cons r rr=>
    cases rr with
    | cons r' rr=>
      cases rr with
      | cons r'' rr=>
        cases rr
        obtain⟨t,rfl⟩:=r
        obtain⟨t',rfl⟩:=r'
        obtain⟨t'',rfl⟩:=r''
        exact PySem.call_range_3 (by decide) (zuj I1 (by omega) (by omega) (by omega) (by omega) q) (Or.inl (PyProof.noPylong_small (by omega)))
theorem zrr {hi:Int}{n:Nat}:Fix (Itdn hi n) ((List.range n).map fun i=>V.int (hi-(i:Nat))) (fun _=>True):=
  ⟨fun i H h hi=>by show i<n;simpa using hi,fun i H x H' h y=>⟨y.1,fun hi=>by
    have hi':i<n:=by simpa using hi
    rw[List.getElem?_map,List.getElem?_range hi',y.2];rfl⟩,fun i H h hi=>by show n<=i;simpa using hi⟩
abbrev TJ:=Str->St->Hp->VK->Prop
def PJ (X:Cx) (ms:List (Sem Value)) (t:TJ):Prop:=
  ∀(pins:List (Addr×Obj)) (s:Shared) (σ:St) (H:Hp) (out:Str) (Q:VK),Inv X pins σ H s->t out σ H Q->wpAny (model X.prog X.w) X.A (joinParts out ms) (EP X pins σ Q) X.xe s
def jNil:TJ:=fun out _ H Q=>out.length<=sizeLine/\Q (.str out) H
theorem zsw:PJ X [] jNil:=fun _ _ _ H _ _ I h=>joinParts_nil ⟨.str _,H,I.tok _,⟨_,rfl⟩,h.2⟩ h.1
def jTxt (te:TE) (tj:TJ):TJ:=fun out σ H Q=>te σ H fun x H1=>∃y,x = .str y/\(out++y).length<=sizeLine/\tj (out++y) σ H1 Q
theorem zsx {e:Expr}{te:TE}{tj:TJ}{ms:List (Sem Value)}(he:PE X e te) (hj:PJ X ms tj):PJ X (eval e X.env::ms) (jTxt te tj):=by
  intro pins s σ H out Q I h
  refine joinParts_cons (thn (he pins s σ H _ I h) fun v s1 hq0=>?_)
  obtain⟨x,H1,I1,r1,q1⟩:=hq0
  obtain⟨y,rfl,hl,q⟩:=q1
  obtain⟨t,rfl⟩:=r1
  exact⟨hl,hj pins s1 σ H1 _ Q I1 q⟩
def jFld (te:TE) (tj:TJ):TJ:=fun out σ H Q=>te σ H fun x H1=>∃y,(x = .str y\/∃i:Int,x = .int i/\i.natAbs.log2<1920/\y=toString i)/\y.length<=sizeLine/\(out++y).length<=sizeLine/\tj (out++y) σ H1 Q
theorem zlu {e:Expr}{pos:Pos}{te:TE}{tj:TJ}{ms:List (Sem Value)}(he:PE X e te) (hj:PJ X ms tj):PJ X (eval (.FormattedValue e (-1) none pos) X.env::ms) (jFld te tj):=by
  intro pins s σ H out Q I h
  refine joinParts_cons (FormattedValue_plain (thn (he pins s σ H _ I h) fun v s1 hq0=>?_))
  obtain⟨x,H1,I1,r1,q1⟩:=hq0
  obtain⟨y,hx,hy,hl,q⟩:=q1
  rcases hx with rfl | ⟨i,rfl,hi,rfl⟩
  · obtain⟨t,rfl⟩:=r1
    exact PyProof.Rows.formatField_str (fun t' tk=>⟨hl,hj pins _ σ H1 _ Q (I1.tok _) q⟩) hy
  · obtain⟨t,rfl⟩:=r1
    exact PyProof.Rows.formatField_int_small hi ⟨hl,hj pins _ σ H1 _ Q (I1.tok _) q⟩
theorem zjj {e1 e2:Expr}{es:List Expr}{pos:Pos}{tj:TJ}(h:PJ X (eval e1 X.env::eval e2 X.env::evalEach es X.env) tj):PE X (.JoinedStr (e1::e2::es) pos) (tj Str.empty):=
  fun pins s σ H Q I q=>JoinedStr_many (h pins s σ H _ Q I q)
end
end L2
namespace PySem
open Sem (wp)
end PySem
namespace L2
open PySem PySem.Spec PyProof.Rows
section
open SeqAt
end
section
variable {prog:Program}{w:World}{A:Around}{E:Value->Shared->Prop}{s:Shared}
theorem zxf {v1 v2:Value}{p q:SS}{Q:Value->Shared->Prop}(hu:A.units<cLine) (h1:TupSS s.heap v1 p) (h2:TupSS s.heap v2 q) (h:Q (.bool (!ltPP q p)) s) :
    wpAny (model prog w) A (richCompare .LtE v1 v2) Q E s:=by
  obtain⟨a,t1,u1,rfl,oa,hoa,hca,na,hda⟩:=h1
  obtain⟨b,t2,u2,rfl,ob,hob,hcb,nb,hdb⟩:=h2
  have ta:s.TypeIs (.ref a) "tuple":=⟨oa,hoa,hca⟩
  have tb:s.TypeIs (.ref b) "tuple":=⟨ob,hob,hcb⟩
  refine wpAny_richCompare_same_room (op:=.LtE) ta tb F.slot_tuple_le (wpAny_call_entry F.slot_tuple_le ta F.entry_tuple_le ?_ (F.args_tuple_le_2 _ _)) hu
  show wpAny _ _ (isInstance (.ref b) (.type "tuple") >>= _) _ _ s
  refine wpAny_bind (wpAny_isInstance tb isSubtype_tuple_tuple ?_)
  rw[if_neg (by decide)]
  refine wpAny_bind (wpAny_tupleItemsOf hoa hda (wpAny_bind (wpAny_tupleItemsOf hob hdb (wpAny_bind ?_))))
  show wpAny _ _ (forIn [((Value.str p.1 t1,Value.str q.1 t2):Value×Value),(Value.str p.2 u1,Value.str q.2 u2)] _ _) _ _ s
  rw[List.forIn_cons]
  refine wpAny_bind (wpAny_bind (wpAny_eqBool_str ?_))
  unfold ltPP at h
  by_cases c:p.1=q.1
  · rw[decide_eq_true c,if_neg (by decide)]
    rw[if_pos c.symm] at h
    refine wpAny_pure ?_
    show wpAny _ _ (forIn [((Value.str p.2 u1,Value.str q.2 u2):Value×Value)] _ _) _ _ s
    rw[List.forIn_cons]
    refine wpAny_bind (wpAny_bind (wpAny_eqBool_str ?_))
    by_cases c2:p.2=q.2
    · rw[decide_eq_true c2,if_neg (by decide)]
      refine wpAny_pure ?_
      show wpAny _ _ (forIn ([]:List (Value×Value)) _ _) _ _ s
      rw[List.forIn_nil]
      refine wpAny_pure (wpAny_pure ⟨_,rfl,(fun e=>nomatch e),?_⟩)
      rw[c2,decide_eq_false (List.lt_irrefl _)] at h
      exact h
    · rw[decide_eq_false c2,if_pos (by decide)]
      refine wpAny_bind (wpAny_rule (wpAny_bind (PySem.P.le_str ?_)))
      refine wpAny_pure (wpAny_pure (wpAny_pure ⟨_,rfl,(fun e=>nomatch e),?_⟩))
      exact h
  · rw[decide_eq_false c,if_pos (by decide)]
    rw[if_neg (fun z=>c z.symm)] at h
    refine wpAny_bind (wpAny_rule (wpAny_bind (PySem.P.le_str ?_)))
    refine wpAny_pure (wpAny_pure (wpAny_pure ⟨_,rfl,(fun e=>nomatch e),?_⟩))
    exact h
end
section
variable {X:Cx}
theorem zuk:MtR X "str.endswith" (fun x xs H Q=>∃a b,x=V.str a/\xs = [V.str b]/\Q (.bl (Txt.endswith a b)) H):=by
  intro pins s σ H x xs v us Q I rx rs h
  obtain⟨a,b,rfl,rfl,q⟩:=h
  obtain⟨t,rfl⟩:=rx
  obtain⟨u,rfl,t',rfl⟩:=zbs rs
  exact SC.endswith ⟨.bl _,H,I,rfl,q⟩
theorem zsy {pins:List (Addr×Obj)}{σ:St}{H:Hp}{s:Shared}{a:Addr}{p:SS}(I:Inv X pins σ H s) (h:SqT X.K H a [.str p.1,.str p.2]):TupSS s.heap (.ref a) p:=by
  obtain⟨its,rv,t,hz⟩:=I.tuple h
  cases rv with
  | cons r1 rv=>
    cases rv with
    | cons r2 rv=>
      cases rv
      obtain⟨t1,rfl⟩:=r1
      obtain⟨t2,rfl⟩:=r2
      exact⟨a,t1,t2,rfl,t⟩
theorem zul (K:PySem.W.Frag) (hK:X.K=K) (hu:X.A.units+1<cLine):OpR X (compareOp .LtE) (fun x y H Q=>∃(a b:Addr) (p q:SS),x = .ref a/\y = .ref b/\SqT K H a [.str p.1,.str p.2]/\SqT K H b [.str q.1,.str q.2]/\Q (.bl (!ltPP q p)) H):=by
  subst hK
  intro pins s σ H x y v u Q I rx ry h
  obtain⟨a,b,p,q,rfl,rfl,ha,hb,k⟩:=h
  cases rx
  cases ry
  show wpAny _ _ (richCompare .LtE (.ref a) (.ref b)) _ _ s
  exact zxf (by omega) (zsy I ha) (zsy I hb) ⟨.bl _,H,I,rfl,k⟩
end
theorem zrs:typeLookup (.type "list_reverseiterator") "__len__" = pure none:=by rw[typeLookup_type,builtinLookup_eq_fast];kernel_rfl
theorem zum:typeLookup (.type "list_reverseiterator") "__length_hint__" = pure (some (.builtin "list_reverseiterator.__length_hint__")):=by rw[typeLookup_type,builtinLookup_eq_fast];kernel_rfl
section
variable {prog:Program}{w:World}{A:Around}{E:Value->Shared->Prop}{s:Shared}
theorem zpq (hh:A.handled=none) (I l:Addr) (hne:l≠I) (items:Array Value) :
    Walks prog w A I [I,l] [I] items.size (fun i v=>items[items.size-1-i]? = some v) (fun i h=>IsRev h I l ((items.size:Int)-1-i)/\h.IsList l items) where
  sub:=fun b hb=>by simp at hb;simp[hb]
  frame:=fun _ _ _ st hk=>⟨st.1.at fun o e=>hk I (by simp) o e,st.2.at fun o e=>hk l (by simp) o e⟩
  item:=fun i s Q E hi st hQ=>by
    obtain⟨h1,h2⟩:=st
    have ej:(items.size:Int)-1-(i:Int)=((items.size-1-i:Nat):Int):=by omega
    rw[ej] at h1
    have hx:items[items.size-1-i]? = some (items[items.size-1-i]'(by omega)):=Array.getElem?_eq_getElem (by omega)
    refine zro h1 h2 hx fun h' r sb=>hQ _ h' s.toks hx ⟨?_,h2.at fun o e=>(sb.2 l hne).trans e⟩ fun b o hb e=>(sb.2 b (fun z=>hb (by simp[z]))).trans e
    rw[show (items.size:Int)-1-((i+1:Nat):Int)=((items.size-1-i:Nat):Int)-1 by omega]
    exact r
  done:=fun s Q E st hQ=>zui hh st.1 (by omega) fun h' kp=>hQ h' s.toks fun b o _ e=>kp b o e
  self:=fun i s Q E st hq=>zlt st.1 hq
theorem zkl {l it:Addr}{items:Array Value}{Q:Value->Shared->Prop}(hh:A.handled=none) (hr:IsRev s.heap it l ((items.size:Int)-1)) (hl:s.heap.IsList l items) (ne:l≠it) (hn:items.size<=sizeLine)
    (hQ:∀h1 acc c tk,(∀b o,b≠it->s.heap.get? b=some o->h1.get? b=some o)->h1.get? s.heap.objs.size=some { cls:=.type "list",dict:=none,data:=.seq acc c,slots:=#[] }->ItemsOf (fun i v=>items[items.size-1-i]? = some v) acc items.size->
      Q (.ref s.heap.objs.size) { s with heap:=h1,toks:=tk }):wpAny (model prog w) A (call (.type "list") [.ref it]) Q E s:=by
  have il:it<s.heap.objs.size:=by obtain⟨o,ho,_⟩:=hr;exact Heap.lt_size ho
  have ll:l<s.heap.objs.size:=by obtain⟨o,ho,_⟩:=hl;exact Heap.lt_size ho
  refine callType_codes (Q₁:=fun obj s1=>obj = .ref s.heap.objs.size/\s1 = { s with heap:=s.heap.push { cls:=.type "list",data:=.seq #[] } }) F.called_list (F.typeCall_list_1 _) F.entry_list_init (code_list_new _ ⟨rfl,rfl⟩) fun obj s1 h1=>?_
  obtain⟨rfl,rfl⟩:=h1
  have hS:(s.heap.push { cls:=.type "list",data:=.seq #[] }).get? s.heap.objs.size=some { cls:=.type "list",data:=.seq #[] }:=Heap.get?_push_size _ rfl
  refine⟨⟨_,hS,rfl⟩,F.args_list_init_2 _ _,zfh hS ?_⟩
  have l2:=Heap.get?_update_self (Obj.mapSeq (fun _=>(#[]:Array Value))) hS rfl
  have old:∀b o,s.heap.get? b=some o->((s.heap.push { cls:=.type "list",data:=.seq #[] }).update s.heap.objs.size (Obj.mapSeq (fun _=>(#[]:Array Value)))).get? b=some o:=fun b o e=>
    (Heap.get?_update_other _ _ (fun z=>Nat.lt_irrefl _ (z▸Heap.lt_size e))).trans (Heap.get?_push_of_some _ e)
  have hr2:=hr.at (h':=(s.heap.push { cls:=.type "list",data:=.seq #[] }).update s.heap.objs.size (Obj.mapSeq (fun _=>(#[]:Array Value)))) fun o e=>old it o e
  have hl2:=hl.at (h':=(s.heap.push { cls:=.type "list",data:=.seq #[] }).update s.heap.objs.size (Obj.mapSeq (fun _=>(#[]:Array Value)))) fun o e=>old l o e
  generalize (s.heap.push { cls:=.type "list",data:=.seq #[] }).update s.heap.objs.size (Obj.mapSeq (fun _=>(#[]:Array Value)))=g at l2 old hr2 hl2
  have T:({ s with heap:=g }:Shared).TypeIs (.ref it) "list_reverseiterator":=hr2.typeIs
  unfold Builtin.List.listExtendWith
  refine wpAny_bind (wpAny_typeOf T ?_)
  have sr:Builtin.List.listSameRef (.ref s.heap.objs.size) (.ref it)=false:=by
    have:s.heap.objs.size≠it:=Ne.symm (Nat.ne_of_lt il)
    simp[Builtin.List.listSameRef,this]
  rw[if_neg (by rw[sr];decide)]
  refine wpAny_bind (zlt (s:={ s with heap:=g }) hr2 ?_)
  refine wpAny_bind (wpAny_holding ?_)
  unfold Builtin.List.listLengthHint
  refine wpAny_bind (wpAny_specialOf T zrs ?_)
  show wpAny _ _ (specialOf (Value.ref it) (Str.ofString "__length_hint__") >>= _) _ _ _
  refine wpAny_bind (wpAny_specialOf T zum ?_)
  (generalize hid:("list_reverseiterator.__length_hint__" : String)=id0;(fail_if_success (clear hid id0));wp_delta;rw[show splitId id0=some ("list_reverseiterator","__length_hint__") from by subst hid;decide +kernel];subst hid)
  refine wpAny_bind (wpAny_isInstance (b:=true) T (by rw[isSubtype_type];kernel_rfl) ?_)
  refine wpAny_pure ?_
  rw[if_neg (by decide)]
  have SI:s.heap.objs.size ∉ [it,l]:=by
    intro z
    simp only [List.mem_cons,List.not_mem_nil,or_false] at z
    rcases z with z | z
    · exact absurd z (Ne.symm (Nat.ne_of_lt il))
    · exact absurd z (Ne.symm (Nat.ne_of_lt ll))
  have st0:IsRev g it l ((items.size:Int)-1-((0:Nat):Int))/\g.IsList l items:=⟨by simpa using hr2,hl2⟩
  refine wpAny_pure ⟨plainId_quiet F.plain_extend_loop _,codeAny_extend_loopS (zpq (prog:=prog) (w:=w) (A:=A.in1.in1) hh it l ne items).toS hn _ SI _ items.size 0 _ _ _ rfl (Nat.zero_le _) st0 l2 (ItemsOf.nil _) fun s' acc c hm h2 h3=>?_⟩
  obtain⟨hp,ge,dr,tk,os⟩:=s'
  obtain⟨m1,m2,m3,m4,m5⟩:=hm
  obtain rfl:ge=s.gens:=m2
  obtain rfl:dr=s.drawn:=m3
  obtain rfl:os=s.os:=m4
  refine⟨rfl,hQ hp acc c tk (fun b o hb e=>m1 b o ?_ (old b o e)) h2 h3⟩
  intro z
  have bl:=Heap.lt_size e
  simp only [List.mem_cons,List.not_mem_nil,or_false] at z
  rcases z with z | z
  · exact absurd bl (by rw[z];exact Nat.lt_irrefl _)
  · exact hb z
end
section
variable {X:Cx}
def zrt (K:PySem.W.Frag) (te:TE):TE:=fun σ H Q=>te σ H fun x H1=>∃l xs,x = .ref l/\SqL K H1 l xs/\∀r,H1 r=none->Q (.ref r) (upd H1 r (.lst xs.reverse))
theorem zmx (K:PySem.W.Frag) (hK:X.K=K) {e:Expr}{te:TE}{p1 p2 pos1 pos2:Pos}(hc:X.calm=true) (hg1:Gl X "list") (hm1:X.mg "list" = none) (hg2:Gl X "reversed") (hm2:X.mg "reversed" = none) (he:PE X e te) (hs:starEach [e] X.env = [(false,eval e X.env)]:=by rfl)
    (hs2:starEach [.Call (.Name "reversed" p2) [e] [] pos2] X.env = [(false,eval (.Call (.Name "reversed" p2) [e] [] pos2) X.env)]:=by rfl):PE X (.Call (.Name "list" p1) [.Call (.Name "reversed" p2) [e] [] pos2] [] pos1) (zrt K te):=by
  subst hK
  intro pins s σ H Q I h
  refine Call_ (zdo I hg1 hm1 boot_list (PyProof.Rows.callWith_type1 ?_ (by rw[hs2];rfl) rfl))
  rw[hs2]
  show wpAny _ _ (spliced ((false,eval (.Call (.Name "reversed" p2) [e] [] pos2) X.env)::[])) _ _ s
  refine Calls.spliced_cons ?_
  refine Call_ (zdo I hg2 hm2 boot_reversed (PyProof.Rows.callWith_type1 (thn (za he zd hs pos2 pins s σ H (fun vs H1=>match vs with | [x]=>∃l xs,x = .ref l/\SqL X.K H1 l xs/\∀r,H1 r=none->Q (.ref r) (upd H1 r (.lst xs.reverse)) | _=>False) I h) fun us s1 hq0=>?_) (by rw[hs];rfl) rfl))
  obtain⟨vs,H1,I1,r1,q1⟩:=hq0
  match vs,q1 with
  | [x],q1=>
    obtain⟨l,xs,rfl,hl,q⟩:=q1
    obtain⟨u,rfl,ru⟩:=zbs r1
    cases ru
    obtain⟨its,rv,pl,hz⟩:=I1.list hl
    have hn:=rv.length
    refine zrp pl.isList (Calls.spliced_nil ?_)
    have I2:Inv X pins σ H1 { s1 with heap:=s1.heap.push (zf6 l its.toArray.size) }:=I1.kept (t':=s1.toks) fun b o e=>Heap.get?_push_of_some _ e
    have ll:l<s1.heap.objs.size:=by obtain⟨_,e,_⟩:=pl.isList;exact Heap.lt_size e
    have hS:its.toArray.size<=sizeLine:=by rw[List.size_toArray];omega
    refine zkl (s:={ s1 with heap:=s1.heap.push (zf6 l its.toArray.size) }) (items:=its.toArray) (I1.ok.hd hc) ⟨_,Heap.get?_push_size _ rfl,rfl,rfl⟩ (pl.isList.push _) (Nat.ne_of_lt ll) hS fun h1 acc c tk kp el it=>?_
    have kp':∀b u,s1.heap.get? b=some u->h1.get? b=some u:=fun b u e=>kp b u (Nat.ne_of_lt (Heap.lt_size e)) (Heap.get?_push_of_some _ e)
    have hz2:(s1.heap.push (zf6 l its.toArray.size)).objs.size=s1.heap.objs.size+1:=by simp[Heap.push]
    have i1:=it.1
    have i2:=it.2
    refine⟨.ref (s1.heap.push (zf6 l its.toArray.size)).objs.size,_,I1.laid (t':=tk) (o:=.lst xs.reverse) kp' (by omega) ⟨by rw[List.length_reverse];omega,acc.toList,c,Vals.of_get ?_ fun i x v ex ev=>?_,by simpa using el⟩,rfl,q _ (I1.hok.fresh (by omega))⟩
    · simp only [List.length_reverse,Array.length_toList]
      simp only [List.size_toArray] at i1
      omega
    · have hi:i<xs.reverse.length:=(List.getElem?_eq_some_iff.1 ex).1
      rw[List.length_reverse] at hi
      rw[List.getElem?_reverse hi] at ex
      obtain⟨u,e1,r1⟩:=rv.get ex
      have e2:=i2 i v (by simpa using ev)
      simp only [List.size_toArray,List.getElem?_toArray] at e2
      rw[hn,e2] at e1
      cases e1
      exact r1
end
end L2
namespace Dm
open PySem PySem.NumText L2
theorem zlv (x:Str) (c:Nat):Txt.endswith x ⟨#[c]⟩=decide ((co x).getLast? = some c):=by
  obtain⟨a⟩:=x
  obtain⟨l⟩:=a
  rcases List.eq_nil_or_concat l with rfl | ⟨r,d,rfl⟩
  · rfl
  · rw[List.concat_eq_append]
    show (decide (0+1<=((r++[d]).toArray).size)&&(((r++[d]).toArray.extract (((r++[d]).toArray).size-1) ((((r++[d]).toArray).size-1)+1)) == #[c]))=decide ((r++[d]).getLast? = some c)
    have e1:decide (0+1<=((r++[d]).toArray).size)=true:=decide_eq_true (by simp)
    rw[e1,Bool.true_and]
    have e0:((r++[d]).toArray).size-1=r.length:=by simp
    rw[e0]
    have e2:((r++[d]).toArray.extract r.length (r.length+1)) = #[d]:=by simp
    rw[e2]
    by_cases h:d=c
    · subst h;simp
    · have:¬(r++[d]).getLast? = some c:=by simp[h]
      rw[decide_eq_false this]
      simp[h]
theorem zmy {x:Str}(h:zao x=true):Txt.endswith x (Str.ofString ":")=false:=by
  have e:(Str.ofString ":" : Str)=⟨#[58]⟩:=by decide +kernel
  rw[e,zlv]
  refine decide_eq_false fun z=>?_
  have hm:58∈co x:=List.mem_of_getLast? z
  unfold zao at h
  simp only [Bool.and_eq_true,decide_eq_true_eq] at h
  have:=of_decide_eq_true (List.all_eq_true.mp h.2 58 hm)
  exact absurd this (by decide +kernel)
def hdT (i:Int):Str:=Str.ofString (toString i)++Str.ofString ":"
theorem zgv (i:Int):co (hdT i)=co (Str.ofString (toString i))++[58]:=by
  unfold hdT
  rw[zy,zjg,zt]
theorem zru (i:Int):Txt.endswith (hdT i) (Str.ofString ":")=true:=by
  have e:(Str.ofString ":" : Str)=⟨#[58]⟩:=by decide +kernel
  rw[e,zlv,zgv]
  exact decide_eq_true (by simp)
theorem zun (i:Int):Txt.slice (hdT i) none (some (-1))=Str.ofString (toString i):=by
  apply zb8
  rw[ze0]
  have hl:(hdT i).length=(co (Str.ofString (toString i))).length+1:=by rw[←zq,zgv,List.length_append];rfl
  have e1:sIx' (hdT i).length 0 none=0:=rfl
  have e2:sIx' (hdT i).length (hdT i).length (some (-1))=(co (Str.ofString (toString i))).length:=by
    show (if (-1:Int)<0 then (max (-1+((hdT i).length:Int)) 0).toNat else min (-1:Int).toNat (hdT i).length)=_
    rw[if_pos (by decide),hl]
    omega
  rw[e1,e2,zgv]
  simp
theorem zjk (i:Int):32 ∉ co (hdT i)/\10 ∉ co (hdT i):=by
  obtain⟨h,_⟩:=zpk i
  rw[zgv]
  constructor <;>
  · intro z
    rcases List.mem_append.mp z with z | z
    · have:=h _ z
      omega
    · simp at z
theorem zpr (i:Int) {names:List Str}(h:names≠[]):rowT i names=zat (jc [32] (co (hdT i)::names.map co)):=by
  apply zb8
  rw[zhl i h,zhk,zt,zkk,List.map_map]
  rfl
theorem zps (i:Int) {names:List Str}(h:names≠[]) (hn:∀x∈names,zao x=true):Txt.split (rowT i names) " " = hdT i::names:=by
  have:=zdm (c:=32) (ls:=co (hdT i)::names.map co) (List.cons_ne_nil _ _) (fun x hx=>by
    rcases List.mem_cons.mp hx with rfl | hx
    · exact (zjk i).1
    · obtain⟨v,hv,rfl⟩:=List.mem_map.mp hx
      exact fun z=>((zbr (hn v hv)).1 32 z).1 rfl)
  rw[←zjf,←zpr i h,List.map_cons,zd5,List.map_map] at this
  refine this.trans ?_
  congr 1
  exact (List.map_congr_left fun v _=>zd5 _).trans (List.map_id names)
theorem zxg:(Str.ofString " > " : Str)=zat [32,62,32]:=by decide +kernel
theorem zlw (p:SS):zc3 p=zat (jc [32] [co p.1,[62],co p.2]):=by
  apply zb8
  unfold zc3
  show co (Str.empty++p.1++Str.ofString " > " ++ p.2)=_
  rw[zei,zy,zy,zxg,zt,zt]
  show _=co p.1++[32]++([62]++[32]++co p.2)
  simp
theorem zwj:zat [62]=(Str.ofString ">" : Str):=by decide +kernel
theorem zmz {p:SS}(h1:zao p.1=true) (h2:zao p.2=true):Txt.split (zc3 p) " " = [p.1,Str.ofString ">",p.2]:=by
  have:=zdm (c:=32) (ls:=[co p.1,[62],co p.2]) (List.cons_ne_nil _ _) (fun x hx=>by
    simp only [List.mem_cons,List.not_mem_nil,or_false] at hx
    rcases hx with rfl | rfl | rfl
    · exact fun z=>((zbr h1).1 32 z).1 rfl
    · decide
    · exact fun z=>((zbr h2).1 32 z).1 rfl)
  rw[←zjf,←zlw] at this
  refine this.trans ?_
  show [zat (co p.1),zat [62],zat (co p.2)]=_
  rw[zd5,zd5,zwj]
theorem zpt (i:Int) {names:List Str}(h:names≠[]) (hn:∀x∈names,zao x=true):10 ∉ co (rowT i names):=by
  rw[zpr i h,zt]
  intro z
  rcases zpl z with z | ⟨x,hx,z⟩
  · revert z;decide
  · rcases List.mem_cons.mp hx with rfl | hx
    · exact (zjk i).2 z
    · obtain⟨v,hv,rfl⟩:=List.mem_map.mp hx
      exact ((zbr (hn v hv)).1 10 z).2.1 rfl
theorem zm0 {p:SS}(h1:zao p.1=true) (h2:zao p.2=true):10 ∉ co (zc3 p):=by
  rw[zlw,zt]
  intro z
  rcases zpl z with z | ⟨x,hx,z⟩
  · revert z;decide
  · simp only [List.mem_cons,List.not_mem_nil,or_false] at hx
    rcases hx with rfl | rfl | rfl
    · exact ((zbr h1).1 10 z).2.1 rfl
    · revert z;decide
    · exact ((zbr h2).1 10 z).2.1 rfl
structure MatOk (rows:List (List Str)) (qs:List SS):Prop where
  rne:∀r∈rows,r≠[]
  rs:∀r∈rows,zfj r
  nm:∀r∈rows,∀x∈r,zao x=true
  nd:rows.flatten.Nodup
  ql:qs.Pairwise (fun a b=>ltPP a b=true)
  qm:∀p∈qs,p.1∈rows.flatten/\p.2∈rows.flatten
  l1:rows.flatten.length<=63
  l2:qs.length<=63
theorem zlx:∀{rows:List (List Str)},(∀r∈rows,r≠[])->rows.length<=rows.flatten.length
  | [],_=>Nat.le_refl _
  | r::rs,h=>by
    have:=zlx (rows:=rs) fun x hx=>h x (List.mem_cons_of_mem _ hx)
    have hr:=List.length_pos_iff.mpr (h r (List.mem_cons_self ..))
    rw[List.flatten_cons,List.length_append,List.length_cons]
    omega
theorem MatOk.rl {rows:List (List Str)}{qs:List SS}(h:MatOk rows qs):rows.length<=63:=Nat.le_trans (zlx h.rne) h.l1
theorem zca {r:List Str}:∀{rows:List (List Str)},r∈rows->r.length<=rows.flatten.length
  | s::rs,h=>by
    rw[List.flatten_cons,List.length_append]
    rcases List.mem_cons.mp h with rfl | h
    · omega
    · have:=zca h
      omega
theorem MatOk.rw63 {rows:List (List Str)}{qs:List SS}(h:MatOk rows qs) {r:List Str}(hr:r∈rows):r.length<=63:=Nat.le_trans (zca hr) h.l1
theorem MatOk.qn {rows:List (List Str)}{qs:List SS}(h:MatOk rows qs) {p:SS}(hp:p∈qs):zao p.1=true/\zao p.2=true:=by
  obtain⟨h1,h2⟩:=h.qm p hp
  obtain⟨r1,hr1,x1⟩:=List.mem_flatten.mp h1
  obtain⟨r2,hr2,x2⟩:=List.mem_flatten.mp h2
  exact⟨h.nm r1 hr1 _ x1,h.nm r2 hr2 _ x2⟩
def mTx (rows:List (List Str)) (qs:List SS):List Str:=
  ((List.range rows.length).map fun i=>rowT ((rows.length-1-i:Nat):Int) (rows.getD (rows.length-1-i) []))++qs.map zc3
theorem zhm (rows:List (List Str)) (qs:List SS):(mTx rows qs).length=rows.length+qs.length:=by
  unfold mTx
  rw[List.length_append,List.length_map,List.length_map,List.length_range]
theorem zkm {rows:List (List Str)}{qs:List SS}{i:Nat}(h:i<rows.length):(mTx rows qs)[i]? = some (rowT ((rows.length-1-i:Nat):Int) (rows.getD (rows.length-1-i) [])):=by
  unfold mTx
  rw[List.getElem?_append_left (by rw[List.length_map,List.length_range];exact h),List.getElem?_map,List.getElem?_range h]
  rfl
theorem zly {rows:List (List Str)}{qs:List SS}{i:Nat}(h:rows.length<=i):(mTx rows qs)[i]? = (qs[i-rows.length]?).map zc3:=by
  unfold mTx
  rw[List.getElem?_append_right (by rw[List.length_map,List.length_range];exact h),List.length_map,List.length_range,List.getElem?_map]
theorem zd8 {rows:List (List Str)}{i:Nat}(h:i<rows.length):rows.getD i []∈rows/\rows[i]? = some (rows.getD i []):=by
  have e:rows.getD i []=rows[i]:=by simp[List.getD,List.getElem?_eq_getElem h]
  rw[e]
  exact⟨List.getElem_mem _,List.getElem?_eq_getElem h⟩
theorem MatOk.line {rows:List (List Str)}{qs:List SS}(h:MatOk rows qs) {l:Str}(hl:l∈mTx rows qs):10 ∉ co l/\l.length<=900:=by
  unfold mTx at hl
  rcases List.mem_append.mp hl with hl | hl
  · obtain⟨i,hi,rfl⟩:=List.mem_map.mp hl
    have hi:=List.mem_range.mp hi
    obtain⟨hm,_⟩:=zd8 (rows:=rows) (i:=rows.length-1-i) (by omega)
    refine⟨zpt _ (h.rne _ hm) (h.nm _ hm),?_⟩
    have hr:=h.rl
    have h6:=h.rw63 hm
    rw[zhl _ (h.rne _ hm)]
    have h1:=zjh (xs:=rows.getD (rows.length-1-i) []) (fun x hx=>by
      have:=h.nm _ hm x hx
      unfold zao at this
      simp only [Bool.and_eq_true,decide_eq_true_eq] at this
      exact this.1.2) (Str.ofString (toString ((rows.length-1-i:Nat):Int))++Str.ofString ":")
    have h2:=zdn (rows.length-1-i) (by omega)
    have h3:(Str.ofString (toString ((rows.length-1-i:Nat):Int))++Str.ofString ":" : Str).length<=3:=by
      rw[←zq,zy,List.length_append,zq,zq]
      have:(Str.ofString ":" : Str).length=1:=by decide +kernel
      omega
    exact Nat.le_trans h1 (by omega)
  · obtain⟨p,hp,rfl⟩:=List.mem_map.mp hl
    obtain⟨n1,n2⟩:=h.qn hp
    refine⟨zm0 n1 n2,Nat.le_trans (zd7 ?_ ?_) (by decide)⟩
    · unfold zao at n1
      simp only [Bool.and_eq_true,decide_eq_true_eq] at n1
      exact n1.1.2
    · unfold zao at n2
      simp only [Bool.and_eq_true,decide_eq_true_eq] at n2
      exact n2.1.2
theorem MatOk.text {rows:List (List Str)}{qs:List SS}(h:MatOk rows qs) (hr:rows≠[]):Txt.split (Txt.join "\n" (mTx rows qs)) "\n" = mTx rows qs/\(Txt.join "\n" (mTx rows qs)).length<=1000000:=by
  have hl:=zhm rows qs
  have h0:=List.length_pos_iff.mpr hr
  refine⟨zms (fun z=>by rw[z] at hl;simp at hl;omega) fun l hl=>(h.line hl).1,(zfr ?_ fun l hl=>(h.line hl).2).1⟩
  have:=h.rl
  have:=h.l2
  omega
theorem zuo {x y:Str}{ls:List Str}(h:x≠""):Txt.join y (x::ls)≠"":=by
  intro z
  have:=congrArg co z
  rw[zd2] at this
  cases ls with
  | nil=>
    apply h
    apply zb8
    exact this
  | cons u r=>
    have e:jc (co y) ((x::u::r).map co)=co x++co y++jc (co y) ((u::r).map co):=rfl
    rw[e] at this
    have:co x = []:=by
      have h0:co ("" : Str) = []:=rfl
      rw[h0] at this
      have:=List.append_eq_nil_iff.mp this
      exact (List.append_eq_nil_iff.mp this.1).1
    exact h (zb8 this)
theorem MatOk.ne {rows:List (List Str)}{qs:List SS}(h:MatOk rows qs) (hr:rows≠[]):Txt.join "\n" (mTx rows qs)≠Str.ofString "":=by
  have h0:=List.length_pos_iff.mpr hr
  have e:=zkm (rows:=rows) (qs:=qs) (i:=0) h0
  cases hm:mTx rows qs with
  | nil=>rw[hm] at e;cases e
  | cons x ls=>
    rw[hm] at e
    have e:x=_:=Option.some.inj e
    refine zuo fun z=>?_
    obtain⟨hm,_⟩:=zd8 (rows:=rows) (i:=rows.length-1-0) (by omega)
    rw[z,zhl _ (h.rne _ hm)] at e
    have e:=congrArg co e
    rw[zhk] at e
    have e0:co ("" : Str) = []:=rfl
    rw[e0] at e
    have e1:=(List.append_eq_nil_iff.mp e.symm).1
    have e2:co (hdT ((rows.length-1-0:Nat):Int)) = []:=e1
    rw[zgv] at e2
    simp at e2
theorem q_nr:¬(("number" : Str) = "rows"):=by decide +kernel
theorem q_nk:¬(("number" : Str) = "known"):=by decide +kernel
theorem q_np:¬(("number" : Str) = "pairs"):=by decide +kernel
theorem q_rk:¬(("rows" : Str) = "known"):=by decide +kernel
theorem q_rp:¬(("rows" : Str) = "pairs"):=by decide +kernel
theorem q_kp:¬(("known" : Str) = "pairs"):=by decide +kernel
def rM (nv:V) (pr dk pp:Addr):List (Str×V):=[("number",nv),("rows",.ref pr),("known",.ref dk),("pairs",.ref pp)]
theorem zup (nv:V) (pr dk pp:Addr):putF "pairs" (.ref pp) (putF "known" (.ref dk) (putF "rows" (.ref pr) (putF "number" nv [])))=rM nv pr dk pp:=by
  show putF "pairs" (.ref pp) (putF "known" (.ref dk) (if ("number" : Str) = "rows" then _ else _))=_
  rw[if_neg q_nr]
  show putF "pairs" (.ref pp) (if ("number" : Str) = "known" then _ else (("number" : Str),nv)::(if ("rows" : Str) = "known" then _ else _))=_
  rw[if_neg q_nk,if_neg q_rk]
  show (if ("number" : Str) = "pairs" then _ else (("number" : Str),nv)::(if ("rows" : Str) = "pairs" then _ else (("rows" : Str),V.ref pr)::(if ("known" : Str) = "pairs" then _ else _)))=_
  rw[if_neg q_np,if_neg q_rp,if_neg q_kp]
  rfl
theorem zwk (nv nv':V) (pr dk pp:Addr):putF "number" nv' (rM nv pr dk pp)=rM nv' pr dk pp:=by
  show (if ("number" : Str) = "number" then _ else _)=_
  rw[if_pos rfl]
  rfl
theorem rM_n (nv:V) (pr dk pp:Addr):(rM nv pr dk pp).lookup ("number" : Str)=some nv:=zrl rfl
theorem rM_r (nv:V) (pr dk pp:Addr):(rM nv pr dk pp).lookup ("rows" : Str)=some (.ref pr):=by
  unfold rM
  rw[zf5 (fun z=>q_nr z.symm),zrl rfl]
theorem rM_k (nv:V) (pr dk pp:Addr):(rM nv pr dk pp).lookup ("known" : Str)=some (.ref dk):=by
  unfold rM
  rw[zf5 (fun z=>q_nk z.symm),zf5 (fun z=>q_rk z.symm),zrl rfl]
theorem rM_p (nv:V) (pr dk pp:Addr):(rM nv pr dk pp).lookup ("pairs" : Str)=some (.ref pp):=by
  unfold rM
  rw[zf5 (fun z=>q_np z.symm),zf5 (fun z=>q_rp z.symm),zf5 (fun z=>q_kp z.symm),zrl rfl]
theorem zpu (nv:V) (pr dk pp:Addr) {m:Str}(h:m ∉ (["number","rows","known","pairs"]:List Str)):(rM nv pr dk pp).lookup m=none:=by
  simp only [List.mem_cons,List.not_mem_nil,or_false,not_or] at h
  unfold rM
  rw[zf5 h.1,zf5 h.2.1,zf5 h.2.2.1,zf5 h.2.2.2];rfl
theorem zcu {α β:Type}{F G:α->β->Prop}:∀{as:List α}{bs:List β},Paired F as bs->(∀a∈as,∀b,F a b->G a b)->Paired G as bs
  | _,_,.nil,_=>.nil
  | _,_,.cons h t,f=>.cons (f _ (List.mem_cons_self ..) _ h) (zcu t fun a ha b=>f a (List.mem_cons_of_mem _ ha) b)
theorem zft {α β:Type}{F:α->β->Prop}{a:α}{b:β}(h:F a b):∀{as:List α}{bs:List β},Paired F as bs->Paired F (as++[a]) (bs++[b])
  | _,_,.nil=>.cons h .nil
  | _,_,.cons h' t=>.cons h' (zft h t)
theorem zhn {G:Hp}{p a:Addr}{o o1 o2:HO}(hp:G p=some o) (ha:G a=none):(upd (upd G a o1) p o2) p=some o2/\(upd (upd G a o1) p o2) a=some o1/\(∀b x,G b=some x->b≠p->(upd (upd G a o1) p o2) b=some x)/\(∀b,(upd (upd G a o1) p o2) b=none->G b=none/\b≠a/\b≠p)/\p≠a:=by
  have n:p≠a:=ze hp ha
  refine⟨zb,by rw[zf n.symm,zb],fun b x e hb=>by rw[zf hb,zf (ze e ha)];exact e,fun b e=>?_,n⟩
  have n1:b≠p:=fun z=>by rw[z,zb] at e;cases e
  rw[zf n1] at e
  have n2:b≠a:=fun z=>by rw[z,zb] at e;cases e
  rw[zf n2] at e
  exact⟨e,n2,n1⟩
structure MrAt (C:Addr) (H:Hp) (p pr dk pp:Addr) (nv:V) (cs:List Addr) (rows:List (List Str)) (ks:List Str) (bs:List Addr) (qs:List SS):Prop where
  ob:∃dx,H p=some (.ins C dx (rM nv pr dk pp))
  r:H pr=some (.lst (cs.map V.ref))
  rr:Paired (fun c row=>H c=some (.lst (row.map V.str))) cs rows
  d:H dk=some (.dK (dU ks))
  q:H pp=some (.lst (bs.map V.ref))
  qq:Paired (fun a (p:SS)=>H a=some (.tup [.str p.1,.str p.2])) bs qs
  n1:pr≠pp
  n2:pr ∉ cs
  n3:pp ∉ cs
def Kp4 (H H':Hp) (p pr dk pp:Addr):Prop:=∀b o,H b=some o->b≠p->b≠pr->b≠dk->b≠pp->H' b=some o
theorem Kp4.of {H H':Hp}{p pr dk pp:Addr}(h:Same H H'):Kp4 H H' p pr dk pp:=fun b o e _ _ _ _=>h b o e
theorem Kp4.trans {H H1 H2:Hp}{p pr dk pp:Addr}(h:Kp4 H H1 p pr dk pp) (h':Kp4 H1 H2 p pr dk pp):Kp4 H H2 p pr dk pp:=fun b o e b1 b2 b3 b4=>h' b o (h b o e b1 b2 b3 b4) b1 b2 b3 b4
theorem MrAt.same {C:Addr}{H H':Hp}{p pr dk pp:Addr}{nv:V}{cs:List Addr}{rows:List (List Str)}{ks:List Str}{bs:List Addr}{qs:List SS}(R:MrAt C H p pr dk pp nv cs rows ks bs qs) (s:Same H H'):MrAt C H' p pr dk pp nv cs rows ks bs qs:=by
  obtain⟨dx,h⟩:=R.ob
  exact⟨⟨dx,s _ _ h⟩,s _ _ R.r,Paired.mapP R.rr fun a b h=>s _ _ h,s _ _ R.d,s _ _ R.q,Paired.mapP R.qq fun a b h=>s _ _ h,R.n1,R.n2,R.n3⟩
theorem MrAt.free {C:Addr}{H H':Hp}{p pr dk pp:Addr}{nv:V}{cs:List Addr}{rows:List (List Str)}{ks:List Str}{bs:List Addr}{qs:List SS}(R:MrAt C H' p pr dk pp nv cs rows ks bs qs) (k:Kp4 H H' p pr dk pp) {a:Addr}(h:H' a=none):H a=none:=by
  obtain⟨dx,h1⟩:=R.ob
  cases e:H a with
  | none=>rfl
  | some o=>
    have:=k a o e (ze h1 h).symm (ze R.r h).symm (ze R.d h).symm (ze R.q h).symm
    rw[h] at this
    cases this
theorem MrAt.new {C:Addr}{H:Hp}{p pr dk pp:Addr}{nv:V}{cs:List Addr}{rows:List (List Str)}{ks:List Str}{bs:List Addr}{qs:List SS}(R:MrAt C H p pr dk pp nv cs rows ks bs qs) {a:Addr}(h:H a=none):a≠p/\a≠pr/\a≠dk/\a≠pp:=by
  obtain⟨dx,h1⟩:=R.ob
  exact⟨(ze h1 h).symm,(ze R.r h).symm,(ze R.d h).symm,(ze R.q h).symm⟩
theorem zlz {α β:Type}{F:α->β->Prop}:∀{as:List α}{bs:List β}{cs:List α}{ds:List β},Paired F as bs->Paired F cs ds->Paired F (as++cs) (bs++ds)
  | _,_,_,_,.nil,h=>h
  | _,_,_,_,.cons h t,h'=>.cons h (zlz t h')
theorem zl0 {α β:Type}{F:α->β->Prop}:∀{as:List α}{bs:List β},Paired F as bs->Paired F as.reverse bs.reverse
  | _,_,.nil=>.nil
  | _,_,.cons h t=>by
    rw[List.reverse_cons,List.reverse_cons]
    exact zlz (zl0 t) (.cons h .nil)
def nvOf (n i:Nat):V:=if i=0 then .non else .int ((n-i:Nat):Int)
theorem zwl {rows:List (List Str)}{i:Nat}(h:i<rows.length):rows.reverse.take (i+1)=rows.reverse.take i++[rows.getD (rows.length-1-i) []]:=by
  rw[List.take_add_one,List.getElem?_reverse h,(zd8 (rows:=rows) (i:=rows.length-1-i) (by omega)).2]
  rfl
theorem flat_rev_mem {rows:List (List Str)}{x:Str}:x∈rows.reverse.flatten↔x∈rows.flatten:=by
  simp only [List.mem_flatten,List.mem_reverse]
theorem zd9:∀rows:List (List Str),rows.reverse.flatten.Perm rows.flatten
  | []=>.refl _
  | r::rs=>by
    rw[List.reverse_cons,List.flatten_append,List.flatten_cons,List.flatten_cons,List.flatten_nil,List.append_nil]
    exact List.perm_append_comm.trans (List.Perm.append_left _ (zd9 rs))
theorem zho (rows:List (List Str)) (i:Nat):(rows.take i).flatten.Sublist rows.flatten:=by
  have:=List.take_append_drop i rows
  conv=>rhs;rw[←this,List.flatten_append]
  exact List.sublist_append_left _ _
def numT (word:Str) (o:Bool) (k:Nat):Str:=if o=true then Str.ofString (toString (k:Int))++Str.ofString "-" ++ word else word++Str.ofString "-" ++ Str.ofString (toString (k:Int))
theorem zhp:(Str.ofString "-" : Str)=zat [45]:=by decide +kernel
theorem zsz (k:Nat):∀c∈co (Str.ofString (toString (k:Int))),c∈co NAMES:=fun c hc=>by
  have e:co (Str.ofString (toString (k:Int)))=dg k:=zef k
  rw[e] at hc
  have:=zlh k c hc
  have h:∀d:Nat,d<10->48+d∈co NAMES:=by decide +kernel
  have:=h (c-48) (by omega)
  rwa [show 48+(c-48)=c by omega] at this
theorem zpv {k j:Nat}(h:co (Str.ofString (toString (k:Int)))=co (Str.ofString (toString (j:Int)))) (hk:k<64) (hj:j<64):k=j:=by
  have h:=zb8 h
  have d:∀k:Nat,k<64->∀j:Nat,j<64->Str.ofString (toString (k:Int))=Str.ofString (toString (j:Int))->k=j:=by decide +kernel
  exact d k hk j hj h
theorem zpw {word:Str}(h:zao word=true) (h8:word.length<=8) (o:Bool) {k:Nat}(hk:k<64):zao (numT word o k)=true:=by
  have hn:=zdn k hk
  obtain⟨h0,h1⟩:1<=word.length/\∀c∈co word,c∈co NAMES:=by
    unfold zao at h
    simp only [Bool.and_eq_true,decide_eq_true_eq] at h
    exact⟨h.1.1,fun c hc=>of_decide_eq_true (List.all_eq_true.mp h.2 c hc)⟩
  have h45:45∈co NAMES:=by decide +kernel
  have hs : [45].length=1:=rfl
  rw[←zq] at h0 h8 hn
  unfold numT
  cases o with
  | true=>
    rw[if_pos rfl]
    refine zd1 ?_ ?_ fun c hc=>?_
    · rw[zy,zy,List.length_append,List.length_append];omega
    · rw[zy,zy,List.length_append,List.length_append,zhp,zt];omega
    · rw[zy,zy,zhp,zt] at hc
      rcases List.mem_append.mp hc with hc | hc
      · rcases List.mem_append.mp hc with hc | hc
        · exact zsz k c hc
        · rw[List.mem_singleton.mp hc];exact h45
      · exact h1 c hc
  | false=>
    rw[if_neg (by decide)]
    refine zd1 ?_ ?_ fun c hc=>?_
    · rw[zy,zy,List.length_append,List.length_append];omega
    · rw[zy,zy,List.length_append,List.length_append,zhp,zt];omega
    · rw[zy,zy,zhp,zt] at hc
      rcases List.mem_append.mp hc with hc | hc
      · rcases List.mem_append.mp hc with hc | hc
        · exact h1 c hc
        · rw[List.mem_singleton.mp hc];exact h45
      · exact zsz k c hc
theorem zrv {word:Str}{o:Bool}{k j:Nat}(hk:k<64) (hj:j<64) (h:numT word o k=numT word o j):k=j:=by
  have h:=congrArg co h
  unfold numT at h
  cases o with
  | true=>
    rw[if_pos rfl,if_pos rfl,zy,zy,zy,zy] at h
    exact zpv (List.append_cancel_right (List.append_cancel_right h)) hk hj
  | false=>
    rw[if_neg (by decide),if_neg (by decide),zy,zy,zy (word++_),zy word] at h
    exact zpv (List.append_cancel_left h) hk hj
def zea (word:Str) (o:Bool) (n:Nat):List Str:=(List.range n).map (numT word o)
theorem zfu (word:Str) (o:Bool) (n:Nat):(zea word o n).length=n:=by unfold zea;rw[List.length_map,List.length_range]
theorem zkn {word:Str}{o:Bool}{n:Nat}(h:n<=64):(zea word o n).Nodup:=by
  unfold zea
  rw[List.nodup_iff_pairwise_ne,List.pairwise_map]
  refine List.Pairwise.imp_of_mem ?_ List.nodup_range
  intro a b ha hb ne z
  exact ne (zrv (by have:=List.mem_range.mp ha;omega) (by have:=List.mem_range.mp hb;omega) z)
theorem zm1 {word:Str}(h:zao word=true) (h8:word.length<=8) {o:Bool}{n:Nat}(hn:n<=64):∀x∈zea word o n,zao x=true:=fun x hx=>by
  obtain⟨k,hk,rfl⟩:=List.mem_map.mp hx
  exact zpw h h8 o (by have:=List.mem_range.mp hk;omega)
theorem zl1 {x:Str}:∀{gs:List (List Str)}{j:Nat}{g:List Str},gs[j]? = some g->(gs.set j (g++[x])).flatten.Perm (gs.flatten++[x])
  | [],j,g,h=>by cases h
  | a::gs,0,g,h=>by
    have h:a=g:=Option.some.inj h
    subst h
    show (a++[x]++gs.flatten).Perm (a++gs.flatten++[x])
    rw[List.append_assoc,List.append_assoc]
    exact List.Perm.append_left _ List.perm_append_comm
  | a::gs,j+1,g,h=>by
    have h:gs[j]? = some g:=h
    show (a++(gs.set j (g++[x])).flatten).Perm (a++gs.flatten++[x])
    rw[List.append_assoc]
    exact List.Perm.append_left _ (zl1 h)
theorem zl2 {H:Hp}{d:Addr}{g':List Str}:∀{cs:List Addr}{gs:List (List Str)}{j:Nat},Paired (fun c g=>H c=some (.lst (g.map V.str))) cs gs->cs.Nodup->cs[j]? = some d->Paired (fun c g=>upd H d (.lst (g'.map V.str)) c=some (.lst (g.map V.str))) cs (gs.set j g')
  | _,_,j,.nil,_,h=>by cases h
  | d'::cs,_,0,.cons h t,nd,e=>by
    have e:d'=d:=Option.some.inj e
    have nd:=List.nodup_cons.mp nd
    refine .cons (by rw[e];exact zb) (zcu t fun a ha b hb=>?_)
    have n:a≠d:=fun z=>nd.1 (by rw[e,←z];exact ha)
    rw[zf n]
    exact hb
  | a::cs,_,j+1,.cons h t,nd,e=>by
    have e:cs[j]? = some d:=e
    have nd:=List.nodup_cons.mp nd
    refine .cons ?_ (zl2 t nd.2 e)
    have n:a≠d:=fun z=>nd.1 (z▸List.mem_of_getElem? e)
    rw[zf n]
    exact h
theorem zm2 {K:PySem.W.Frag}{H:Hp}{n:Nat}{A B:Addr}{as bs:List Addr}{gs:List (List Str)}(hA:H A=some (.lst (as.map V.ref))) (hB:H B=some (.lst (bs.map V.ref))) (ta:Paired (fun c g=>H c=some (.lst (g.map V.str))) as gs) (tb:Paired (fun c g=>H c=some (.lst (g.map V.str))) bs gs):DEq K H (n+1+1) (.ref A) (.ref B) true:=by
  have la:=Paired.length ta
  have lb:=Paired.length tb
  refine DEq.allL (SqL.of hA) (SqL.of hB) (by rw[List.length_map,List.length_map];omega) fun i x y ex ey=>?_
  rw[List.getElem?_map] at ex ey
  cases e1:as[i]? with
  | none=>rw[e1] at ex;cases ex
  | some a=>
    rw[e1] at ex
    cases ex
    cases e2:bs[i]? with
    | none=>rw[e2] at ey;cases ey
    | some b=>
      rw[e2] at ey
      cases ey
      obtain⟨g,hg,h1⟩:=Paired.get' ta e1
      obtain⟨g',hg',h2⟩:=Paired.get' tb e2
      rw[hg] at hg'
      cases hg'
      exact DEq.sameL (SqL.of h1) (SqL.of h2) zi5
def zbb (keys:List Str) (lv:Str->Nat) (n:Nat):List (List Str):=(List.range n).map fun j=>keys.filter (rowB lv j)
theorem zgw (keys:List Str) (lv:Str->Nat) (n:Nat):(zbb keys lv n).length=n:=by unfold zbb;rw[List.length_map,List.length_range]
theorem zpx {keys:List Str}{lv:Str->Nat}{n j:Nat}(h:j<n):(zbb keys lv n).getD j []=keys.filter (rowB lv j):=by
  unfold zbb
  rw[List.getD_eq_getElem?_getD,List.getElem?_map,List.getElem?_range h]
  rfl
theorem zm3 (keys:List Str) (lv:Str->Nat) (n:Nat) (qs:List SS):zji keys lv n qs=mTx (zbb keys lv n) qs:=by
  unfold zji mTx
  rw[zgw]
  congr 1
  refine List.map_congr_left fun i hi=>?_
  have hi:=List.mem_range.mp hi
  rw[zpx (by omega),show (n:Int)-1-(i:Nat)=((n-1-i:Nat):Int) by omega]
theorem zl3 {p q r:Str->Bool}(h:∀x,r x=(p x||q x)) (h2:∀x,¬(p x=true/\q x=true)):∀l:List Str,(l.filter p++l.filter q).Perm (l.filter r)
  | []=>.refl _
  | x::l=>by
    have ih:=zl3 h h2 l
    have hx:=h x
    cases hp:p x with
    | true=>
      have hq:q x=false:=by
        cases hq:q x with
        | false=>rfl
        | true=>exact absurd ⟨hp,hq⟩ (h2 x)
      rw[hp,hq] at hx
      rw[List.filter_cons_of_pos hp,List.filter_cons_of_neg (by rw[hq];decide),List.filter_cons_of_pos hx]
      exact ih.cons x
    | false=>
      cases hq:q x with
      | true=>
        rw[hp,hq] at hx
        rw[List.filter_cons_of_neg (by rw[hp];decide),List.filter_cons_of_pos hq,List.filter_cons_of_pos hx]
        exact List.perm_middle.trans (ih.cons x)
      | false=>
        rw[hp,hq] at hx
        rw[List.filter_cons_of_neg (by rw[hp];decide),List.filter_cons_of_neg (by rw[hq];decide),List.filter_cons_of_neg (by rw[hx];decide)]
        exact ih
theorem zfv (keys:List Str) (lv:Str->Nat):∀n,(zbb keys lv n).flatten.Perm (keys.filter fun x=>decide (lv x<n))
  | 0=>by
    have:(keys.filter fun x=>decide (lv x<0)) = []:=List.filter_eq_nil_iff.mpr fun x _=>by simp
    rw[this]
    exact .refl _
  | n+1=>by
    have ih:=zfv keys lv n
    have e:zbb keys lv (n+1)=zbb keys lv n++[keys.filter (rowB lv n)]:=by
      unfold zbb
      rw[List.range_succ,List.map_append]
      rfl
    rw[e,List.flatten_append,List.flatten_cons,List.flatten_nil,List.append_nil]
    refine (ih.append_right _).trans (zl3 (fun x=>?_) (fun x=>?_) keys)
    · unfold rowB
      by_cases h1:lv x<n
      · rw[decide_eq_true h1,decide_eq_true (show lv x<n+1 by omega)];rfl
      · rw[decide_eq_false h1,Bool.false_or,decide_eq_decide]
        omega
    · unfold rowB
      rintro ⟨h1,h2⟩
      have h1:=of_decide_eq_true h1
      have h2:=of_decide_eq_true h2
      omega
theorem Lv.perm {ln:Ln}{keys:List Str}{lv:Str->Nat}{n:Nat}(L:Lv ln keys lv n):(zbb keys lv n).flatten.Perm keys:=by
  have:=zfv keys lv n
  rwa [List.filter_eq_self.mpr fun x hx=>decide_eq_true (L.lt x hx)] at this
theorem Lv.mat {ln:Ln}{keys:List Str}{lv:Str->Nat}{n:Nat}{qs:List SS}(L:Lv ln keys lv n) (kl:keys.Pairwise (fun a b=>co a<co b)) (nd:keys.Nodup) (nm:∀x∈keys,zao x=true) (lk:keys.length<=63) (ql:qs.Pairwise (fun a b=>ltPP a b=true)) (qm:∀p∈qs,p.1∈keys/\p.2∈keys) (l2:qs.length<=63):MatOk (zbb keys lv n) qs:=by
  have pm:=L.perm
  have hr:∀r∈zbb keys lv n,∃j,j<n/\r=keys.filter (rowB lv j):=fun r h=>by
    obtain⟨j,hj,rfl⟩:=List.mem_map.mp h
    exact⟨j,List.mem_range.mp hj,rfl⟩
  refine⟨fun r h=>?_,fun r h=>?_,fun r h x hx=>?_,pm.nodup_iff.mpr nd,ql,fun p hp=>?_,by rw[pm.length_eq];exact lk,l2⟩
  · obtain⟨j,hj,rfl⟩:=hr r h
    exact L.row_ne hj
  · obtain⟨j,hj,rfl⟩:=hr r h
    refine List.Pairwise.imp ?_ (kl.filter _)
    intro a b h1 h2
    exact List.lt_irrefl _ (List.lt_trans h1 h2)
  · obtain⟨j,hj,rfl⟩:=hr r h
    exact nm x (List.mem_filter.mp hx).1
  · exact⟨pm.mem_iff.mpr (qm p hp).1,pm.mem_iff.mpr (qm p hp).2⟩
theorem zpy {ln:Ln}{M:List Str}{lv lv':Str->Nat}{n n':Nat}(h:Lv ln M lv n) (h':Lv ln M lv' n'):zbb M lv n=zbb M lv' n':=by
  have en:=h.uniqN h'
  subst en
  unfold zbb
  refine List.map_congr_left fun j _=>?_
  refine List.filter_congr fun x hx=>?_
  unfold rowB
  rw[h.uniq h' _ x hx rfl]
theorem zko {H:Hp}{keys:List Str}{lv:Str->Nat}:∀{n:Nat}{cs:List Addr},cs.length=n->(∀(j:Nat) c,cs[j]? = some c->H c=some (.lst ((keys.filter (rowB lv j)).map V.str)))->Paired (fun c row=>H c=some (.lst (row.map V.str))) cs (zbb keys lv n):=by
  have go:∀(cs:List Addr) (rs:List (List Str)),cs.length=rs.length->(∀(j:Nat) c r,cs[j]? = some c->rs[j]? = some r->H c=some (.lst (r.map V.str)))->Paired (fun c row=>H c=some (.lst (row.map V.str))) cs rs:=by
    intro cs
    induction cs with
    | nil=>
      intro rs hl _
      cases rs with
      | nil=>exact .nil
      | cons r rs=>cases hl
    | cons c cs ih=>
      intro rs hl h
      cases rs with
      | nil=>cases hl
      | cons r rs=>exact .cons (h 0 c r rfl rfl) (ih rs (Nat.succ.inj hl) fun j c r h1 h2=>h (j+1) c r h1 h2)
  intro n cs hl h
  refine go cs _ (by rw[zgw];exact hl) fun j c r h1 h2=>?_
  unfold zbb at h2
  rw[List.getElem?_map] at h2
  have hj:j<n:=by
    have:=zav h1
    omega
  rw[List.getElem?_range hj] at h2
  cases h2
  exact h j c h1
theorem zhq {ns:List Int}{a b:Nat}:∃cs:List Int,cutV (ns.map V.int) (some (a:Int)) (some (b:Int))=cs.map V.int/\cs.length<=b-a:=by
  refine⟨((ns.drop (HT.sIx (ns.map V.int).length 0 (some (a:Int)))).take (HT.sIx (ns.map V.int).length (ns.map V.int).length (some (b:Int))-HT.sIx (ns.map V.int).length 0 (some (a:Int)))),?_,?_⟩
  · unfold cutV
    rw[List.map_take,List.map_drop]
  · rw[List.length_take,List.length_drop]
    unfold HT.sIx
    dsimp only
    rw[if_neg (by omega),if_neg (by omega),List.length_map]
    omega
theorem zxh {x:Str}(h:zao x=true):zao (Txt.slice x none (some 8))=true/\(Txt.slice x none (some 8)).length<=8:=by
  have e:co (Txt.slice x none (some 8))=(co x).take (min 8 x.length):=by
    rw[ze0]
    rfl
  obtain⟨h0,h1,h2⟩:1<=x.length/\x.length<=12/\∀c∈co x,c∈co NAMES:=by
    unfold zao at h
    simp only [Bool.and_eq_true,decide_eq_true_eq] at h
    exact⟨h.1.1,h.1.2,fun c hc=>of_decide_eq_true (List.all_eq_true.mp h.2 c hc)⟩
  have hl:(co (Txt.slice x none (some 8))).length=min 8 x.length:=by
    rw[e,List.length_take,zq]
    omega
  refine⟨zd1 (by omega) (by omega) fun c hc=>?_,by rw[←zq];omega⟩
  rw[e] at hc
  exact h2 c (List.mem_of_mem_take hc)
theorem zpz {us:List Str}(nd:us.Nodup) {i j:Nat}{a b:Str}(ha:us[i]? = some a) (hb:us[j]? = some b) (h:j<i):(us.idxOf b:Int)<(us.idxOf a:Int):=by
  have key:∀{k:Nat}{c:Str},us[k]? = some c->us.idxOf c=k:=fun {k c} e=>by
    obtain⟨hk,e⟩:=List.getElem?_eq_some_iff.mp e
    rw[←e]
    exact List.Nodup.idxOf_getElem nd k hk
  rw[key ha,key hb]
  omega
abbrev Tr:=Tie×Addr
abbrev Rw:=Str->List (Str×Tr)
abbrev Chn:=Int×Str×List Tr
variable {R:Rw}{F G:Str->IS->Prop}{k:Str}{keys:List Str}
def nar (j:Int) (f:Fnd):Fnd:=⟨f.n,f.u,f.lo,if j=0 then f.hi else if j=1 then f.lo else f.lo+1⟩
end Dm
namespace L2
open PySem PySem.Spec PyProof.Rows
end L2
namespace LK72
open PySem L2 Dm PySem.NumText
def top (i:Nat):Stmt:=PySem.Challenge.pw_digmatrix_k72_a_matrix_read_again.main.body.getD i (.Pass ⟨0,0,0,0⟩)
structure Tx (K:PySem.W.Frag) (mg:Str->Option Value) (w:World) (C_MatrixReading:Addr):Prop where
  zeu:mg "MatrixReading" = some (.ref C_MatrixReading)
  zh:Cls K C_MatrixReading
  zev:PySem.W.makesIn K C_MatrixReading=true
  zew:PySem.W.keepIn K (.ref C_MatrixReading)=true
  zaa:NoAttr K C_MatrixReading "number"
  za5:NoAttr K C_MatrixReading "rows"
  zah:NoAttr K C_MatrixReading "known"
  zac:NoAttr K C_MatrixReading "pairs"
  zcp:DfM K C_MatrixReading "MatrixReading.__init__" "__init__" (zcd (top 33) 0) ["self"]
  zb4:DfM K C_MatrixReading "MatrixReading.takes_line" "takes_line" (zcd (top 33) 1) ["self","line"]
  zbp:DfM K C_MatrixReading "MatrixReading.takes_number" "takes_number" (zcd (top 33) 2) ["self","number"]
  zb1:DfM K C_MatrixReading "MatrixReading.takes_names" "takes_names" (zcd (top 33) 3) ["self","names"]
  zb5:DfM K C_MatrixReading "MatrixReading.takes_pair" "takes_pair" (zcd (top 33) 4) ["self","pair"]
  zkt:Df K mg "one_names" (top 1) ["units","ties"]
  zku:Df K mg "join_ones" (top 2) ["names","first","second"]
  zwv:Df K mg "ones" (top 3) ["units","ties"]
  zf9:Df K mg "ties_beneath" (top 4) ["telling"]
  zex:Df K mg "shortest_round" (top 10) ["telling"]
  zf0:Df K mg "round_through" (top 11) ["start","beneath"]
  zga:Df K mg "refuse_round" (top 12) ["telling"]
  zu4:Df K mg "order" (top 13) ["telling"]
  zjq:Df K mg "least_free" (top 14) ["beneath","placed"]
  zne:Df K mg "rests_on" (top 15) ["lowers","placed"]
  zh1:Df K mg "all_beneath" (top 17) ["telling"]
  zu5:Df K mg "drawn" (top 18) ["telling"]
  zgb:Df K mg "lies_between" (top 19) ["depths","upper","lower"]
  zsa:Df K mg "levels" (top 21) ["telling"]
  zp7:Df K mg "is_name" (top 27) ["text"]
  zh2:Df K mg "read_number" (top 28) ["text"]
  zjr:Df K mg "is_made_of" (top 29) ["text","signs"]
  zh3:Df K mg "show_matrix" (top 31) ["telling"]
  zjs:Df K mg "show_level" (top 32) ["number","names"]
  zh4:Df K mg "read_matrix" (top 34) ["text"]
  zgc:Df K mg "_law_cell_at" (top 36) ["_law_script","_law_k"]
  zkv:Df K mg "_law_part" (top 37) ["_law_cell","_law_k","_law_many"]
  zjt:Df K mg "_law_names" (top 38) ["_law_one","_law_other","_law_many"]
  zf1:Df K mg "_law_numbered" (top 39) ["_law_word","_law_cell","_law_k"]
  zh5:Df K mg "_law_groups" (top 40) ["_law_word","_law_first","_law_cells"]
  zju:Df K mg "_law_pairs" (top 41) ["_law_names_here","_law_cells"]
  zkw:Df K mg "_law_text" (top 42) ["_law_groups_here","_law_pairs_here"]
  zp8:Df K mg "_law_is" (top 43) ["_law_answer","_law_groups_here","_law_pairs_here"]
  zxj:Df K mg "law" (top 44) ["_law_script"]
  zp9:∃u,mg "FIGURES" = some u/\RelV (.str "0123456789") u
  zjv:∃u,mg "NAME_SIGNS" = some u/\RelV (.str "abcdefghijklmnopqrstuvwxyz0123456789-") u
  zgd:∃u,mg "LONGEST_NAME" = some u/\RelV (.int 12) u
  zge:∃u,mg "MOST_FIGURES" = some u/\RelV (.int 60) u
  min:mg "min" = none
  list:mg "list" = none
  sorted:mg "sorted" = none
  all:mg "all" = none
  any:mg "any" = none
  int:mg "int" = none
  enumerate:mg "enumerate" = none
  range:mg "range" = none
  len:mg "len" = none
  max:mg "max" = none
  isinstance:mg "isinstance" = none
  str:mg "str" = none
  reversed:mg "reversed" = none
  tuple:mg "tuple" = none
theorem Tx.ex {K:PySem.W.Frag}{mg:Str->Option Value}{w:World}{C_MatrixReading:Addr}(T:Tx K mg w C_MatrixReading):∃C_MatrixReading,Tx K mg w C_MatrixReading:=⟨_,T⟩
theorem sc_one_names:FnScope ["units","ties","names","unit","tie"] ["units","ties"] (zi (top 1)):=⟨rfl,rfl,rfl,by decide +kernel,rfl,by decide +kernel,by decide +kernel⟩
theorem sc_join_ones:FnScope ["names","first","second","least","unit"] ["names","first","second"] (zi (top 2)):=⟨rfl,rfl,rfl,by decide +kernel,rfl,by decide +kernel,by decide +kernel⟩
theorem sc_ones:FnScope ["units","ties","names","members","unit"] ["units","ties"] (zi (top 3)):=⟨rfl,rfl,rfl,by decide +kernel,rfl,by decide +kernel,by decide +kernel⟩
theorem sc_ties_beneath:FnScope ["telling","names","beneath","members","tie"] ["telling"] (zi (top 4)):=⟨rfl,rfl,rfl,by decide +kernel,rfl,by decide +kernel,by decide +kernel⟩
theorem sc_shortest_round:FnScope ["telling","beneath","shortest","name","ties"] ["telling"] (zi (top 10)):=⟨rfl,rfl,rfl,by decide +kernel,rfl,by decide +kernel,by decide +kernel⟩
theorem sc_round_through:FnScope ["start","beneath","met","ways","longer","name","ties","lower","tie"] ["start","beneath"] (zi (top 11)):=⟨rfl,rfl,rfl,by decide +kernel,rfl,by decide +kernel,by decide +kernel⟩
theorem sc_refuse_round:FnScope ["telling","ties"] ["telling"] (zi (top 12)):=⟨rfl,rfl,rfl,by decide +kernel,rfl,by decide +kernel,by decide +kernel⟩
theorem sc_order:FnScope ["telling","beneath","placed"] ["telling"] (zi (top 13)):=⟨rfl,rfl,rfl,by decide +kernel,rfl,by decide +kernel,by decide +kernel⟩
theorem sc_least_free:FnScope ["beneath","placed","free"] ["beneath","placed"] (zi (top 14)):=⟨rfl,rfl,rfl,by decide +kernel,rfl,by decide +kernel,by decide +kernel⟩
theorem zkp:FnScope ["lowers","placed"] ["lowers","placed"] (zi (top 15)):=⟨rfl,rfl,rfl,by decide +kernel,rfl,by decide +kernel,by decide +kernel⟩
theorem sc_all_beneath:FnScope ["telling","straight","depths","name","lower","tie"] ["telling"] (zi (top 17)):=⟨rfl,rfl,rfl,by decide +kernel,rfl,by decide +kernel,by decide +kernel⟩
theorem sc_drawn:FnScope ["telling","straight","depths","pairs","name","lower","tie"] ["telling"] (zi (top 18)):=⟨rfl,rfl,rfl,by decide +kernel,rfl,by decide +kernel,by decide +kernel⟩
theorem zfw:FnScope ["depths","upper","lower"] ["depths","upper","lower"] (zi (top 19)):=⟨rfl,rfl,rfl,by decide +kernel,rfl,by decide +kernel,by decide +kernel⟩
theorem sc_levels:FnScope ["telling","beneath","numbers","rows","name","number"] ["telling"] (zi (top 21)):=⟨rfl,rfl,rfl,by decide +kernel,rfl,by decide +kernel,by decide +kernel⟩
theorem zm4:FnScope ["text"] ["text"] (zi (top 27)):=⟨rfl,rfl,rfl,by decide +kernel,rfl,by decide +kernel,by decide +kernel⟩
theorem sc_read_number:FnScope ["text","figures"] ["text"] (zi (top 28)):=⟨rfl,rfl,rfl,by decide +kernel,rfl,by decide +kernel,by decide +kernel⟩
theorem zhr:FnScope ["text","signs"] ["text","signs"] (zi (top 29)):=⟨rfl,rfl,rfl,by decide +kernel,rfl,by decide +kernel,by decide +kernel⟩
theorem sc_show_matrix:FnScope ["telling","rows","lines"] ["telling"] (zi (top 31)):=⟨rfl,rfl,rfl,by decide +kernel,rfl,by decide +kernel,by decide +kernel⟩
theorem sc_show_level:FnScope ["number","names","listed"] ["number","names"] (zi (top 32)):=⟨rfl,rfl,rfl,by decide +kernel,rfl,by decide +kernel,by decide +kernel⟩
theorem sc_read_matrix:FnScope ["text","reading","lines","row","line"] ["text"] (zi (top 34)):=⟨rfl,rfl,rfl,by decide +kernel,rfl,by decide +kernel,by decide +kernel⟩
theorem zfx:FnScope ["_law_script","_law_k"] ["_law_script","_law_k"] (zi (top 36)):=⟨rfl,rfl,rfl,by decide +kernel,rfl,by decide +kernel,by decide +kernel⟩
theorem zjl:FnScope ["_law_cell","_law_k","_law_many"] ["_law_cell","_law_k","_law_many"] (zi (top 37)):=⟨rfl,rfl,rfl,by decide +kernel,rfl,by decide +kernel,by decide +kernel⟩
theorem sc__law_names:FnScope ["_law_one","_law_other","_law_many","_law_signs","_law_size","_law_at","_law_names_here","_law_k","_law_name","_law_j","_law_number"] ["_law_one","_law_other","_law_many"] (zi (top 38)):=⟨rfl,rfl,rfl,by decide +kernel,rfl,by decide +kernel,by decide +kernel⟩
theorem zes:FnScope ["_law_word","_law_cell","_law_k"] ["_law_word","_law_cell","_law_k"] (zi (top 39)):=⟨rfl,rfl,rfl,by decide +kernel,rfl,by decide +kernel,by decide +kernel⟩
theorem sc__law_groups:FnScope ["_law_word","_law_first","_law_cells","_law_groups_here","_law_k","_law_name"] ["_law_word","_law_first","_law_cells"] (zi (top 40)):=⟨rfl,rfl,rfl,by decide +kernel,rfl,by decide +kernel,by decide +kernel⟩
theorem sc__law_pairs:FnScope ["_law_names_here","_law_cells","_law_pairs_here","_law_cell","_law_pair"] ["_law_names_here","_law_cells"] (zi (top 41)):=⟨rfl,rfl,rfl,by decide +kernel,rfl,by decide +kernel,by decide +kernel⟩
theorem sc__law_text:FnScope ["_law_groups_here","_law_pairs_here","_law_lines","_law_k","_law_number","_law_line","_law_name","_law_one","_law_other"] ["_law_groups_here","_law_pairs_here"] (zi (top 42)):=⟨rfl,rfl,rfl,by decide +kernel,rfl,by decide +kernel,by decide +kernel⟩
theorem zm5:FnScope ["_law_answer","_law_groups_here","_law_pairs_here"] ["_law_answer","_law_groups_here","_law_pairs_here"] (zi (top 43)):=⟨rfl,rfl,rfl,by decide +kernel,rfl,by decide +kernel,by decide +kernel⟩
theorem sc_law:FnScope ["_law_script","_law_word","_law_groups_here","_law_names_here","_law_pairs_here","_law_text_here","_law_answer","_law_units","_law_ties","_law_cell","_law_one","_law_tie","_law_telling"] ["_law_script"] (zi (top 44)):=⟨rfl,rfl,rfl,by decide +kernel,rfl,by decide +kernel,by decide +kernel⟩
theorem zcg:FnScope ["self"] ["self"] (zi (zcd (top 33) 0)):=⟨rfl,rfl,rfl,by decide +kernel,rfl,by decide +kernel,by decide +kernel⟩
theorem sc_MatrixReading_takes_line:FnScope ["self","line","words"] ["self","line"] (zi (zcd (top 33) 1)):=⟨rfl,rfl,rfl,by decide +kernel,rfl,by decide +kernel,by decide +kernel⟩
theorem zbi:FnScope ["self","number"] ["self","number"] (zi (zcd (top 33) 2)):=⟨rfl,rfl,rfl,by decide +kernel,rfl,by decide +kernel,by decide +kernel⟩
theorem sc_MatrixReading_takes_names:FnScope ["self","names","name"] ["self","names"] (zi (zcd (top 33) 3)):=⟨rfl,rfl,rfl,by decide +kernel,rfl,by decide +kernel,by decide +kernel⟩
theorem zbz:FnScope ["self","pair"] ["self","pair"] (zi (zcd (top 33) 4)):=⟨rfl,rfl,rfl,by decide +kernel,rfl,by decide +kernel,by decide +kernel⟩
section
variable {P:Program}{w:World}{K:PySem.W.Frag}{mg:Str->Option Value}{base:Heap}{C_MatrixReading:Addr}
local macro_rules | `(tactic| walk_at "rd")=>`(tactic| repeat (first | refine⟨_,rfl,?_⟩ | refine⟨_,_,rfl,rfl,?_⟩ | refine⟨_,_,_,rfl,?_⟩))
local macro_rules | `(tactic| walk_at "rd")=>`(tactic| repeat (first | refine⟨_,rfl,?_⟩ | refine⟨_,_,rfl,rfl,?_⟩ | refine⟨_,_,_,rfl,?_⟩))
def zuq:Sp:=fun vs H Q _=>∃(a:Addr) (ns:List Int) (i:Int),vs = [.ref a,.int i]/\SqL K H a (ns.map V.int)/\0<=i/\Q (.int (zde ns i)) H
theorem za0 (T:Tx K mg w C_MatrixReading):Has P w K mg base "_law_cell_at" ["_law_script","_law_k"] 1 (zuq (K:=K)):=by
  refine T.zgc.has zfx (fun vs H Q E h=>?_) (fun f cdv A outer s H vs Q E hr h=>?_)
  · obtain⟨a,ns,i,rfl,_⟩:=h;rfl
  · obtain⟨a,ns,i,rfl,ha,h0,k⟩:=h
    refine⟨_,(zc (za3 (zab zqe (pv 1) (zn (zx K rfl) (by rfl) T.len boot_len (za (pv 0) zd)) (zai _)) (zg (zw (zan (zaf K rfl) (pv 0) (pv 1) (fun _ _=>rfl)))) zz)
      (zg (zw zj))),?_⟩
    refine⟨_,rfl,_,rfl,a,_,rfl,.inl ha,_,_,rfl,rfl,_,rfl,?_⟩
    refine ite2 (fun c=>?_) (fun c=>?_)
    · have c:=of_decide_eq_true c
      rw[List.length_map] at c
      have hi:i.toNat<ns.length:=by omega
      refine⟨_,rfl,_,rfl,a,_,i,.int (zde ns i),rfl,rfl,ha,?_,k⟩
      have e:zde ns i=ns[i.toNat]:=by unfold zde;rw[List.getD_eq_getElem?_getD,List.getElem?_eq_getElem hi];rfl
      have:=zba (xs:=ns.map V.int) (j:=i.toNat) (v:=.int (zde ns i)) (by rw[e];simp[hi])
      rw[Int.toNat_of_nonneg h0] at this
      exact this
    · have c:¬i<((ns.map V.int).length:Int):=fun z=>c (decide_eq_true z)
      rw[List.length_map] at c
      have e:zde ns i=0:=by unfold zde;rw[List.getD_eq_getElem?_getD,List.getElem?_eq_none (by omega)];rfl
      rw[e] at k
      exact k
def zur:Sp:=fun vs H Q _=>∃c k m:Int,vs = [.int c,.int k,.int m]/\0<m/\Q (.int (pt c k m)) H
theorem zax (T:Tx K mg w C_MatrixReading):Has P w K mg base "_law_part" ["_law_cell","_law_k","_law_many"] 1 zur:=by
  refine T.zkv.has zjl (fun vs H Q E h=>?_) (fun f cdv A outer s H vs Q E hr h=>?_)
  · obtain⟨c,i,m,rfl,_⟩:=h;rfl
  · obtain⟨c,i,m,rfl,hm,k⟩:=h
    refine⟨_,(zg (zw (za6 ze8 (za6 ze8 (za6 znl (za6 ze8 (za6 znl (za6 ze7 (za6 ze8 (pv 0) zj) zj) (za6 ze7 zj (za6 znl zj (pv 1)))) zj) (za6 ze7 (pv 1) zj)) zj) (pv 2)))),?_⟩
    have b1:=Int.emod_nonneg c (show (99991:Int)≠0 by decide)
    have b2:=Int.emod_lt_of_pos c (show (0:Int)<99991 by decide)
    have b3:=Int.emod_nonneg ((c%99991+17) * (48271+7919 * i)) (show (65537:Int)≠0 by decide)
    have b4:=Int.emod_lt_of_pos ((c%99991+17) * (48271+7919 * i)) (show (0:Int)<65537 by decide)
    walk_at "rd"
    refine⟨(by decide:(0:Int)<99991),?_⟩
    walk_at "rd"
    refine⟨.inl ⟨by decide,by decide⟩,?_⟩
    walk_at "rd"
    refine⟨.inl ⟨by omega,by omega⟩,?_⟩
    walk_at "rd"
    refine⟨(by decide:(0:Int)<65537),?_⟩
    walk_at "rd"
    refine⟨.inl ⟨by omega,by omega⟩,?_⟩
    walk_at "rd"
    refine⟨(by decide:(0:Int)<8191),?_⟩
    walk_at "rd"
    exact⟨hm,k⟩
theorem at37 (z:Int) (one at':Int) (k j:Nat) (h:z=nmI one at' k j):atI NAMES.cps.toList (z%37)=some (nmN one at' k j):=by
  obtain⟨h0,h1⟩:=ix37 z
  subst h
  have:=zba (xs:=co NAMES) (j:=(nmI one at' k j%37).toNat) (v:=nmN one at' k j) (by unfold nmN;rw[List.getD_eq_getElem?_getD,List.getElem?_eq_getElem h1];rfl)
  rw[Int.toNat_of_nonneg h0] at this
  exact this
def cutF (l:List Nat) (size:Int):V->V
  | .int z=>.str (Txt.slice (zat l) none (some (size-z)))
  | _=>.non
def zrw:Sp:=fun vs H Q _=>∃(one other:Int) (n:Nat),vs = [.int one,.int other,.int n]/\n<=37/\∀(p:Addr) (xs:List Str) (H':Hp),xs.length=n->xs.Nodup->(∀x∈xs,zao x=true)->H p=none->H' p=some (.lst (xs.map V.str))->Same H H'->Q (.ref p) H'
set_option maxHeartbeats 4000000 in
theorem zem (T:Tx K mg w C_MatrixReading):Has P w K mg base "_law_names" ["_law_one","_law_other","_law_many"] 2 zrw:=by
  refine T.zjt.has sc__law_names (fun vs H Q E h=>?_) (fun f cdv A outer s H vs Q E hr h=>?_)
  · obtain⟨one,other,n,rfl,_⟩:=h;rfl
  · obtain⟨one,other,n,rfl,hn37,k⟩:=h
    refine⟨_,(zc (zp (i:=3) sc__law_names.nd rfl (Or.inl rfl) zas)
      (zc (zp (i:=4) sc__law_names.nd rfl (Or.inr rfl) (za6 ze7 zj (zae (zax T) (hr.mono (by decide)) (by rfl) (za (pv 0) (za zj (za zj zd))))))
      (zc (zp (i:=5) sc__law_names.nd rfl (Or.inl rfl) (zae (zax T) (hr.mono (by decide)) (by rfl) (za (pv 1) (za zj (za (pv 4) zd)))))
      (zc (zp (i:=6) sc__law_names.nd rfl (Or.inr rfl) (zaj zd))
      (zc (za2 PassesOwn.never rfl (zci (by rfl) T.range (za (pv 2) zd)) (zm (i:=7) sc__law_names.nd rfl (Or.inl rfl)) (zc (zp (i:=8) sc__law_names.nd rfl (Or.inl rfl) zas)
        (zc (za2 PassesOwn.never rfl (zci (by rfl) T.range (za (pv 4) zd)) (zm (i:=9) sc__law_names.nd rfl (Or.inl rfl)) (zc (zp (i:=10) sc__law_names.nd rfl (Or.inl rfl) (zae (zax T) (hr.mono (by decide)) (by rfl) (za (pv 0) (za (za6 ze7 (pv 9) zj) (za zj zd)))))
          (zc (za3 (zab zf2 (pv 9) (pv 5) (zai _)) (zg (zp (i:=10) sc__law_names.nd rfl (Or.inl rfl) (za6 ze7 (pv 10) (pv 7)))) zz)
          (zg (zp (i:=8) sc__law_names.nd rfl (Or.inl rfl) (za6 zay (pv 8) (zan zvm (pv 3) (za6 ze8 (pv 10) zj) (fun _ _=>rfl))))))))
        (zg (zaq (zau K rfl PySem.F.plainAttrs_list PySem.F.slot_list_append PySem.F.type_list_append zag (pv 6) (za (pv 8) zd)))))))
      (zc (za3 (PW.pt (ze5 (zab zw2 (pv 4) (pv 2) (zai _)) (zdg (zab zf2 (za6 ze8 (pv 1) zj) zj (zai _))))) (zg (zw (zcs (own:=["_law_k"]) (cap:=["_law_names_here","_law_size"]) (ix:=[6,4]) (osc:=zi (top 38)) rfl ⟨rfl,by decide +kernel,by decide +kernel,by decide +kernel,by decide +kernel⟩ rfl (zci (by rfl) T.range (za (pv 2) zd)) (fun _ _ _ _=>zm (i:=0) (show List.Nodup (["_law_k","_law_names_here","_law_size"]:List Str) by decide +kernel) rfl (Or.inl rfl)) (fun _ _ _ _=>zbv) (fun _ _ _ _=>(zbk zk7 (zan (zaf K rfl) (pv 1) zj (fun _ _=>rfl)) zfc (zbe (za6 zh9 (pv 2) (pv 0)))))))) zz)
      (zg (zw (pv 6))))))))),?_⟩
    walk_at "rd"
    refine⟨by decide,?_⟩
    walk_at "rd"
    obtain⟨s1,s2⟩:=zmh one 0 12 (by decide)
    have hs:∃size:Nat,1+pt one 0 12=(size:Int)/\1<=size/\size<=12:=⟨(1+pt one 0 12).toNat,by omega,by omega,by omega⟩
    obtain⟨size,es,z1,z2⟩:=hs
    rw[es]
    refine⟨by omega,?_⟩
    obtain⟨a1,a2⟩:=zmh other 1 (size:Int) (by omega)
    generalize pt other 1 (size:Int)=at' at a1 a2
    refine⟨by decide,fun p hp=>?_⟩
    refine⟨_,rfl,(n:Int),rfl,by omega,by omega,zdq (lo:=0) (n:=n) (fun i σ H'=>∃v7 v8 v9 v10,σ = [some (.int one),some (.int other),some (.int n),some (.str NAMES),some (.int size),some (.int at'),some (.ref p),v7,v8,v9,v10]/\Same H H'/\
      H' p=some (.lst (((List.range i).map fun k=>zat (nmC one at' k size)).map V.str))) ⟨none,none,none,none,(by rw[←es];rfl),Same.new hp,zb⟩ ?_ ?_⟩
    · rintro i σ H1 hi ⟨v7,v8,v9,v10,rfl,q1,q2⟩
      simp only [Int.zero_add]
      refine⟨_,rfl,(size:Int),rfl,by omega,by omega,zdq (lo:=0) (n:=size) (fun j σ H2=>∃v9 v10,σ = [some (.int one),some (.int other),some (.int n),some (.str NAMES),some (.int size),some (.int at'),some (.ref p),some (.int i),some (.str (zat ((List.range j).map (nmN one at' i)))),v9,v10]/\H2=H1)
        ⟨v9,v10,by rw[zvz];rfl,rfl⟩ ?_ ?_⟩
      · rintro j σ H2 hj ⟨v9,v10,rfl,rfl⟩
        simp only [Int.zero_add]
        walk_at "rd"
        refine⟨by decide,?_⟩
        refine⟨_,rfl,_,rfl,rfl,_,rfl,?_⟩
        refine ite2 (fun c=>?_) (fun c=>?_)
        all_goals
          walk_at "rd"
          refine⟨(by decide:(0:Int)<37),NAMES,_,nmN one at' i j,rfl,rfl,by decide,?_,?_⟩
        · refine at37 _ one at' i j ?_
          have c:=of_decide_eq_true c
          have c:(j:Int)=at':=V.int.inj c
          unfold nmI
          rw[if_pos c]
        · refine⟨_,_,rfl,rfl,?_,some (.int j),some (.int (pt one ((j:Int)+2) 37+i)),?_,rfl⟩
          · rw[zc0,List.length_map,List.length_range]
            exact Nat.le_trans (show j+1<=100 by omega) (by decide)
          · rw[show (⟨#[nmN one at' i j]⟩:Str)=zat [nmN one at' i j] from rfl,ziz,List.range_succ,List.map_append]
            rfl
        · refine at37 _ one at' i j ?_
          have c:¬(j:Int)=at':=fun z=>c (decide_eq_true (congrArg V.int z))
          unfold nmI
          rw[if_neg c]
        · refine⟨_,_,rfl,rfl,?_,some (.int j),some (.int (pt one ((j:Int)+2) 37)),?_,rfl⟩
          · rw[zc0,List.length_map,List.length_range]
            exact Nat.le_trans (show j+1<=100 by omega) (by decide)
          · rw[show (⟨#[nmN one at' i j]⟩:Str)=zat [nmN one at' i j] from rfl,ziz,List.range_succ,List.map_append]
            rfl
      · rintro σ H2 ⟨v9,v10,rfl,rfl⟩
        refine⟨_,rfl,.inl ⟨rfl,_,SqL.of q2⟩,_,rfl,p,_,_,rfl,rfl,q2,?_,?_⟩
        · rw[List.length_map,List.length_map,List.length_range]
          exact zo (by omega)
        · refine⟨_,_,_,_,rfl,q1.upd hp,?_⟩
          rw[zb,List.range_succ,List.map_append,List.map_append]
          rfl
    · rintro σ H1 ⟨v7,v8,v9,v10,rfl,q1,q2⟩
      obtain⟨n1,n2,n3⟩:=zmt (n:=n) hn37 (one:=one) a1 a2 z1 z2
      have fin:Q (.ref p) H1:=k p _ H1 n3 n1 n2 hp q2 q1
      refine⟨_,rfl,_,rfl,_,_,rfl,rfl,_,rfl,?_⟩
      refine ite2 (fun c=>?_) (fun c=>?_)
      · have c:=of_decide_eq_true c
        walk_at "rd"
        refine⟨(by decide:(0:Int)<2),?_⟩
        refine⟨rfl,_,rfl,?_⟩
        refine ite2 (fun c2=>?_) (fun c2=>?_)
        · obtain⟨m1,m2,m3⟩:=zmu (n:=n) (one:=one) (at':=at') (size:=size) (by omega) z2
          refine⟨_,rfl,(n:Int),rfl,by omega,by omega,fun D hD=>?_⟩
          have npD:p≠D:=ze q2 hD
          refine zdv (zn7 (lo:=0) (n:=n)) (fun _=>true) (cutF (nmC one at' 0 size) size) (fun _=>trivial) (by rw[List.length_map,List.length_range];exact zr (by omega)) (fun v hv ys Q' q=>q) (fun v hv _ ys Q' q=>?_) ?_
          · obtain⟨z,hz,rfl⟩:=List.mem_map.mp hv
            refine⟨_,rfl,p,_,0,.str (zat (nmC one at' 0 size)),rfl,rfl,SqL.of (by rw[zf npD];exact q2),(by have hz:=List.mem_range.mp hz;exact zba (j:=0) (by rw[List.getElem?_map,List.getElem?_map,List.getElem?_range (by omega)];rfl)),?_⟩
            refine⟨_,rfl,_,rfl,_,_,rfl,rfl,_,rfl,_,rfl,?_,q⟩
            rw[zc0,zdl]
            exact Nat.le_trans z2 (by decide)
          · refine k D _ _ m3 m1 m2 (q1.free hD) ?_ (q1.trans (Same.new hD))
            rw[zb]
            congr 2
            unfold zfs
            rw[List.filter_eq_self.mpr (fun _ _=>rfl),List.map_map,List.map_map]
            apply List.map_congr_left
            intro i hi
            have hi:=List.mem_range.mp hi
            show V.str (Txt.slice (zat (nmC one at' 0 size)) none (some ((size:Int)-(0+(i:Int)))))=V.str (zat ((nmC one at' 0 size).take (size-i)))
            rw[zmi _ _ (by omega) (by rw[zdl];omega)]
            congr 3
            omega
        · exact⟨_,rfl,fin⟩
      · exact iteF ⟨_,rfl,fin⟩
theorem zm6 {l:List Nat}{f:Nat->Bool}:(l.map f).all id=l.all f:=by rw[List.all_map];rfl
def inF (sg:Str):V->V
  | .str z=>.bl (!(Builtin.Str.occurrences sg z 0 sg.length 1).isEmpty)
  | _=>.non
theorem zxi (l:List V):l.filter (fun _=>true)=l:=List.filter_eq_self.mpr fun _ _=>rfl
theorem zrx (x sg:Str):(((co x).map L2.sg).filter fun _=>true).map (inF sg)=((co x).map fun c=>decide (c∈co sg)).map V.bl:=by
  rw[zxi,List.map_map,List.map_map]
  apply List.map_congr_left
  intro c _
  show V.bl (!(Builtin.Str.occurrences sg ⟨#[c]⟩ 0 sg.length 1).isEmpty)=V.bl (decide (c∈sg.cps.toList))
  rw[StrLaws.found_one]
def zus:Sp:=fun vs H Q _=>∃x sg,vs = [.str x,.str sg]/\x.length<=1000/\∀H',Same H H'->Q (.bl (zg8 (co x) sg)) H'
theorem zen (T:Tx K mg w C_MatrixReading):Has P w K mg base "is_made_of" ["text","signs"] 1 zus:=by
  refine T.zjr.has zhr (fun vs H Q E h=>?_) (fun f cdv A outer s H vs Q E hr h=>?_)
  · obtain⟨x,sg,rfl,_⟩:=h;rfl
  · obtain⟨x,sg,rfl,hl,k⟩:=h
    refine⟨_,(zg (zw (zn (zee K rfl rfl) (by rfl) T.all PyProof.Rows.boot_all (za (zcs (own:=["sign"]) (cap:=["signs"]) (ix:=[1]) (osc:=zi (top 29)) rfl ⟨rfl,by decide +kernel,by decide +kernel,by decide +kernel,by decide +kernel⟩ rfl (zvt (pv 0)) (fun _ _ _ _=>zm (i:=0) (show List.Nodup (["sign","signs"]:List Str) by decide +kernel) rfl (Or.inl rfl)) (fun _ _ _ _=>zbv) (fun _ _ _ _=>(ze9 znq (pv 0) (pv 1) (by with_unfolding_all rfl)))) zd)))),?_⟩
    refine⟨_,rfl,x,rfl,fun D hD=>?_⟩
    refine zdv (ztq (x:=x)) (fun _=>true) (inF sg) (fun _=>trivial) (by rw[List.length_map,zq];exact zr hl) (fun v hv ys Q' q=>q) (fun v hv _ ys Q' q=>?_) ?_
    · obtain⟨c,_,rfl⟩:=List.mem_map.mp hv
      exact⟨_,rfl,_,rfl,_,_,rfl,rfl,q⟩
    · refine⟨D,(co x).map fun c=>decide (c∈co sg),rfl,.inl (.inl ?_),?_⟩
      · rw[zb,zrx]
      · rw[zm6]
        exact k _ (Same.new hD)
def zut:Sp:=fun vs H Q _=>∃x,vs = [.str x]/\x.length<=1000/\∀H',Same H H'->Q (.bl (zao x)) H'
theorem zp0 (T:Tx K mg w C_MatrixReading):Has P w K mg base "is_name" ["text"] 2 zut:=by
  refine T.zp7.has zm4 (fun vs H Q E h=>?_) (fun f cdv A outer s H vs Q E hr h=>?_)
  · obtain⟨x,rfl,_⟩:=h;rfl
  · obtain⟨x,rfl,hl,k⟩:=h
    obtain⟨u_NAME_SIGNS,h_NAME_SIGNS,r_NAME_SIGNS⟩:=T.zjv
    obtain⟨u_LONGEST_NAME,h_LONGEST_NAME,r_LONGEST_NAME⟩:=T.zgd
    refine⟨_,(zg (zw (zh7 (zqg zqf zqf zj (zn zej (by rfl) T.len boot_len (za (pv 0) zd)) (zgy (v:=.int 12) (by rfl) h_LONGEST_NAME r_LONGEST_NAME)) (zk1 (zae (zen T) (hr.mono (by decide)) (by rfl) (za (pv 0) (za (zgy (v:=.str "abcdefghijklmnopqrstuvwxyz0123456789-") (by rfl) h_NAME_SIGNS r_NAME_SIGNS) zd))))))),?_⟩
    refine⟨_,rfl,x,rfl,zr hl,_,_,rfl,rfl,_,rfl,?_⟩
    by_cases c1:1<=x.length
    · rw[decide_eq_true (show (1:Int)<=(x.length:Int) by omega)]
      refine iteT ⟨_,_,rfl,rfl,_,rfl,?_⟩
      by_cases c2:x.length<=12
      · rw[decide_eq_true (show (x.length:Int)<=12 by omega)]
        refine iteT ⟨_,rfl,x,NAMES,rfl,hl,fun H' s'=>?_⟩
        have:=k H' s'
        unfold zao at this
        rw[decide_eq_true c1,decide_eq_true c2] at this
        exact this
      · rw[decide_eq_false (show ¬(x.length:Int)<=12 by omega)]
        refine iteF ?_
        have:=k H (Same.refl H)
        unfold zao at this
        rw[decide_eq_false c2,Bool.and_false,Bool.false_and] at this
        exact this
    · rw[decide_eq_false (show ¬(1:Int)<=(x.length:Int) by omega)]
      refine iteF ⟨_,rfl,iteF ?_⟩
      have:=k H (Same.refl H)
      unfold zao at this
      rw[decide_eq_false c1,Bool.false_and,Bool.false_and] at this
      exact this
def numV (x:Str):V:=if zdk x=true then .int (numI x) else .non
def zwm:Sp:=fun vs H Q _=>∃x,vs = [.str x]/\x.length<=1000/\∀H',Same H H'->Q (numV x) H'
theorem zuu {x:Str}(h:zdk x=false):numV x = .non:=by unfold numV;rw[h];exact if_neg Bool.false_ne_true
theorem zl4 {x:Str}(h:zdk x=true):numV x = .int (numI x):=if_pos h
theorem zry:(Str.ofString "-" : Str)=⟨#[45]⟩:=by decide +kernel
theorem zero_is:(Str.ofString "0" : Str)=⟨#[48]⟩:=by decide +kernel
theorem zhs {x:Str}(h:(co x).head? = some 45):figs (co x)=(co x).drop 1:=by
  cases e:co x with
  | nil=>rw[e] at h;cases h
  | cons c r=>
    rw[e] at h
    have h:c=45:=Option.some.inj h
    subst h
    rw[zdz];rfl
theorem zht {x:Str}(h:¬(co x).head? = some 45):figs (co x)=co x:=by
  cases e:co x with
  | nil=>rfl
  | cons c r=>
    rw[e] at h
    exact zd0 r fun z=>h (by rw[z];rfl)
theorem zuv (l:List Nat):(figs l).length<=l.length:=by
  cases l with
  | nil=>exact Nat.le_refl _
  | cons c r=>
    by_cases h:c=45
    · subst h;rw[zdz];exact Nat.le_succ _
    · rw[zd0 r h];exact Nat.le_refl _
theorem zjm {x:Str}(h:¬(1<=(figs (co x)).length/\(figs (co x)).length<=60)):zdk x=false:=by
  unfold zdk
  by_cases h1:1<=(figs (co x)).length
  · rw[decide_eq_false (fun z=>h ⟨h1,z⟩),Bool.and_false,Bool.false_and,Bool.false_and]
  · rw[decide_eq_false h1,Bool.false_and,Bool.false_and,Bool.false_and]
theorem zm7 {x:Str}(h:zg8 (figs (co x)) FIGS=false):zdk x=false:=by
  unfold zdk
  rw[h,Bool.and_false,Bool.false_and]
theorem zp1 {x:Str}(h1:1<=(figs (co x)).length) (h2:(figs (co x)).length<=60) (h3:zg8 (figs (co x)) FIGS=true):zdk x = !(decide ((figs (co x)).head? = some 48) && !decide (x=ZERO)):=by
  unfold zdk
  rw[decide_eq_true h1,decide_eq_true h2,h3];rfl
theorem zhu (T:Tx K mg w C_MatrixReading):Has P w K mg base "read_number" ["text"] 2 zwm:=by
  refine T.zh2.has sc_read_number (fun vs H Q E h=>?_) (fun f cdv A outer s H vs Q E hr h=>?_)
  · obtain⟨x,rfl,_⟩:=h;rfl
  · obtain⟨x,rfl,hl,k⟩:=h
    obtain⟨u_FIGURES,h_FIGURES,r_FIGURES⟩:=T.zp9
    obtain⟨u_MOST_FIGURES,h_MOST_FIGURES,r_MOST_FIGURES⟩:=T.zge
    refine⟨_,(zc (zp (i:=1) sc_read_number.nd rfl (Or.inl rfl) (zqb (zbj (zau K rfl PySem.F.plainAttrs_str PySem.F.slot_str_startswith PySem.F.type_str_startswith zio (pv 0) (za zas zd))) (zbk zk7 (pv 0) (zbe zj) zfc) (pv 0)))
      (zc (za3 (zch (zqh zqf zqf zj (zn zej (by rfl) T.len boot_len (za (pv 1) zd)) (zgy (v:=.int 60) (by rfl) h_MOST_FIGURES r_MOST_FIGURES))) (zg (zw zkz)) zz)
      (zc (za3 (zch (zbj (zae (zen T) (hr.mono (by decide)) (by rfl) (za (pv 1) (za (zgy (v:=.str "0123456789") (by rfl) h_FIGURES r_FIGURES) zd))))) (zg (zw zkz)) zz)
      (zc (za3 (PW.pt (ze5 (zbj (zau K rfl PySem.F.plainAttrs_str PySem.F.slot_str_startswith PySem.F.type_str_startswith zio (pv 1) (za zas zd))) (zdg (zab znp (pv 0) zas (zai _))))) (zg (zw zkz)) zz)
      (zg (zw (zbu zoa (by rfl) T.int PyProof.Rows.boot_int (za (pv 0) zd)))))))),?_⟩
    refine⟨_,rfl,rfl,x,_,rfl,rfl,_,rfl,?_⟩
    have key:∀R:V->Hp->Prop,(∀y,co y=figs (co x)->R (.str y) H)->(if Txt.startswith x (Str.ofString "-")=true then tSl rSlS (tVar 0) (zvk (tC (.int 1))) znx (start ["text","figures"] [.str x]) H R else tVar 0 (start ["text","figures"] [.str x]) H R):=fun R hR=>by
      rw[zry,zgl]
      by_cases c:(co x).head? = some 45
      · rw[decide_eq_true c]
        exact iteT ⟨_,rfl,_,rfl,x,rfl,zr hl,hR _ (by rw[zj9,zhs c])⟩
      · rw[decide_eq_false c]
        exact iteF ⟨_,rfl,hR x (zht c).symm⟩
    refine key _ fun y hy=>?_
    have hyl:y.length=(figs (co x)).length:=by rw[←zq,hy]
    have hyl2:y.length<=1000:=by rw[hyl];exact Nat.le_trans (zuv _) (by rw[zq];exact hl)
    have no:zdk x=false->∀H',Same H H'->Q .non H':=fun z H' s'=>by
      have:=k H' s'
      rw[zuu z] at this
      exact this
    refine⟨_,rfl,y,rfl,zr hyl2,_,_,rfl,rfl,_,rfl,?_⟩
    by_cases c1:1<=y.length
    · rw[decide_eq_true (show (1:Int)<=(y.length:Int) by omega)]
      refine iteT ⟨_,_,rfl,rfl,_,rfl,?_⟩
      by_cases c2:y.length<=60
      · rw[decide_eq_true (show (y.length:Int)<=60 by omega)]
        refine iteF ⟨_,rfl,y,FIGS,rfl,hyl2,fun H1 s1=>⟨_,rfl,?_⟩⟩
        rw[hy]
        cases c3:zg8 (figs (co x)) FIGS with
        | false=>exact iteT (no (zm7 c3) H1 s1)
        | true=>
          refine iteF ⟨_,rfl,rfl,y,_,rfl,rfl,_,rfl,?_⟩
          have ok:=zp1 (by omega) (by omega) c3
          rw[zero_is,zgl,hy]
          have fin:zdk x=true->∀H',Same H H'->tRet (tCB (fun xs H Q=>∃x n,xs = [V.str x]/\PySem.intText? x=some n/\x.length<=640/\Q (.int n) H) (zs9 (tVar 0) tNil)) { nx:=fun _ H'=>Q .non H',rt:=Q } [some (.str x),some (.str y)] H':=fun z H' s'=>by
            obtain⟨e1,e2⟩:=zq2 z
            refine⟨_,rfl,x,numI x,rfl,e1,Nat.le_trans e2 (by decide),?_⟩
            have:=k H' s'
            rw[zl4 z] at this
            exact this
          by_cases c4:(figs (co x)).head? = some 48
          · rw[decide_eq_true c4] at ok ⊢
            refine iteT ⟨_,rfl,rfl,_,rfl,?_⟩
            by_cases c5:x=ZERO
            · rw[decide_eq_true c5] at ok
              rw[decide_eq_true (show V.str x=V.str (⟨#[48]⟩:Str) by rw[c5];exact congrArg V.str zero_is)]
              exact iteF (fin ok H1 s1)
            · rw[decide_eq_false c5] at ok
              rw[decide_eq_false (show ¬V.str x=V.str (⟨#[48]⟩:Str) from fun z=>c5 ((V.str.inj z).trans zero_is.symm))]
              exact iteT (no ok H1 s1)
          · rw[decide_eq_false c4] at ok ⊢
            exact iteF (iteF (fin ok H1 s1))
      · rw[decide_eq_false (show ¬(y.length:Int)<=60 by omega)]
        exact iteT (no (zjm (by omega)) H (Same.refl H))
    · rw[decide_eq_false (show ¬(1:Int)<=(y.length:Int) by omega)]
      exact iteF ⟨_,rfl,iteT (no (zjm (by omega)) H (Same.refl H))⟩
def zuw:Sp:=fun vs H Q _=>∃(pd:Addr) (us:List Str) (lab:Str->Str) (f s:Str),vs = [.ref pd,.str f,.str s]/\H pd=some (.dK (dN us lab))/\us.Nodup/\us.length<=1000/\
  ∀H':Hp,H' pd=some (.dK (dN us (jn lab f s)))->(∀b o,b≠pd->H b=some o->H' b=some o)->Q .non H'
set_option maxHeartbeats 4000000 in
theorem zkq (T:Tx K mg w C_MatrixReading):Has P w K mg base "join_ones" ["names","first","second"] 1 zuw:=by
  refine T.zku.has sc_join_ones (fun vs H Q E h=>?_) (fun f cdv A outer s H vs Q E hr h=>?_)
  · obtain⟨pd,us,lab,f,s,rfl,_⟩:=h;rfl
  · obtain⟨pd,us,lab,f,s',rfl,hd,nd,hl,k⟩:=h
    have hu:=zdu hr
    refine⟨_,(zc (zp (i:=3) sc_join_ones.nd rfl (Or.inl rfl) (zn (zmj rfl) (by rfl) T.min PyProof.Rows.boot_min (za (pv 1) (za (pv 2) zd))))
      (zg (za2 PassesOwn.never rfl (zad K rfl (zbu (zek rfl) (by rfl) T.list PyProof.Rows.boot_list (za (pv 0) zd))) (zm (i:=4) sc_join_ones.nd rfl (Or.inl rfl)) (zg (za3 (zab (zmd K rfl) (za1 hu (pv 0) (pv 4) (fun _ _=>rfl)) (zcj (za (pv 1) (za (pv 2) zd))) (by with_unfolding_all rfl)) (zg (zcc hu (pv 0) (pv 4) (pv 3) rfl)) zz))))),?_⟩
    refine⟨_,rfl,_,rfl,_,_,rfl,?_⟩
    refine⟨_,rfl,pd,_,rfl,hd,fun l hl'=>?_⟩
    rw[zt6]
    have npl:pd≠l:=ze hd hl'
    refine⟨l,rfl,⟨_,SqL.of zb⟩,zam (xs:=us.map V.str) (fun i σ H'=>∃v4,σ = [some (.ref pd),some (.str f),some (.str s'),some (.str (minS f s')),v4]/\(∀b o,b≠pd->H b=some o->H' b=some o)/\H' l=some (.lst (us.map V.str))/\
      H' pd=some (.dK (dN us fun x=>if x∈us.take i then jn lab f s' x else lab x)))
      ⟨none,rfl,fun b o _ e=>Same.new hl' _ _ e,zb,?_⟩ (fun i σ H' _ h=>by obtain⟨_,_,_,q,_⟩:=h;exact SqL.of q) ?_ ?_⟩
    · rw[zf npl,hd,ze1 (f:=fun x=>if x∈us.take 0 then jn lab f s' x else lab x) (g:=lab) fun x _=>by simp]
    · rintro i x σ H1 hx ⟨v4,rfl,kp,hl1,hd1⟩
      rw[List.getElem?_map] at hx
      cases eu:us[i]? with
      | none=>rw[eu] at hx;cases hx
      | some u=>
        rw[eu] at hx
        cases hx
        have hu':u∈us:=List.mem_of_getElem? eu
        have hi:=zav eu
        have hfr:u ∉ us.take i:=by
          have:=zcl nd i hi
          rw[show us[i]=u from (List.getElem?_eq_some_iff.mp eu).2] at this
          exact this
        have hg:=DGet.k (k:=Sum.inr u) hd1
        rw[zgq hu',if_neg hfr] at hg
        dsimp only [zv]
        refine zaw (decide (lab u=f\/lab u=s')) (fun Q' hQ=>?_) (fun H2 t2=>?_)
        · refine⟨_,rfl,_,rfl,pd,_,rfl,hg,_,rfl,_,rfl,(by show 2<=sizeLine;decide),fun p hp=>?_⟩
          refine⟨p,_,rfl,.inr (SqT.of zb),rfl,rfl,_,rfl,?_⟩
          have e:inV (.str (lab u)) [.str f,.str s']=decide (lab u=f\/lab u=s'):=by
            rw[show ([.str f,.str s']:List V) = [f,s'].map V.str from rfl,zrk]
            apply decide_eq_decide.mpr
            simp
          show Q' (inV (.str (lab u)) [.str f,.str s']) _
          rw[e]
          exact hQ _ (Same.new hp)
        · have hd2:=t2 _ _ hd1
          have kp2:∀b o,b≠pd->H b=some o->H2 b=some o:=fun b o n e=>t2 _ _ (kp b o n e)
          refine ite2 (fun c=>?_) (fun c=>?_)
          · have c:=of_decide_eq_true c
            refine⟨_,rfl,_,rfl,_,rfl,pd,_,rfl,DPut.k (k:=Sum.inr u) hd2 (by rw[zsq];exact zo hl),?_⟩
            refine⟨_,rfl,fun b o n e=>by rw[zf n];exact kp2 b o n e,?_,?_⟩
            · rw[zf npl.symm];exact t2 _ _ hl1
            · rw[zb,zv5 hu']
              congr 2
              refine ze1 fun z hz=>?_
              have ht:z∈us.take (i+1)↔z∈us.take i\/z=u:=by
                rw[List.take_add_one,eu];simp
              by_cases e:z=u
              · subst e
                rw[if_pos rfl,if_pos (ht.mpr (.inr rfl))]
                exact (if_pos c).symm
              · rw[if_neg e]
                by_cases e2:z∈us.take i
                · rw[if_pos e2,if_pos (ht.mpr (.inl e2))]
                · rw[if_neg e2,if_neg (fun q=>(ht.mp q).elim e2 e)]
          · have c:¬(lab u=f\/lab u=s'):=fun z=>c (decide_eq_true z)
            refine⟨_,rfl,kp2,t2 _ _ hl1,?_⟩
            rw[hd2]
            congr 2
            refine ze1 fun z hz=>?_
            have ht:z∈us.take (i+1)↔z∈us.take i\/z=u:=by
              rw[List.take_add_one,eu];simp
            by_cases e:z=u
            · subst e
              rw[if_neg hfr,if_pos (ht.mpr (.inr rfl))]
              exact (if_neg c).symm
            · by_cases e2:z∈us.take i
              · rw[if_pos e2,if_pos (ht.mpr (.inl e2))]
              · rw[if_neg e2,if_neg (fun q=>(ht.mp q).elim e2 e)]
    · rintro σ H1 ⟨v4,rfl,kp,hl1,hd1⟩
      refine k _ ?_ kp
      rw[hd1,List.length_map,List.take_length]
      congr 2
      exact ze1 fun z hz=>if_pos hz
def zwn:Sp:=fun vs H Q _=>∃(pu pt:Addr) (us:List Str) (ads:List Addr) (ts:List Tie),vs = [.ref pu,.ref pt]/\SqL K H pu (us.map V.str)/\SqL K H pt (ads.map V.ref)/\Tups H ads (ts.map tieV)/\
  us.Nodup/\us.length<=1000/\(∀t∈ts,t.a∈us/\t.b∈us)/\
  ∀(pd:Addr) (H':Hp),H pd=none->H' pd=some (.dK (dN us (labs ts)))->Same H H'->Q (.ref pd) H'
set_option maxHeartbeats 4000000 in
theorem zfy (T:Tx K mg w C_MatrixReading):Has P w K mg base "one_names" ["units","ties"] 2 (zwn (K:=K)):=by
  refine T.zkt.has sc_one_names (fun vs H Q E h=>?_) (fun f cdv A outer s H vs Q E hr h=>?_)
  · obtain⟨pu,pt,us,ads,ts,rfl,_⟩:=h;rfl
  · obtain⟨pu,pt,us,ads,ts,rfl,hu1,ht1,tp,nd,hl,hts,k⟩:=h
    have hu:=zdu hr
    refine⟨_,(zc (zp (i:=2) sc_one_names.nd rfl (Or.inl rfl) zbl)
      (zc (za2 PassesOwn.never rfl (zad K rfl (pv 0)) (zm (i:=3) sc_one_names.nd rfl (Or.inl rfl)) (zg (zcc hu (pv 2) (pv 3) (pv 3) rfl)))
      (zc (za2 PassesOwn.never rfl (zad K rfl (pv 1)) (zm (i:=4) sc_one_names.nd rfl (Or.inl rfl)) (zg (za3 (zab zf2 (zan (zar K rfl) (pv 4) zj (fun _ _=>rfl)) zas (zai _)) (zg (zaq (zae (zkq T) (hr.mono (by decide)) (by rfl) (za (pv 2) (za (za1 hu (pv 2) (zan (zar K rfl) (pv 4) zj (fun _ _=>rfl)) (fun _ _=>rfl)) (za (za1 hu (pv 2) (zan (zar K rfl) (pv 4) zj (fun _ _=>rfl)) (fun _ _=>rfl)) zd)))))) zz)))
      (zg (zw (pv 2)))))),?_⟩
    have hlen:ads.length=ts.length:=by have:=tp.len;rw[List.length_map] at this;exact this
    refine fun pd hpd=>?_
    have s0:=Same.new (o:=.dK []) hpd
    refine⟨_,rfl,pu,rfl,⟨_,s0.seq hu1⟩,zam (xs:=us.map V.str) (fun i σ H'=>∃v3,σ = [some (.ref pu),some (.ref pt),some (.ref pd),v3,none]/\Same H H'/\H' pd=some (.dK (dN (us.take i) id)))
      ⟨none,rfl,s0,zb⟩ (fun i σ H' _ h=>by obtain⟨_,_,q,_⟩:=h;exact q.seq hu1) ?_ ?_⟩
    · rintro i x σ H1 hx ⟨v3,rfl,q,hd⟩
      rw[List.getElem?_map] at hx
      cases eu:us[i]? with
      | none=>rw[eu] at hx;cases hx
      | some u=>
        rw[eu] at hx
        cases hx
        have hi:=zav eu
        have hfr:u ∉ us.take i:=by
          have:=zcl nd i hi
          rw[show us[i]=u from (List.getElem?_eq_some_iff.mp eu).2] at this
          exact this
        dsimp only [zv]
        refine⟨_,rfl,_,rfl,_,rfl,pd,_,rfl,DPut.k (k:=Sum.inr u) hd (by rw[zsq,List.length_take];exact zo (by omega)),?_⟩
        refine⟨_,rfl,q.upd hpd,?_⟩
        rw[zb,List.take_add_one,eu]
        congr 2
        exact zv6 hfr
    · rintro σ H1 ⟨v3,rfl,q,hd⟩
      rw[List.length_map,List.take_length] at hd
      refine⟨_,rfl,pt,rfl,⟨_,q.seq ht1⟩,zam (xs:=ads.map V.ref) (fun i σ H'=>∃v4,σ = [some (.ref pu),some (.ref pt),some (.ref pd),v3,v4]/\Same H H'/\H' pd=some (.dK (dN us (labs (ts.take i)))))
        ⟨none,rfl,q,hd⟩ (fun i σ H' _ h=>by obtain⟨_,_,q,_⟩:=h;exact q.seq ht1) ?_ ?_⟩
      · rintro i x σ H2 hx ⟨v4,rfl,q2,hd2⟩
        obtain⟨r,t,rfl,ht,_,hr⟩:=zov tp hx
        have hr2:=q2 _ _ hr
        have hab:=hts t (List.mem_of_getElem? ht)
        dsimp only [zv]
        refine⟨_,rfl,r,_,_,_,rfl,rfl,SqT.of hr2,zsn t,rfl,_,rfl,?_⟩
        refine ite2 (fun c=>?_) (fun c=>?_)
        · have c:t.k=SAME:=V.str.inj (of_decide_eq_true c)
          have g1:=DGet.k (k:=Sum.inr t.a) hd2
          have g2:=DGet.k (k:=Sum.inr t.b) hd2
          rw[zgq hab.1] at g1
          rw[zgq hab.2] at g2
          refine⟨_,rfl,_,rfl,_,rfl,r,_,_,_,rfl,rfl,SqT.of hr2,zso t,pd,_,rfl,g1,_,rfl,_,rfl,r,_,_,_,rfl,rfl,SqT.of hr2,zsp t,pd,_,rfl,g2,?_⟩
          refine⟨pd,us,_,_,_,rfl,hd2,nd,hl,fun H3 hd3 kp=>?_⟩
          refine⟨_,rfl,fun b o e=>kp b o (ze e hpd) (q2 b o e),?_⟩
          rw[hd3,zi0 ht]
          unfold stp
          rw[if_pos c]
        · have c:¬t.k=SAME:=fun z=>c (decide_eq_true (congrArg V.str z))
          refine⟨_,rfl,q2,?_⟩
          rw[hd2,zi0 ht]
          unfold stp
          rw[if_neg c]
      · rintro σ H2 ⟨v4,rfl,q2,hd2⟩
        rw[List.length_map,hlen,List.take_length] at hd2
        exact⟨_,rfl,k pd _ hpd hd2 q2⟩
abbrev Lsts (H:Hp):List Addr->List (List Str)->Prop:=Paired fun a g=>H a=some (.lst (g.map V.str))
theorem zp2 {H:Hp}{ad:Str->Addr}{g:Str->List Str}:∀{ks:List Str},(∀k∈ks,H (ad k)=some (.lst ((g k).map V.str)))->Lsts H (ks.map ad) (ks.map g)
  | [],_=>.nil
  | k::r,h=>.cons (h k (by simp)) (zp2 fun z hz=>h z (List.mem_cons_of_mem _ hz))
def zux:Sp:=fun vs H Q _=>∃(pu pt:Addr) (us:List Str) (ads:List Addr) (ts:List Tie),vs = [.ref pu,.ref pt]/\SqL K H pu (us.map V.str)/\SqL K H pt (ads.map V.ref)/\Tups H ads (ts.map tieV)/\
  us.Nodup/\us.length<64/\(∀t∈ts,t.a∈us/\t.b∈us)/\
  ∀(p:Addr) (as:List Addr) (H':Hp),H p=none->(∀a∈as,H a=none)->p ∉ as->as.Nodup->H' p=some (.lst (as.map V.ref))->Lsts H' as (zel us ts)->Same H H'->Q (.ref p) H'
set_option maxHeartbeats 8000000 in
theorem zwo (T:Tx K mg w C_MatrixReading):Has P w K mg base "ones" ["units","ties"] 3 (zux (K:=K)):=by
  refine T.zwv.has sc_ones (fun vs H Q E h=>?_) (fun f cdv A outer s H vs Q E hr h=>?_)
  · obtain⟨pu,pt,us,ads,ts,rfl,_⟩:=h;rfl
  · obtain⟨pu,pt,us,ads,ts,rfl,hu1,ht1,tp,nd,hl,hts,k⟩:=h
    have hu:=zdu hr
    refine⟨_,(zc (zp (i:=2) sc_ones.nd rfl (Or.inl rfl) (zae (zfy T) (hr.mono (by decide)) (by rfl) (za (pv 0) (za (pv 1) zd))))
      (zc (zp (i:=3) sc_ones.nd rfl (Or.inl rfl) zbl)
      (zc (za2 PassesOwn.never rfl (zad K rfl (zn (zb9 (K:=K) rfl) (by rfl) T.sorted PyProof.Rows.boot_sorted (za (pv 0) zd))) (zm (i:=4) sc_ones.nd rfl (Or.inl rfl)) (zg (zaq (zau K rfl PySem.F.plainAttrs_list PySem.F.slot_list_append PySem.F.type_list_append zag (zmk (pv 3) (za1 hu (pv 2) (pv 4) (fun _ _=>rfl)) (zaj zd) ⟨rfl,rfl,rfl,rfl⟩) (za (pv 4) zd)))))
      (zg (zw (zbu (ziw rfl) (by rfl) T.list PyProof.Rows.boot_list (za (zts K rfl PySem.F.plainAttrs_dict PySem.F.slot_dict_values PySem.F.type_dict_values zol (pv 3)) zd))))))),?_⟩
    refine⟨_,rfl,_,rfl,pu,pt,us,ads,ts,rfl,hu1,ht1,tp,nd,by omega,hts,fun pn H1 fpn hn s1=>?_⟩
    try dsimp only [zv]
    refine fun pd hpd=>?_
    have s2:=Same.new (o:=.dK []) hpd
    refine⟨_,rfl,pu,us,rfl,(s1.trans s2).seq hu1,hl,fun l ms hl' pm rs=>?_⟩
    have em:=zll pm rs
    subst em
    have s3:=Same.new (o:=.lst ((srt us).map V.str)) hl'
    have fpd:H pd=none:=s1.free hpd
    have fl:H l=none:=(s1.trans s2).free hl'
    have n1:pd≠l:=ze zb hl'
    have n2:pn≠pd:=ze hn hpd
    have n3:pn≠l:=ze (s2 _ _ hn) hl'
    refine⟨l,rfl,⟨_,SqL.of zb⟩,zam (xs:=(srt us).map V.str) (fun i σ H'=>∃v4 ad,σ = [some (.ref pu),some (.ref pt),some (.ref pn),some (.ref pd),v4]/\Same H H'/\H' l=some (.lst ((srt us).map V.str))/\H' pn=some (.dK (dN us (labs ts)))/\
      H' pd=some (.dK (dV (zk ts ((srt us).take i)) fun k=>.ref (ad k)))/\(∀k∈zk ts ((srt us).take i),H' (ad k)=some (.lst ((zc2 ts ((srt us).take i) k).map V.str))/\H (ad k)=none/\ad k≠pd/\ad k≠l/\ad k≠pn)/\
      (∀k∈zk ts ((srt us).take i),∀k'∈zk ts ((srt us).take i),ad k=ad k'->k=k'))
      ⟨none,fun _=>0,rfl,s1.trans (s2.trans s3),zb,s3 _ _ (s2 _ _ hn),s3 _ _ zb,(fun k hk=>by simp[zk] at hk),fun k hk=>by simp[zk] at hk⟩ (fun i σ H' _ h=>by obtain⟨_,_,_,_,q,_⟩:=h;exact SqL.of q) ?_ ?_⟩
    · rintro i v σ H2 hx ⟨v4,ad,rfl,q,hl2,hn2,hd2,hk2,hin⟩
      rw[List.getElem?_map] at hx
      cases eu:(srt us)[i]? with
      | none=>rw[eu] at hx;cases hx
      | some u=>
        rw[eu] at hx
        cases hx
        have hu':u∈us:=srt_mem.mp (List.mem_of_getElem? eu)
        have hi:=zav eu
        have hkl:(zk ts ((srt us).take i)).length<=63:=by
          have h1:(zk ts ((srt us).take i)).length<=((srt us).take i).length:=List.length_filter_le _ _
          have h2:((srt us).take i).length<=(srt us).length:=by rw[List.length_take];omega
          rw[zha] at h2
          omega
        have hgl:∀k,(zc2 ts ((srt us).take i) k).length<=63:=fun k=>by
          have h1:(zc2 ts ((srt us).take i) k).length<=((srt us).take i).length:=List.length_filter_le _ _
          have h2:((srt us).take i).length<=(srt us).length:=by rw[List.length_take];omega
          rw[zha] at h2
          omega
        have g:=DGet.k (k:=Sum.inr u) hn2
        rw[zgq hu'] at g
        obtain⟨knew,gnew⟩:=zt9 (ts:=ts) nd eu
        try dsimp only [zv]
        refine⟨_,rfl,pd,rfl,.inl ⟨_,.inl hd2⟩,_,rfl,_,rfl,pn,_,rfl,g,by decide,fun q0 hq0=>?_⟩
        have t0:=Same.new (o:=.lst []) hq0
        have hd3:=t0 _ _ hd2
        have nq:pd≠q0:=ze hd2 hq0
        refine⟨_,Sum.inr (labs ts u),hd3,rfl,by rw[zbg];exact zo (by omega),fun v hv=>?_,fun hv=>?_⟩
        · have hmem:labs ts u∈zk ts ((srt us).take i):=Decidable.byContradiction fun z=>by rw[zfm z] at hv;cases hv
          rw[zcn hmem] at hv
          cases hv
          obtain⟨h1,h2,h3,h4,h5⟩:=hk2 _ hmem
          have hne:¬labs ts u=u:=fun e=>by rw[e] at hmem;exact knew hmem
          have h1':=t0 _ _ h1
          refine⟨.inl ⟨rfl,_,SqL.of h1'⟩,_,rfl,ad (labs ts u),_,_,rfl,rfl,h1',by rw[List.length_map];exact zo (by have:=hgl (labs ts u);omega),?_⟩
          have ks:zk ts ((srt us).take (i+1))=zk ts ((srt us).take i):=by rw[zi2 eu,if_neg hne,List.append_nil]
          refine⟨_,ad,rfl,(q.trans t0).upd h2,?_,?_,?_,?_,?_⟩
          · rw[zf (Ne.symm h4)];exact t0 _ _ hl2
          · rw[zf (Ne.symm h5)];exact t0 _ _ hn2
          · rw[zf (Ne.symm h3),ks];exact hd3
          · rw[ks]
            intro k hk
            obtain⟨b1,b2,b3,b4,b5⟩:=hk2 k hk
            refine⟨?_,b2,b3,b4,b5⟩
            rw[zhb eu]
            by_cases e:labs ts u=k
            · subst e
              rw[if_pos rfl,zb,List.map_append];rfl
            · rw[if_neg e,List.append_nil,zf (fun z=>e (hin _ hmem _ hk z.symm))]
              exact t0 _ _ b1
          · rw[ks];exact hin
        · have hmem:labs ts u ∉ zk ts ((srt us).take i):=fun z=>by rw[zcn z] at hv;cases hv
          have he:labs ts u=u:=Decidable.byContradiction fun z=>hmem (zt8 nd hts eu z)
          rw[he]
          rw[he] at hmem
          have e3:upd (upd H2 q0 (.lst [])) pd (.dK (putK (dV (zk ts ((srt us).take i)) fun k=>.ref (ad k)) (Sum.inr u) (.ref q0))) q0=some (.lst []):=by rw[zf (Ne.symm nq),zb]
          refine⟨.inl ⟨rfl,_,SqL.of e3⟩,_,rfl,q0,_,_,rfl,rfl,e3,by decide,?_⟩
          have ks:zk ts ((srt us).take (i+1))=zk ts ((srt us).take i)++[u]:=by rw[zi2 eu,if_pos he]
          have nl:l≠q0:=ze hl2 hq0
          have nn:pn≠q0:=ze hn2 hq0
          have fq0:H q0=none:=q.free hq0
          refine⟨_,fun z=>if z=u then q0 else ad z,rfl,((q.trans t0).upd fpd).upd fq0,?_,?_,?_,?_,?_⟩
          · rw[zf nl,zf (Ne.symm n1)];exact t0 _ _ hl2
          · rw[zf nn,zf n2];exact t0 _ _ hn2
          · rw[zf nq,zb,zi1 hmem,ks]
            congr 2
            refine zc9 fun z hz=>?_
            dsimp only
            by_cases e:z=u
            · rw[if_pos e,if_pos e]
            · rw[if_neg e,if_neg e]
          · rw[ks]
            intro k hk
            dsimp only
            by_cases e:k=u
            · subst e
              rw[if_pos rfl]
              refine⟨?_,fq0,Ne.symm nq,Ne.symm nl,Ne.symm nn⟩
              rw[zb,zhb eu,if_pos he,gnew he]
              rfl
            · rw[if_neg e]
              have hk':k∈zk ts ((srt us).take i):=by
                rcases List.mem_append.mp hk with h | h
                · exact h
                · exact absurd (by simpa using h) e
              obtain⟨b1,b2,b3,b4,b5⟩:=hk2 k hk'
              refine⟨?_,b2,b3,b4,b5⟩
              have nk:ad k≠q0:=ze b1 hq0
              rw[zf nk,zf b3,zhb eu,if_neg (fun z=>e (z.symm.trans he)),List.append_nil]
              exact t0 _ _ b1
          · rw[ks]
            intro k hk k' hk' z
            dsimp only at z
            have inold:∀z,z∈zk ts ((srt us).take i)++[u]->z≠u->z∈zk ts ((srt us).take i):=fun z hz e=>by
              rcases List.mem_append.mp hz with h | h
              · exact h
              · exact absurd (by simpa using h) e
            by_cases e:k=u
            · by_cases e':k'=u
              · rw[e,e']
              · rw[if_pos e,if_neg e'] at z
                have:=(hk2 k' (inold _ hk' e')).1
                exact absurd z.symm (ze this hq0)
            · by_cases e':k'=u
              · rw[if_neg e,if_pos e'] at z
                have:=(hk2 k (inold _ hk e)).1
                exact absurd z (ze this hq0)
              · rw[if_neg e,if_neg e'] at z
                exact hin k (inold _ hk e) k' (inold _ hk' e') z
    · rintro σ H2 ⟨v4,ad,rfl,q,hl2,hn2,hd2,hk2,hin⟩
      rw[List.length_map,List.take_length] at hd2 hk2 hin
      refine⟨_,rfl,.inr (.inr (.inl ⟨rfl,.inl ⟨_,hd2⟩⟩)),pd,_,rfl,rfl,hd2,fun pv hpv=>?_⟩
      have s3:=Same.new (o:=vwO pv pd) hpv
      refine⟨pv,pd,_,rfl,zb,s3 _ _ hd2,fun pf hpf=>?_⟩
      rw[zt7]
      have em:(zk ts (srt us)).map (fun k=>V.ref (ad k))=((zk ts (srt us)).map ad).map V.ref:=by rw[List.map_map];rfl
      rw[em]
      have s4:=Same.new (o:=.lst (((zk ts (srt us)).map ad).map V.ref)) hpf
      have q4:=s3.trans s4
      have knd:(zk ts (srt us)).Nodup:=(zfl nd).sublist (List.filter_sublist ..)
      refine k pf ((zk ts (srt us)).map ad) _ (q.free (s3.free hpf)) (fun a ha=>?_) (fun z=>?_) ?_ zb (zp2 fun x hx=>q4 _ _ (hk2 x hx).1) (q.trans q4)
      · obtain⟨x,hx,rfl⟩:=List.mem_map.mp ha
        exact (hk2 x hx).2.1
      · obtain⟨x,hx,e⟩:=List.mem_map.mp z
        have:=s3 _ _ (hk2 x hx).1
        rw[e,hpf] at this
        cases this
      · clear hk2 hd2 s4 q4 em
        generalize zk ts (srt us)=ks at hin knd
        induction ks with
        | nil=>exact List.nodup_nil
        | cons x r ih=>
          rw[List.nodup_cons] at knd
          rw[List.map_cons,List.nodup_cons]
          refine⟨fun z=>?_,ih (fun a ha b hb=>hin a (List.mem_cons_of_mem _ ha) b (List.mem_cons_of_mem _ hb)) knd.2⟩
          obtain⟨y,hy,e⟩:=List.mem_map.mp z
          have:=hin y (List.mem_cons_of_mem _ hy) x (by simp) e
          subst this
          exact knd.1 hy
def zrz:Sp:=fun vs H Q _=>∃(p pu pt:Addr) (x y:V) (us:List Str) (ads:List Addr) (ts:List Tie),vs = [.ref p]/\Tel K H p pu pt x y us ads ts/\
  ∀(pd:Addr) (ob:Obj) (ad:Str->Addr) (bs:Str->List Addr) (H':Hp),Same H H'->H pd=none->Bn H' pd ob (zk ts (srt us)) (za4 ts (ts.zip ads)) ad bs->Q (.ref pd) H'
set_option maxHeartbeats 8000000 in
theorem za9 (T:Tx K mg w C_MatrixReading):Has P w K mg base "ties_beneath" ["telling"] 4 (zrz (K:=K)):=by
  refine T.zf9.has sc_ties_beneath (fun vs H Q E h=>?_) (fun f cdv A outer s H vs Q E hr h=>?_)
  · obtain⟨p,pu,pt,x,y,us,ads,ts,rfl,_⟩:=h;rfl
  · obtain⟨p,pu,pt,x,y,us,ads,ts,rfl,hT,k⟩:=h
    have hu:=zdu hr
    refine⟨_,(zc (zp (i:=1) sc_ties_beneath.nd rfl (Or.inl rfl) (zae (zfy T) (hr.mono (by decide)) (by rfl) (za (zan (zar K rfl) (pv 0) zj (fun _ _=>rfl)) (za (zan (zar K rfl) (pv 0) zj (fun _ _=>rfl)) zd))))
      (zc (zp (i:=2) sc_ties_beneath.nd rfl (Or.inl rfl) zbl)
      (zc (za2 PassesOwn.never rfl (zad K rfl (zae (zwo T) (hr.mono (by decide)) (by rfl) (za (zan (zar K rfl) (pv 0) zj (fun _ _=>rfl)) (za (zan (zar K rfl) (pv 0) zj (fun _ _=>rfl)) zd)))) (zm (i:=3) sc_ties_beneath.nd rfl (Or.inl rfl)) (zg (zcc hu (pv 2) (zan (zaf K rfl) (pv 3) zj (fun _ _=>rfl)) (zaj zd) rfl)))
      (zc (za2 PassesOwn.never rfl (zad K rfl (zan (zar K rfl) (pv 0) zj (fun _ _=>rfl))) (zm (i:=4) sc_ties_beneath.nd rfl (Or.inl rfl)) (zg (za3 (zab znp (zan (zar K rfl) (pv 4) zj (fun _ _=>rfl)) zas (zai _)) (zg (zaq (zau K rfl PySem.F.plainAttrs_list PySem.F.slot_list_append PySem.F.type_list_append zag (za1 hu (pv 2) (za1 hu (pv 1) (zan (zar K rfl) (pv 4) zj (fun _ _=>rfl)) (fun _ _=>rfl)) (fun _ _=>rfl)) (za (zcj (za (za1 hu (pv 1) (zan (zar K rfl) (pv 4) zj (fun _ _=>rfl)) (fun _ _=>rfl)) (za (pv 4) zd))) zd)))) zz)))
      (zg (zwc (zw (pv 2)))))))),?_⟩
    have hts:=hT.ends
    obtain⟨hp,hu1,ht1,tp,nd,hl,tl,_⟩:=hT
    have hlen:ads.length=ts.length:=by have:=tp.len;rw[List.length_map] at this;exact this
    refine⟨_,rfl,p,_,_,_,rfl,rfl,hp,rfl,_,rfl,p,_,_,_,rfl,rfl,hp,rfl,pu,pt,us,ads,ts,rfl,hu1,ht1,tp,nd,by omega,hts,fun pn H1 fpn hn s1=>?_⟩
    try dsimp only [zv]
    refine fun pd hpd=>?_
    have s2:=Same.new (o:=.dK []) hpd
    have q2:=s1.trans s2
    refine⟨_,rfl,p,_,_,_,rfl,rfl,q2.tup hp,rfl,_,rfl,p,_,_,_,rfl,rfl,q2.tup hp,rfl,pu,pt,us,ads,ts,rfl,q2.seq hu1,q2.seq ht1,tp.same q2,nd,hl,hts,fun po as H3 fpo fas npo asnd hpo hls s3=>?_⟩
    have hn3:=s3 _ _ (s2 _ _ hn)
    have hd3:=s3 _ _ (zb (H:=H1) (a:=pd) (o:=.dK []))
    have q3:=q2.trans s3
    have fpd:H pd=none:=s1.free hpd
    have npd:pn≠pd:=ze hn hpd
    have lk:as.length=(zk ts (srt us)).length:=by have:=Paired.length hls;unfold zel at this;rw[List.length_map] at this;exact this
    have lk63:(zk ts (srt us)).length<=63:=by
      have:=zlo (us:=us) (ts:=ts) nd
      unfold zel at this
      rw[List.length_map] at this
      omega
    have hz:∀{i:Nat}{t:Tie}{r:Addr},ts[i]? = some t->ads[i]? = some r->(ts.zip ads)[i]? = some (t,r):=fun h1 h2=>List.getElem?_zip_eq_some.mpr ⟨h1,h2⟩
    generalize ek:zk ts (srt us)=keys at lk lk63 k
    have knd:keys.Nodup:=ek▸zbq nd
    have hgs:zel us ts=keys.map (zc2 ts (srt us)):=by unfold zel;rw[ek]
    refine⟨po,rfl,⟨_,SqL.of hpo⟩,zam (xs:=as.map V.ref) (fun i σ H'=>∃(v3:Option V) (ad:Str->Addr),σ = [some (.ref p),some (.ref pn),some (.ref pd),v3,none]/\(∀b o,b≠pd->H3 b=some o->H' b=some o)/\
      H' pd=some (.dK (dV (keys.take i) fun k=>.ref (ad k)))/\(∀k∈keys.take i,H' (ad k)=some (.lst [])/\H3 (ad k)=none)/\(∀k∈keys.take i,∀k'∈keys.take i,ad k=ad k'->k=k'))
      ⟨none,fun _=>0,rfl,fun b o _ e=>e,hd3,(fun k hk=>by simp at hk),fun k hk=>by simp at hk⟩ (fun i σ H' _ h=>by obtain⟨_,_,_,q,_⟩:=h;exact SqL.of (q _ _ (zdc hpo hd3 (by simp)) hpo)) ?_ ?_⟩
    · rintro i v σ H4 hx ⟨v3,ad,rfl,kp,hd4,hk4,inj⟩
      obtain⟨r,g,rfl,hg,har,hr⟩:=zbm hls hx
      rw[hgs,List.getElem?_map] at hg
      cases eu:keys[i]? with
      | none=>rw[eu] at hg;cases hg
      | some u=>
        rw[eu] at hg
        cases hg
        have hu':u∈keys:=List.mem_of_getElem? eu
        have hi:=zav eu
        have hfr:u ∉ keys.take i:=by
          have:=zcl knd i hi
          rw[show keys[i]=u from (List.getElem?_eq_some_iff.mp eu).2] at this
          exact this
        obtain⟨gr,egr⟩:=zq7 (us:=us) (ts:=ts) nd (k:=u) (ek▸hu')
        rw[egr] at hr
        have hr4:=kp _ _ (zdc hr hd3 (by simp)) hr
        try dsimp only [zv]
        refine⟨by decide,fun q0 hq0=>?_⟩
        have t0:=Same.new (o:=.lst []) hq0
        have hd5:=t0 _ _ hd4
        have nq:pd≠q0:=ze hd4 hq0
        refine⟨_,rfl,_,rfl,r,_,_,_,rfl,rfl,SqL.of (t0 _ _ hr4),ziq,pd,_,rfl,DPut.k (k:=Sum.inr u) hd5 (by rw[zbg,List.length_take];exact zo (by omega)),?_⟩
        have fq:H3 q0=none:=by
          cases e:H3 q0 with
          | none=>rfl
          | some o=>rw[kp _ _ (Ne.symm nq) e] at hq0;cases hq0
        refine⟨_,fun z=>if z=u then q0 else ad z,rfl,fun b o n e=>by rw[zf n];exact t0 _ _ (kp b o n e),?_,?_,?_⟩
        · rw[zb,zi1 hfr,List.take_add_one,eu]
          congr 2
          refine zc9 fun z hz=>?_
          dsimp only
          by_cases e:z=u
          · rw[if_pos e,if_pos e]
          · rw[if_neg e,if_neg e]
        · intro k hk
          rw[List.take_add_one,eu,List.mem_append] at hk
          dsimp only
          by_cases e:k=u
          · rw[if_pos e]
            exact⟨by rw[zf (Ne.symm nq),zb],fq⟩
          · rw[if_neg e]
            have hk':k∈keys.take i:=hk.elim id fun z=>absurd (by simpa using z) e
            obtain⟨h1,h2⟩:=hk4 k hk'
            refine⟨?_,h2⟩
            rw[zf (fun z=>by rw[z,hd4] at h1;cases h1)]
            exact t0 _ _ h1
        · intro k hk k' hk' e
          rw[List.take_add_one,eu,List.mem_append] at hk hk'
          dsimp only at e
          by_cases c1:k=u<;>by_cases c2:k'=u
          · rw[c1,c2]
          · rw[if_pos c1,if_neg c2] at e
            have h2:=(hk4 k' (hk'.elim id fun z=>absurd (by simpa using z) c2)).1
            rw[←e,hq0] at h2
            cases h2
          · rw[if_neg c1,if_pos c2] at e
            have h2:=(hk4 k (hk.elim id fun z=>absurd (by simpa using z) c1)).1
            rw[e,hq0] at h2
            cases h2
          · rw[if_neg c1,if_neg c2] at e
            exact inj k (hk.elim id fun z=>absurd (by simpa using z) c1) k' (hk'.elim id fun z=>absurd (by simpa using z) c2) e
    · rintro σ H4 ⟨v3,ad,rfl,kp,hd4,hk4,inj⟩
      rw[List.length_map,lk,List.take_length] at hd4 hk4 inj
      have sq4:∀{H':Hp},(∀b o,b≠pd->H3 b=some o->H' b=some o)->Same H H':=fun kp' b o e=>kp' b o (ze e fpd) (q3 _ _ e)
      have q4:=sq4 kp
      refine⟨_,rfl,p,_,_,_,rfl,rfl,q4.tup hp,rfl,pt,rfl,⟨_,q4.seq ht1⟩,zam (xs:=ads.map V.ref) (fun i σ H'=>∃(v4:Option V) (bs:Str->List Addr),σ = [some (.ref p),some (.ref pn),some (.ref pd),v3,v4]/\(∀b o,b≠pd->H3 b=some o->H' b=some o)/\
        H' pd=some (.dK (dV keys fun k=>.ref (ad k)))/\∀k∈keys,H' (ad k)=some (.lst ((bs k).map V.ref))/\Paired (fun b (p:Str×Addr)=>H' b=some (.tup [.str p.1,.ref p.2])) (bs k) (za4 ts ((ts.zip ads).take i) k))
        ⟨none,fun _=>[],rfl,kp,hd4,fun k hk=>⟨(hk4 k hk).1,.nil⟩⟩ (fun i σ H' _ h=>by obtain⟨_,_,_,q,_⟩:=h;exact (sq4 q).seq ht1) ?_ ?_⟩
      · rintro i x σ H5 hx ⟨v4,bs,rfl,kp5,hd5,hb5⟩
        obtain⟨r,t,rfl,ht,har,hr⟩:=zov tp hx
        have q5:=sq4 kp5
        have hr5:=q5 _ _ hr
        have hab:=hts t (List.mem_of_getElem? ht)
        have hit:=zav ht
        have hzi:=hz ht har
        try dsimp only [zv]
        refine⟨_,rfl,r,_,_,_,rfl,rfl,SqT.of hr5,zsn t,rfl,_,rfl,?_⟩
        refine ite2 (fun c=>?_) (fun c=>?_)
        · have c:t.k≠SAME:=by
            intro z
            simp[z,SAME] at c
          have g1:=DGet.k (k:=Sum.inr t.a) (kp5 _ _ npd hn3)
          have g2:=DGet.k (k:=Sum.inr t.b) (kp5 _ _ npd hn3)
          rw[zgq hab.1] at g1
          rw[zgq hab.2] at g2
          have hka:labs ts t.a∈keys:=ek▸zln hts hab.1
          have g3:=DGet.k (k:=Sum.inr (labs ts t.a)) hd5
          rw[zcn hka] at g3
          obtain⟨hb1,hb2⟩:=hb5 _ hka
          refine⟨_,rfl,_,rfl,_,rfl,r,_,_,_,rfl,rfl,SqT.of hr5,zso t,pn,_,rfl,g1,pd,_,rfl,g3,?_⟩
          refine⟨.inl ⟨rfl,_,SqL.of hb1⟩,_,rfl,_,rfl,r,_,_,_,rfl,rfl,SqT.of hr5,zsp t,pn,_,rfl,g2,_,rfl,(by show 2<=sizeLine;decide),fun b0 hb0=>?_⟩
          have t0:=Same.new (o:=.tup [.str (labs ts t.b),.ref r]) hb0
          have hb1':=t0 _ _ hb1
          have lb:(bs (labs ts t.a)).length<=900:=by
            have h1:=Paired.length hb2
            have h2:=zhc (ts:=ts) (z:=(ts.zip ads).take i) (k:=labs ts t.a)
            rw[List.length_take,List.length_zip] at h2
            omega
          refine⟨ad (labs ts t.a),_,_,rfl,rfl,hb1',by rw[List.length_map];exact zo (by omega),?_⟩
          have st:∀b vs,H5 b=some (.tup vs)->upd (upd H5 b0 (.tup [.str (labs ts t.b),.ref r])) (ad (labs ts t.a)) (.lst ((bs (labs ts t.a)).map V.ref++[.ref b0])) b=some (.tup vs):=fun b vs e=>zc7 hb1' _ _ (t0 _ _ e)
          refine⟨_,fun z=>if z=labs ts t.a then bs z++[b0] else bs z,rfl,fun b o n e=>?_,?_,fun k hk=>?_⟩
          · rw[zf (fun z=>by rw[z,(hk4 _ hka).2] at e;cases e)]
            exact t0 _ _ (kp5 b o n e)
          · rw[zf (fun z=>by rw[←z,hd5] at hb1;cases hb1)]
            exact t0 _ _ hd5
          · obtain⟨b1,b2⟩:=hb5 k hk
            have b2':=Paired.mapP b2 fun b p e=>st b _ e
            rw[zlp hzi]
            dsimp only
            by_cases e:k=labs ts t.a
            · subst e
              rw[if_pos rfl,if_pos ⟨c,rfl⟩]
              refine⟨by rw[zb,List.map_append];rfl,Paired.snoc b2' ?_⟩
              exact zc7 hb1' _ _ zb
            · rw[if_neg e,if_neg (fun z=>e z.2.symm),List.append_nil]
              refine⟨?_,b2'⟩
              rw[zf (fun z=>e (inj _ hk _ hka z))]
              exact t0 _ _ b1
        · have c:t.k=SAME:=by
            simpa[SAME] using c
          refine⟨_,bs,rfl,kp5,hd5,fun k hk=>?_⟩
          rw[zlp hzi,if_neg (fun z=>z.1 c),List.append_nil]
          exact hb5 k hk
      · rintro σ H5 ⟨v4,bs,rfl,kp5,hd5,hb5⟩
        rw[List.length_map] at hb5
        have ez:(ts.zip ads).take ads.length=ts.zip ads:=List.take_of_length_le (by rw[List.length_zip];omega)
        rw[ez] at hb5
        refine .inr ⟨pd,_,hd5,fun ob=>⟨_,rfl,k pd ob ad bs _ ?_ fpd ⟨zb,fun k hk=>?_,fun k hk=>?_⟩⟩⟩
        · exact (sq4 kp5).upd fpd
        · obtain⟨b1,b2⟩:=hb5 k hk
          rw[zf (fun z=>by rw[z,hd5] at b1;cases b1)]
          exact b1
        · obtain⟨b1,b2⟩:=hb5 k hk
          refine Paired.mapP b2 fun b p e=>?_
          rw[zf (fun z=>by rw[z,hd5] at e;cases e)]
          exact e
def zm8:Sp:=fun vs H Q _=>∃(s:Str) (pd:Addr) (ob:Obj) (keys:List Str) (ln:Ln) (ad:Str->Addr) (bs:Str->List Addr),vs = [.str s,.ref pd]/\Bn H pd ob keys ln ad bs/\s∈keys/\
  (∀k∈keys,∀l r,(l,r)∈ln k->l∈keys)/\keys.length<=63/\∀(p:Addr) (rs:List Addr) (H':Hp),Same H H'->H p=none->H' p=some (.lst (rs.map V.ref))->rs.length<=64->Shr ln s rs->Q (.ref p) H'
set_option maxHeartbeats 8000000 in
theorem zfz (T:Tx K mg w C_MatrixReading):Has P w K mg base "round_through" ["start","beneath"] 1 zm8:=by
  refine T.zf0.has sc_round_through (fun vs H Q E h=>?_) (fun f cdv A outer s H vs Q E hr h=>?_)
  · obtain⟨s',pd,ob,keys,ln,ad,bs,rfl,_⟩:=h;rfl
  · obtain⟨s',pd,ob,keys,ln,ad,bs,rfl,hB,hs,hc,hk,k⟩:=h
    have hu:=zdu hr
    refine⟨_,(zc (zp (i:=2) sc_round_through.nd rfl (Or.inl rfl) zbl)
      (zc (zp (i:=3) sc_round_through.nd rfl (Or.inl rfl) (zaj (za (zcj (za (pv 0) (za (zaj zd) zd))) zd)))
      (zc (zk2 PassesOwn.never (zab (zdj K rfl (hu10 hr)) (pv 3) (zaj zd) (zai _)) (zc (zp (i:=4) sc_round_through.nd rfl (Or.inl rfl) (zaj zd))
        (zc (za2 PassesOwn.never rfl (zad K rfl (pv 3)) (zct K rfl rfl (zal (zm (i:=5) sc_round_through.nd rfl (Or.inl rfl)) (zal (zm (i:=6) sc_round_through.nd rfl (Or.inl rfl)) zcq))) (zg (za2 PassesOwn.never rfl (zad K rfl (za1 hu (pv 1) (pv 5) (fun _ _=>rfl))) (zct K rfl rfl (zal (zm (i:=7) sc_round_through.nd rfl (Or.inl rfl)) (zal (zm (i:=8) sc_round_through.nd rfl (Or.inl rfl)) zcq))) (zc (za3 (zab zf2 (pv 7) (pv 0) (zai _)) (zg (zw (za6 zsj (pv 6) (zaj (za (pv 8) zd))))) zz)
            (zg (za3 (ze4 (zds hu (pv 7) (pv 2))) (zc (zcc hu (pv 2) (pv 7) zcw rfl)
              (zg (zaq (zau K rfl PySem.F.plainAttrs_list PySem.F.slot_list_append PySem.F.type_list_append zag (pv 4) (za (zcj (za (pv 7) (za (za6 zsj (pv 6) (zaj (za (pv 8) zd))) zd))) zd))))) zz))))))
        (zg (zp (i:=3) sc_round_through.nd rfl (Or.inl rfl) (pv 4))))))
      (zg (zw (zaj zd)))))),?_⟩
    refine fun pm hpm=>?_
    have s0:=Same.new (o:=.dK []) hpm
    try dsimp only [zv]
    refine⟨_,rfl,by decide,fun l0 hl0=>?_⟩
    have s1:=Same.new (o:=.lst []) hl0
    refine⟨(by show 2<=sizeLine;decide),fun b0 hb0=>?_⟩
    have s2:=Same.new (o:=.tup [.str s',.ref l0]) hb0
    refine⟨(by show 1<=sizeLine;decide),fun pw hpw=>?_⟩
    have s3:=Same.new (o:=.lst [.ref b0]) hpw
    have q3:=s0.trans (s1.trans (s2.trans s3))
    have hm3:=s3 _ _ (s2 _ _ (s1 _ _ (zb (H:=H) (a:=pm) (o:=.dK []))))
    have hl3:=s3 _ _ (s2 _ _ (zb (H:=upd H pm (.dK [])) (a:=l0) (o:=.lst [])))
    have hb3:=s3 _ _ (zb (H:=upd (upd H pm (.dK [])) l0 (.lst [])) (a:=b0) (o:=.tup [.str s',.ref l0]))
    have hw3:=zb (H:=upd (upd (upd H pm (.dK [])) l0 (.lst [])) b0 (.tup [.str s',.ref l0])) (a:=pw) (o:=.lst [.ref b0])
    generalize upd (upd (upd (upd H pm (.dK [])) l0 (.lst [])) b0 (.tup [.str s',.ref l0])) pw (.lst [.ref b0])=H3 at q3 hm3 hl3 hb3 hw3
    refine⟨fun m σ H'=>∃(v4 v5 v6 v7 v8:Option V) (pw:Addr) (wl:List Addr) (es:List (Str×List Addr)) (d:Nat) (M:List Str),σ = [some (.str s'),some (.ref pd),some (.ref pm),some (.ref pw),v4,v5,v6,v7,v8]/\Same H H'/\H' pm=some (.dK (dV M tru))/\
      H' pw=some (.lst (wl.map V.ref))/\Paired (zv9 H') wl es/\(∀e∈es,Wk ln s' e.2 e.1/\e.2.length=d/\e.1∈keys)/\M.Nodup/\(∀v∈M,v∈keys)/\Bf ln s' d M (es.map Prod.fst)/\(es≠[]->d<=M.length)/\
      m=2 * (keys.length-M.length)+(if es = [] then 0 else 1),⟨_,none,none,none,none,none,pw,[b0],[(s',[])],0,[],rfl,q3,hm3,hw3,.cons ⟨l0,hb3,hl3⟩ .nil,?_,by simp,by simp,Bf.zero,fun _=>Nat.le_refl _,rfl⟩,?_⟩
    · intro e he
      have:e=(s',[]):=by simpa using he
      subst this
      exact⟨.nil,rfl,hs⟩
    rintro m σ H4 ⟨v4,v5,v6,v7,v8,pw,wl,es,d,M,rfl,q4,hm4,hw4,pr4,ok4,nd4,sub4,bf,dle,rfl⟩
    have lM:M.length<=63:=by have:=zbf nd4 sub4;omega
    refine⟨_,rfl,by decide,fun le hle=>?_⟩
    have t5:=Same.new (o:=.lst []) hle
    refine⟨pw,le,_,rfl,rfl,DEq.nilL (SqL.of (t5 _ _ hw4)) (SqL.of zb),_,rfl,?_⟩
    have lw:wl.length=es.length:=Paired.length pr4
    have q5:=q4.trans t5
    have hm5:=t5 _ _ hm4
    have hw5:=t5 _ _ hw4
    have pr5:Paired (zv9 (upd H4 le (.lst []))) wl es:=Paired.mapP pr4 fun _ _ ⟨q,h1,h2⟩=>⟨q,t5 _ _ h1,t5 _ _ h2⟩
    have t5':=t5
    generalize upd H4 le (.lst [])=H5 at q5 hm5 hw5 pr5 t5'
    refine ite2 (fun c=>?_) (fun c=>?_)
    · have hes:es≠[]:=fun z=>by
        subst z
        have:wl = []:=List.length_eq_zero_iff.mp (by simpa using lw)
        subst this
        simp at c
      have dM:=dle hes
      refine⟨fun σ' H'=>∃m',m'<2 * (keys.length-M.length)+(if es = [] then 0 else 1)/\_,fun σ' H' h=>h,?_⟩
      try dsimp only [zv]
      refine⟨by decide,fun pl hpl=>?_⟩
      have t6:=Same.new (o:=.lst []) hpl
      have npl:pl≠pm:=Ne.symm (ze hm5 hpl)
      have npw:pw≠pm:=zdc hw5 hm5 (by simp)
      have Bk:∀{H':Hp},(∀b o,b≠pm->H5 b=some o->H' b=some o)->Same H H':=fun kp b o e=>kp b o (ze e hpm) (q5 _ _ e)
      refine⟨_,rfl,pw,rfl,⟨_,SqL.of (t6 _ _ hw5)⟩,zam (xs:=wl.map V.ref) (fun i σ H'=>∃(v5 v6 v7 v8:Option V) (ml:List Addr) (fs:List (Str×List Addr)),σ = [some (.str s'),some (.ref pd),some (.ref pm),some (.ref pw),some (.ref pl),v5,v6,v7,v8]/\
        Grow H5 H' pm pl ln s' keys M d ml fs/\∀u∈(es.take i).map Prod.fst,∀v r,(v,r)∈ln u->v≠s'/\v∈M++fs.map Prod.fst)
        ⟨v5,v6,v7,v8,[],[],rfl,⟨fun b o _ e=>t6 _ _ e,?_,zb,.nil,(fun e he=>(List.not_mem_nil he).elim),by simpa using nd4⟩,fun u hu=>by simp at hu⟩ (fun i σ H' _ h=>by obtain⟨_,_,_,_,_,_,_,g,_⟩:=h;exact SqL.of (g.kp _ _ npw hw5)) ?_ ?_⟩
      · rw[List.map_nil,List.append_nil];exact t6 _ _ hm5
      · rintro i x σ H6 hx ⟨u5,u6,u7,u8,ml,fs,rfl,g,cond⟩
        obtain⟨b,e,rfl,he,hbw,q,hb,hq⟩:=zbm pr5 hx
        have hie:=zav he
        have hem:e∈es:=List.mem_of_getElem? he
        obtain⟨wk,elen,ek⟩:=ok4 e hem
        have nb:b≠pm:=zdc hb hm5 (by simp)
        have nq:q≠pm:=zdc hq hm5 (by simp)
        refine⟨b,_,rfl,SqT.of (g.kp _ _ nb hb),rfl,_,_,rfl,_,_,rfl,rfl,?_⟩
        have B6:=hB.same (Bk g.kp)
        refine⟨_,rfl,_,rfl,pd,_,rfl,B6.get ek,ad e.1,rfl,⟨_,SqL.of (B6.l _ ek)⟩,zam (xs:=(bs e.1).map V.ref) (fun j σ H'=>∃(v7 v8:Option V) (ml:List Addr) (fs:List (Str×List Addr)),σ = [some (.str s'),some (.ref pd),some (.ref pm),some (.ref pw),some (.ref pl),some (.str e.1),some (.ref q),v7,v8]/\
          Grow H5 H' pm pl ln s' keys M d ml fs/\(∀u∈(es.take i).map Prod.fst,∀v r,(v,r)∈ln u->v≠s'/\v∈M++fs.map Prod.fst)/\∀p∈(ln e.1).take j,p.1≠s'/\p.1∈M++fs.map Prod.fst)
          ⟨u7,u8,ml,fs,rfl,g,cond,by simp⟩ (fun j σ H' _ h=>by obtain⟨_,_,_,_,_,g,_⟩:=h;exact SqL.of ((hB.same (Bk g.kp)).l _ ek)) ?_ ?_⟩
        · rintro j x σ H7 hx ⟨u7,u8,ml,fs,rfl,g,cond,cond2⟩
          have B7:=hB.same (Bk g.kp)
          obtain⟨b',⟨l,r⟩,rfl,hlr,hb',hbt⟩:=zbm (B7.e _ ek) hx
          have hlm:(l,r)∈ln e.1:=List.mem_of_getElem? hlr
          have hlk:l∈keys:=hc _ ek l r hlm
          refine⟨b',_,rfl,SqT.of hbt,rfl,_,_,rfl,_,_,rfl,rfl,?_⟩
          have hq7:=g.kp _ _ nq hq
          have lfs:(M++fs.map Prod.fst).length<=63:=by
            have:=zbf g.nd (us:=keys) fun v hv=>(List.mem_append.mp hv).elim (sub4 v) fun z=>by
              obtain⟨e',h1,rfl⟩:=List.mem_map.mp z
              exact (g.ok e' h1).2.2
            omega
          try dsimp only [zv]
          refine⟨_,rfl,_,rfl,rfl,_,rfl,?_⟩
          refine ite2 (fun c1=>?_) (fun c1=>?_)
          · have c1:l=s':=V.str.inj (of_decide_eq_true c1)
            refine⟨_,rfl,_,rfl,(by show 1<=sizeLine;decide),fun p1 hp1=>?_⟩
            have w1:=Same.new (o:=.lst [.ref r]) hp1
            refine⟨q,p1,_,_,rfl,rfl,w1 _ _ hq7,zb,by rw[List.length_map];exact zr (by show e.2.length+1<=1000;omega),fun p2 hp2=>?_⟩
            have w2:=Same.new (o:=.lst (e.2.map V.ref++[.ref r])) hp2
            have q7:Same H _:=(Bk g.kp).trans (w1.trans w2)
            refine k p2 (e.2++[r]) _ q7 (((Bk g.kp).trans w1).free hp2) (by rw[zb,List.map_append];rfl) (by rw[List.length_append];show e.2.length+1<=64;omega) (.inr ⟨by simp,c1▸wk.snoc hlm,fun j h1 h2=>bf.no j h1 ?_⟩)
            rw[List.length_append] at h2
            have h2:j<e.2.length+1:=h2
            omega
          · have c1:¬l=s':=fun z=>c1 (decide_eq_true (congrArg V.str z))
            have g1:=DGet.k (k:=Sum.inr l) g.m
            refine⟨_,rfl,_,rfl,pm,_,rfl,g1,_,rfl,?_⟩
            refine ite2 (fun c2=>?_) (fun c2=>?_)
            · have hv:l ∉ M++fs.map Prod.fst:=fun z=>by
                rw[zcn z] at c2
                cases c2
              refine⟨_,rfl,_,rfl,pm,_,rfl,DPut.k (k:=Sum.inr l) g.m (by rw[zbg];exact zo (by omega)),?_⟩
              rw[zox hv]
              have hl8:upd H7 pm (.dK (dV (M++fs.map Prod.fst++[l]) tru)) pl=some (.lst (ml.map V.ref)):=by rw[zf npl];exact g.l
              have hq8:upd H7 pm (.dK (dV (M++fs.map Prod.fst++[l]) tru)) q=some (.lst (e.2.map V.ref)):=by rw[zf nq];exact hq7
              try dsimp only [zv]
              refine⟨_,rfl,.inl ⟨rfl,_,SqL.of hl8⟩,_,rfl,_,rfl,_,rfl,(by show 1<=sizeLine;decide),fun p1 hp1=>?_⟩
              have w1:=Same.new (o:=.lst [.ref r]) hp1
              refine⟨q,p1,_,_,rfl,rfl,w1 _ _ hq8,zb,by rw[List.length_map];exact zr (by show e.2.length+1<=1000;omega),fun p2 hp2=>?_⟩
              have w2:=Same.new (o:=.lst (e.2.map V.ref++[.ref r])) hp2
              refine⟨(by show 2<=sizeLine;decide),fun b9 hb9=>?_⟩
              have w3:=Same.new (o:=.tup [.str l,.ref p2]) hb9
              have w:=w1.trans (w2.trans w3)
              have ml63:ml.length<=63:=by
                have h1:ml.length=fs.length:=Paired.length g.w
                rw[List.length_append,List.length_map] at lfs
                omega
              refine⟨pl,_,_,rfl,rfl,w _ _ hl8,by rw[List.length_map];exact zo (by omega),?_⟩
              have g':=g.add hpl npl hv w (rs:=e.2++[r]) (q:=p2) (b:=b9) (by rw[List.map_append];exact w3 _ _ zb) (Ne.symm (ze (w1 _ _ hl8) hp2)) zb ⟨wk.snoc hlm,by rw[List.length_append,elen];rfl,hlk⟩
              have mm:∀v,v∈M++fs.map Prod.fst->v∈M++(fs++[(l,e.2++[r])]).map Prod.fst:=fun v h=>by
                rw[List.map_append,←List.append_assoc];exact List.mem_append_left _ h
              refine⟨_,_,_,_,rfl,g',fun u hu v r' h=>⟨(cond u hu v r' h).1,mm _ (cond u hu v r' h).2⟩,zli hlr (fun p hp=>⟨(cond2 p hp).1,mm _ (cond2 p hp).2⟩) ⟨c1,?_⟩⟩
              rw[List.map_append,←List.append_assoc]
              simp
            · have hv:l∈M++fs.map Prod.fst:=Decidable.byContradiction fun z=>by
                rw[zfm z] at c2
                exact c2 rfl
              exact⟨_,_,ml,fs,rfl,g,cond,zli hlr cond2 ⟨c1,hv⟩⟩
        · rintro σ H7 ⟨u7,u8,ml,fs,rfl,g,cond,cond2⟩
          have B7:=hB.same (Bk g.kp)
          have lb:(bs e.1).length=(ln e.1).length:=Paired.length (B7.e _ ek)
          rw[List.length_map,lb,List.take_length] at cond2
          refine⟨_,_,_,_,ml,fs,rfl,g,fun u hu v r h=>?_⟩
          rw[List.map_take,List.take_add_one,List.getElem?_map,he,List.mem_append] at hu
          rcases hu with hu | hu
          · exact cond u (by rw[List.map_take];exact hu) v r h
          · have:u=e.1:=by simpa using hu
            subst this
            exact cond2 (v,r) h
      · rintro σ H6 ⟨u5,u6,u7,u8,ml,fs,rfl,g,cond⟩
        rw[List.length_map,lw,List.take_length] at cond
        refine⟨_,rfl,?_⟩
        try dsimp only [zv]
        have subN:∀v∈M++fs.map Prod.fst,v∈keys:=fun v hv=>(List.mem_append.mp hv).elim (sub4 v) fun z=>by
          obtain⟨e',h1,rfl⟩:=List.mem_map.mp z
          exact (g.ok e' h1).2.2
        have lN:=zbf g.nd subN
        refine⟨_,?_,_,_,_,_,_,pl,ml,fs,d+1,M++fs.map Prod.fst,rfl,Bk g.kp,g.m,g.l,Paired.mapP g.w fun _ _ ⟨q,_,h1,h2⟩=>⟨q,h1,h2⟩,g.ok,g.nd,subN,bf.succ (fun v hv=>?_) cond,fun hf=>?_,rfl⟩
        · rw[if_neg hes,List.length_append,List.length_map] at *
          cases fs with
          | nil=>simp
          | cons a r=>
            rw[if_neg (by simp)]
            simp only [List.length_cons] at *
            omega
        · obtain⟨e',h1,rfl⟩:=List.mem_map.mp hv
          exact⟨e'.2,(g.ok e' h1).1,(g.ok e' h1).2.1⟩
        · rw[List.length_append,List.length_map]
          have:=List.length_pos_iff.mpr hf
          omega
    · have hes:es = []:=by
        have:wl = []:=by simpa using c
        subst this
        exact List.length_eq_zero_iff.mp lw.symm
      subst hes
      refine⟨by decide,fun p hp=>?_⟩
      exact k p [] _ (q5.trans (Same.new hp)) (q5.free hp) zb (by simp) (.inl ⟨rfl,bf.done⟩)
def zr0:Sp:=fun vs H Q _=>∃(p pu pt:Addr) (x y:V) (us:List Str) (ads:List Addr) (ts:List Tie),vs = [.ref p]/\Tel K H p pu pt x y us ads ts/\
  ∀(q:Addr) (rs:List Addr) (H':Hp),Same H H'->H q=none->H' q=some (.lst (rs.map V.ref))->rs.length<=64->Rnd (za4 ts (ts.zip ads)) (zk ts (srt us)) rs->Q (.ref q) H'
set_option maxHeartbeats 8000000 in
theorem zet (T:Tx K mg w C_MatrixReading):Has P w K mg base "shortest_round" ["telling"] 5 (zr0 (K:=K)):=by
  refine T.zex.has sc_shortest_round (fun vs H Q E h=>?_) (fun f cdv A outer s H vs Q E hr h=>?_)
  · obtain⟨p,pu,pt,x,y,us,ads,ts,rfl,_⟩:=h;rfl
  · obtain⟨p,pu,pt,x,y,us,ads,ts,rfl,hT,k⟩:=h
    refine⟨_,(zc (zp (i:=1) sc_shortest_round.nd rfl (Or.inl rfl) (zae (za9 T) (hr.mono (by decide)) (by rfl) (za (pv 0) zd)))
      (zc (zp (i:=2) sc_shortest_round.nd rfl (Or.inl rfl) (zaj zd))
      (zc (za2 PassesOwn.never rfl (zhd (pv 1)) (zm (i:=3) sc_shortest_round.nd rfl (Or.inl rfl)) (zc (zp (i:=4) sc_shortest_round.nd rfl (Or.inl rfl) (zae (zfz T) (hr.mono (by decide)) (by rfl) (za (pv 3) (za (pv 1) zd))))
        (zg (za3 (PW.pt (ze5 (zab (zdj K rfl (hu10 hr)) (pv 4) (zaj zd) (zai _)) (zdg (PW.pt (ze6 (zab (zff K rfl (hu10 hr)) (pv 2) (zaj zd) (zai _)) (zdp (zab zqe (zn (zx K rfl) (by rfl) T.len boot_len (za (pv 4) zd)) (zn (zx K rfl) (by rfl) T.len boot_len (za (pv 2) zd)) (zai _)))))))) (zg (zp (i:=2) sc_shortest_round.nd rfl (Or.inl rfl) (pv 4))) zz))))
      (zg (zw (pv 2)))))),?_⟩
    have hts:=hT.ends
    refine⟨_,rfl,p,pu,pt,x,y,us,ads,ts,rfl,hT,fun pd ob ad bs H1 s1 fpd hB=>?_⟩
    have cl:=zda (us:=us) (ts:=ts) (ads:=ads) hts
    have lk:=hT.klen
    generalize zk ts (srt us)=keys at hB cl lk k
    generalize za4 ts (ts.zip ads)=ln at hB cl k
    try dsimp only [zv]
    refine⟨by decide,fun ps hps=>?_⟩
    have s2:=Same.new (o:=.lst []) hps
    refine⟨_,rfl,pd,ob,_,rfl,s2 _ _ hB.d,zlq (fun i σ H'=>∃(v3 v4:Option V) (ps:Addr) (rs:List Addr),σ = [some (.ref p),some (.ref pd),some (.ref ps),v3,v4]/\Same H1 H'/\H ps=none/\H' ps=some (.lst (rs.map V.ref))/\rs.length<=64/\Rnd ln (keys.take i) rs)
      ⟨none,none,ps,[],rfl,s2,s1.free hps,zb,by simp,by simpa using Rnd.nil⟩ (fun i σ H' _ h=>by obtain⟨_,_,_,_,_,q,_⟩:=h;exact q _ _ hB.d) ?_ ?_⟩
    · rintro i kk vv σ H3 hx ⟨v3,v4,ps,rs,rfl,q3,fps,hps3,lr,hR⟩
      obtain⟨u,hu,rfl,_⟩:=zwa hx
      have huk:u∈keys:=List.mem_of_getElem? hu
      try dsimp only [zv]
      refine⟨_,rfl,_,rfl,u,pd,ob,keys,ln,ad,bs,rfl,hB.same q3,huk,cl,lk,fun pr xs H4 s4 fpr hpr lx hS=>?_⟩
      have q4:=q3.trans s4
      have hps4:=s4 _ _ hps3
      try dsimp only [zv]
      refine zaw (decide (xs≠[]/\(rs = []\/xs.length<rs.length))) (fun Q' hQ=>?_) (fun H5 t5=>?_)
      · refine⟨_,rfl,by decide,fun e1 he1=>?_⟩
        have w1:=Same.new (o:=.lst []) he1
        refine⟨pr,e1,_,rfl,rfl,DEq.nilL (SqL.of (w1 _ _ hpr)) (SqL.of zb),_,rfl,?_⟩
        refine ite2 (fun c=>?_) (fun c=>?_)
        · have c:xs≠[]:=by simpa using c
          refine⟨_,rfl,by decide,fun e2 he2=>?_⟩
          have w2:=Same.new (o:=.lst []) he2
          have w12:=w1.trans w2
          refine⟨ps,e2,_,rfl,rfl,DEq.nilL (SqL.of (w12 _ _ hps4)) (SqL.of zb),_,rfl,?_⟩
          refine ite2 (fun c2=>?_) (fun c2=>?_)
          · have c2:rs = []:=by simpa using c2
            rw[show true=decide (xs≠[]/\(rs = []\/xs.length<rs.length)) from (decide_eq_true ⟨c,.inl c2⟩).symm]
            exact hQ _ w12
          · have c2:¬rs = []:=by simpa using c2
            refine⟨_,rfl,pr,_,rfl,.inl (SqL.of (w12 _ _ hpr)),_,rfl,ps,_,rfl,.inl (SqL.of (w12 _ _ hps4)),_,_,rfl,rfl,_,rfl,?_⟩
            have:decide (((xs.map V.ref).length:Int)<((rs.map V.ref).length:Int))=decide (xs≠[]/\(rs = []\/xs.length<rs.length)):=by
              rw[List.length_map,List.length_map]
              apply decide_eq_decide.mpr
              constructor
              · intro z;exact⟨c,.inr (by omega)⟩
              · rintro ⟨_,z | z⟩
                · exact absurd z c2
                · omega
            rw[←this] at hQ
            exact hQ _ w12
        · have c:xs = []:=by simpa using c
          rw[show false=decide (xs≠[]/\(rs = []\/xs.length<rs.length)) from (decide_eq_false fun z=>z.1 c).symm]
          exact hQ _ w1
      · have:=hR.step hS
        rw[show keys.take i++[u]=keys.take (i+1) by rw[List.take_add_one,hu];rfl] at this
        refine ite2 (fun c=>?_) (fun c=>?_)
        · have c:=of_decide_eq_true c
          rw[if_pos c] at this
          exact⟨_,rfl,_,_,pr,xs,rfl,q4.trans t5,(s1.trans q3).free fpr,t5 _ _ hpr,lx,this⟩
        · have c:¬(xs≠[]/\(rs = []\/xs.length<rs.length)):=fun z=>c (decide_eq_true z)
          rw[if_neg c] at this
          exact⟨_,_,ps,rs,rfl,q4.trans t5,fps,t5 _ _ hps4,lr,this⟩
    · rintro σ H3 ⟨v3,v4,ps,rs,rfl,q3,fps,hps3,lr,hR⟩
      rw[zbg,List.take_length] at hR
      exact⟨_,rfl,k ps rs _ (s1.trans q3) fps hps3 lr hR⟩
theorem zm9 {α:Type}(f:α->Bool) (l:List α):(l.map f).all id=l.all f:=by rw[List.all_map];rfl
def zr1:Sp:=fun vs H Q _=>∃(pl pp:Addr) (bs:List Addr) (L:List (Str×Addr)) (M:List Str),vs = [.ref pl,.ref pp]/\SqL K H pl (bs.map V.ref)/\Paired (fun b (p:Str×Addr)=>H b=some (.tup [.str p.1,.ref p.2])) bs L/\H pp=some (.dK (dV M tru))/\L.length<=900/\
  ∀H',Same H H'->Q (.bl (zeq M L)) H'
set_option maxHeartbeats 4000000 in
theorem zna (T:Tx K mg w C_MatrixReading):Has P w K mg base "rests_on" ["lowers","placed"] 1 (zr1 (K:=K)):=by
  refine T.zne.has zkp (fun vs H Q E h=>?_) (fun f cdv A outer s H vs Q E hr h=>?_)
  · obtain⟨pl,pp,bs,L,M,rfl,_⟩:=h;rfl
  · obtain⟨pl,pp,bs,L,M,rfl,hl,pr,hm,lL,k⟩:=h
    have hu:=zdu hr
    refine⟨_,(zg (zw (zn (zee K rfl rfl) (by rfl) T.all PyProof.Rows.boot_all (za (zcs (own:=["lower","tie"]) (cap:=["placed"]) (ix:=[1]) (osc:=zi (top 15)) rfl ⟨rfl,by decide +kernel,by decide +kernel,by decide +kernel,by decide +kernel⟩ rfl (zad K rfl (pv 0)) (fun _ _ _ _=>zct (n:=2) K rfl rfl (zal (zm (i:=0) (show List.Nodup (["lower","tie","placed"]:List Str) by decide +kernel) rfl (Or.inl rfl)) (zal (zm (i:=1) (show List.Nodup (["lower","tie","placed"]:List Str) by decide +kernel) rfl (Or.inl rfl)) zcq))) (fun _ _ _ _=>zbv) (fun _ _ _ _=>(zsb (zn3 hu (pv 0) (pv 2))))) zd)))),?_⟩
    have lb:bs.length=L.length:=Paired.length pr
    refine⟨_,rfl,pl,rfl,⟨_,hl⟩,fun D hD=>?_⟩
    refine zb7 (zc6 (K:=K) (a:=pl) (xs:=bs.map V.ref)) (fun i σ' ys H'=>∃w0 w1,σ' = [w0,w1,some (.ref pp)]/\ys=((L.take i).map fun p=>decide (p.1∈M)).map V.bl/\Same H H'/\H' D=some (.lst ys))
      ⟨none,none,rfl,by simp,Same.new hD,zb⟩ (fun i σ' ys H' h=>?_) (by rw[List.length_map];exact zr (by omega)) ?_ ?_
    · obtain⟨_,_,_,rfl,q,hd⟩:=h
      refine⟨q.seq hl,hd,?_⟩
      rw[List.length_map,List.length_map,List.length_take]
      omega
    · rintro i v σ' ys H' hx ⟨w0,w1,rfl,rfl,q,hd⟩
      obtain⟨b,⟨l,r⟩,rfl,hlr,_,hb⟩:=zbm pr hx
      have hix:=zav hx
      refine⟨b,_,rfl,SqT.of (q _ _ hb),rfl,_,_,rfl,_,_,rfl,rfl,?_⟩
      try dsimp only [zv]
      unfold tYes
      dsimp only
      rw[if_pos rfl]
      have g:=DGet.k (k:=Sum.inr l) (q _ _ hm)
      refine⟨_,rfl,_,rfl,pp,_,rfl,g,hd,zf4 hix ⟨_,_,rfl,?_,q.upd hD,zb⟩⟩
      rw[List.take_add_one,hlr,List.map_append,List.map_append]
      congr 1
      show [V.bl (valV (dV M tru) (Sum.inr l)).isSome] = [V.bl (decide (l∈M))]
      by_cases c:l∈M
      · rw[zcn c,decide_eq_true c];rfl
      · rw[zfm c,decide_eq_false c];rfl
    rintro σ' ys H1 ⟨w0,w1,rfl,rfl,q,hd⟩
    rw[List.length_map,lb,List.take_length] at hd
    refine⟨D,_,rfl,SqL.of hd,?_⟩
    rw[zm9]
    exact k _ q
def zr2:Sp:=fun vs H Q _=>∃(pd pp:Addr) (ob:Obj) (keys:List Str) (ln:Ln) (ad:Str->Addr) (bs:Str->List Addr) (M:List Str) (u:Str) (r:List Str),vs = [.ref pd,.ref pp]/\Bn H pd ob keys ln ad bs/\H pp=some (.dK (dV M tru))/\keys.length<=63/\(∀k∈keys,(ln k).length<=900)/\
  zeg ln keys M=u::r/\∀H',Same H H'->Q (.str u) H'
set_option maxHeartbeats 4000000 in
theorem zjn (T:Tx K mg w C_MatrixReading):Has P w K mg base "least_free" ["beneath","placed"] 2 zr2:=by
  refine T.zjq.has sc_least_free (fun vs H Q E h=>?_) (fun f cdv A outer s H vs Q E hr h=>?_)
  · obtain⟨pd,pp,ob,keys,ln,ad,bs,M,u,r,rfl,_⟩:=h;rfl
  · obtain⟨pd,pp,ob,keys,ln,ad,bs,M,u,r,rfl,hB,hm,lk,ll,hf,k⟩:=h
    have hu:=zdu hr
    refine⟨_,(zc (zj4 (i:=2) (own:=["name"]) (cap:=["placed","beneath"]) (ix:=[1,0]) (osc:=zi (top 14)) rfl sc_least_free.nd rfl rfl rfl ⟨rfl,by decide +kernel,by decide +kernel,by decide +kernel,by decide +kernel⟩ rfl (zhd (pv 0)) (fun _ _ _ _=>zm (i:=0) (show List.Nodup (["name","placed","beneath"]:List Str) by decide +kernel) rfl (Or.inl rfl)) (fun _ _ _ _=>ztp (PW.pt (ze5 (ze4 (zds hu (pv 0) (pv 1))) (zdg (zbj (zae (zna T) (hr.mono (by decide)) (by rfl) (za (za1 hu (pv 2) (pv 0) (fun _ _=>rfl)) (za (pv 1) zd)))))))) (fun _ _ _ _=>(pv 0)))
      (zg (zw (zan (zaf K rfl) (pv 2) zj (fun _ _=>rfl))))),?_⟩
    refine⟨_,rfl,pd,ob,_,rfl,hB.d,fun D hD=>?_⟩
    refine zb7 (zlr (a:=pd) (ob:=ob) (kvs:=dV keys fun k=>.ref (ad k))) (fun i σ' ys H'=>∃w0,σ' = [w0,some (.ref pp),some (.ref pd)]/\ys=((keys.take i).filter fun x=>decide (x ∉ M)&&zeq M (ln x)).map V.str/\Same H H'/\H' D=some (.lst ys))
      ⟨none,rfl,by simp,Same.new hD,zb⟩ (fun i σ' ys H' h=>?_) (by rw[List.length_map,zbg];exact zr (by omega)) ?_ ?_
    · obtain⟨_,_,rfl,q,hd⟩:=h
      refine⟨q _ _ hB.d,hd,?_⟩
      rw[List.length_map]
      exact Nat.le_trans (List.length_filter_le _ _) (by rw[List.length_take];omega)
    · rintro i v σ' ys H1 hx ⟨w0,rfl,rfl,q,hd⟩
      have hix:=zav hx
      rw[zkc,List.getElem?_map] at hx
      cases eu:keys[i]? with
      | none=>rw[eu] at hx;cases hx
      | some z=>
        rw[eu] at hx
        cases hx
        have hz:z∈keys:=List.mem_of_getElem? eu
        have B1:=hB.same q
        have g:=DGet.k (k:=Sum.inr z) (q _ _ hm)
        have no:∀(H2:Hp),Same H1 H2->(decide (z ∉ M)&&zeq M (ln z))=false->∃w0',[some (V.str z),some (V.ref pp),some (V.ref pd)] = [w0',some (.ref pp),some (.ref pd)]/\((keys.take i).filter fun x=>decide (x ∉ M)&&zeq M (ln x)).map V.str=((keys.take (i+1)).filter fun x=>decide (x ∉ M)&&zeq M (ln x)).map V.str/\Same H H2/\H2 D=some (.lst (((keys.take i).filter fun x=>decide (x ∉ M)&&zeq M (ln x)).map V.str)):=fun H2 t e=>by
          refine⟨_,rfl,?_,q.trans t,t _ _ hd⟩
          rw[List.take_add_one,eu,List.filter_append,List.map_append]
          have:(some z).toList.filter (fun x=>decide (x ∉ M)&&zeq M (ln x)) = []:=by
            show [z].filter _ = []
            rw[List.filter_cons_of_neg (by rw[e];exact Bool.false_ne_true)]
            rfl
          rw[this,List.map_nil,List.append_nil]
        try dsimp only [zv]
        refine⟨_,rfl,_,rfl,pp,_,rfl,g,_,rfl,?_⟩
        refine ite2 (fun c=>?_) (fun c=>?_)
        · have c1:z ∉ M:=fun y=>by rw[zcn y] at c;cases c
          refine⟨_,rfl,_,rfl,pd,_,rfl,B1.get hz,_,rfl,ad z,pp,bs z,ln z,M,rfl,SqL.of (B1.l z hz),B1.e z hz,q _ _ hm,ll z hz,fun H2 t2=>⟨_,rfl,?_⟩⟩
          refine ite2 (fun c2=>?_) (fun c2=>?_)
          · refine⟨_,rfl,t2 _ _ hd,zf4 hix ⟨_,rfl,?_,(q.trans t2).upd hD,zb⟩⟩
            rw[List.take_add_one,eu,List.filter_append,List.map_append]
            congr 1
            have:(some z).toList.filter (fun x=>decide (x ∉ M)&&zeq M (ln x)) = [z]:=by
              show [z].filter _ = [z]
              rw[List.filter_cons_of_pos (by rw[decide_eq_true c1,c2];rfl)]
              rfl
            rw[this]
            rfl
          · have c2:zeq M (ln z)=false:=by simpa using c2
            exact⟨t2 _ _ hd,zf4 hix (no H2 t2 (by rw[c2,Bool.and_false]))⟩
        · have c1:z∈M:=Decidable.byContradiction fun y=>by
            rw[zfm y] at c
            exact c rfl
          refine⟨hd,zf4 hix (no H1 (Same.refl _) ?_)⟩
          rw[show decide (z ∉ M)=false from decide_eq_false (fun y=>y c1),Bool.false_and]
    rintro σ' ys H1 ⟨w0,rfl,rfl,q,hd⟩
    rw[List.length_map,zbg,List.take_length] at hd
    have hd:H1 D=some (.lst ((zeg ln keys M).map V.str)):=hd
    rw[hf] at hd
    try dsimp only [zv]
    exact⟨_,rfl,D,_,_,_,rfl,rfl,SqL.of hd,ziq,k _ q⟩
def zp3:Sp:=fun vs H Q _=>∃(p pu pt:Addr) (x y:V) (us:List Str) (ads:List Addr) (ts:List Tie),vs = [.ref p]/\Tel K H p pu pt x y us ads ts/\NoR (za4 ts (ts.zip ads)) (zk ts (srt us))/\∀H',Same H H'->Q .non H'
theorem zf7 (T:Tx K mg w C_MatrixReading):Has P w K mg base "refuse_round" ["telling"] 6 (zp3 (K:=K)):=by
  refine T.zga.has sc_refuse_round (fun vs H Q E h=>?_) (fun f cdv A outer s H vs Q E hr h=>?_)
  · obtain⟨p,pu,pt,x,y,us,ads,ts,rfl,_⟩:=h;rfl
  · obtain⟨p,pu,pt,x,y,us,ads,ts,rfl,hT,nr,k⟩:=h
    refine⟨_,(zc (zp (i:=1) sc_refuse_round.nd rfl (Or.inl rfl) (zae (zet T) (hr.mono (by decide)) (by rfl) (za (pv 0) zd)))
      (zg (za3 (zab (zdj K rfl (hu10 hr)) (pv 1) (zaj zd) (zai _)) (zg zey) zz))),?_⟩
    refine⟨_,rfl,p,pu,pt,x,y,us,ads,ts,rfl,hT,fun q rs H1 s1 fq hq lr R=>?_⟩
    have e:rs = []:=Decidable.byContradiction fun z=>by
      obtain⟨s',hs,j,hj,r⟩:=R.nil_iff.mp z
      exact nr s' hs j hj r
    subst e
    try dsimp only [zv]
    refine⟨_,rfl,by decide,fun e he=>?_⟩
    have s2:=Same.new (o:=.lst []) he
    refine⟨q,e,_,rfl,rfl,DEq.nilL (SqL.of (s2 _ _ hq)) (SqL.of zb),_,rfl,iteF ?_⟩
    exact k _ (s1.trans s2)
def zr3:Sp:=fun vs H Q _=>∃(p pu pt:Addr) (x y:V) (us:List Str) (ads:List Addr) (ts:List Tie),vs = [.ref p]/\Tel K H p pu pt x y us ads ts/\NoR (za4 ts (ts.zip ads)) (zk ts (srt us))/\
  ∀(q:Addr) (os:List Str) (H':Hp),Same H H'->H q=none->H' q=some (.lst (os.map V.str))->Ord (za4 ts (ts.zip ads)) (zk ts (srt us)) os->os.Perm (zk ts (srt us))->Q (.ref q) H'
set_option maxHeartbeats 4000000 in
theorem zp4 (T:Tx K mg w C_MatrixReading):Has P w K mg base "order" ["telling"] 7 (zr3 (K:=K)):=by
  refine T.zu4.has sc_order (fun vs H Q E h=>?_) (fun f cdv A outer s H vs Q E hr h=>?_)
  · obtain⟨p,pu,pt,x,y,us,ads,ts,rfl,_⟩:=h;rfl
  · obtain⟨p,pu,pt,x,y,us,ads,ts,rfl,hT,nr,k⟩:=h
    have hu:=zdu hr
    refine⟨_,(zc (zaq (zae (zf7 T) (hr.mono (by decide)) (by rfl) (za (pv 0) zd)))
      (zc (zp (i:=1) sc_order.nd rfl (Or.inl rfl) (zae (za9 T) (hr.mono (by decide)) (by rfl) (za (pv 0) zd)))
      (zc (zp (i:=2) sc_order.nd rfl (Or.inl rfl) zbl)
      (zc (zk2 PassesOwn.never (zab zqe (zn zn6 (by rfl) T.len boot_len (za (pv 2) zd)) (zn zmn (by rfl) T.len boot_len (za (pv 1) zd)) (zai _)) (zg (zcc hu (pv 2) (zae (zjn T) (hr.mono (by decide)) (by rfl) (za (pv 1) (za (pv 2) zd))) zcw rfl)))
      (zg (zw (zbu (zek rfl) (by rfl) T.list PyProof.Rows.boot_list (za (pv 2) zd)))))))),?_⟩
    refine⟨_,rfl,p,pu,pt,x,y,us,ads,ts,rfl,hT,nr,fun H1 s1=>?_⟩
    refine⟨_,rfl,p,pu,pt,x,y,us,ads,ts,rfl,hT.same s1,fun pd ob ad bs H2 s2 fpd hB=>?_⟩
    have cl:=zda (us:=us) (ts:=ts) (ads:=ads) hT.ends
    have lk:=hT.klen
    have kn:=zbq (ts:=ts) hT.nd
    have kl:=zke (ts:=ts) hT.nd
    have ll:∀k∈zk ts (srt us),(za4 ts (ts.zip ads) k).length<=900:=fun k _=>by
      have h1:=zhc (ts:=ts) (z:=ts.zip ads) (k:=k)
      have h2:=hT.tl
      rw[List.length_zip] at h1
      omega
    generalize zk ts (srt us)=keys at hB cl lk k nr kn kl ll
    generalize za4 ts (ts.zip ads)=ln at hB cl k nr ll
    have q2:=s1.trans s2
    try dsimp only [zv]
    refine fun pp hpp=>?_
    have s3:=Same.new (o:=.dK []) hpp
    refine⟨fun m σ H'=>∃os,σ = [some (.ref p),some (.ref pd),some (.ref pp)]/\Same H2 H'/\H' pp=some (.dK (dV os tru))/\Ord ln keys os/\m=keys.length-os.length,⟨_,[],rfl,s3,zb,Ord.nil,rfl⟩,?_⟩
    rintro m σ H4 ⟨os,rfl,q4,hp4,O,rfl⟩
    have B4:=hB.same q4
    have lo:=zbf O.nd O.sub
    refine⟨_,rfl,pp,_,rfl,hp4,_,rfl,pd,_,rfl,.inr ⟨_,B4.d⟩,_,_,rfl,rfl,_,rfl,?_⟩
    rw[zbg,zbg]
    refine ite2 (fun c=>?_) (fun c=>?_)
    · have c:=of_decide_eq_true c
      have hx:∃x∈keys,x ∉ os:=Classical.byContradiction fun hn=>by
        have:=zbf (us:=os) kn fun x hx=>Decidable.byContradiction fun z=>hn ⟨x,hx,z⟩
        omega
      obtain⟨u,r,hu'⟩:∃u r,zeg ln keys os=u::r:=by
        cases e:zeg ln keys os with
        | nil=>exact absurd e (zq8 cl nr hx)
        | cons u r=>exact⟨u,r,rfl⟩
      obtain⟨m1,m2,m3⟩:=frees_mem.mp (show u∈zeg ln keys os by rw[hu'];simp)
      refine⟨fun σ' H'=>∃m',m'<keys.length-os.length/\_,fun σ' H' h=>h,?_⟩
      refine⟨_,rfl,_,rfl,_,rfl,pd,pp,ob,keys,ln,ad,bs,os,u,r,rfl,B4,hp4,lk,ll,hu',fun H5 s5=>?_⟩
      refine⟨pp,_,rfl,DPut.k (k:=Sum.inr u) (s5 _ _ hp4) (by rw[zbg];exact zo (by omega)),?_⟩
      rw[zox m2]
      refine⟨_,?_,os++[u],rfl,(q4.trans s5).upd hpp,zb,O.snoc kl hu',rfl⟩
      rw[List.length_append]
      show keys.length-(os.length+1)<_
      omega
    · have c:¬((os.length:Int)<(keys.length:Int)):=fun z=>c (decide_eq_true z)
      have e:os.length=keys.length:=by omega
      refine⟨_,rfl,pp,_,rfl,hp4,fun q hq=>?_⟩
      rw[zkc]
      exact k q os _ (q2.trans (q4.trans (Same.new hq))) ((q2.trans q4).free hq) zb O (O.perm kn e)
def zp5:Sp:=fun vs H Q _=>∃(p pu pt:Addr) (x y:V) (us:List Str) (ads:List Addr) (ts:List Tie),vs = [.ref p]/\Tel K H p pu pt x y us ads ts/\NoR (za4 ts (ts.zip ads)) (zk ts (srt us))/\
  ∀(q:Addr) (cs:List Addr) (lv:Str->Nat) (H':Hp),Same H H'->H q=none->H' q=some (.lst (cs.map V.ref))->cs.length<=63->cs.Nodup->(∀c∈cs,H c=none/\c≠q)->
    (∀(j:Nat) c,cs[j]? = some c->H' c=some (.lst (((zk ts (srt us)).filter (rowB lv j)).map V.str)))->Lv (za4 ts (ts.zip ads)) (zk ts (srt us)) lv cs.length->Q (.ref q) H'
set_option maxHeartbeats 8000000 in
theorem zl5 (T:Tx K mg w C_MatrixReading):Has P w K mg base "levels" ["telling"] 8 (zp5 (K:=K)):=by
  refine T.zsa.has sc_levels (fun vs H Q E h=>?_) (fun f cdv A outer s H vs Q E hr h=>?_)
  · obtain⟨p,pu,pt,x,y,us,ads,ts,rfl,_⟩:=h;rfl
  · obtain⟨p,pu,pt,x,y,us,ads,ts,rfl,hT,nr,k⟩:=h
    have hu:=zdu hr
    refine⟨_,(zc (zp (i:=1) sc_levels.nd rfl (Or.inl rfl) (zae (za9 T) (hr.mono (by decide)) (by rfl) (za (pv 0) zd)))
      (zc (zp (i:=2) sc_levels.nd rfl (Or.inr rfl) zbl)
      (zc (zp (i:=3) sc_levels.nd rfl (Or.inl rfl) (zaj zd))
      (zc (za2 PassesOwn.never rfl (zad K rfl (zae (zp4 T) (hr.mono (by decide)) (by rfl) (za (pv 0) zd))) (zm (i:=4) sc_levels.nd rfl (Or.inl rfl)) (zc (zp (i:=5) sc_levels.nd rfl (Or.inl rfl) (zub K rfl 0 rfl (by rfl) T.max (zcs (own:=["lower","tie"]) (cap:=["numbers"]) (ix:=[2]) (osc:=zi (top 21)) rfl ⟨rfl,by decide +kernel,by decide +kernel,by decide +kernel,by decide +kernel⟩ rfl (zad K rfl (za1 hu (pv 1) (pv 4) (fun _ _=>rfl))) (fun _ _ _ _=>zct (n:=2) K rfl rfl (zal (zm (i:=0) (show List.Nodup (["lower","tie","numbers"]:List Str) by decide +kernel) rfl (Or.inl rfl)) (zal (zm (i:=1) (show List.Nodup (["lower","tie","numbers"]:List Str) by decide +kernel) rfl (Or.inl rfl)) zcq))) (fun _ _ _ _=>zbv) (fun _ _ _ _=>(za6 ze7 (za1 hu (pv 2) (pv 0) (fun _ _=>rfl)) zj)))))
        (zc (zcc hu (pv 2) (pv 4) (pv 5) rfl)
        (zc (za3 (zab zf2 (pv 5) (zn (zx K rfl) (by rfl) T.len boot_len (za (pv 3) zd)) (zai _)) (zg (zaq (zau K rfl PySem.F.plainAttrs_list PySem.F.slot_list_append PySem.F.type_list_append zag (pv 3) (za (zaj zd) zd)))) zz)
        (zg (zaq (zau K rfl PySem.F.plainAttrs_list PySem.F.slot_list_append PySem.F.type_list_append zag (zan (zaf K rfl) (pv 3) (pv 5) (fun _ _=>rfl)) (za (pv 4) zd))))))))
      (zg (zw (zcs (own:=["row"]) (cap:=[]) (ix:=[]) (osc:=zi (top 21)) rfl ⟨rfl,by decide +kernel,by decide +kernel,by decide +kernel,by decide +kernel⟩ rfl (zad K rfl (pv 3)) (fun _ _ _ _=>zm (i:=0) (show List.Nodup (["row"]:List Str) by decide +kernel) rfl (Or.inl rfl)) (fun _ _ _ _=>zbv) (fun _ _ _ _=>(zn (zb9 (K:=K) rfl) (by rfl) T.sorted PyProof.Rows.boot_sorted (za (pv 0) zd)))))))))),?_⟩
    refine⟨_,rfl,p,pu,pt,x,y,us,ads,ts,rfl,hT,fun pd ob ad bs H1 s1 fpd hB=>?_⟩
    have lk:=hT.klen
    have kn:=zbq (ts:=ts) hT.nd
    have kl:=zke (ts:=ts) hT.nd
    have ll:∀k∈zk ts (srt us),(za4 ts (ts.zip ads) k).length<=900:=fun k _=>by
      have h1:=zhc (ts:=ts) (z:=ts.zip ads) (k:=k)
      have h2:=hT.tl
      rw[List.length_zip] at h1
      omega
    try dsimp only [zv]
    refine fun pn hpn=>?_
    have s2:=Same.new (o:=.dK []) hpn
    try dsimp only [zv]
    refine⟨by decide,fun pr hpr=>?_⟩
    have s3:=Same.new (o:=.lst []) hpr
    have q3:=s1.trans (s2.trans s3)
    have fpr:H1 pr=none:=s2.free hpr
    have npr:pn≠pr:=ze zb hpr
    refine⟨_,rfl,p,pu,pt,x,y,us,ads,ts,rfl,hT.same q3,nr,fun q os H4 s4 fq hq O pm=>?_⟩
    have hn4:=s4 _ _ (s3 _ _ (zb (H:=H1) (a:=pn) (o:=.dK [])))
    have hr4:=s4 _ _ (zb (H:=upd H1 pn (.dK [])) (a:=pr) (o:=.lst []))
    have nqn:pn≠q:=ze (s3 _ _ zb) fq
    have nqr:pr≠q:=ze zb fq
    have fq1:H1 q=none:=(s2.trans s3).free fq
    have lo:os.length<=63:=by rw[pm.length_eq];exact lk
    generalize zk ts (srt us)=keys at hB lk k nr kn kl ll O pm
    generalize za4 ts (ts.zip ads)=ln at hB k nr ll O
    refine⟨q,rfl,⟨_,SqL.of hq⟩,zam (xs:=os.map V.str) (fun i σ H'=>∃(v4 v5:Option V) (cs:List Addr) (lv:Str->Nat),σ = [some (.ref p),some (.ref pd),some (.ref pn),some (.ref pr),v4,v5]/\Same H1 H'/\H' q=some (.lst (os.map V.str))/\
      H' pn=some (.dK (dV (os.take i) fun x=>.int (lv x)))/\H' pr=some (.lst (cs.map V.ref))/\cs.length<=i/\cs.Nodup/\(∀c∈cs,H1 c=none/\c≠pn/\c≠pr/\c≠q)/\
      (∀(j:Nat) c,cs[j]? = some c->H' c=some (.lst (((os.take i).filter (rowB lv j)).map V.str)))/\Lv ln (os.take i) lv cs.length)
      ⟨none,none,[],fun _=>0,rfl,s2.trans (s3.trans s4),hq,hn4,hr4,Nat.le_refl _,by simp,by simp,by simp,Lv.nil⟩ (fun i σ H' _ h=>by obtain⟨_,_,_,_,_,_,q,_⟩:=h;exact SqL.of q) ?_ ?_⟩
    · rintro i v σ H5 hx ⟨v4,v5,cs,lv,rfl,q5,hq5,hn5,hr5,cl,cn,cf,ch,L⟩
      rw[List.getElem?_map] at hx
      cases eu:os[i]? with
      | none=>rw[eu] at hx;cases hx
      | some u=>
        rw[eu] at hx
        cases hx
        have hu':u∈keys:=O.sub u (List.mem_of_getElem? eu)
        have hlow:=O.low i u eu
        have hi:=zav eu
        have hul:u ∉ os.take i:=fun z=>by
          have nd:=O.nd
          rw[←List.take_append_drop i os,List.nodup_append] at nd
          refine nd.2.2 u z u ?_ rfl
          obtain⟨hi,e⟩:=List.getElem?_eq_some_iff.mp eu
          rw[←e]
          exact List.mem_drop_iff_getElem.mpr ⟨0,by omega,by simp⟩
        have tk:os.take (i+1)=os.take i++[u]:=by rw[List.take_add_one,eu];rfl
        have lt:(os.take i).length<=63:=by rw[List.length_take];omega
        have B5:=hB.same q5
        have lb:(bs u).length=(ln u).length:=Paired.length (B5.e u hu')
        have lu:=ll u hu'
        try dsimp only [zv]
        refine⟨_,rfl,_,rfl,pd,_,rfl,B5.get hu',ad u,rfl,⟨_,SqL.of (B5.l u hu')⟩,fun D hD=>?_⟩
        refine zb7 (zc6 (K:=K) (a:=ad u) (xs:=(bs u).map V.ref)) (fun i' σ' ys H'=>∃w0 w1,σ' = [w0,w1,some (.ref pn)]/\ys=(lvN lv ((ln u).take i')).map V.int/\Same H5 H'/\H' D=some (.lst ys))
          ⟨none,none,rfl,by simp[lvN],Same.new hD,zb⟩ (fun i' σ' ys H' h=>?_) (by rw[List.length_map];exact zr (by omega)) ?_ ?_
        · obtain⟨_,_,_,rfl,q,hd⟩:=h
          refine⟨SqL.of (q _ _ (B5.l u hu')),hd,?_⟩
          unfold lvN
          rw[List.length_map,List.length_map,List.length_take]
          omega
        · rintro i' v σ' ys H' hx ⟨w0,w1,rfl,rfl,q,hd⟩
          obtain⟨b,⟨l,r⟩,rfl,hlr,_,hb⟩:=zbm (B5.e u hu') hx
          have hix:=zav hx
          have hl:l∈os.take i:=hlow l r (List.mem_of_getElem? hlr)
          refine⟨b,_,rfl,SqT.of (q _ _ hb),rfl,_,_,rfl,_,_,rfl,rfl,?_⟩
          try dsimp only [zv]
          unfold tYes
          dsimp only
          rw[if_pos rfl]
          have g:=DGet.k (k:=Sum.inr l) (q _ _ hn5)
          rw[zcn hl] at g
          refine⟨_,rfl,_,rfl,pn,_,rfl,g,_,_,rfl,rfl,hd,zf4 hix ⟨_,_,rfl,?_,q.upd hD,zb⟩⟩
          rw[List.take_add_one,hlr]
          unfold lvN
          rw[List.map_append,List.map_append]
          rfl
        rintro σ' ys H6 ⟨w0,w1,rfl,rfl,t6,hd6⟩
        rw[List.length_map,lb,List.take_length] at hd6
        refine⟨D,_,rfl,SqL.of hd6,fun m hm=>?_⟩
        obtain⟨k',rfl,hk⟩:=L.next hlow hm
        have L':=L.step hul hlow hm hk
        have hn6:=t6 _ _ hn5
        have hr6:=t6 _ _ hr5
        try dsimp only [zv]
        refine⟨_,rfl,_,rfl,_,rfl,pn,_,rfl,DPut.k (k:=Sum.inr u) hn6 (by rw[zbg];exact zo (by omega)),?_⟩
        rw[zi1 hul]
        have ed:dV (os.take i++[u]) (fun z=>if z=u then V.int (k':Int) else V.int (lv z))=dV (os.take (i+1)) fun x=>V.int (lvU lv u k' x):=by
          rw[tk]
          refine zc9 fun z _=>?_
          unfold lvU
          split<;>rfl
        rw[ed]
        have q7:Same H1 (upd H6 pn (.dK (dV (os.take (i+1)) fun x=>V.int (lvU lv u k' x)))):=(q5.trans t6).upd hpn
        have hq7:upd H6 pn (.dK (dV (os.take (i+1)) fun x=>V.int (lvU lv u k' x))) q=some (.lst (os.map V.str)):=by rw[zf (Ne.symm nqn)];exact t6 _ _ hq5
        have hr7:upd H6 pn (.dK (dV (os.take (i+1)) fun x=>V.int (lvU lv u k' x))) pr=some (.lst (cs.map V.ref)):=by rw[zf (Ne.symm npr)];exact hr6
        have hn7:upd H6 pn (.dK (dV (os.take (i+1)) fun x=>V.int (lvU lv u k' x))) pn=some (.dK (dV (os.take (i+1)) fun x=>V.int (lvU lv u k' x))):=zb
        have ch7:∀(j:Nat) c,cs[j]? = some c->upd H6 pn (.dK (dV (os.take (i+1)) fun x=>V.int (lvU lv u k' x))) c=some (.lst (((os.take i).filter (rowB lv j)).map V.str)):=fun j c e=>by
          rw[zf (cf c (List.mem_of_getElem? e)).2.1]
          exact t6 _ _ (ch j c e)
        generalize upd H6 pn (.dK (dV (os.take (i+1)) fun x=>V.int (lvU lv u k' x)))=H7 at q7 hq7 hr7 hn7 ch7
        try dsimp only
        unfold tSeq
        refine zrd (fun σ' H'=>∃(cs':List Addr),σ' = [some (.ref p),some (.ref pd),some (.ref pn),some (.ref pr),some (.str u),some (.int k')]/\Same H1 H'/\H' q=some (.lst (os.map V.str))/\
            H' pn=some (.dK (dV (os.take (i+1)) fun x=>V.int (lvU lv u k' x)))/\H' pr=some (.lst (cs'.map V.ref))/\cs'.length<=i+1/\cs'.Nodup/\(∀c∈cs',H1 c=none/\c≠pn/\c≠pr/\c≠q)/\
            (∀(j:Nat) c,cs'[j]? = some c->H' c=some (.lst (((os.take i).filter (rowB lv j)).map V.str)))/\k'<cs'.length/\cs'.length=if k'=cs.length then cs.length+1 else cs.length) (decide (k'=cs.length)) (fun Q' hQ=>?_) (fun e hn=>?_) (fun e hn=>?_) ?_
        · refine⟨_,rfl,_,rfl,pr,_,rfl,.inl (SqL.of hr7),rfl,_,rfl,?_⟩
          have e:decide (V.int (k':Int)=V.int ((cs.map V.ref).length:Int))=decide (k'=cs.length):=by
            rw[decide_eq_decide,List.length_map]
            constructor
            · intro z;injection z with z;omega
            · intro z;rw[z]
          rw[e]
          exact hQ
        · have e:=of_decide_eq_true e
          refine⟨_,rfl,.inl ⟨rfl,_,SqL.of hr7⟩,by decide,fun q0 hq0=>?_⟩
          have t0:=Same.new (o:=.lst []) hq0
          refine⟨pr,_,_,rfl,rfl,t0 _ _ hr7,by rw[List.length_map];exact zo (by omega),?_⟩
          have fq0:H1 q0=none:=q7.free hq0
          have fp0:H1 pr=none:=fpr
          have mp:=List.map_append (f:=V.ref) (l₁:=cs) (l₂:=[q0])
          have nr0:pr≠q0:=ze hr7 hq0
          refine hn _ _ ⟨cs++[q0],rfl,(q7.trans t0).upd fp0,?_,?_,by rw[zb,mp];rfl,by rw[List.length_append];show cs.length+1<=_;omega,?_,fun c hc=>?_,fun j c hc=>?_,by rw[List.length_append];show _<cs.length+1;omega,by rw[if_pos e,List.length_append];rfl⟩
          · rw[zf (Ne.symm nqr)];exact t0 _ _ hq7
          · rw[zf npr];exact t0 _ _ hn7
          · rw[List.nodup_append]
            refine⟨cn,by simp,fun a ha b hb z=>?_⟩
            have hb:b=q0:=by simpa using hb
            subst hb
            subst z
            obtain⟨j,hj⟩:=List.mem_iff_getElem?.mp ha
            have:=ch7 j _ hj
            rw[hq0] at this
            cases this
          · rcases List.mem_append.mp hc with hc | hc
            · exact cf c hc
            · have hc:c=q0:=by simpa using hc
              subst hc
              exact⟨fq0,Ne.symm (ze hn7 hq0),Ne.symm nr0,Ne.symm (ze hq7 hq0)⟩
          · by_cases hj:j<cs.length
            · rw[List.getElem?_append_left hj] at hc
              rw[zf (cf c (List.mem_of_getElem? hc)).2.2.1]
              exact t0 _ _ (ch7 j c hc)
            · rw[List.getElem?_append_right (by omega)] at hc
              have hj2:j=cs.length:=by
                have:=zav hc
                have:j-cs.length<1:=this
                omega
              subst hj2
              simp at hc
              subst hc
              rw[zf (Ne.symm nr0),zb,L.row_nil (Nat.le_refl _)]
              rfl
        · have e:=of_decide_eq_false e
          exact hn _ _ ⟨cs,rfl,q7,hq7,hn7,hr7,by omega,cn,cf,ch7,by omega,by rw[if_neg e]⟩
        · rintro σ' H8 ⟨cs',rfl,q8,hq8,hn8,hr8,cl8,cn8,cf8,ch8,kc,ec⟩
          have hk':cs'[k']? = some cs'[k']:=List.getElem?_eq_getElem kc
          have hc:=ch8 k' _ hk'
          generalize cs'[k']=c at hk' hc
          have hcm:=cf8 c (List.mem_of_getElem? hk')
          refine⟨_,rfl,_,rfl,pr,_,_,.ref c,rfl,rfl,SqL.of hr8,zba (by rw[List.getElem?_map,hk'];rfl),.inl ⟨rfl,_,SqL.of hc⟩,_,rfl,c,_,_,rfl,rfl,hc,?_,?_⟩
          · rw[List.length_map]
            exact zo (by have:=List.length_filter_le (rowB lv k') (os.take i);omega)
          refine⟨_,_,cs',lvU lv u k',rfl,q8.upd hcm.1,?_,?_,?_,cl8,cn8,cf8,fun j d hd=>?_,?_⟩
          · rw[zf (Ne.symm hcm.2.2.2)];exact hq8
          · rw[zf (Ne.symm hcm.2.1)];exact hn8
          · rw[zf (Ne.symm hcm.2.2.1)];exact hr8
          · rw[tk,zrc hul]
            by_cases e:k'=j
            · subst e
              rw[hk'] at hd
              cases hd
              rw[zb,if_pos rfl,List.map_append]
              rfl
            · rw[if_neg e,List.append_nil,zf (fun z=>e (zwd cn8 hk' (by rw[←z];exact hd)))]
              exact ch8 j d hd
          · rw[tk,ec]
            exact L'
    · rintro σ H5 ⟨v4,v5,cs,lv,rfl,q5,hq5,hn5,hr5,cl,cn,cf,ch,L⟩
      rw[List.length_map,List.take_length] at ch L
      rw[List.length_map] at cl
      have Lk:=L.mem fun x=>pm.mem_iff
      try dsimp only [zv]
      refine⟨_,rfl,pr,rfl,⟨_,SqL.of hr5⟩,fun D hD=>?_⟩
      refine zb7 (zc6 (K:=K) (a:=pr) (xs:=cs.map V.ref)) (fun i' σ' ys H'=>∃(w0:Option V) (ds:List Addr),σ' = [w0]/\ys=ds.map V.ref/\ds.length=i'/\Same H5 H'/\H' D=some (.lst ys)/\ds.Nodup/\(∀d∈ds,H5 d=none/\d≠D)/\∀(j:Nat) d,ds[j]? = some d->H' d=some (.lst ((keys.filter (rowB lv j)).map V.str)))
        ⟨none,[],rfl,rfl,rfl,Same.new hD,zb,by simp,by simp,by simp⟩ (fun i' σ' ys H' h=>?_) (by rw[List.length_map];exact zr (by omega)) ?_ ?_
      · obtain⟨_,_,_,rfl,dl,q,hd,_⟩:=h
        refine⟨SqL.of (q _ _ hr5),hd,?_⟩
        rw[List.length_map]
        omega
      · rintro i' v σ' ys H6 hx ⟨w0,ds,rfl,rfl,dl,q,hd,dn,df,dh⟩
        have hix:=zav hx
        rw[List.getElem?_map] at hx
        cases ec:cs[i']? with
        | none=>rw[ec] at hx;cases hx
        | some c=>
          rw[ec] at hx
          cases hx
          have hc:=q _ _ (ch i' c ec)
          try dsimp only [zv]
          unfold tYes
          dsimp only
          rw[if_pos rfl]
          refine⟨_,rfl,c,os.filter (rowB lv i'),rfl,SqL.of hc,by have:=List.length_filter_le (rowB lv i') os;omega,fun d ms hd' pm' rs=>?_⟩
          have em:=zll pm' rs
          subst em
          rw[zmp pm kl]
          have t1:=Same.new (o:=.lst ((keys.filter (rowB lv i')).map V.str)) hd'
          have nd:D≠d:=ze hd hd'
          refine⟨t1 _ _ hd,zf4 hix ⟨_,ds++[d],rfl,by rw[List.map_append];rfl,by rw[List.length_append];show ds.length+1=_;omega,(q.trans t1).upd hD,by rw[zb],?_,fun b hb=>?_,fun j b hb=>?_⟩⟩
          · rw[List.nodup_append]
            refine⟨dn,by simp,fun a ha b hb z=>?_⟩
            have hb:b=d:=by simpa using hb
            subst hb
            subst z
            obtain⟨j,hj⟩:=List.mem_iff_getElem?.mp ha
            have:=dh j _ hj
            rw[hd'] at this
            cases this
          · rcases List.mem_append.mp hb with hb | hb
            · exact df b hb
            · have hb:b=d:=by simpa using hb
              subst hb
              exact⟨q.free hd',Ne.symm nd⟩
          · by_cases hj:j<ds.length
            · rw[List.getElem?_append_left hj] at hb
              rw[zf (df b (List.mem_of_getElem? hb)).2]
              exact t1 _ _ (dh j b hb)
            · rw[List.getElem?_append_right (by omega)] at hb
              have hj2:j=ds.length:=by
                have:=zav hb
                have:j-ds.length<1:=this
                omega
              subst hj2
              simp at hb
              subst hb
              rw[zf (Ne.symm nd),zb,dl]
      rintro σ' ys H6 ⟨w0,ds,rfl,rfl,dl,q,hd,dn,df,dh⟩
      rw[List.length_map] at dl
      have f5:=s1.trans q5
      refine k D ds lv H6 (f5.trans q) (f5.free hD) hd (by omega) dn (fun c hc=>⟨f5.free (df c hc).1,(df c hc).2⟩) dh ?_
      rw[dl]
      exact Lk
def zuy:Sp:=fun vs H Q _=>∃(p pu pt:Addr) (x y:V) (us:List Str) (ads:List Addr) (ts:List Tie),vs = [.ref p]/\Tel K H p pu pt x y us ads ts/\NoR (za4 ts (ts.zip ads)) (zk ts (srt us))/\
  ∀(pd:Addr) (ob:Obj) (os:List Str) (bel:Str->List Str) (ad:Str->Addr) (obs:Str->Obj) (H':Hp),Same H H'->H pd=none->Dp H' pd ob os bel ad obs->os.Perm (zk ts (srt us))->(∀k∈zk ts (srt us),(bel k).Nodup/\∀y,y∈bel k↔Bel (za4 ts (ts.zip ads)) k y)->Q (.ref pd) H'
set_option maxHeartbeats 8000000 in
theorem zhv (T:Tx K mg w C_MatrixReading):Has P w K mg base "all_beneath" ["telling"] 8 (zuy (K:=K)):=by
  refine T.zh1.has sc_all_beneath (fun vs H Q E h=>?_) (fun f cdv A outer s H vs Q E hr h=>?_)
  · obtain⟨p,pu,pt,x,y,us,ads,ts,rfl,_⟩:=h;rfl
  · obtain⟨p,pu,pt,x,y,us,ads,ts,rfl,hT,nr,k⟩:=h
    have hu:=zdu hr
    refine⟨_,(zc (zp (i:=1) sc_all_beneath.nd rfl (Or.inl rfl) (zae (za9 T) (hr.mono (by decide)) (by rfl) (za (pv 0) zd)))
      (zc (zp (i:=2) sc_all_beneath.nd rfl (Or.inl rfl) zbl)
      (zc (za2 PassesOwn.never rfl (zad K rfl (zae (zp4 T) (hr.mono (by decide)) (by rfl) (za (pv 0) zd))) (zm (i:=3) sc_all_beneath.nd rfl (Or.inl rfl)) (zc (zcc hu (pv 2) (pv 3) zbl rfl)
        (zg (za2 PassesOwn.never rfl (zad K rfl (za1 hu (pv 1) (pv 3) (fun _ _=>rfl))) (zct K rfl rfl (zal (zm (i:=4) sc_all_beneath.nd rfl (Or.inl rfl)) (zal (zm (i:=5) sc_all_beneath.nd rfl (Or.inl rfl)) zcq))) (zc (zcc hu (za1 hu (pv 2) (pv 3) (fun _ _=>rfl)) (pv 4) zcw rfl)
          (zg (zaq (zau K rfl PySem.F.plainAttrs_dict PySem.F.slot_dict_update PySem.F.type_dict_update zpb (za1 hu (pv 2) (pv 3) (fun _ _=>rfl)) (za (za1 hu (pv 2) (pv 4) (fun _ _=>rfl)) zd)))))))))
      (zg (zue (zw (pv 2))))))),?_⟩
    refine⟨_,rfl,p,pu,pt,x,y,us,ads,ts,rfl,hT,fun ps ob0 aB bB H1 s1 fps hB=>?_⟩
    have lk:=hT.klen
    have kn:=zbq (ts:=ts) hT.nd
    have cl:=zda (us:=us) (ts:=ts) (ads:=ads) hT.ends
    have ll:∀k,(za4 ts (ts.zip ads) k).length<=900:=fun k=>by
      have h1:=zhc (ts:=ts) (z:=ts.zip ads) (k:=k)
      have h2:=hT.tl
      rw[List.length_zip] at h1
      omega
    try dsimp only [zv]
    refine fun pd hpd=>?_
    have s2:=Same.new (o:=.dK []) hpd
    refine⟨_,rfl,p,pu,pt,x,y,us,ads,ts,rfl,hT.same (s1.trans s2),nr,fun q os H3 s3 fq hq O pm=>?_⟩
    have hd3:=s3 _ _ (zb (H:=H1) (a:=pd) (o:=.dK []))
    have nq:pd≠q:=ze zb fq
    have lo:os.length<=63:=by rw[pm.length_eq];exact lk
    generalize zk ts (srt us)=keys at hB lk k nr kn cl O pm
    generalize za4 ts (ts.zip ads)=ln at hB k nr cl ll O
    have osk:∀z,z∈os↔z∈keys:=fun z=>pm.mem_iff
    refine⟨q,rfl,⟨_,SqL.of hq⟩,zam (xs:=os.map V.str) (fun i σ H'=>∃(v3 v4 v5:Option V) (bel:Str->List Str) (ad:Str->Addr),σ = [some (.ref p),some (.ref ps),some (.ref pd),v3,v4,v5]/\Same H1 H'/\H' q=some (.lst (os.map V.str))/\
        H' pd=some (.dK (dV (os.take i) fun k=>.ref (ad k)))/\(∀k∈os.take i,H' (ad k)=some (.dK (dV (bel k) tru))/\H1 (ad k)=none/\ad k≠pd/\ad k≠q/\(bel k).Nodup/\∀y,y∈bel k↔Bel ln k y)/\(∀k∈os.take i,∀k'∈os.take i,ad k=ad k'->k=k'))
      ⟨none,none,none,fun _=>[],fun _=>0,rfl,s2.trans s3,hq,hd3,(fun k hk=>by simp at hk),fun k hk=>by simp at hk⟩ (fun i σ H' _ h=>by obtain⟨_,_,_,_,_,_,_,q,_⟩:=h;exact SqL.of q) ?_ ?_⟩
    · rintro i v σ H4 hx ⟨v3,v4,v5,bel,ad,rfl,q4,hq4,hd4,hk4,inj⟩
      rw[List.getElem?_map] at hx
      cases eu:os[i]? with
      | none=>rw[eu] at hx;cases hx
      | some u=>
        rw[eu] at hx
        cases hx
        have huk:u∈keys:=(osk u).mp (List.mem_of_getElem? eu)
        have hi:=zav eu
        have hlow:=O.low i u eu
        have hfr:u ∉ os.take i:=by
          have:=zcl O.nd i hi
          rw[show os[i]=u from (List.getElem?_eq_some_iff.mp eu).2] at this
          exact this
        have tk:os.take (i+1)=os.take i++[u]:=by rw[List.take_add_one,eu];rfl
        have lt:(os.take i).length<=63:=by rw[List.length_take];omega
        try dsimp only [zv]
        refine fun q0 hq0=>?_
        have t0:=Same.new (o:=.dK []) hq0
        have hd5:=t0 _ _ hd4
        refine⟨_,rfl,_,rfl,pd,_,rfl,DPut.k (k:=Sum.inr u) hd5 (by rw[zbg];exact zo (by omega)),?_⟩
        rw[zi1 hfr]
        have nqp:q0≠pd:=Ne.symm (ze hd4 hq0)
        have nqq:q0≠q:=Ne.symm (ze hq4 hq0)
        have fq0:H1 q0=none:=q4.free hq0
        have ne0:∀k∈os.take i,ad k≠q0:=fun k hk=>ze (hk4 k hk).1 hq0
        have ed:dV (os.take i++[u]) (fun z=>if z=u then V.ref q0 else V.ref (ad z))=dV (os.take (i+1)) fun z=>V.ref (if z=u then q0 else ad z):=by
          rw[tk]
          refine zc9 fun z _=>?_
          split<;>rfl
        rw[ed]
        have q6:Same H1 (upd (upd H4 q0 (.dK [])) pd (.dK (dV (os.take (i+1)) fun z=>V.ref (if z=u then q0 else ad z)))):=(q4.trans t0).upd hpd
        have hd6:upd (upd H4 q0 (.dK [])) pd (.dK (dV (os.take (i+1)) fun z=>V.ref (if z=u then q0 else ad z))) pd=some (.dK (dV (os.take (i+1)) fun z=>V.ref (if z=u then q0 else ad z))):=zb
        have hq6:upd (upd H4 q0 (.dK [])) pd (.dK (dV (os.take (i+1)) fun z=>V.ref (if z=u then q0 else ad z))) q=some (.lst (os.map V.str)):=by rw[zf (Ne.symm nq)];exact t0 _ _ hq4
        have hM6:upd (upd H4 q0 (.dK [])) pd (.dK (dV (os.take (i+1)) fun z=>V.ref (if z=u then q0 else ad z))) q0=some (.dK (dV [] tru)):=by rw[zf nqp,zb];rfl
        have hk6:∀k∈os.take i,upd (upd H4 q0 (.dK [])) pd (.dK (dV (os.take (i+1)) fun z=>V.ref (if z=u then q0 else ad z))) (ad k)=some (.dK (dV (bel k) tru)):=fun k hk=>by rw[zf (hk4 k hk).2.2.1];exact t0 _ _ (hk4 k hk).1
        generalize upd (upd H4 q0 (.dK [])) pd (.dK (dV (os.take (i+1)) fun z=>V.ref (if z=u then q0 else ad z)))=H6 at q6 hd6 hq6 hM6 hk6
        have B6:=hB.same q6
        have hu':u∈os.take (i+1):=by rw[tk];simp
        refine⟨_,rfl,_,rfl,ps,_,rfl,B6.get huk,aB u,rfl,⟨_,SqL.of (B6.l u huk)⟩,zam (xs:=(bB u).map V.ref) (fun i' σ H'=>∃(v4 v5:Option V) (M:List Str),σ = [some (.ref p),some (.ref ps),some (.ref pd),some (.str u),v4,v5]/\Same H1 H'/\H' q=some (.lst (os.map V.str))/\H' pd=some (.dK (dV (os.take (i+1)) fun z=>V.ref (if z=u then q0 else ad z)))/\
            (∀k∈os.take i,H' (ad k)=some (.dK (dV (bel k) tru)))/\H' q0=some (.dK (dV M tru))/\M.Nodup/\∀y,y∈M↔∃l r,(l,r)∈(ln u).take i'/\(l=y\/Bel ln l y))
          ⟨_,_,[],rfl,q6,hq6,hd6,hk6,hM6,by simp,by simp⟩ (fun i' σ H' _ h=>by obtain⟨_,_,_,_,q,_⟩:=h;exact SqL.of (q _ _ (hB.l u huk))) ?_ ?_⟩
        · rintro i' v σ H7 hx ⟨v4,v5,M,rfl,q7,hq7,hd7,hk7,hM7,Mn,Mm⟩
          obtain⟨b,⟨l,r⟩,rfl,hlr,_,hb⟩:=zbm (hB.same q7 |>.e u huk) hx
          have hlu:(l,r)∈ln u:=List.mem_of_getElem? hlr
          have hl:l∈os.take i:=hlow l r hlu
          have lu:l≠u:=fun z=>hfr (z▸hl)
          obtain⟨_,hl1,hl2,hl3,hln,hlm⟩:=hk4 l hl
          have Msub:∀y∈M,y∈keys:=fun y hy=>by
            obtain⟨l',r',h1,h2⟩:=(Mm y).mp hy
            have hl':=cl u huk l' r' (List.mem_of_mem_take h1)
            rcases h2 with rfl | ⟨j,_,h2⟩
            · exact hl'
            · exact h2.inKeys cl hl'
          have lM:M.length<=63:=Nat.le_trans (zbf Mn Msub) lk
          have hlk:l∈keys:=cl u huk l r hlu
          have lbl:(bel l).length<=63:=Nat.le_trans (zbf hln fun y hy=>by
            obtain⟨j,_,h2⟩:=(hlm y).mp hy
            exact h2.inKeys cl hlk) lk
          have g1:=DGet.k (k:=Sum.inr u) hd7
          rw[zcn hu',if_pos rfl] at g1
          refine⟨b,_,rfl,SqT.of hb,rfl,_,_,rfl,_,_,rfl,rfl,?_⟩
          try dsimp only [zv]
          refine⟨_,rfl,_,rfl,pd,_,rfl,g1,_,rfl,q0,_,rfl,DPut.k (k:=Sum.inr l) hM7 (by rw[zbg];exact zo (by omega)),?_⟩
          rw[zpg]
          have q8:=q7.upd (o:=.dK (dV (putS M l) tru)) fq0
          have hq8:upd H7 q0 (.dK (dV (putS M l) tru)) q=some (.lst (os.map V.str)):=by rw[zf (Ne.symm nqq)];exact hq7
          have hd8:upd H7 q0 (.dK (dV (putS M l) tru)) pd=some (.dK (dV (os.take (i+1)) fun z=>V.ref (if z=u then q0 else ad z))):=by rw[zf (Ne.symm nqp)];exact hd7
          have hk8:∀k∈os.take i,upd H7 q0 (.dK (dV (putS M l) tru)) (ad k)=some (.dK (dV (bel k) tru)):=fun k hk=>by rw[zf (ne0 k hk)];exact hk7 k hk
          have hM8:upd H7 q0 (.dK (dV (putS M l) tru)) q0=some (.dK (dV (putS M l) tru)):=zb
          generalize upd H7 q0 (.dK (dV (putS M l) tru))=H8 at q8 hq8 hd8 hk8 hM8
          have g2:=DGet.k (k:=Sum.inr u) hd8
          rw[zcn hu',if_pos rfl] at g2
          have g3:=DGet.k (k:=Sum.inr l) hd8
          rw[zcn (show l∈os.take (i+1) by rw[tk];exact List.mem_append_left _ hl),if_neg lu] at g3
          have lp:(putS M l).length<=64:=by
            unfold putS
            split
            · omega
            · rw[List.length_append];show M.length+1<=64;omega
          refine⟨_,rfl,_,rfl,pd,_,rfl,g2,.inr (.inr (.inl ⟨rfl,.inl ⟨_,hM8⟩⟩)),_,rfl,_,rfl,pd,_,rfl,g3,q0,ad l,_,_,rfl,rfl,Ne.symm (ne0 l hl),hM8,.inl (hk8 l hl),by rw[zbg,zbg];omega,?_⟩
          rw[zsu]
          refine⟨_,_,mrg (putS M l) (bel l),rfl,q8.upd fq0,by rw[zf (Ne.symm nqq)];exact hq8,by rw[zf (Ne.symm nqp)];exact hd8,fun k hk=>by rw[zf (ne0 k hk)];exact hk8 k hk,zb,zjc (zeh Mn),fun y=>?_⟩
          rw[zpf,zhi,Mm,hlm,List.take_add_one,hlr]
          constructor
          · rintro ((⟨l',r',h1,h2⟩ | rfl) | h)
            · exact⟨l',r',List.mem_append_left _ h1,h2⟩
            · exact⟨y,r,List.mem_append_right _ (by simp),.inl rfl⟩
            · exact⟨l,r,List.mem_append_right _ (by simp),.inr h⟩
          · rintro ⟨l',r',h1,h2⟩
            rcases List.mem_append.mp h1 with h1 | h1
            · exact .inl (.inl ⟨l',r',h1,h2⟩)
            · have h1:(l',r')=(l,r):=by simpa using h1
              cases h1
              rcases h2 with rfl | h2
              · exact .inl (.inr rfl)
              · exact .inr h2
        · rintro σ H7 ⟨v4,v5,M,rfl,q7,hq7,hd7,hk7,hM7,Mn,Mm⟩
          have lb:(bB u).length=(ln u).length:=Paired.length (hB.e u huk)
          rw[List.length_map,lb,List.take_length] at Mm
          refine⟨_,_,_,fun z=>if z=u then M else bel z,fun z=>if z=u then q0 else ad z,rfl,q7,hq7,hd7,fun k hk=>?_,fun k hk k' hk' e=>?_⟩
          · rw[tk,List.mem_append] at hk
            dsimp only
            by_cases c:k=u
            · rw[if_pos c,if_pos c]
              refine⟨hM7,fq0,nqp,nqq,Mn,fun y=>?_⟩
              rw[Mm,c]
              exact bel_iff.symm
            · rw[if_neg c,if_neg c]
              have hk':k∈os.take i:=hk.elim id fun z=>absurd (by simpa using z) c
              obtain⟨_,h2⟩:=hk4 k hk'
              exact⟨hk7 k hk',h2⟩
          · rw[tk,List.mem_append] at hk hk'
            dsimp only at e
            by_cases c1:k=u<;>by_cases c2:k'=u
            · rw[c1,c2]
            · rw[if_pos c1,if_neg c2] at e
              exact absurd e.symm (ne0 k' (hk'.elim id fun z=>absurd (by simpa using z) c2))
            · rw[if_neg c1,if_pos c2] at e
              exact absurd e (ne0 k (hk.elim id fun z=>absurd (by simpa using z) c1))
            · rw[if_neg c1,if_neg c2] at e
              exact inj k (hk.elim id fun z=>absurd (by simpa using z) c1) k' (hk'.elim id fun z=>absurd (by simpa using z) c2) e
    · rintro σ H4 ⟨v3,v4,v5,bel,ad,rfl,q4,hq4,hd4,hk4,inj⟩
      rw[List.length_map,List.take_length] at hd4 hk4 inj
      refine zph (ad:=ad) (f:=fun k=>dV (bel k) tru) os H4 (fun k hk=>(hk4 k hk).1) inj O.nd fun H5 obs h1 h2=>?_
      have hd5:H5 pd=some (.dK (dV os fun k=>.ref (ad k))):=by rw[h2 pd fun k hk=>Ne.symm (hk4 k hk).2.2.1];exact hd4
      have q5:Same H1 H5:=fun b o e=>by
        rw[h2 b fun k hk z=>by rw[z,(hk4 k hk).2.1] at e;cases e]
        exact q4 b o e
      refine .frz pd _ hd5 fun ob=>.go ⟨_,rfl,k pd ob os bel ad obs _ ((s1.trans q5).upd (s1.free hpd)) (s1.free hpd) ⟨zb,fun z hz=>?_⟩ pm fun z hz=>?_⟩
      · rw[zf (hk4 z hz).2.2.1]
        exact h1 z hz
      · exact (hk4 z ((osk z).mpr hz)).2.2.2.2
def znb:Sp:=fun vs H Q _=>∃(pd:Addr) (ob:Obj) (os:List Str) (bel:Str->List Str) (ad:Str->Addr) (obs:Str->Obj) (u l:Str),vs = [.ref pd,.str u,.str l]/\Dp H pd ob os bel ad obs/\u∈os/\(∀t∈bel u,t∈os)/\(bel u).length<=63/\
  ∀H',Same H H'->Q (.bl ((bel u).any fun t=>decide (l∈bel t))) H'
set_option maxHeartbeats 8000000 in
theorem zf8 (T:Tx K mg w C_MatrixReading):Has P w K mg base "lies_between" ["depths","upper","lower"] 1 znb:=by
  refine T.zgb.has zfw (fun vs H Q E h=>?_) (fun f cdv A outer s H vs Q E hr h=>?_)
  · obtain⟨pd,ob,os,bel,ad,obs,u,l,rfl,_⟩:=h;rfl
  · obtain⟨pd,ob,os,bel,ad,obs,u,l,rfl,hD,hu',cl,lb,k⟩:=h
    have hu:=zdu hr
    refine⟨_,(zg (zw (zn (zpc K rfl rfl) (by rfl) T.any PyProof.Rows.boot_any (za (zcs (own:=["third"]) (cap:=["lower","depths"]) (ix:=[2,0]) (osc:=zi (top 19)) rfl ⟨rfl,by decide +kernel,by decide +kernel,by decide +kernel,by decide +kernel⟩ rfl (zhd (za1 hu (pv 0) (pv 1) (fun _ _=>rfl))) (fun _ _ _ _=>zm (i:=0) (show List.Nodup (["third","lower","depths"]:List Str) by decide +kernel) rfl (Or.inl rfl)) (fun _ _ _ _=>zbv) (fun _ _ _ _=>(zsb (zn3 hu (pv 1) (za1 hu (pv 2) (pv 0) (fun _ _=>rfl)))))) zd)))),?_⟩
    refine⟨_,rfl,_,rfl,pd,_,rfl,zo3 hD.d hu',ad u,obs u,_,rfl,hD.e u hu',fun D hDn=>?_⟩
    refine zb7 (zlr (a:=ad u) (ob:=obs u) (kvs:=dV (bel u) tru)) (fun i σ' ys H'=>∃w0,σ' = [w0,some (.str l),some (.ref pd)]/\ys=(((bel u).take i).map fun t=>decide (l∈bel t)).map V.bl/\Same H H'/\H' D=some (.lst ys))
      ⟨none,rfl,by simp,Same.new hDn,zb⟩ (fun i σ' ys H' h=>?_) (by rw[List.length_map,zbg];exact zr (by omega)) ?_ ?_
    · obtain⟨_,_,rfl,q,hd⟩:=h
      refine⟨q _ _ (hD.e u hu'),hd,?_⟩
      rw[List.length_map,List.length_map,List.length_take]
      omega
    · rintro i v σ' ys H' hx ⟨w0,rfl,rfl,q,hd⟩
      have hix:=zav hx
      rw[zkc,List.getElem?_map] at hx
      cases et:(bel u)[i]? with
      | none=>rw[et] at hx;cases hx
      | some t=>
        rw[et] at hx
        cases hx
        have ht:=cl t (List.mem_of_getElem? et)
        have D':=hD.same q
        try dsimp only [zv]
        unfold tYes
        dsimp only
        rw[if_pos rfl]
        refine⟨_,rfl,_,rfl,_,rfl,pd,_,rfl,zo3 D'.d ht,ad t,_,rfl,zwf (D'.e t ht) l,hd,zf4 hix ⟨_,rfl,?_,q.upd hDn,zb⟩⟩
        rw[List.take_add_one,et,List.map_append,List.map_append]
        congr 1
        show [V.bl (if l∈bel t then some (V.bl true) else none).isSome] = [V.bl (decide (l∈bel t))]
        by_cases c:l∈bel t
        · rw[if_pos c,decide_eq_true c];rfl
        · rw[if_neg c,decide_eq_false c];rfl
    rintro σ' ys H1 ⟨w0,rfl,rfl,q,hd⟩
    rw[List.length_map,zbg,List.take_length] at hd
    refine⟨D,_,rfl,SqL.of hd,?_⟩
    rw[List.any_map]
    exact k _ q
def zr4:Sp:=fun vs H Q _=>∃(p pu pt:Addr) (x y:V) (us:List Str) (ads:List Addr) (ts:List Tie),vs = [.ref p]/\Tel K H p pu pt x y us ads ts/\ts.length<=60/\NoR (za4 ts (ts.zip ads)) (zk ts (srt us))/\
  ∀(D:Addr) (bs:List Addr) (qs:List SS) (H':Hp),Same H H'->H D=none->H' D=some (.lst (bs.map V.ref))->Paired (fun a (p:SS)=>H' a=some (.tup [.str p.1,.str p.2])) bs qs->qs.Pairwise (fun a b=>ltPP a b=true)->qs.length<64->(∀p,p∈qs↔Drn (za4 ts (ts.zip ads)) (zk ts (srt us)) p)->Q (.ref D) H'
set_option maxHeartbeats 8000000 in
theorem zp6 (T:Tx K mg w C_MatrixReading):Has P w K mg base "drawn" ["telling"] 9 (zr4 (K:=K)):=by
  refine T.zu5.has sc_drawn (fun vs H Q E h=>?_) (fun f cdv A outer s H vs Q E hr h=>?_)
  · obtain⟨p,pu,pt,x,y,us,ads,ts,rfl,_⟩:=h;rfl
  · obtain⟨p,pu,pt,x,y,us,ads,ts,rfl,hT,t60,nr,k⟩:=h
    have hu:=zdu hr
    refine⟨_,(zc (zp (i:=1) sc_drawn.nd rfl (Or.inl rfl) (zae (za9 T) (hr.mono (by decide)) (by rfl) (za (pv 0) zd)))
      (zc (zp (i:=2) sc_drawn.nd rfl (Or.inl rfl) (zae (zhv T) (hr.mono (by decide)) (by rfl) (za (pv 0) zd)))
      (zc (zp (i:=3) sc_drawn.nd rfl (Or.inl rfl) zqs)
      (zc (za2 PassesOwn.never rfl (zhd (pv 1)) (zm (i:=4) sc_drawn.nd rfl (Or.inl rfl)) (zg (za2 PassesOwn.never rfl (zad K rfl (za1 hu (pv 1) (pv 4) (fun _ _=>rfl))) (zct K rfl rfl (zal (zm (i:=5) sc_drawn.nd rfl (Or.inl rfl)) (zal (zm (i:=6) sc_drawn.nd rfl (Or.inl rfl)) zcq))) (zg (za3 (zch (zbj (zae (zf8 T) (hr.mono (by decide)) (by rfl) (za (pv 2) (za (pv 4) (za (pv 5) zd)))))) (zg (zcc hu (pv 3) (zcj (za (pv 4) (za (pv 5) zd))) zcw rfl)) zz)))))
      (zg (zw (zn (zhh (K:=K) rfl rfl) (by rfl) T.sorted PyProof.Rows.boot_sorted (za (pv 3) zd)))))))),?_⟩
    refine⟨_,rfl,p,pu,pt,x,y,us,ads,ts,rfl,hT,fun ps ob0 aB bB H1 s1 fps hB=>?_⟩
    have lk:=hT.klen
    have kn:=zbq (ts:=ts) hT.nd
    have cl:=zda (us:=us) (ts:=ts) (ads:=ads) hT.ends
    have lkm:=fun (a b:Str)=>zw9 (ts:=ts) (ads:=ads) hT.len (x:=a) (y:=b)
    have lkl:(lkOf ts).length<=60:=by
      have:(lkOf ts).length<=ts.length:=by unfold lkOf;rw[List.length_map];exact List.length_filter_le _ _
      omega
    try dsimp only [zv]
    refine⟨_,rfl,p,pu,pt,x,y,us,ads,ts,rfl,hT.same s1,nr,fun pd ob os bel ad obs H2 s2 fpd hD pm hbel=>?_⟩
    generalize zk ts (srt us)=keys at hB lk k nr kn cl pm hbel
    generalize za4 ts (ts.zip ads)=ln at hB k nr cl hbel lkm
    generalize lkOf ts=lks at lkm lkl
    have osk:∀z,z∈os↔z∈keys:=fun z=>pm.mem_iff
    have belk:∀u∈keys,∀t∈bel u,t∈keys:=fun u hu t ht=>by
      obtain⟨j,_,h⟩:=((hbel u hu).2 t).mp ht
      exact h.inKeys cl hu
    have btw:∀u∈keys,∀l,((bel u).any fun t=>decide (l∈bel t))=true↔∃t,Bel ln u t/\Bel ln t l:=fun u hu l=>by
      rw[List.any_eq_true]
      constructor
      · rintro ⟨t,h1,h2⟩
        exact⟨t,((hbel u hu).2 t).mp h1,((hbel t (belk u hu t h1)).2 l).mp (of_decide_eq_true h2)⟩
      · rintro ⟨t,h1,h2⟩
        have h1':=((hbel u hu).2 t).mpr h1
        exact⟨t,h1',decide_eq_true (((hbel t (belk u hu t h1')).2 l).mpr h2)⟩
    try dsimp only [zv]
    refine fun pp hpp=>?_
    have s3:=Same.new (o:=.dT []) hpp
    have B2:=hB.same s2
    have bound:∀qs:List SS,qs.Nodup->(∀q∈qs,∃r,(q.2,r)∈ln q.1)->qs.length<=60:=fun qs n h=>by
      have:=zjd (us:=lks) n fun q hq=>(lkm q.1 q.2).mpr (h q hq)
      omega
    refine⟨_,rfl,ps,ob0,_,rfl,s3 _ _ B2.d,zlq (fun i σ H'=>∃(v4 v5 v6:Option V) (qs:List SS),σ = [some (.ref p),some (.ref ps),some (.ref pd),some (.ref pp),v4,v5,v6]/\Same H2 H'/\H' pp=some (.dT (dP qs))/\qs.Nodup/\∀q:SS,q∈qs↔q.1∈keys.take i/\(∃r,(q.2,r)∈ln q.1)/\¬∃t,Bel ln q.1 t/\Bel ln t q.2)
      ⟨none,none,none,[],rfl,s3,zb,by simp,by simp⟩ (fun i σ H' _ h=>by obtain⟨_,_,_,_,_,q,_⟩:=h;exact q _ _ B2.d) ?_ ?_⟩
    · rintro i kk vv σ H4 hx ⟨v4,v5,v6,qs,rfl,q4,hp4,qn,qm⟩
      obtain⟨u,hu',rfl,_⟩:=zwa hx
      have huk:u∈keys:=List.mem_of_getElem? hu'
      have hfr:u ∉ keys.take i:=by
        have hi:=zav hu'
        have:=zcl kn i hi
        rw[show keys[i]=u from (List.getElem?_eq_some_iff.mp hu').2] at this
        exact this
      have B4:=B2.same q4
      try dsimp only [zv]
      refine⟨_,rfl,_,rfl,ps,_,rfl,B4.get huk,aB u,rfl,⟨_,SqL.of (B4.l u huk)⟩,zam (xs:=(bB u).map V.ref) (fun i' σ H'=>∃(v5 v6:Option V) (qs:List SS),σ = [some (.ref p),some (.ref ps),some (.ref pd),some (.ref pp),some (.str u),v5,v6]/\Same H2 H'/\H' pp=some (.dT (dP qs))/\qs.Nodup/\
          ∀q:SS,q∈qs↔(q.1∈keys.take i/\(∃r,(q.2,r)∈ln q.1)/\¬∃t,Bel ln q.1 t/\Bel ln t q.2)\/(q.1=u/\(∃r,(q.2,r)∈(ln u).take i')/\¬∃t,Bel ln q.1 t/\Bel ln t q.2))
        ⟨_,_,qs,rfl,q4,hp4,qn,fun q=>by rw[qm];simp⟩ (fun i' σ H' _ h=>by obtain⟨_,_,_,_,q,_⟩:=h;exact SqL.of ((B2.same q).l u huk)) ?_ ?_⟩
      · clear qn qm hp4
        rintro i' v σ H5 hx ⟨v5,v6,qs,rfl,q5,hp5,qn,qm⟩
        obtain⟨b,⟨l,r⟩,rfl,hlr,_,hb⟩:=zbm ((B2.same q5).e u huk) hx
        have hlu:(l,r)∈ln u:=List.mem_of_getElem? hlr
        have qin:∀q∈qs,∃r,(q.2,r)∈ln q.1:=fun q hq=>by
          rcases (qm q).mp hq with ⟨_,h,_⟩ | ⟨e,⟨r,h⟩,_⟩
          · exact h
          · exact⟨r,by rw[e];exact List.mem_of_mem_take h⟩
        have lq:=bound qs qn qin
        refine⟨b,_,rfl,SqT.of hb,rfl,_,_,rfl,_,_,rfl,rfl,?_⟩
        try dsimp only [zv]
        have mstep:∀q:SS,(q.1=u/\(∃r,(q.2,r)∈(ln u).take (i'+1))/\¬∃t,Bel ln q.1 t/\Bel ln t q.2)↔(q.1=u/\(∃r,(q.2,r)∈(ln u).take i')/\¬∃t,Bel ln q.1 t/\Bel ln t q.2)\/(q=(u,l)/\¬∃t,Bel ln u t/\Bel ln t l):=fun q=>by
          rw[List.take_add_one,hlr]
          constructor
          · rintro ⟨e,⟨r',h⟩,n⟩
            rcases List.mem_append.mp h with h | h
            · exact .inl ⟨e,⟨r',h⟩,n⟩
            · have h:(q.2,r')=(l,r):=by simpa using h
              have h:=(Prod.mk.inj h).1
              refine .inr ⟨Prod.ext e h,?_⟩
              rw[←e,←h]
              exact n
          · rintro (⟨e,⟨r',h⟩,n⟩ | ⟨rfl,n⟩)
            · exact⟨e,⟨r',List.mem_append_left _ h⟩,n⟩
            · exact⟨rfl,⟨r,List.mem_append_right _ (by simp)⟩,n⟩
        have hB':=btw u huk l
        refine zaw (!((bel u).any fun t=>decide (l∈bel t))) (fun Q' hQ=>?_) (fun H6 s6=>?_)
        · refine⟨_,rfl,_,rfl,_,rfl,pd,ob,os,bel,ad,obs,u,l,rfl,hD.same q5,(osk u).mpr huk,fun t ht=>(osk t).mpr (belk u huk t ht),Nat.le_trans (zbf (hbel u huk).1 (belk u huk)) lk,fun H6 s6=>⟨_,rfl,?_⟩⟩
          exact hQ _ s6
        · have q6:=q5.trans s6
          have hp6:=s6 _ _ hp5
          refine ite2 (fun c=>?_) (fun c=>?_)
          · have nb:¬∃t,Bel ln u t/\Bel ln t l:=fun z=>by rw[hB'.mpr z] at c;cases c
            refine⟨_,rfl,_,rfl,_,rfl,(by show 2<=sizeLine;decide),fun b0 hb0=>?_⟩
            have t0:=Same.new (o:=.tup [.str u,.str l]) hb0
            refine⟨pp,_,rfl,DPut.t (k:=[Sum.inr u,Sum.inr l]) (t0 _ _ hp6) zb (by unfold dP;rw[List.length_map];exact zo (by omega)),?_⟩
            rw[zwh (p:=(u,l))]
            refine⟨_,_,putS qs (u,l),rfl,(q6.trans t0).upd hpp,zb,zeh qn,fun q=>?_⟩
            rw[zhi,qm,mstep]
            constructor
            · rintro ((h | h) | rfl)
              · exact .inl h
              · exact .inr (.inl h)
              · exact .inr (.inr ⟨rfl,nb⟩)
            · rintro (h | h | ⟨rfl,_⟩)
              · exact .inl (.inl h)
              · exact .inl (.inr h)
              · exact .inr rfl
          · have yb:∃t,Bel ln u t/\Bel ln t l:=hB'.mp (by simpa using c)
            refine⟨_,_,qs,rfl,q6,hp6,qn,fun q=>?_⟩
            rw[qm,mstep]
            constructor
            · rintro (h | h)
              · exact .inl h
              · exact .inr (.inl h)
            · rintro (h | h | ⟨_,n⟩)
              · exact .inl h
              · exact .inr h
              · exact absurd yb n
      · clear qn qm hp4
        rintro σ H5 ⟨v5,v6,qs,rfl,q5,hp5,qn,qm⟩
        have lb:(bB u).length=(ln u).length:=Paired.length (hB.e u huk)
        rw[List.length_map,lb,List.take_length] at qm
        refine⟨_,_,_,qs,rfl,q5,hp5,qn,fun q=>?_⟩
        rw[qm,List.take_add_one,hu']
        constructor
        · rintro (⟨h1,h2⟩ | ⟨h1,h2⟩)
          · exact⟨List.mem_append_left _ h1,h2⟩
          · exact⟨List.mem_append_right _ (by rw[h1];simp),by rw[←h1] at h2;exact h2⟩
        · rintro ⟨h1,h2⟩
          rcases List.mem_append.mp h1 with h1 | h1
          · exact .inl ⟨h1,h2⟩
          · have h1:q.1=u:=by simpa using h1
            exact .inr ⟨h1,by rw[←h1];exact h2⟩
    · rintro σ H4 ⟨v4,v5,v6,qs,rfl,q4,hp4,qn,qm⟩
      rw[zbg,List.take_length] at qm
      have lq:=bound qs qn fun q hq=>((qm q).mp hq).2.1
      refine⟨_,rfl,pp,_,qs,rfl,.inl hp4,zwg qs,qn,by omega,fun D bs rs hDn pb pmr up=>?_⟩
      have t5:=Same.new (o:=.lst (bs.map V.ref)) hDn
      have q3:=s1.trans (s2.trans q4)
      refine k D bs rs _ (q3.trans t5) (q3.free hDn) zb (Paired.mapP pb fun a z e=>t5 _ _ e) up (by rw[pmr.length_eq];omega) fun z=>?_
      rw[pmr.mem_iff,qm]
      rfl
theorem zbc {x:Str}(h:zao x=true):x.length<=12:=by
  unfold zao at h
  simp only [Bool.and_eq_true,decide_eq_true_eq] at h
  omega
theorem zhw {xs:List Str}(h:∀x∈xs,x.length<=12) (l:xs.length<=63):(xs.map (·.length)).sum+xs.length * (Str.ofString " " : Str).length<=16777216:=by
  have h2:=zou (l:=xs.map co) (k:=12) fun x hx=>by
    obtain⟨v,hv,rfl⟩:=List.mem_map.mp hx
    rw[zq]
    exact h v hv
  have h3:(xs.map co).map List.length=xs.map (·.length):=by
    rw[List.map_map]
    exact List.map_congr_left fun v _=>zq v
  have e1:(Str.ofString " " : Str).length=1:=by decide +kernel
  rw[h3,List.length_map] at h2
  rw[e1]
  omega
theorem zhx {i:Nat}(hi:i<64) {xs:List Str}(h:∀x∈xs,x.length<=12) (l:xs.length<=63):(rowT (i:Int) xs).length<=900/\(Txt.join " " xs).length<=900:=by
  have hn:=zdn i hi
  have hj:(Txt.join " " xs).length<=850:=by
    show (Txt.join (Str.ofString " ") xs).length<=850
    rw[←zq,zd2,zg9,zt]
    have h1:=zos [32] (xs.map co)
    have h2:=zou (l:=xs.map co) (k:=12) fun x hx=>by
      obtain⟨v,hv,rfl⟩:=List.mem_map.mp hx
      rw[zq]
      exact h v hv
    rw[List.length_map] at h1 h2
    have : [32].length=1:=rfl
    rw[this] at h1
    omega
  refine⟨?_,by omega⟩
  unfold rowT
  rw[←zq,zy,zy,zy,List.length_append,List.length_append,List.length_append,zq,zq,zq,zq]
  have e0:(Str.empty:Str).length=0:=rfl
  have e1:(Str.ofString ": " : Str).length=2:=by decide +kernel
  show _+(Str.ofString (toString (i:Int)):Str).length+(Str.ofString ": " : Str).length+_<=900
  omega
def zr5:Sp:=fun vs H Q _=>∃(i:Nat) (p:Addr) (xs:List Str),vs = [.int i,.ref p]/\SqL K H p (xs.map V.str)/\i<64/\xs.length<=63/\(∀x∈xs,x.length<=12)/\Q (.str (rowT i xs)) H
set_option maxHeartbeats 4000000 in
theorem zjo (T:Tx K mg w C_MatrixReading):Has P w K mg base "show_level" ["number","names"] 1 (zr5 (K:=K)):=by
  refine T.zjs.has sc_show_level (fun vs H Q E h=>?_) (fun f cdv A outer s H vs Q E hr h=>?_)
  · obtain⟨i,p,xs,rfl,_⟩:=h;rfl
  · obtain⟨i,p,xs,rfl,hp,hi,lx,hx,k⟩:=h
    refine⟨_,(zc (zp (i:=2) sc_show_level.nd rfl (Or.inl rfl) (zau K rfl PySem.F.plainAttrs_str PySem.F.slot_str_join PySem.F.type_str_join (zg5 K rfl) zas (za (pv 1) zd)))
      (zg (zw (zjj (zlu (pv 0) (zsx zas (zlu (pv 2) zsw))))))),?_⟩
    refine⟨rfl,_,rfl,_,p,xs,rfl,rfl,hp,zhw hx lx,?_⟩
    obtain⟨r1,r2⟩:=zhx hi hx lx
    have hn:=zdn i hi
    have e1:(Str.empty++Str.ofString (toString (i:Int)):Str).length<=2:=by rw[zei];exact hn
    have e2:(Str.empty++Str.ofString (toString (i:Int))++Str.ofString ": " : Str).length<=4:=by
      rw[←zq,zy,List.length_append,zq,zq]
      have:(Str.ofString ": " : Str).length=2:=by decide +kernel
      omega
    refine⟨_,rfl,_,.inr ⟨_,rfl,?_,rfl⟩,zr (by exact Nat.le_trans hn (by decide)),zr (by exact Nat.le_trans e1 (by decide)),?_⟩
    · exact Nat.lt_of_le_of_lt (Nat.log2_le_self _) (by omega)
    refine⟨_,rfl,zr (by exact Nat.le_trans e2 (by decide)),?_⟩
    refine⟨_,rfl,_,.inl rfl,zr (by omega),zr (by exact Nat.le_trans r1 (by decide)),?_,k⟩
    exact zr (Nat.le_trans r1 (by decide))
def rowF (keys:List Str) (lv:Str->Nat):V->V
  | .int z=>.str (rowT z (keys.filter (rowB lv z.toNat)))
  | _=>.non
theorem zhy {ln:Ln}{keys:List Str}{p:SS}{lv:Str->Nat}{n:Nat}(L:Lv ln keys lv n) (h:Drn ln keys p):p.1∈keys/\p.2∈keys:=by
  obtain⟨k1,⟨r,hr⟩,_⟩:=h
  exact⟨k1,L.cl _ k1 _ _ hr⟩
def zr6:Sp:=fun vs H Q _=>∃(p pu pt:Addr) (x y:V) (us:List Str) (ads:List Addr) (ts:List Tie),vs = [.ref p]/\Tel K H p pu pt x y us ads ts/\ts.length<=60/\(∀x∈us,x.length<=12)/\NoR (za4 ts (ts.zip ads)) (zk ts (srt us))/\
  ∀(lv:Str->Nat) (n:Nat) (qs:List SS) (H':Hp),Same H H'->Lv (za4 ts (ts.zip ads)) (zk ts (srt us)) lv n->qs.Pairwise (fun a b=>ltPP a b=true)->qs.length<64->(∀p,p∈qs↔Drn (za4 ts (ts.zip ads)) (zk ts (srt us)) p)->Q (.str (Txt.join "\n" (zji (zk ts (srt us)) lv n qs))) H'
set_option maxHeartbeats 8000000 in
theorem zhz (T:Tx K mg w C_MatrixReading):Has P w K mg base "show_matrix" ["telling"] 10 (zr6 (K:=K)):=by
  refine T.zh3.has sc_show_matrix (fun vs H Q E h=>?_) (fun f cdv A outer s H vs Q E hr h=>?_)
  · obtain⟨p,pu,pt,x,y,us,ads,ts,rfl,_⟩:=h;rfl
  · obtain⟨p,pu,pt,x,y,us,ads,ts,rfl,hT,t60,hx12,nr,k⟩:=h
    refine⟨_,(zc (zp (i:=1) sc_show_matrix.nd rfl (Or.inr rfl) (zae (zl5 T) (hr.mono (by decide)) (by rfl) (za (pv 0) zd)))
      (zc (zj4 (i:=2) (own:=["number"]) (cap:=["rows"]) (ix:=[1]) (osc:=zi (top 31)) rfl sc_show_matrix.nd rfl rfl rfl ⟨rfl,by decide +kernel,by decide +kernel,by decide +kernel,by decide +kernel⟩ rfl (zpp (by rfl) T.range (za (za6 zh9 (zn (zx K rfl) (by rfl) T.len boot_len (za (pv 1) zd)) zj) (za (zqd zk3 zj) (za (zqd zk3 zj) zd)))) (fun _ _ _ _=>zm (i:=0) (show List.Nodup (["number","rows"]:List Str) by decide +kernel) rfl (Or.inl rfl)) (fun _ _ _ _=>zbv) (fun _ _ _ _=>(zae (zjo T) (hr.mono (by decide)) (by rfl) (za (pv 0) (za (zan (zaf K rfl) (pv 1) (pv 0) (fun _ _=>rfl)) zd)))))
      (zc (zaq (zau K rfl PySem.F.plainAttrs_list PySem.F.slot_list_extend PySem.F.type_list_extend znz (pv 2) (za (zcs (own:=["upper","lower"]) (cap:=[]) (ix:=[]) (osc:=zi (top 31)) rfl ⟨rfl,by decide +kernel,by decide +kernel,by decide +kernel,by decide +kernel⟩ rfl (zad K rfl (zae (zp6 T) (hr.mono (by decide)) (by rfl) (za (pv 0) zd))) (fun _ _ _ _=>zct (n:=2) K rfl rfl (zal (zm (i:=0) (show List.Nodup (["upper","lower"]:List Str) by decide +kernel) rfl (Or.inl rfl)) (zal (zm (i:=1) (show List.Nodup (["upper","lower"]:List Str) by decide +kernel) rfl (Or.inl rfl)) zcq))) (fun _ _ _ _=>zbv) (fun _ _ _ _=>(zjj (zlu (pv 0) (zsx zas (zlu (pv 1) zsw)))))) zd)))
      (zg (zw (zau K rfl PySem.F.plainAttrs_str PySem.F.slot_str_join PySem.F.type_str_join (zg5 K rfl) zas (za (pv 2) zd))))))),?_⟩
    have lk:=hT.klen
    have k12:∀x∈zk ts (srt us),x.length<=12:=fun x hx=>hx12 x (keys_mem.mp hx).1
    refine⟨_,rfl,p,pu,pt,x,y,us,ads,ts,rfl,hT,nr,fun q cs lv H1 s1 fq hq lcs csnd csf hrow L=>?_⟩
    try dsimp only [zv]
    have lcm:(cs.map V.ref).length=cs.length:=List.length_map _
    refine⟨_,rfl,q,_,rfl,.inl (SqL.of hq),_,_,rfl,rfl,_,rfl,_,rfl,_,_,rfl,⟨by omega,by omega,by omega,by omega⟩,fun D hD=>?_⟩
    rw[lcm,show ((cs.length:Int)-1 - -1).toNat=cs.length by omega]
    refine zdv (zrr (hi:=(cs.length:Int)-1) (n:=cs.length)) (fun _=>true) (rowF (zk ts (srt us)) lv) (fun _=>trivial) (by rw[List.length_map,List.length_range];exact zr (by omega)) (fun v hv ys Q' q=>q) (fun v hv _ ys Q' q'=>?_) ?_
    · obtain⟨j,hj,rfl⟩:=List.mem_map.mp hv
      have hj:=List.mem_range.mp hj
      have t1:Same H1 (upd H1 D (.lst ys)):=Same.new hD
      have ej:(cs.length:Int)-1-(j:Int)=((cs.length-1-j:Nat):Int):=by omega
      have hc:=hrow (cs.length-1-j) cs[cs.length-1-j] (List.getElem?_eq_getElem (by omega))
      have at1:atI (cs.map V.ref) ((cs.length-1-j:Nat):Int)=some (.ref cs[cs.length-1-j]):=zba (by rw[List.getElem?_map,List.getElem?_eq_getElem (by omega)];rfl)
      rw[ej]
      rw[ej] at q'
      refine⟨_,rfl,_,rfl,_,rfl,q,_,_,_,rfl,rfl,SqL.of (t1 _ _ hq),at1,(cs.length-1-j:Nat),_,_,rfl,SqL.of (t1 _ _ hc),by omega,?_,fun x hx=>k12 x ((List.mem_filter.mp hx).1),q'⟩
      exact Nat.le_trans (List.length_filter_le _ _) lk
    have el:(((List.range cs.length).map fun i=>V.int ((cs.length:Int)-1-(i:Nat))).filter fun _=>true).map (rowF (zk ts (srt us)) lv)=((List.range cs.length).map fun (i:Nat)=>rowT ((cs.length:Int)-1-(i:Nat)) ((zk ts (srt us)).filter (rowB lv (cs.length-1-i)))).map V.str:=by
      rw[List.filter_eq_self.mpr (fun _ _=>rfl),List.map_map,List.map_map]
      refine List.map_congr_left fun i hi=>?_
      have hi:=List.mem_range.mp hi
      show V.str (rowT ((cs.length:Int)-1-(i:Nat)) ((zk ts (srt us)).filter (rowB lv ((cs.length:Int)-1-(i:Nat)).toNat)))=_
      rw[show ((cs.length:Int)-1-(i:Nat)).toNat=cs.length-1-i by omega]
      rfl
    rw[el]
    have t1:=Same.new (o:=.lst (((List.range cs.length).map fun (i:Nat)=>rowT ((cs.length:Int)-1-(i:Nat)) ((zk ts (srt us)).filter (rowB lv (cs.length-1-i)))).map V.str)) hD
    have q1:=s1.trans t1
    have eD:=zb (H:=H1) (a:=D) (o:=.lst (((List.range cs.length).map fun (i:Nat)=>rowT ((cs.length:Int)-1-(i:Nat)) ((zk ts (srt us)).filter (rowB lv (cs.length-1-i)))).map V.str))
    have hlines:∀l∈(List.range cs.length).map fun (i:Nat)=>rowT ((cs.length:Int)-1-(i:Nat)) ((zk ts (srt us)).filter (rowB lv (cs.length-1-i))),l.length<=900:=fun l hl=>by
      obtain⟨i,hi,rfl⟩:=List.mem_map.mp hl
      have hi:=List.mem_range.mp hi
      rw[show (cs.length:Int)-1-(i:Nat)=((cs.length-1-i:Nat):Int) by omega]
      exact (zhx (by omega) (fun x hx=>k12 x ((List.mem_filter.mp hx).1)) (Nat.le_trans (List.length_filter_le _ _) lk)).1
    have hll:((List.range cs.length).map fun (i:Nat)=>rowT ((cs.length:Int)-1-(i:Nat)) ((zk ts (srt us)).filter (rowB lv (cs.length-1-i)))).length=cs.length:=by rw[List.length_map,List.length_range]
    have eml:∀qs,zji (zk ts (srt us)) lv cs.length qs=((List.range cs.length).map fun (i:Nat)=>rowT ((cs.length:Int)-1-(i:Nat)) ((zk ts (srt us)).filter (rowB lv (cs.length-1-i))))++qs.map zc3:=fun _=>rfl
    generalize ((List.range cs.length).map fun (i:Nat)=>rowT ((cs.length:Int)-1-(i:Nat)) ((zk ts (srt us)).filter (rowB lv (cs.length-1-i))))=rows at t1 q1 eD hlines hll eml
    generalize upd H1 D (.lst (rows.map V.str))=H2 at t1 q1 eD
    try dsimp only [zv]
    refine⟨_,rfl,.inl ⟨rfl,_,SqL.of eD⟩,_,rfl,p,pu,pt,x,y,us,ads,ts,rfl,hT.same q1,t60,nr,fun Dq bs qs H3 s3 fD hD3 pr sq l64 mem=>⟨Dq,rfl,⟨_,SqL.of hD3⟩,fun D4 hD4=>?_⟩⟩
    have lb:bs.length=qs.length:=Paired.length pr
    refine zb7 (zc6 (K:=K) (a:=Dq) (xs:=bs.map V.ref)) (fun i σ' ys H'=>∃w0 w1,σ' = [w0,w1]/\ys=((qs.take i).map zc3).map V.str/\Same H3 H'/\H' D4=some (.lst ys))
      ⟨none,none,rfl,by simp,Same.new hD4,zb⟩ (fun i σ' ys H' h=>?_) (by rw[List.length_map];exact zr (by omega)) ?_ ?_
    · obtain⟨_,_,_,rfl,q,hd⟩:=h
      refine⟨SqL.of (q _ _ hD3),hd,?_⟩
      rw[List.length_map,List.length_map,List.length_take]
      omega
    · rintro i v σ' ys H' hx' ⟨w0,w1,rfl,rfl,q,hd⟩
      have hix:=zav hx'
      rw[List.length_map] at hix
      rw[List.getElem?_map,List.getElem?_eq_getElem hix] at hx'
      cases hx'
      obtain⟨⟨u,l⟩,hpl,hb⟩:=Paired.get' pr (List.getElem?_eq_getElem hix)
      have hm:=(mem (u,l)).mp (List.mem_of_getElem? hpl)
      obtain⟨k1,k2⟩:=zhy L hm
      have lu:=k12 _ k1
      have ll:=k12 _ k2
      have lp:=zd7 (p:=(u,l)) lu ll
      have lu:u.length<=12:=lu
      have ll:l.length<=12:=ll
      refine⟨_,_,rfl,SqT.of (q _ _ hb),rfl,_,_,rfl,_,_,rfl,rfl,?_⟩
      try dsimp only [zv]
      unfold tYes
      dsimp only
      rw[if_pos rfl]
      have e1:(Str.empty++u:Str).length<=12:=by rw[zei];exact lu
      have e2:(Str.empty++u++Str.ofString " > " : Str).length<=15:=by
        rw[←zq,zy,List.length_append,zq,zq]
        have:(Str.ofString " > " : Str).length=3:=by decide +kernel
        omega
      refine⟨_,rfl,_,.inl rfl,zr (by omega),zr (by omega),?_⟩
      refine⟨_,rfl,zr (by exact Nat.le_trans e2 (by decide)),?_⟩
      refine⟨_,rfl,_,.inl rfl,zr (by omega),zr (by exact Nat.le_trans lp (by decide)),zr (by exact Nat.le_trans lp (by decide)),hd,zf4 (by rw[List.length_map];exact hix) ⟨_,_,rfl,?_,q.upd hD4,zb⟩⟩
      rw[List.take_add_one,hpl,List.map_append,List.map_append]
      rfl
    rintro σ' ys H4 ⟨w0,w1,rfl,rfl,q4,hd⟩
    rw[List.length_map,lb,List.take_length] at hd
    have eD4:=q4 _ _ (s3 _ _ eD)
    refine⟨D,D4,_,_,rfl,rfl,eD4,hd,by rw[List.length_map,List.length_map,List.length_map,hll];exact zr (by omega),?_⟩
    try dsimp only [zv]
    rw[←List.map_append,←eml]
    have fD1:H D=none:=s1.free hD
    have hbd:=zfr (ls:=zji (zk ts (srt us)) lv cs.length qs) (by rw[eml,List.length_append,List.length_map,hll];omega) (fun l hl=>by
      rw[eml] at hl
      rcases List.mem_append.mp hl with hl | hl
      · exact hlines l hl
      · obtain⟨r,hr,rfl⟩:=List.mem_map.mp hl
        obtain⟨k1,k2⟩:=zhy L ((mem r).mp hr)
        exact Nat.le_trans (zd7 (k12 _ k1) (k12 _ k2)) (by decide))
    refine⟨rfl,_,rfl,_,D,_,rfl,rfl,SqL.of zb,hbd.2,?_⟩
    exact k lv cs.length qs _ ((q1.trans (s3.trans q4)).upd fD1) L sq l64 mem
def zr7:Sp:=fun vs H Q _=>∃(p dx:Addr),vs = [.ref p]/\H p=some (.ins C_MatrixReading dx [])/\∀(pr dk pp:Addr) (H':Hp),H pr=none->H dk=none->H pp=none->MrAt C_MatrixReading H' p pr dk pp .non [] [] [] [] []->(∀b o,H b=some o->b≠p->H' b=some o)->Q .non H'
theorem zco (T:Tx K mg w C_MatrixReading):HasM P w K mg base C_MatrixReading "__init__" ["self"] 1 (zr7 (C_MatrixReading:=C_MatrixReading)):=by
  refine T.zcp.has zcg (fun vs H Q E h=>?_) (fun f cdv A outer s H vs Q E hr h=>?_)
  · obtain⟨p,dx,rfl,_⟩:=h;rfl
  · obtain⟨p,dx,rfl,hp,k⟩:=h
    refine⟨_,(zc (zib (pv 0) zkz rfl)
      (zc (zib (pv 0) (zaj zd) rfl)
      (zc (zib (pv 0) zbl rfl)
      (zg (zib (pv 0) (zaj zd) rfl))))),?_⟩
    refine⟨_,rfl,p,C_MatrixReading,dx,[],rfl,hp,T.zh,T.zaa,(by show 0<1000;decide),?_⟩
    have e1:upd H p (.ins C_MatrixReading dx (putF "number" .non [])) p=some (.ins C_MatrixReading dx (putF "number" .non [])):=zb
    have k1:∀b o,H b=some o->b≠p->upd H p (.ins C_MatrixReading dx (putF "number" .non [])) b=some o:=fun b o e hb=>by rw[zf hb];exact e
    have f1:∀b,upd H p (.ins C_MatrixReading dx (putF "number" .non [])) b=none->H b=none:=fun b e=>by
      by_cases c:b=p
      · subst c;rw[zb] at e;cases e
      · rwa [zf c] at e
    generalize upd H p (.ins C_MatrixReading dx (putF "number" .non []))=G1 at e1 k1 f1
    try dsimp only [zv]
    refine⟨by decide,fun pr hpr=>?_⟩
    obtain⟨a1,a2,a3,a4,a5⟩:=zhn (o1:=.lst []) (o2:=.ins C_MatrixReading dx (putF "rows" (.ref pr) (putF "number" .non []))) e1 hpr
    refine⟨_,rfl,p,C_MatrixReading,dx,_,rfl,by rw[zf a5];exact e1,T.zh,T.za5,(by show 1<1000;decide),?_⟩
    generalize upd (upd G1 pr (.lst [])) p (.ins C_MatrixReading dx (putF "rows" (.ref pr) (putF "number" .non [])))=G2 at a1 a2 a3 a4
    try dsimp only [zv]
    refine fun dk hdk=>?_
    obtain⟨b1,b2,b3,b4,b5⟩:=zhn (o1:=.dK []) (o2:=.ins C_MatrixReading dx (putF "known" (.ref dk) (putF "rows" (.ref pr) (putF "number" .non [])))) a1 hdk
    refine⟨_,rfl,p,C_MatrixReading,dx,_,rfl,by rw[zf b5];exact a1,T.zh,T.zah,?_,?_⟩
    · exact Nat.lt_of_le_of_lt (zbt _ _ _) (by show 1+1<1000;decide)
    generalize upd (upd G2 dk (.dK [])) p (.ins C_MatrixReading dx (putF "known" (.ref dk) (putF "rows" (.ref pr) (putF "number" .non []))))=G3 at b1 b2 b3 b4
    try dsimp only [zv]
    refine⟨by decide,fun pp hpp=>?_⟩
    obtain⟨c1,c2,c3,c4,c5⟩:=zhn (o1:=.lst []) (o2:=.ins C_MatrixReading dx (putF "pairs" (.ref pp) (putF "known" (.ref dk) (putF "rows" (.ref pr) (putF "number" .non []))))) b1 hpp
    refine⟨_,rfl,p,C_MatrixReading,dx,_,rfl,by rw[zf c5];exact b1,T.zh,T.zac,?_,?_⟩
    · exact Nat.lt_of_le_of_lt (zbt _ _ _) (Nat.lt_of_le_of_lt (Nat.succ_le_succ (zbt _ _ _)) (by show 1+1+1<1000;decide))
    generalize upd (upd G3 pp (.lst [])) p (.ins C_MatrixReading dx (putF "pairs" (.ref pp) (putF "known" (.ref dk) (putF "rows" (.ref pr) (putF "number" .non [])))))=G4 at c1 c2 c3 c4
    have a2':=b3 _ _ a2 a5.symm
    have npr:pr≠pp:=ze a2' hpp
    have ndk:dk≠pp:=ze b2 hpp
    refine k pr dk pp _ (f1 _ hpr) (f1 _ (a4 _ hdk).1) (f1 _ (a4 _ (b4 _ hpp).1).1) ⟨⟨dx,?_⟩,c3 _ _ a2' a5.symm,.nil,c3 _ _ b2 b5.symm,c2,.nil,npr,(fun h=>nomatch h),(fun h=>nomatch h)⟩ fun b o e hb=>c3 _ _ (b3 _ _ (a3 _ _ (k1 b o e hb) hb) hb) hb
    rw[c1,zup]
def zuz:Sp:=fun vs H Q _=>∃(p pr dk pp:Addr) (nv:V) (cs:List Addr) (rows:List (List Str)) (ks:List Str) (n:Nat),vs = [.ref p,.int n]/\MrAt C_MatrixReading H p pr dk pp nv cs rows ks [] []/\(nv = .non\/nv = .int ((n:Int)+1))/\
  ∀H',MrAt C_MatrixReading H' p pr dk pp (.int n) cs rows ks [] []->Kp4 H H' p pr dk pp->Q (.bl true) H'
theorem zbn (T:Tx K mg w C_MatrixReading):HasM P w K mg base C_MatrixReading "takes_number" ["self","number"] 1 (zuz (C_MatrixReading:=C_MatrixReading)):=by
  refine T.zbp.has zbi (fun vs H Q E h=>?_) (fun f cdv A outer s H vs Q E hr h=>?_)
  · obtain⟨p,pr,dk,pp,nv,cs,rows,ks,n,rfl,_⟩:=h;rfl
  · obtain⟨p,pr,dk,pp,nv,cs,rows,ks,n,rfl,R,hn,k⟩:=h
    refine⟨_,(zc (za3 (PW.pt (ze6 (ze4 (zvb (pv 1))) (ze6 (zab zqe (pv 1) zj (zai _)) (zdp (zab (zdj K rfl (hu10 hr)) (zb6 (pv 0) rfl) (zaj zd) (zai _)))))) (zg (zw zcw)) zz)
      (zc (za3 (PW.pt (ze5 (ze4 (zs3 (zb6 (pv 0) rfl))) (zdg (zab znp (pv 1) (za6 zh9 (zb6 (pv 0) rfl) zj) (zai _))))) (zg (zw zcw)) zz)
      (zc (zib (pv 0) (pv 1) rfl)
      (zg (zw zcw))))),?_⟩
    obtain⟨dx,h1⟩:=R.ob
    refine zaw false (fun Q' hQ=>?_) (fun H1 s1=>iteF ?_)
    · refine⟨_,rfl,_,rfl,?_⟩
      rw[decide_eq_false (fun z=>nomatch z)]
      refine iteF ⟨_,rfl,_,_,rfl,rfl,_,rfl,?_⟩
      rw[decide_eq_false (by omega)]
      refine iteF ⟨_,rfl,p,C_MatrixReading,dx,_,_,rfl,h1,T.zh,T.zac,rM_p _ _ _ _,by decide,fun e he=>?_⟩
      have t1:=Same.new (o:=.lst []) he
      exact⟨pp,e,true,rfl,rfl,DEq.nilL (SqL.of (t1 _ _ R.q)) (SqL.of zb),_,rfl,hQ _ t1⟩
    have R1:=R.same s1
    obtain⟨dx,h1⟩:=R1.ob
    try unfold zbd;try dsimp only
    refine zaw false (fun Q' hQ=>?_) (fun H2 s2=>iteF ?_)
    · rcases hn with rfl | rfl
      · refine⟨_,rfl,p,C_MatrixReading,dx,_,_,rfl,h1,T.zh,T.zaa,rM_n _ _ _ _,_,rfl,?_⟩
        rw[decide_eq_true rfl]
        exact iteF (hQ _ (Same.refl _))
      · refine⟨_,rfl,p,C_MatrixReading,dx,_,_,rfl,h1,T.zh,T.zaa,rM_n _ _ _ _,_,rfl,?_⟩
        rw[decide_eq_false (fun z=>nomatch z)]
        refine iteT ⟨_,rfl,_,rfl,p,C_MatrixReading,dx,_,_,rfl,h1,T.zh,T.zaa,rM_n _ _ _ _,_,_,rfl,rfl,rfl,_,rfl,?_⟩
        rw[decide_eq_true (show V.int (n:Int)=V.int ((n:Int)+1-1) by rw[Int.add_sub_cancel])]
        exact hQ _ (Same.refl _)
    have R2:=R1.same s2
    obtain⟨dx,h2⟩:=R2.ob
    try unfold zbd;try dsimp only
    refine⟨_,rfl,_,rfl,p,C_MatrixReading,dx,_,rfl,h2,T.zh,T.zaa,(by show 4<1000;decide),?_⟩
    rw[zwk]
    have np:∀{b:Addr}{o:HO},H2 b=some o->(∀d l,o≠.ins C_MatrixReading d l)->b≠p:=fun e hh z=>by rw[z,h2] at e;exact hh _ _ (Option.some.inj e).symm
    refine k _ ⟨⟨dx,zb⟩,?_,?_,?_,?_,.nil,R2.n1,R2.n2,R2.n3⟩ fun b o e b1 _ _ _=>?_
    · rw[zf (np R2.r (fun _ _ z=>nomatch z))];exact R2.r
    · exact Paired.mapP R2.rr fun a b e=>by rw[zf (np e (fun _ _ z=>nomatch z))];exact e
    · rw[zf (np R2.d (fun _ _ z=>nomatch z))];exact R2.d
    · rw[zf (np R2.q (fun _ _ z=>nomatch z))];exact R2.q
    · rw[zf b1];exact s2 _ _ (s1 _ _ e)
def zu0:Sp:=fun vs H Q _=>∃(p pr dk pp a:Addr) (nv:V) (cs:List Addr) (rows:List (List Str)) (ks:List Str) (bs:List Addr) (qs:List SS) (names:List Str),vs = [.ref p,.ref a]/\MrAt C_MatrixReading H p pr dk pp nv cs rows ks bs qs/\H a=some (.lst (names.map V.str))/\a≠pr/\a≠pp/\names≠[]/\zfj names/\(∀x∈names,zao x=true)/\(ks++names).Nodup/\(ks++names).length<=63/\cs.length<=63/\
  ∀H',MrAt C_MatrixReading H' p pr dk pp nv (cs++[a]) (rows++[names]) (ks++names) bs qs->Kp4 H H' p pr dk pp->Q (.bl true) H'
set_option maxHeartbeats 2000000 in
theorem zb0 (T:Tx K mg w C_MatrixReading):HasM P w K mg base C_MatrixReading "takes_names" ["self","names"] 3 (zu0 (C_MatrixReading:=C_MatrixReading)):=by
  refine T.zb1.has sc_MatrixReading_takes_names (fun vs H Q E h=>?_) (fun f cdv A outer s H vs Q E hr h=>?_)
  · obtain⟨p,pr,dk,pp,a,nv,cs,rows,ks,bs,qs,names,rfl,_⟩:=h;rfl
  · obtain⟨p,pr,dk,pp,a,nv,cs,rows,ks,bs,qs,names,rfl,R,ha,nar,nap,hne,hri,hnm,hnd,hl,hcs,k⟩:=h
    have hu:=zdu hr
    refine⟨_,(zc (za3 (PW.pt (ze6 (zab (zff K rfl (hu10 hr)) (pv 1) (zaj zd) (zai _)) (zdp (zab (zdj K rfl (hu10 hr)) (pv 1) (zn (zb9 (K:=K) rfl) (by rfl) T.sorted PyProof.Rows.boot_sorted (za (pv 1) zd)) (zai _))))) (zg (zw zcw)) zz)
      (zc (za2 PassesOwn.never rfl (zad K rfl (pv 1)) (zm (i:=2) sc_MatrixReading_takes_names.nd rfl (Or.inl rfl)) (zc (za3 (PW.pt (ze6 (zch (zbj (zae (zp0 T) (hr.mono (by decide)) (by rfl) (za (pv 2) zd)))) (zdp (ze4 (zn3 hu (pv 2) (zb6 (pv 0) rfl)))))) (zg (zw zcw)) zz)
        (zg (zcc hu (zb6 (pv 0) rfl) (pv 2) zcw rfl))))
      (zc (zaq (zau K rfl PySem.F.plainAttrs_list PySem.F.slot_list_append PySem.F.type_list_append zag (zb6 (pv 0) rfl) (za (pv 1) zd)))
      (zg (zw zcw))))),?_⟩
    rw[List.length_append] at hl
    refine zaw false (fun Q' hQ=>?_) (fun H1 s1=>iteF ?_)
    · refine⟨_,rfl,by decide,fun e he=>?_⟩
      have t1:=Same.new (o:=.lst []) he
      refine⟨a,e,_,rfl,rfl,DEq.nilL (SqL.of (t1 _ _ ha)) (SqL.of zb),_,rfl,?_⟩
      rw[decide_eq_false (fun z=>hne (List.map_eq_nil_iff.mp z))]
      refine iteF ⟨_,rfl,_,rfl,a,names,rfl,SqL.of (t1 _ _ ha),by omega,fun e2 ms he2 pm rs=>?_⟩
      obtain rfl:ms=names:=zc1 pm rs hri
      have t2:=Same.new (o:=.lst (ms.map V.str)) he2
      exact⟨a,e2,true,rfl,rfl,DEq.sameL (SqL.of (t2 _ _ (t1 _ _ ha))) (SqL.of zb) zi5,_,rfl,hQ _ (t1.trans t2)⟩
    have R1:=R.same s1
    have ha1:=s1 _ _ ha
    try unfold zbd;try dsimp only
    refine⟨_,rfl,a,rfl,⟨_,SqL.of ha1⟩,?_⟩
    refine zam (K:=K) (a:=a) (xs:=names.map V.str) (fun i σ H'=>∃(v2:Option V),σ = [some (.ref p),some (.ref a),v2]/\MrAt C_MatrixReading H' p pr dk pp nv cs rows (ks++names.take i) bs qs/\Kp4 H H' p pr dk pp/\H' a=some (.lst (names.map V.str)))
      ⟨none,rfl,by rw[List.take_zero,List.append_nil];exact R1,Kp4.of s1,ha1⟩ (fun i σ H' _ h=>by obtain⟨_,_,_,_,h⟩:=h;exact SqL.of h) ?_ ?_
    · rintro i v σ H2 hx ⟨v2,rfl,R2,kp,ha2⟩
      have hi:=zav hx
      rw[List.length_map] at hi
      rw[List.getElem?_map,List.getElem?_eq_getElem hi] at hx
      cases hx
      have hxn:=hnm names[i] (List.getElem_mem _)
      have hx12:=zbc hxn
      have hnk:names[i] ∉ ks++names.take i:=fun z=>by
        have h1:(ks++names.take i++names[i]::names.drop (i+1)).Nodup:=by rw[List.append_assoc,←List.drop_eq_getElem_cons hi,List.take_append_drop];exact hnd
        exact (List.nodup_append.mp h1).2.2 _ z _ (List.mem_cons_self ..) rfl
      try dsimp only [zv]
      refine zaw false (fun Q' hQ=>?_) (fun H3 s3=>iteF ?_)
      · refine⟨_,rfl,_,rfl,by omega,fun H3 s3=>⟨_,rfl,?_⟩⟩
        rw[hxn]
        obtain⟨dx,h3⟩:=(R2.same s3).ob
        refine iteF ⟨_,rfl,_,rfl,p,C_MatrixReading,dx,_,_,rfl,h3,T.zh,T.zah,rM_k _ _ _ _,dk,_,rfl,DGet.k (k:=Sum.inr names[i]) (R2.same s3).d,_,rfl,?_⟩
        rw[zgt (fun z=>hnk (dU_mem.mp z))]
        exact hQ _ s3
      have R3:=R2.same s3
      obtain⟨dx,h3⟩:=R3.ob
      try unfold zbd;try dsimp only
      refine⟨_,rfl,p,C_MatrixReading,dx,_,_,rfl,h3,T.zh,T.zah,rM_k _ _ _ _,_,rfl,dk,_,rfl,DPut.k (k:=Sum.inr names[i]) R3.d ?_,?_⟩
      · unfold dU
        rw[List.length_map,List.length_append,List.length_take]
        exact zo (by omega)
      rw[zuh hnk,List.append_assoc]
      have nd:∀{b:Addr}{o:HO},H3 b=some o->(∀l,o≠.dK l)->b≠dk:=fun e hh z=>by rw[z,R3.d] at e;exact hh _ (Option.some.inj e).symm
      have et:names.take (i+1)=names.take i++[names[i]]:=by rw[List.take_add_one,List.getElem?_eq_getElem hi];rfl
      rw[←et]
      refine⟨_,rfl,⟨⟨dx,?_⟩,?_,?_,zb,?_,?_,R3.n1,R3.n2,R3.n3⟩,fun b o e b1 b2 b3 b4=>?_,?_⟩
      · rw[zf (nd h3 (fun _ z=>nomatch z))];exact h3
      · rw[zf (nd R3.r (fun _ z=>nomatch z))];exact R3.r
      · exact Paired.mapP R3.rr fun a b e=>by rw[zf (nd e (fun _ z=>nomatch z))];exact e
      · rw[zf (nd R3.q (fun _ z=>nomatch z))];exact R3.q
      · exact Paired.mapP R3.qq fun a b e=>by rw[zf (nd e (fun _ z=>nomatch z))];exact e
      · rw[zf b3];exact s3 _ _ (kp b o e b1 b2 b3 b4)
      · rw[zf (nd (s3 _ _ ha2) (fun _ z=>nomatch z))];exact s3 _ _ ha2
    rintro σ H2 ⟨v2,rfl,R2,kp,ha2⟩
    rw[List.length_map,List.take_length] at R2
    obtain⟨dx,h2⟩:=R2.ob
    have lc:(cs.map V.ref).length<=63:=by rw[List.length_map];exact hcs
    try unfold zbd;try dsimp only
    refine⟨_,rfl,p,C_MatrixReading,dx,_,_,rfl,h2,T.zh,T.za5,rM_r _ _ _ _,.inl ⟨rfl,_,SqL.of R2.r⟩,_,rfl,pr,_,_,rfl,rfl,R2.r,zo (by omega),?_⟩
    refine k _ ⟨⟨dx,?_⟩,?_,?_,?_,?_,?_,R2.n1,?_,?_⟩ fun b o e b1 b2 b3 b4=>?_
    · rw[zf (zdc h2 R2.r (fun z=>nomatch z))];exact h2
    · rw[zb,List.map_append];rfl
    · refine zft ?_ (zcu R2.rr fun c hc r e=>?_)
      · rw[zf nar];exact ha2
      · rw[zf (fun (z:c=pr)=>R2.n2 (z▸hc))];exact e
    · rw[zf (zdc R2.d R2.r (fun z=>nomatch z))];exact R2.d
    · rw[zf R2.n1.symm];exact R2.q
    · exact Paired.mapP R2.qq fun a b e=>by rw[zf (zdc e R2.r (fun z=>nomatch z))];exact e
    · intro z
      rcases List.mem_append.mp z with z | z
      · exact R2.n2 z
      · exact nar (List.mem_singleton.mp z).symm
    · intro z
      rcases List.mem_append.mp z with z | z
      · exact R2.n3 z
      · exact nap (List.mem_singleton.mp z).symm
    · rw[zf b2];exact kp b o e b1 b2 b3 b4
def zwp:Sp:=fun vs H Q _=>∃(p pr dk pp a:Addr) (nv:V) (cs:List Addr) (rows:List (List Str)) (ks:List Str) (bs:List Addr) (qs:List SS) (x y:Str),vs = [.ref p,.ref a]/\MrAt C_MatrixReading H p pr dk pp nv cs rows ks bs qs/\H a=some (.tup [.str x,.str y])/\x∈ks/\y∈ks/\(∀l∈qs,ltPP l (x,y)=true)/\qs.length<=63/\
  ∀H',MrAt C_MatrixReading H' p pr dk pp nv cs rows ks (bs++[a]) (qs++[(x,y)])->Kp4 H H' p pr dk pp->Q (.bl true) H'
set_option maxHeartbeats 2000000 in
theorem zb2 (T:Tx K mg w C_MatrixReading):HasM P w K mg base C_MatrixReading "takes_pair" ["self","pair"] 1 (zwp (C_MatrixReading:=C_MatrixReading)):=by
  refine T.zb5.has zbz (fun vs H Q E h=>?_) (fun f cdv A outer s H vs Q E hr h=>?_)
  · obtain⟨p,pr,dk,pp,a,nv,cs,rows,ks,bs,qs,x,y,rfl,_⟩:=h;rfl
  · obtain⟨p,pr,dk,pp,a,nv,cs,rows,ks,bs,qs,x,y,rfl,R,ha,hx,hy,hq,hl,k⟩:=h
    have hu:=zdu hr
    refine⟨_,(zc (za3 (PW.pt (ze6 (ze4 (zds hu (zan (zar K rfl) (pv 1) zj (fun _ _=>rfl)) (zb6 (pv 0) rfl))) (zdp (ze4 (zds hu (zan (zar K rfl) (pv 1) zj (fun _ _=>rfl)) (zb6 (pv 0) rfl)))))) (zg (zw zcw)) zz)
      (zc (za3 (PW.pt (ze5 (zab (zdj K rfl (hu10 hr)) (zb6 (pv 0) rfl) (zaj zd) (zai _)) (zdg (zab (zul K rfl (Nat.lt_trans (Nat.add_lt_add_left (by decide:1<9) _) (hu10 hr))) (pv 1) (zan (zaf K rfl) (zb6 (pv 0) rfl) (zqd zk3 zj) (fun _ _=>rfl)) (zai _))))) (zg (zw zcw)) zz)
      (zc (zaq (zau K rfl PySem.F.plainAttrs_list PySem.F.slot_list_append PySem.F.type_list_append zag (zb6 (pv 0) rfl) (za (pv 1) zd)))
      (zg (zw zcw))))),?_⟩
    obtain⟨dx,h1⟩:=R.ob
    refine⟨_,rfl,a,_,_,_,rfl,rfl,SqT.of ha,rfl,_,rfl,p,C_MatrixReading,dx,_,_,rfl,h1,T.zh,T.zah,rM_k _ _ _ _,dk,_,rfl,DGet.k (k:=Sum.inr x) R.d,_,rfl,?_⟩
    rw[zgu (dU_mem.mpr hx)]
    refine iteF ⟨_,rfl,a,_,_,_,rfl,rfl,SqT.of ha,rfl,_,rfl,p,C_MatrixReading,dx,_,_,rfl,h1,T.zh,T.zah,rM_k _ _ _ _,dk,_,rfl,DGet.k (k:=Sum.inr y) R.d,_,rfl,?_⟩
    rw[zgu (dU_mem.mpr hy)]
    refine iteF ?_
    try unfold zbd;try dsimp only
    refine zaw false (fun Q' hQ=>?_) (fun H1 s1=>iteF ?_)
    · refine⟨_,rfl,p,C_MatrixReading,dx,_,_,rfl,h1,T.zh,T.zac,rM_p _ _ _ _,by decide,fun e he=>?_⟩
      have t1:=Same.new (o:=.lst []) he
      refine⟨pp,e,_,rfl,rfl,DEq.nilL (SqL.of (t1 _ _ R.q)) (SqL.of zb),_,rfl,?_⟩
      have lb:bs.length=qs.length:=Paired.length R.qq
      rcases List.eq_nil_or_concat bs with rfl | ⟨bs',b,rfl⟩
      · rw[show decide (List.map V.ref ([]:List Addr) = [])=true from rfl]
        exact iteF (hQ _ t1)
      · rw[List.concat_eq_append] at lb ⊢
        have R1:=R.same t1
        rw[List.concat_eq_append] at R1
        have eb:(bs'++[b])[bs'.length]? = some b:=by simp
        obtain⟨l,hl',hb⟩:=Paired.get' R1.qq eb
        rw[decide_eq_false (by simp)]
        refine iteT ⟨_,rfl,_,rfl,p,C_MatrixReading,dx,_,_,rfl,t1 _ _ h1,T.zh,T.zac,rM_p _ _ _ _,_,rfl,pp,_,_,_,rfl,rfl,SqL.of R1.q,(by rw[List.map_append];exact zqn _ _),?_⟩
        refine⟨a,b,(x,y),l,rfl,rfl,SqT.of (t1 _ _ ha),SqT.of hb,_,rfl,?_⟩
        rw[hq l (List.mem_of_getElem? hl')]
        exact hQ _ t1
    have R1:=R.same s1
    obtain⟨dx,h1⟩:=R1.ob
    have lb:bs.length=qs.length:=Paired.length R.qq
    try unfold zbd;try dsimp only
    refine⟨_,rfl,p,C_MatrixReading,dx,_,_,rfl,h1,T.zh,T.zac,rM_p _ _ _ _,.inl ⟨rfl,_,SqL.of R1.q⟩,_,rfl,pp,_,_,rfl,rfl,R1.q,zo (by rw[List.length_map];omega),?_⟩
    refine k _ ⟨⟨dx,?_⟩,?_,?_,?_,?_,?_,R1.n1,R1.n2,R1.n3⟩ fun b o e b1 b2 b3 b4=>?_
    · rw[zf (zdc h1 R1.q (fun z=>nomatch z))];exact h1
    · rw[zf R1.n1];exact R1.r
    · refine zcu R1.rr fun c hc r e=>?_
      rw[zf (fun (z:c=pp)=>R1.n3 (z▸hc))];exact e
    · rw[zf (zdc R1.d R1.q (fun z=>nomatch z))];exact R1.d
    · rw[zb,List.map_append];rfl
    · refine zft ?_ (Paired.mapP R1.qq fun c r e=>?_)
      · show upd H1 pp _ a=some (.tup [.str x,.str y])
        rw[zf (zdc (s1 _ _ ha) R1.q (fun z=>nomatch z))];exact s1 _ _ ha
      · rw[zf (zdc e R1.q (fun z=>nomatch z))];exact e
    · rw[zf b4];exact s1 _ _ e
def zu1:Sp:=fun vs H Q _=>∃(p pr dk pp:Addr) (nv:V) (cs:List Addr) (rows:List (List Str)) (ks:List Str) (n:Nat) (names:List Str),vs = [.ref p,.str (rowT n names)]/\MrAt C_MatrixReading H p pr dk pp nv cs rows ks [] []/\(nv = .non\/nv = .int ((n:Int)+1))/\n<64/\names≠[]/\zfj names/\(∀x∈names,zao x=true)/\(ks++names).Nodup/\(ks++names).length<=63/\cs.length<=63/\
  ∀(a:Addr) (H':Hp),H a=none->MrAt C_MatrixReading H' p pr dk pp (.int n) (cs++[a]) (rows++[names]) (ks++names) [] []->Kp4 H H' p pr dk pp->Q (.bl true) H'
def zwq:Sp:=fun vs H Q _=>∃(p pr dk pp:Addr) (nv:V) (cs:List Addr) (rows:List (List Str)) (ks:List Str) (bs:List Addr) (qs:List SS) (x y:Str),vs = [.ref p,.str (zc3 (x,y))]/\MrAt C_MatrixReading H p pr dk pp nv cs rows ks bs qs/\zao x=true/\zao y=true/\x∈ks/\y∈ks/\(∀l∈qs,ltPP l (x,y)=true)/\qs.length<=63/\
  ∀(a:Addr) (H':Hp),H a=none->MrAt C_MatrixReading H' p pr dk pp nv cs rows ks (bs++[a]) (qs++[(x,y)])->Kp4 H H' p pr dk pp->Q (.bl true) H'
def zr8:Sp:=fun vs H Q E=>∃(p:Addr) (x:Str),vs = [.ref p,.str x]/\(zu1 (C_MatrixReading:=C_MatrixReading) vs H Q E\/zwq (C_MatrixReading:=C_MatrixReading) vs H Q E)
theorem zgx {x:Str}(h:x.length<=1000) (y:Str):(Txt.split x y).length<=sizeLine:=by
  have:=(PyProof.Rows.fact_split x y).2
  exact Nat.le_trans this (Nat.le_trans (show x.length+2<=1002 by omega) (by decide))
set_option maxHeartbeats 2000000 in
theorem zb3 (T:Tx K mg w C_MatrixReading):HasM P w K mg base C_MatrixReading "takes_line" ["self","line"] 5 (zr8 (C_MatrixReading:=C_MatrixReading)):=by
  refine T.zb4.has sc_MatrixReading_takes_line (fun vs H Q E h=>?_) (fun f cdv A outer s H vs Q E hr h=>?_)
  · obtain⟨p,x,rfl,_⟩:=h;rfl
  · obtain⟨p,x,rfl,h⟩:=h
    refine⟨_,(zc (zp (i:=2) sc_MatrixReading_takes_line.nd rfl (Or.inl rfl) (zau K rfl PySem.F.plainAttrs_str PySem.F.slot_str_split PySem.F.type_str_split zlb (pv 1) (za zas zd)))
      (zc (za3 (zbj (zau K rfl PySem.F.plainAttrs_str PySem.F.slot_str_endswith PySem.F.type_str_endswith zuk (zan (zaf K rfl) (pv 2) zj (fun _ _=>rfl)) (za zas zd))) (zg (zw (zh7 (zle (zbn T) T.zh (hr.mono (by decide)) (pv 0) (za (zae (zhu T) (hr.mono (by decide)) (by rfl) (za (zbk zk7 (zan (zaf K rfl) (pv 2) zj (fun _ _=>rfl)) zfc (zbe (zqd zk3 zj))) zd)) zd)) (zk1 (zle (zb0 T) T.zh (hr.mono (by decide)) (pv 0) (za (zbk (zdx K rfl) (pv 2) (zbe zj) zfc) zd)))))) zz)
      (zg (zw (zh7 (ze9 zf2 (zn (zx K rfl) (by rfl) T.len boot_len (za (pv 2) zd)) zj (zai _)) (zh7 (ze9 zf2 (zan (zaf K rfl) (pv 2) zj (fun _ _=>rfl)) zas (zai _)) (zk1 (zle (zb2 T) T.zh (hr.mono (by decide)) (pv 0) (za (zcj (za (zan (zaf K rfl) (pv 2) zj (fun _ _=>rfl)) (za (zan (zaf K rfl) (pv 2) zj (fun _ _=>rfl)) zd))) zd))))))))),?_⟩
    rcases h with ⟨p',pr,dk,pp,nv,cs,rows,ks,n,names,e,R,hn,n64,hne,hri,hnm,hnd,hl,hcs,k⟩ | ⟨p',pr,dk,pp,nv,cs,rows,ks,bs,qs,x',y',e,R,nx,ny,hx,hy,hq',hl,k⟩
    · obtain⟨rfl,rfl⟩:p=p'/\x=rowT n names:=by
        simp only [List.cons.injEq,V.ref.injEq,V.str.injEq,and_true] at e
        exact e
      have hlen:=(zhx n64 (fun x hx=>zbc (hnm x hx)) (by rw[List.length_append] at hl;omega)).1
      have sp:Txt.split (rowT n names) (Str.ofString " ")=hdT n::names:=zps n hne hnm
      refine⟨_,rfl,rfl,_,_,rfl,rfl,by decide +kernel,zr (by omega),zgx (by omega) _,fun q hq=>?_⟩
      rw[sp]
      have t1:=Same.new (o:=.lst ((hdT n::names).map V.str)) hq
      have eq1:upd H q (.lst ((hdT n::names).map V.str)) q=some (.lst ((hdT n::names).map V.str)):=zb
      generalize upd H q (.lst ((hdT n::names).map V.str))=H1 at t1 eq1
      try dsimp only [zv]
      have hd3:=zdn n n64
      have hh:(hdT n).length<=10:=by
        rw[←zq,zgv,List.length_append,zq]
        have : [58].length=1:=rfl
        omega
      refine⟨_,rfl,q,_,_,_,rfl,rfl,SqL.of eq1,ziq,rfl,_,_,rfl,rfl,_,rfl,?_⟩
      rw[zru]
      refine iteT ?_
      have R1:=R.same t1
      obtain⟨dx,h1⟩:=R1.ob
      refine⟨_,rfl,p,dx,_,rfl,h1,zpu _ _ _ _ (by decide +kernel),_,rfl,q,_,_,_,rfl,rfl,SqL.of eq1,ziq,_,rfl,_,rfl,_,rfl,zr (by omega),?_⟩
      rw[zun]
      refine⟨_,rfl,by omega,fun H2 s2=>?_⟩
      obtain⟨o1,o2,o3⟩:=zt0 (n:Int) (by show n<10 ^ 60;exact Nat.lt_trans n64 (by decide))
      rw[zl4 o1,o2]
      have R2:=R1.same s2
      refine⟨p,pr,dk,pp,nv,cs,rows,ks,n,rfl,R2,hn,fun H3 R3 k3=>?_⟩
      refine⟨_,rfl,?_⟩
      rw[if_pos rfl]
      obtain⟨n1,n2,n3,n4⟩:=R.new hq
      have eq3:=k3 _ _ (s2 _ _ eq1) n1 n2 n3 n4
      obtain⟨dx3,h3⟩:=R3.ob
      refine⟨_,rfl,p,dx3,_,rfl,h3,zpu _ _ _ _ (by decide +kernel),_,rfl,_,rfl,q,_,rfl,SqL.of eq3,fun a ha=>?_⟩
      rw[show cutV ((hdT n::names).map V.str) (some 1) none=names.map V.str from zme]
      have t4:=Same.new (o:=.lst (names.map V.str)) ha
      have kp:Kp4 H H3 p pr dk pp:=(Kp4.of (t1.trans s2)).trans k3
      exact⟨p,pr,dk,pp,a,.int n,cs,rows,ks,[],[],names,rfl,R3.same t4,zb,(ze R3.r ha).symm,(ze R3.q ha).symm,hne,hri,hnm,hnd,hl,hcs,fun H5 R5 k5=>k a H5 (R3.free kp ha) R5 (kp.trans ((Kp4.of t4).trans k5))⟩
    · obtain⟨rfl,rfl⟩:p=p'/\x=zc3 (x',y'):=by
        simp only [List.cons.injEq,V.ref.injEq,V.str.injEq,and_true] at e
        exact e
      have hlen:=zd7 (p:=(x',y')) (zbc nx) (zbc ny)
      have sp:Txt.split (zc3 (x',y')) (Str.ofString " ") = [x',Str.ofString ">",y']:=zmz (p:=(x',y')) nx ny
      refine⟨_,rfl,rfl,_,_,rfl,rfl,by decide +kernel,zr (by omega),zgx (by omega) _,fun q hq=>?_⟩
      rw[sp]
      have t1:=Same.new (o:=.lst ([x',Str.ofString ">",y'].map V.str)) hq
      have eq1:upd H q (.lst ([x',Str.ofString ">",y'].map V.str)) q=some (.lst ([x',Str.ofString ">",y'].map V.str)):=zb
      generalize upd H q (.lst ([x',Str.ofString ">",y'].map V.str))=H1 at t1 eq1
      try dsimp only [zv]
      refine⟨_,rfl,q,_,_,_,rfl,rfl,SqL.of eq1,ziq,rfl,_,_,rfl,rfl,_,rfl,?_⟩
      rw[zmy nx]
      refine iteF ?_
      try unfold zbd;try dsimp only
      have R1:=R.same t1
      obtain⟨dx,h1⟩:=R1.ob
      refine⟨_,rfl,q,_,rfl,.inl (SqL.of eq1),rfl,_,rfl,?_⟩
      rw[if_pos (decide_eq_true (by rfl))]
      refine⟨_,rfl,q,_,_,_,rfl,rfl,SqL.of eq1,rfl,rfl,_,rfl,?_⟩
      rw[if_pos (decide_eq_true (by rfl))]
      refine⟨_,rfl,p,dx,_,rfl,h1,zpu _ _ _ _ (by decide +kernel),_,rfl,q,_,_,_,rfl,rfl,SqL.of eq1,rfl,_,rfl,q,_,_,_,rfl,rfl,SqL.of eq1,rfl,(by show 2<=sizeLine;decide),fun a ha=>?_⟩
      have t2:=Same.new (o:=.tup [.str x',.str y']) ha
      exact⟨p,pr,dk,pp,a,nv,cs,rows,ks,bs,qs,x',y',rfl,R1.same t2,zb,hx,hy,hq',hl,fun H3 R3 k3=>k a H3 (t1.free ha) R3 ((Kp4.of (t1.trans t2)).trans k3)⟩
def zwr:Sp:=fun vs H Q _=>∃(rows:List (List Str)) (qs:List SS),vs = [.str (Txt.join "\n" (mTx rows qs))]/\MatOk rows qs/\
  ∀(t a b:Addr) (cs bs:List Addr) (H':Hp),Same H H'->H t=none->H a=none->H b=none->(∀c∈cs,H c=none)->H' t=some (.tup [.ref a,.ref b])->H' a=some (.lst (cs.map V.ref))->Paired (fun c row=>H' c=some (.lst (row.map V.str))) cs rows->H' b=some (.lst (bs.map V.ref))->Paired (fun a (p:SS)=>H' a=some (.tup [.str p.1,.str p.2])) bs qs->a≠b->a ∉ cs->b ∉ cs->Q (.ref t) H'
theorem znc (x:Str) (h:x.length<=1000000) (y:Str):(Txt.split x y).length<=sizeLine:=by
  have:=(PyProof.Rows.fact_split x y).2
  exact Nat.le_trans this (Nat.le_trans (show x.length+2<=1000002 by omega) (by decide))
theorem mTx_nil:Txt.join "\n" (mTx [] [])=Str.ofString "":=by decide +kernel
set_option maxHeartbeats 4000000 in
theorem zbo (T:Tx K mg w C_MatrixReading):Has P w K mg base "read_matrix" ["text"] 6 zwr:=by
  refine T.zh4.has sc_read_matrix (fun vs H Q E h=>?_) (fun f cdv A outer s H vs Q E hr h=>?_)
  · obtain⟨rows,qs,rfl,_⟩:=h;rfl
  · obtain⟨rows,qs,rfl,M,k⟩:=h
    refine⟨_,(zc (za3 (zch (zbj (zn (zcz K rfl) (by rfl) T.isinstance PyProof.Rows.boot_isinstance (za (pv 0) (za (ze3 (v:=.ty "str") (by rfl) T.str PyProof.Rows.boot_str rfl) zd))))) (zg zey) zz)
      (zc (za3 (zab zf2 (pv 0) zas (zai _)) (zg (zw (zcj (za (zaj zd) (za (zaj zd) zd))))) zz)
      (zc (zp (i:=1) sc_read_matrix.nd rfl (Or.inl rfl) (ztu (zco T) T.zev T.zew (hr.mono (by decide)) (by rfl) T.zeu))
      (zc (zp (i:=2) sc_read_matrix.nd rfl (Or.inl rfl) (zau K rfl PySem.F.plainAttrs_str PySem.F.slot_str_split PySem.F.type_str_split zlb (pv 0) (za zas zd)))
      (zc (za2 PassesOwn.never rfl (zqz K rfl 1 (by decide) (by rfl) T.enumerate (pv 2)) (zct K rfl rfl (zal (zm (i:=3) sc_read_matrix.nd rfl (Or.inl rfl)) (zal (zm (i:=4) sc_read_matrix.nd rfl (Or.inl rfl)) zcq))) (zg (za3 (zch (zbj (zle (zb3 T) T.zh (hr.mono (by decide)) (pv 1) (za (pv 4) zd)))) (zg zey) zz)))
      (zc (za3 (zab znp (zb6 (pv 1) rfl) zj (zai _)) (zg zey) zz)
      (zg (zw (zcj (za (zmx K rfl rfl (by rfl) T.list (by rfl) T.reversed (zb6 (pv 1) rfl)) (za (zb6 (pv 1) rfl) zd))))))))))),?_⟩
    refine⟨_,rfl,_,_,_,true,rfl,.str _,rfl,_,rfl,iteF ?_⟩
    try unfold zbd;try dsimp only
    by_cases hr:rows = []
    · subst hr
      obtain rfl:qs = []:=by
        cases qs with
        | nil=>rfl
        | cons p r=>exact absurd (M.qm p (List.mem_cons_self ..)).1 (by simp)
      refine⟨_,rfl,rfl,_,rfl,?_⟩
      rw[decide_eq_true (congrArg V.str mTx_nil)]
      refine iteT ⟨by decide,fun a ha=>?_⟩
      have t1:=Same.new (o:=.lst []) ha
      refine⟨by decide,fun b hb=>?_⟩
      have t2:=Same.new (o:=.lst []) hb
      have nab:a≠b:=ze zb hb
      refine⟨by show 2<=sizeLine;decide,fun t ht=>?_⟩
      have t3:=Same.new (o:=.tup [.ref a,.ref b]) ht
      exact k t a b [] [] _ (t1.trans (t2.trans t3)) (t1.free (t2.free ht)) ha (t1.free hb) (fun _ h=>nomatch h) zb (t3 _ _ (t2 _ _ zb)) .nil (t3 _ _ zb) .nil nab (fun h=>nomatch h) (fun h=>nomatch h)
    obtain⟨hsp,hlen⟩:=M.text hr
    have hN:0<rows.length:=List.length_pos_iff.mpr hr
    have hN63:=M.rl
    refine⟨_,rfl,rfl,_,rfl,?_⟩
    rw[decide_eq_false (fun z=>M.ne hr (V.str.inj z))]
    refine iteF ?_
    try unfold zbd;try dsimp only
    intro r dx hr0 hdx nrx
    have s0:Same H (upd (upd H dx (.own r)) r (.ins C_MatrixReading dx [])):=fun b o e=>by
      rw[zf (ze e hr0),zf (ze e hdx)];exact e
    refine⟨r,dx,rfl,zb,fun pr dk pp H1 f1 f2 f3 R1 kp=>⟨rfl,?_⟩⟩
    have s1:Same H H1:=fun b o e=>kp b o (s0 b o e) (ze e hr0)
    have fr:=s0.free f1
    have fk:=s0.free f2
    have fp:=s0.free f3
    try unfold zbd;try dsimp only
    refine⟨_,rfl,rfl,_,_,rfl,rfl,by decide +kernel,Nat.le_trans hlen (by decide),znc _ hlen _,fun l hpl=>?_⟩
    rw[show Txt.split (Txt.join (Str.ofString "\n") (mTx rows qs)) (Str.ofString "\n")=mTx rows qs from hsp]
    have s2:=Same.new (o:=.lst ((mTx rows qs).map V.str)) hpl
    have fl:=s1.free hpl
    obtain⟨nl1,nl2,nl3,nl4⟩:=R1.new hpl
    have el0:upd H1 l (.lst ((mTx rows qs).map V.str)) l=some (.lst ((mTx rows qs).map V.str)):=zb
    have R2:=R1.same s2
    generalize upd H1 l (.lst ((mTx rows qs).map V.str))=H2 at s2 el0 R2
    have s02:=s1.trans s2
    clear kp R1
    try unfold zbd;try dsimp only
    have lN:=zhm rows qs
    have l63:=M.l2
    have kfin:∀{G G':Hp},Same H G->Kp4 G G' r pr dk pp->Same H G':=fun sG kG b o e=>kG b o (sG b o e) (ze e hr0) (ze e fr) (ze e fk) (ze e fp)
    refine⟨_,rfl,l,_,rfl,SqL.of el0,zq0 (xs:=(mTx rows qs).map V.str) (fun i σ H'=>∃(v3 v4:Option V) (cs bs:List Addr),σ = [some (.str (Txt.join "\n" (mTx rows qs))),some (.ref r),some (.ref l),v3,v4]/\MrAt C_MatrixReading H' r pr dk pp (nvOf rows.length i) cs (rows.reverse.take i) (rows.reverse.take i).flatten bs (qs.take (i-rows.length))/\Same H H'/\H' l=some (.lst ((mTx rows qs).map V.str))/\∀c∈cs,H c=none)
      ⟨none,none,[],[],rfl,by rw[List.take_zero,Nat.zero_sub,List.take_zero];exact R2,s02,el0,fun _ h=>nomatch h⟩ (fun i σ H' _ h=>by obtain⟨_,_,_,_,_,_,_,e,_⟩:=h;exact SqL.of e) ?_ ?_⟩
    · rintro i v σ H3 Tp hv ⟨v3,v4,cs,bs,rfl,R,q,el,fc⟩ hTp
      have hi:=zav hv
      rw[List.length_map,lN] at hi
      rw[List.getElem?_map] at hv
      have lcs:cs.length=(rows.reverse.take i).length:=Paired.length R.rr
      rw[List.length_take,List.length_reverse] at lcs
      by_cases c:i<rows.length
      · rw[zkm c] at hv
        cases hv
        have sT:=Same.new (o:=.tup [.int ((1+i:Nat):Int),.str (rowT ((rows.length-1-i:Nat):Int) (rows.getD (rows.length-1-i) []))]) hTp
        refine⟨Tp,_,rfl,SqT.of zb,rfl,_,_,rfl,_,_,rfl,rfl,?_⟩
        try unfold zbd;try dsimp only
        have R3:=R.same sT
        have fT:=q.free hTp
        obtain⟨dx3,h3⟩:=R3.ob
        obtain⟨hm,_⟩:=zd8 (rows:=rows) (i:=rows.length-1-i) (by omega)
        have q0:qs.take (i-rows.length) = []:=by rw[show i-rows.length=0 by omega,List.take_zero]
        obtain rfl:bs = []:=List.length_eq_zero_iff.mp (by rw[Paired.length R.qq,q0];rfl)
        rw[q0] at R3
        have et:=zwl c
        have ef:(rows.reverse.take (i+1)).flatten=(rows.reverse.take i).flatten++rows.getD (rows.length-1-i) []:=by rw[et,List.flatten_append,List.flatten_cons,List.flatten_nil,List.append_nil]
        have sub:=zho rows.reverse (i+1)
        have pm:=zd9 rows
        have nd:(rows.reverse.take (i+1)).flatten.Nodup:=sub.nodup (pm.nodup_iff.mpr M.nd)
        have ln:=sub.length_le
        rw[pm.length_eq] at ln
        have l1:=M.l1
        refine⟨_,rfl,r,dx3,_,rfl,h3,zpu _ _ _ _ (by decide +kernel),_,rfl,r,_,rfl,.inl ⟨r,pr,dk,pp,_,cs,_,_,rows.length-1-i,rows.getD (rows.length-1-i) [],rfl,R3,?_,by omega,M.rne _ hm,M.rs _ hm,M.nm _ hm,by rw[←ef];exact nd,by rw[←ef];omega,by omega,fun a H4 ha R4 k4=>?_⟩⟩
        · unfold nvOf
          by_cases c0:i=0
          · exact .inl (if_pos c0)
          · refine .inr ((if_neg c0).trans (congrArg V.int ?_))
            omega
        refine⟨_,rfl,iteF ?_⟩
        have q4:qs.take (i+1-rows.length) = []:=by rw[show i+1-rows.length=0 by omega,List.take_zero]
        refine⟨_,_,cs++[a],[],rfl,?_,kfin (q.trans sT) k4,k4 _ _ (sT _ _ el) nl1 nl2 nl3 nl4,fun c hc=>?_⟩
        · rw[et,q4,List.flatten_append,List.flatten_cons,List.flatten_nil,List.append_nil]
          have:nvOf rows.length (i+1) = .int ((rows.length-1-i:Nat):Int):=by
            unfold nvOf
            rw[if_neg (by omega),show rows.length-(i+1)=rows.length-1-i by omega]
          rw[this]
          exact R4
        · rcases List.mem_append.mp hc with hc | hc
          · exact fc c hc
          · rw[List.mem_singleton.mp hc]
            exact (q.trans sT).free ha
      · have c:rows.length<=i:=Nat.le_of_not_lt c
        rw[zly c] at hv
        have hj:i-rows.length<qs.length:=by omega
        rw[List.getElem?_eq_getElem hj] at hv
        cases hv
        obtain⟨pq,epq⟩:∃pq,pq=qs[i-rows.length]:=⟨_,rfl⟩
        have hpq:qs[i-rows.length]? = some pq:=by rw[epq];exact List.getElem?_eq_getElem hj
        have hpm:=List.mem_of_getElem? hpq
        rw[←epq]
        obtain⟨x',y'⟩:=pq
        have sT:=Same.new (o:=.tup [.int ((1+i:Nat):Int),.str (zc3 (x',y'))]) hTp
        refine⟨Tp,_,rfl,SqT.of zb,rfl,_,_,rfl,_,_,rfl,rfl,?_⟩
        try unfold zbd;try dsimp only
        have R3:=R.same sT
        obtain⟨dx3,h3⟩:=R3.ob
        have ea:rows.reverse.take i=rows.reverse:=List.take_of_length_le (by rw[List.length_reverse];exact c)
        have ea1:rows.reverse.take (i+1)=rows.reverse:=List.take_of_length_le (by rw[List.length_reverse];omega)
        obtain⟨m1,m2⟩:=M.qm _ hpm
        obtain⟨n1,n2⟩:=M.qn hpm
        have hlt:∀l∈qs.take (i-rows.length),ltPP l (x',y')=true:=fun l hl=>by
          have h1:=M.ql
          rw[←List.take_append_drop (i-rows.length) qs] at h1
          refine (List.pairwise_append.mp h1).2.2 l hl _ ?_
          rw[List.drop_eq_getElem_cons hj,←epq]
          exact List.mem_cons_self ..
        have en:nvOf rows.length (i+1)=nvOf rows.length i:=by
          unfold nvOf
          rw[if_neg (by omega),if_neg (by omega),show rows.length-(i+1)=rows.length-i by omega]
        have eq':qs.take (i+1-rows.length)=qs.take (i-rows.length)++[(x',y')]:=by
          rw[show i+1-rows.length=i-rows.length+1 by omega,List.take_add_one,hpq]
          rfl
        refine⟨_,rfl,r,dx3,_,rfl,h3,zpu _ _ _ _ (by decide +kernel),_,rfl,r,_,rfl,.inr ⟨r,pr,dk,pp,_,cs,_,_,bs,_,x',y',rfl,R3,n1,n2,by rw[ea];exact flat_rev_mem.mpr m1,by rw[ea];exact flat_rev_mem.mpr m2,hlt,by rw[List.length_take];omega,fun a H4 ha R4 k4=>?_⟩⟩
        refine⟨_,rfl,iteF ?_⟩
        refine⟨_,_,cs,bs++[a],rfl,?_,kfin (q.trans sT) k4,k4 _ _ (sT _ _ el) nl1 nl2 nl3 nl4,fc⟩
        rw[en,eq',ea1]
        rw[ea] at R4
        exact R4
    rintro σ H3 ⟨v3,v4,cs,bs,rfl,R,q,el,fc⟩
    rw[List.length_map,lN] at R
    have ea:rows.reverse.take (rows.length+qs.length)=rows.reverse:=List.take_of_length_le (by rw[List.length_reverse];omega)
    have eb:qs.take (rows.length+qs.length-rows.length)=qs:=List.take_of_length_le (by omega)
    have ec:nvOf rows.length (rows.length+qs.length) = .int 0:=by
      unfold nvOf
      rw[if_neg (by omega),show rows.length-(rows.length+qs.length)=0 by omega]
      rfl
    rw[ea,eb,ec] at R
    obtain⟨dx3,h3⟩:=R.ob
    try unfold zbd;try dsimp only
    refine⟨_,rfl,r,C_MatrixReading,dx3,_,_,rfl,h3,T.zh,T.zaa,rM_n _ _ _ _,rfl,_,rfl,?_⟩
    rw[decide_eq_true rfl]
    refine iteF ?_
    try unfold zbd;try dsimp only
    refine⟨_,rfl,r,C_MatrixReading,dx3,_,_,rfl,h3,T.zh,T.za5,rM_r _ _ _ _,pr,_,rfl,SqL.of R.r,fun a ha=>?_⟩
    rw[←List.map_reverse]
    have t4:=Same.new (o:=.lst (cs.reverse.map V.ref)) ha
    refine⟨_,rfl,r,C_MatrixReading,dx3,_,_,rfl,t4 _ _ h3,T.zh,T.zac,rM_p _ _ _ _,by show 2<=sizeLine;decide,fun t ht=>?_⟩
    have t5:=Same.new (o:=.tup [.ref a,.ref pp]) ht
    have q5:=t4.trans t5
    have R5:=R.same q5
    have pv:=zl0 R5.rr
    rw[List.reverse_reverse] at pv
    refine k t a pp cs.reverse bs _ (q.trans q5) (q.free (t4.free ht)) (q.free ha) fp (fun c hc=>fc c (List.mem_reverse.mp hc)) zb (t5 _ _ zb) pv R5.q R5.qq (ze R.q ha).symm (fun z=>?_) (fun z=>R.n3 (List.mem_reverse.mp z))
    have z:=List.mem_reverse.mp z
    obtain⟨j,hj⟩:=List.mem_iff_getElem?.mp z
    obtain⟨row,_,e⟩:=Paired.get' R.rr hj
    rw[ha] at e
    cases e
def zu2:Sp:=fun vs H Q _=>∃(word:Str) (c:Int) (k:Nat),vs = [.str word,.int c,.int k]/\word.length<=12/\k<64/\Q (.str (numT word (decide (c%2=1)) k)) H
theorem zc4 (T:Tx K mg w C_MatrixReading):Has P w K mg base "_law_numbered" ["_law_word","_law_cell","_law_k"] 1 zu2:=by
  refine T.zf1.has zes (fun vs H Q E h=>?_) (fun f cdv A outer s H vs Q E hr h=>?_)
  · obtain⟨word,c,i,rfl,_⟩:=h;rfl
  · obtain⟨word,c,i,rfl,hw,hi,k⟩:=h
    refine⟨_,(zc (za3 (zab zf2 (za6 ze8 (pv 1) zj) zj (zai _)) (zg (zw (za6 zay (za6 zay (zbu zcx (by rfl) T.str PyProof.Rows.boot_str (za (pv 2) zd)) zas) (pv 0)))) zz)
      (zg (zw (za6 zay (za6 zay (pv 0) zas) (zbu zcx (by rfl) T.str PyProof.Rows.boot_str (za (pv 2) zd)))))),?_⟩
    have hn:=zdn i hi
    have e1:(Str.ofString "-" : Str).length=1:=by decide +kernel
    refine⟨_,rfl,_,_,rfl,rfl,(by decide:(0:Int)<2),rfl,_,rfl,?_⟩
    unfold numT at k
    by_cases h:c%2=1
    · rw[decide_eq_true h,if_pos rfl] at k
      rw[decide_eq_true (congrArg V.int h)]
      refine iteT ?_
      refine⟨_,rfl,(i:Int),rfl,Nat.lt_of_le_of_lt (Nat.log2_le_self _) (by omega),_,_,rfl,rfl,zr (by omega),_,rfl,_,_,rfl,rfl,zr ?_,k⟩
      rw[←zq,zy,List.length_append,zq,zq]
      omega
    · rw[decide_eq_false h,if_neg (by decide)] at k
      rw[decide_eq_false (fun z=>h (V.int.inj z))]
      refine iteF ?_
      try unfold zbd;try dsimp only
      refine⟨_,rfl,_,_,rfl,rfl,zr (by omega),_,rfl,(i:Int),rfl,Nat.lt_of_le_of_lt (Nat.log2_le_self _) (by omega),_,_,rfl,rfl,zr ?_,k⟩
      rw[←zq,zy,List.length_append,zq,zq]
      omega
def zu3:Sp:=fun vs H Q _=>∃(word:Str) (c:Int) (pc:Addr) (cells:List Int),vs = [.str word,.int c,.ref pc]/\word.length<=12/\SqL K H pc (cells.map V.int)/\cells.length<=60/\
  ∀(q:Addr) (cs:List Addr) (gs:List (List Str)) (H':Hp),Same H H'->H q=none->H' q=some (.lst (cs.map V.ref))->(∀c∈cs,H c=none)->Paired (fun c g=>H' c=some (.lst (g.map V.str))) cs gs->(∀g∈gs,g≠[])->(∀g∈gs,zfj g)->gs.flatten.Perm (zea word (decide (c%2=1)) cells.length)->Q (.ref q) H'
set_option maxHeartbeats 8000000 in
theorem zh0 (T:Tx K mg w C_MatrixReading):Has P w K mg base "_law_groups" ["_law_word","_law_first","_law_cells"] 2 (zu3 (K:=K)):=by
  refine T.zh5.has sc__law_groups (fun vs H Q E h=>?_) (fun f cdv A outer s H vs Q E hr h=>?_)
  · obtain⟨word,c,pc,cells,rfl,_⟩:=h;rfl
  · obtain⟨word,c,pc,cells,rfl,hw,hc,hl,k⟩:=h
    refine⟨_,(zc (zp (i:=3) sc__law_groups.nd rfl (Or.inl rfl) (zaj zd))
      (zc (za2 PassesOwn.never rfl (zci (by rfl) T.range (za (zn (zx K rfl) (by rfl) T.len boot_len (za (pv 2) zd)) zd)) (zm (i:=4) sc__law_groups.nd rfl (Or.inl rfl)) (zc (zp (i:=5) sc__law_groups.nd rfl (Or.inl rfl) (zae (zc4 T) (hr.mono (by decide)) (by rfl) (za (pv 0) (za (pv 1) (za (pv 4) zd)))))
        (zg (za3 (PW.pt (ze6 (zab (zff K rfl (hu10 hr)) (pv 3) (zaj zd) (zai _)) (zdp (zab zf2 (zae (zax T) (hr.mono (by decide)) (by rfl) (za (zan (zaf K rfl) (pv 2) (pv 4) (fun _ _=>rfl)) (za zj (za zj zd)))) zj (zai _))))) (zg (zaq (zau K rfl PySem.F.plainAttrs_list PySem.F.slot_list_append PySem.F.type_list_append zag (pv 3) (za (zaj (za (pv 5) zd)) zd)))) (zg (zaq (zau K rfl PySem.F.plainAttrs_list PySem.F.slot_list_append PySem.F.type_list_append zag (zan (zaf K rfl) (pv 3) (zae (zax T) (hr.mono (by decide)) (by rfl) (za (zan (zaf K rfl) (pv 2) (pv 4) (fun _ _=>rfl)) (za zj (za (zn (zx K rfl) (by rfl) T.len boot_len (za (pv 3) zd)) zd)))) (fun _ _=>rfl)) (za (pv 5) zd))))))))
      (zg (zw (zcs (own:=["_law_group"]) (cap:=[]) (ix:=[]) (osc:=zi (top 40)) rfl ⟨rfl,by decide +kernel,by decide +kernel,by decide +kernel,by decide +kernel⟩ rfl (zad K rfl (pv 3)) (fun _ _ _ _=>zm (i:=0) (show List.Nodup (["_law_group"]:List Str) by decide +kernel) rfl (Or.inl rfl)) (fun _ _ _ _=>zbv) (fun _ _ _ _=>(zn (zb9 (K:=K) rfl) (by rfl) T.sorted PyProof.Rows.boot_sorted (za (pv 0) zd)))))))),?_⟩
    refine⟨by decide,fun D hD=>?_⟩
    have t1:=Same.new (o:=.lst []) hD
    have e1:upd H D (.lst []) D=some (.lst []):=zb
    generalize upd H D (.lst [])=H1 at t1 e1
    try dsimp only [zv]
    refine⟨_,rfl,pc,_,rfl,.inl (t1.seq hc),(cells.length:Int),by rw[List.length_map],by omega,by omega,?_⟩
    refine zdq (lo:=0) (n:=cells.length) (fun i σ H'=>∃(v4 v5:Option V) (cs:List Addr) (gs:List (List Str)),σ = [some (.str word),some (.int c),some (.ref pc),some (.ref D),v4,v5]/\Same H H'/\H' D=some (.lst (cs.map V.ref))/\Paired (fun c g=>H' c=some (.lst (g.map V.str))) cs gs/\D ∉ cs/\cs.Nodup/\(∀c∈cs,H c=none)/\(∀g∈gs,g≠[])/\gs.flatten.Perm (zea word (decide (c%2=1)) i)/\gs.length<=i)
      ⟨none,none,[],[],rfl,t1,e1,.nil,(fun h=>nomatch h),List.nodup_nil,(fun _ h=>nomatch h),(fun _ h=>nomatch h),.refl _,Nat.le_refl _⟩ ?_ ?_
    · rintro i σ H2 hi ⟨v4,v5,cs,gs,rfl,q,hD2,pr,nD,nd,fc,ne,pm,lg⟩
      have hc2:=q.seq hc
      have lcs:=Paired.length pr
      have ez:(0:Int)+(i:Int)=(i:Int):=Int.zero_add _
      try dsimp only [zv]
      refine⟨_,rfl,_,rfl,_,rfl,word,c,i,by rw[ez];rfl,hw,by omega,?_⟩
      try dsimp only [zv]
      have pm':(zea word (decide (c%2=1)) (i+1))=zea word (decide (c%2=1)) i++[numT word (decide (c%2=1)) i]:=by
        unfold zea
        rw[List.range_succ,List.map_append]
        rfl
      have xa:atI (cells.map V.int) (0+(i:Int))=some (.int (cells.getD i 0)):=by
        rw[ez]
        exact zba (by rw[List.getElem?_map,List.getElem?_eq_getElem hi,List.getD_eq_getElem?_getD,List.getElem?_eq_getElem hi];rfl)
      generalize numT word (decide (c%2=1)) i=nm at pm'
      refine zaw (decide (gs = [])||decide (pt (cells.getD i 0) 1 3=0)) (fun Q' hQ=>?_) (fun H3 s3=>?_)
      · refine⟨_,rfl,by decide,fun e he=>?_⟩
        have t3:=Same.new (o:=.lst []) he
        refine⟨D,e,_,rfl,rfl,DEq.nilL (SqL.of (t3 _ _ hD2)) (SqL.of zb),_,rfl,?_⟩
        have eg:decide (cs.map V.ref = [])=decide (gs = []):=decide_eq_decide.mpr ⟨fun z=>List.length_eq_zero_iff.mp (by rw[←lcs,←List.length_map (f:=V.ref),z];rfl),fun z=>List.length_eq_zero_iff.mp (by rw[List.length_map,lcs,z];rfl)⟩
        rw[eg]
        cases hg:decide (gs = []) with
        | true=>
          rw[hg] at hQ
          exact iteT (hQ _ t3)
        | false=>
          rw[hg,Bool.false_or] at hQ
          refine iteF ⟨_,rfl,_,rfl,pc,_,_,_,rfl,rfl,t3.seq hc2,xa,_,_,_,rfl,by decide,rfl,_,rfl,?_⟩
          rw[show decide (V.int (pt (cells.getD i 0) 1 3)=V.int 0)=decide (pt (cells.getD i 0) 1 3=0) from decide_eq_decide.mpr ⟨fun z=>V.int.inj z,fun z=>congrArg V.int z⟩]
          exact hQ _ t3
      have q3:=q.trans s3
      have hD3:=s3 _ _ hD2
      have pr3:Paired (fun c g=>H3 c=some (.lst (g.map V.str))) cs gs:=Paired.mapP pr fun _ _ h=>s3 _ _ h
      have hc3:=q3.seq hc
      refine ite2 (fun cc=>?_) (fun cc=>?_)
      · refine⟨_,rfl,.inl ⟨rfl,_,SqL.of hD3⟩,_,rfl,by show 1<=sizeLine;decide,fun a ha=>?_⟩
        have t4:=Same.new (o:=.lst [.str nm]) ha
        have nDa:D≠a:=ze hD3 ha
        refine⟨D,_,_,rfl,rfl,t4 _ _ hD3,by rw[List.length_map];exact zo (by omega),?_⟩
        have q4:=q3.trans t4
        refine⟨_,_,cs++[a],gs++[[nm]],rfl,q4.upd hD,by rw[zb,List.map_append];rfl,?_,?_,?_,?_,?_,?_,?_⟩
        · refine Paired.snoc (zcu pr3 fun d hd g h=>?_) ?_
          · have n:d≠D:=fun z=>nD (z▸hd)
            rw[zf n]
            exact t4 _ _ h
          · rw[zf nDa.symm,zb];rfl
        · intro z
          rcases List.mem_append.mp z with z | z
          · exact nD z
          · exact nDa (List.mem_singleton.mp z)
        · refine List.nodup_append.mpr ⟨nd,by simp,fun x hx y hy z=>?_⟩
          have hy:=List.mem_singleton.mp hy
          subst z hy
          obtain⟨j,hj⟩:=List.mem_iff_getElem?.mp hx
          obtain⟨g,_,h⟩:=Paired.get' pr3 hj
          rw[ha] at h
          cases h
        · intro d hd
          rcases List.mem_append.mp hd with hd | hd
          · exact fc d hd
          · rw[List.mem_singleton.mp hd];exact q3.free ha
        · intro g hg
          rcases List.mem_append.mp hg with hg | hg
          · exact ne g hg
          · rw[List.mem_singleton.mp hg];exact List.cons_ne_nil _ _
        · rw[List.flatten_append,List.flatten_cons,List.flatten_nil,List.append_nil,pm']
          exact pm.append_right _
        · rw[List.length_append]
          show gs.length+1<=_
          omega
      · have cc:¬gs = []:=fun z=>cc (by rw[decide_eq_true z];rfl)
        have l0:0<gs.length:=List.length_pos_iff.mpr cc
        obtain⟨p1,p2⟩:=zmh (cells.getD i 0) 2 (gs.length:Int) (by omega)
        obtain⟨j,ej⟩:∃j:Nat,pt (cells.getD i 0) 2 (gs.length:Int)=(j:Int):=⟨(pt (cells.getD i 0) 2 (gs.length:Int)).toNat,by omega⟩
        have hj:j<gs.length:=by omega
        have hjc:j<cs.length:=by omega
        obtain⟨d,ed⟩:∃d,cs[j]? = some d:=⟨_,List.getElem?_eq_getElem hjc⟩
        obtain⟨g,eg,hg⟩:=Paired.get' pr3 ed
        have nDd:d≠D:=fun z=>nD (z▸List.mem_of_getElem? ed)
        have lgg:g.length<=gs.flatten.length:=zca (List.mem_of_getElem? eg)
        rw[pm.length_eq,zfu] at lgg
        refine⟨_,rfl,_,rfl,_,rfl,pc,_,_,_,rfl,rfl,hc3,xa,_,rfl,D,_,rfl,.inl (SqL.of hD3),_,_,((cs.map V.ref).length:Int),rfl,by rw[List.length_map];omega,D,_,(j:Int),.ref d,rfl,?_,SqL.of hD3,zba (by rw[List.getElem?_map,ed];rfl),.inl ⟨rfl,_,SqL.of hg⟩,?_⟩
        · rw[List.length_map,lcs,ej]
        refine⟨_,rfl,d,_,_,rfl,rfl,hg,by rw[List.length_map];exact zo (by omega),?_⟩
        refine⟨_,_,cs,gs.set j (g++[nm]),rfl,q3.upd (fc d (List.mem_of_getElem? ed)),by rw[zf nDd.symm];exact hD3,?_,nD,nd,fc,?_,?_,by rw[List.length_set];omega⟩
        · have:=zl2 (g':=g++[nm]) pr3 nd ed
          rw[List.map_append] at this
          exact this
        · intro g' hg'
          rcases List.mem_or_eq_of_mem_set hg' with h | h
          · exact ne g' h
          · rw[h];simp
        · rw[pm']
          exact (zl1 eg).trans (pm.append_right _)
    rintro σ H2 ⟨v4,v5,cs,gs,rfl,q,hD2,pr,nD,nd,fc,ne,pm,lg⟩
    have lcs:=Paired.length pr
    try unfold zbd;try dsimp only
    refine⟨_,rfl,D,rfl,⟨_,SqL.of hD2⟩,fun E' hE=>?_⟩
    refine zb7 (zc6 (K:=K) (a:=D) (xs:=cs.map V.ref)) (fun i σ' ys H'=>∃(w0:Option V) (ds:List Addr),σ' = [w0]/\ys=ds.map V.ref/\Same H2 H'/\H' E'=some (.lst ys)/\(∀d∈ds,H2 d=none/\d≠E')/\Paired (fun c g=>H' c=some (.lst (g.map V.str))) ds ((gs.take i).map srt))
      ⟨none,[],rfl,rfl,Same.new hE,zb,(fun _ h=>nomatch h),.nil⟩ (fun i σ' ys H' h=>?_) (by rw[List.length_map];exact zr (by omega)) ?_ ?_
    · obtain⟨_,ds,_,rfl,q',hd,_,pd⟩:=h
      refine⟨SqL.of (q' _ _ hD2),hd,?_⟩
      have:=Paired.length pd
      rw[List.length_map,List.length_take] at this
      rw[List.length_map]
      omega
    · rintro i v σ' ys H3 hx ⟨w0,ds,rfl,rfl,q',hd,fd,pd⟩
      have hix:=zav hx
      rw[List.length_map] at hix
      rw[List.getElem?_map,List.getElem?_eq_getElem hix] at hx
      cases hx
      obtain⟨g,eg,hg⟩:=Paired.get' pr (List.getElem?_eq_getElem hix)
      have hg3:=q' _ _ hg
      have lgg:g.length<=gs.flatten.length:=zca (List.mem_of_getElem? eg)
      rw[pm.length_eq,zfu] at lgg
      try dsimp only [zv]
      unfold tYes
      dsimp only
      rw[if_pos rfl]
      refine⟨_,rfl,_,g,rfl,SqL.of hg3,by omega,fun d ms hd' pm' rs=>?_⟩
      have em:=zll pm' rs
      subst em
      have t1:=Same.new (o:=.lst ((srt g).map V.str)) hd'
      have nd':E'≠d:=ze hd hd'
      refine⟨t1 _ _ hd,zf4 (by rw[List.length_map];exact hix) ⟨_,ds++[d],rfl,by rw[List.map_append];rfl,(q'.trans t1).upd hE,by rw[zb],fun b hb=>?_,?_⟩⟩
      · rcases List.mem_append.mp hb with hb | hb
        · exact fd b hb
        · rw[List.mem_singleton.mp hb];exact⟨q'.free hd',nd'.symm⟩
      · rw[List.take_add_one,eg,List.map_append]
        refine Paired.snoc (zcu pd fun b hb g' h=>?_) ?_
        · rw[zf (fd b hb).2]
          exact t1 _ _ h
        · rw[zf nd'.symm,zb]
    rintro σ' ys H3 ⟨w0,ds,rfl,rfl,q',hd,fd,pd⟩
    rw[List.length_map,lcs,List.take_length] at pd
    refine k E' ds (gs.map srt) H3 (q.trans q') (q.free hE) hd (fun d hd=>q.free (fd d hd).1) pd (fun g hg=>?_) (fun g hg=>?_) ?_
    · obtain⟨g0,h0,rfl⟩:=List.mem_map.mp hg
      intro z
      apply ne g0 h0
      have:=zha g0
      rw[z] at this
      exact List.length_eq_zero_iff.mp this.symm
    · obtain⟨g0,h0,rfl⟩:=List.mem_map.mp hg
      exact zd4 g0
    · refine List.Perm.trans ?_ pm
      clear pm pd pr ne lg lcs
      induction gs with
      | nil=>exact .refl _
      | cons g gs ih=>exact List.Perm.append (zc8 g) ih
def zws:Sp:=fun vs H Q _=>∃(pn pc:Addr) (names:List Str) (cells:List Int),vs = [.ref pn,.ref pc]/\SqL K H pn (names.map V.str)/\SqL K H pc (cells.map V.int)/\names.length<=60/\cells.length<=60/\
  ∀(D:Addr) (bs:List Addr) (qs:List SS) (H':Hp),Same H H'->H D=none->H' D=some (.lst (bs.map V.ref))->Paired (fun a (p:SS)=>SqT K H' a [.str p.1,.str p.2]) bs qs->qs.Pairwise (fun a b=>ltPP a b=true)->qs.length<=cells.length->(∀p∈qs,p.1∈names/\p.2∈names)->Q (.ref D) H'
set_option maxHeartbeats 8000000 in
theorem zjp (T:Tx K mg w C_MatrixReading):Has P w K mg base "_law_pairs" ["_law_names_here","_law_cells"] 2 (zws (K:=K)):=by
  refine T.zju.has sc__law_pairs (fun vs H Q E h=>?_) (fun f cdv A outer s H vs Q E hr h=>?_)
  · obtain⟨pn,pc,names,cells,rfl,_⟩:=h;rfl
  · obtain⟨pn,pc,names,cells,rfl,hn,hc,ln,lc,k⟩:=h
    refine⟨_,(zc (zp (i:=2) sc__law_pairs.nd rfl (Or.inl rfl) (zaj zd))
      (zc (za2 PassesOwn.never rfl (zad K rfl (pv 1)) (zm (i:=3) sc__law_pairs.nd rfl (Or.inl rfl)) (zg (za3 (zab (zdj K rfl (hu10 hr)) (pv 0) (zaj zd) (zai _)) (zc (zp (i:=4) sc__law_pairs.nd rfl (Or.inl rfl) (zcj (za (zan (zaf K rfl) (pv 0) (zae (zax T) (hr.mono (by decide)) (by rfl) (za (pv 3) (za zj (za (zn (zx K rfl) (by rfl) T.len boot_len (za (pv 0) zd)) zd)))) (fun _ _=>rfl)) (za (zan (zaf K rfl) (pv 0) (zae (zax T) (hr.mono (by decide)) (by rfl) (za (pv 3) (za zj (za (zn (zx K rfl) (by rfl) T.len boot_len (za (pv 0) zd)) zd)))) (fun _ _=>rfl)) zd))))
          (zg (za3 (zab (zgk K rfl (hu11 hr)) (pv 4) (pv 2) (by with_unfolding_all rfl)) (zg (zaq (zau K rfl PySem.F.plainAttrs_list PySem.F.slot_list_append PySem.F.type_list_append zag (pv 2) (za (pv 4) zd)))) zz))) zz)))
      (zg (zw (zn (zjb (K:=K) rfl) (by rfl) T.sorted PyProof.Rows.boot_sorted (za (pv 2) zd)))))),?_⟩
    refine⟨by decide,fun D hD=>?_⟩
    have t1:=Same.new (o:=.lst []) hD
    have e1:upd H D (.lst []) D=some (.lst []):=zb
    generalize upd H D (.lst [])=H1 at t1 e1
    try dsimp only [zv]
    refine⟨_,rfl,pc,rfl,⟨_,t1.seq hc⟩,?_⟩
    refine zam (K:=K) (a:=pc) (xs:=cells.map V.int) (fun i σ H'=>∃(v3 v4:Option V) (as:List Addr) (ps:List SS),σ = [some (.ref pn),some (.ref pc),some (.ref D),v3,v4]/\Same H H'/\H' D=some (.lst (as.map V.ref))/\TupsS H' as ps/\ps.Nodup/\ps.length<=i/\∀p∈ps,p.1∈names/\p.2∈names)
      ⟨none,none,[],[],rfl,t1,e1,.nil,List.nodup_nil,Nat.le_refl _,(fun _ h=>nomatch h)⟩ (fun i σ H' _ h=>by obtain⟨_,_,_,_,_,q,_⟩:=h;exact q.seq hc) ?_ ?_
    · rintro i v σ H2 hx ⟨v3,v4,as,ps,rfl,q,hD2,ta,pn',pl,pm⟩
      have hi:=zav hx
      rw[List.length_map] at hi
      rw[List.getElem?_map,List.getElem?_eq_getElem hi] at hx
      cases hx
      have la:=Paired.length ta
      try dsimp only [zv]
      refine zaw (!decide (names = [])) (fun Q' hQ=>?_) (fun H3 s3=>?_)
      · refine⟨_,rfl,by decide,fun e he=>?_⟩
        have t3:=Same.new (o:=.lst []) he
        refine⟨pn,e,_,rfl,rfl,DEq.nilL (t3.seq (q.seq hn)) (SqL.of zb),_,rfl,?_⟩
        rw[show decide (names.map V.str = [])=decide (names = []) from decide_eq_decide.mpr List.map_eq_nil_iff]
        exact hQ _ t3
      have q3:=q.trans s3
      have hD3:=s3 _ _ hD2
      have ta3:TupsS H3 as ps:=Paired.mapP ta fun _ _ h=>s3 _ _ h
      have hn3:=q3.seq hn
      refine ite2 (fun c=>?_) (fun c=>?_)
      · have c:¬names = []:=by simpa using c
        have l0:0<names.length:=List.length_pos_iff.mpr c
        have ix:∀j:Int,∃x:Str,x∈names/\atI (names.map V.str) (pt cells[i] j ((names.map V.str).length:Int))=some (.str x):=fun j=>by
          rw[List.length_map]
          obtain⟨p1,p2⟩:=zmh cells[i] j (names.length:Int) (by omega)
          obtain⟨m,em⟩:∃m:Nat,pt cells[i] j (names.length:Int)=(m:Int):=⟨(pt cells[i] j (names.length:Int)).toNat,by omega⟩
          have hm:m<names.length:=by omega
          rw[em]
          exact⟨names[m],List.getElem_mem _,zba (by rw[List.getElem?_map,List.getElem?_eq_getElem hm];rfl)⟩
        obtain⟨x,hx,ax⟩:=ix 1
        obtain⟨y,hy,ay⟩:=ix 2
        have lm:(0:Int)<((names.map V.str).length:Int):=by rw[List.length_map];omega
        refine⟨_,rfl,_,rfl,_,rfl,pn,_,rfl,.inl hn3,_,_,_,rfl,lm,pn,_,_,_,rfl,rfl,hn3,ax,?_⟩
        refine⟨_,rfl,_,rfl,_,rfl,pn,_,rfl,.inl hn3,_,_,_,rfl,lm,pn,_,_,_,rfl,rfl,hn3,ay,by show 2<=sizeLine;decide,fun b0 hb0=>?_⟩
        have t4:=Same.new (o:=.tup [.str x,.str y]) hb0
        have hb4:upd H3 b0 (.tup [.str x,.str y]) b0=some (.tup (ssV (x,y))):=zb
        have q4:=q3.trans t4
        have hD4:=t4 _ _ hD3
        have ta4:TupsS (upd H3 b0 (.tup [.str x,.str y])) as ps:=Paired.mapP ta3 fun _ _ h=>t4 _ _ h
        generalize upd H3 b0 (.tup [.str x,.str y])=H4 at t4 hb4 q4 hD4 ta4
        try dsimp only [zv]
        refine⟨_,rfl,_,rfl,D,_,_,rfl,.inl (SqL.of hD4),ta4.deq (n:=7) hb4,_,rfl,?_⟩
        rw[if_pos rfl,ta4.any]
        refine ite2 (fun c2=>?_) (fun c2=>?_)
        · have c2:¬(x,y)∈ps:=by simpa using c2
          refine⟨_,rfl,.inl ⟨rfl,_,SqL.of hD4⟩,_,rfl,D,_,_,rfl,rfl,hD4,by rw[List.length_map];exact zo (by omega),?_⟩
          refine⟨_,_,as++[b0],ps++[(x,y)],rfl,q4.upd hD,by rw[zb,List.map_append];rfl,Paired.snoc (Paired.mapP ta4 fun c q e=>zc7 hD4 _ _ e) (zc7 hD4 _ _ hb4),?_,by rw[List.length_append];exact Nat.succ_le_succ pl,fun p hp=>?_⟩
          · refine List.nodup_append.mpr ⟨pn',by simp,fun u hu w hw z=>?_⟩
            rw[List.mem_singleton.mp hw] at z
            exact c2 (z▸hu)
          · rcases List.mem_append.mp hp with hp | hp
            · exact pm p hp
            · rw[List.mem_singleton.mp hp];exact⟨hx,hy⟩
        · exact⟨_,_,as,ps,rfl,q4,hD4,ta4,pn',by omega,pm⟩
      · exact⟨_,_,as,ps,rfl,q3,hD3,ta3,pn',by omega,pm⟩
    rintro σ H2 ⟨v3,v4,as,ps,rfl,q,hD2,ta,pn',pl,pm⟩
    rw[List.length_map] at pl
    try unfold zbd;try dsimp only
    refine⟨_,rfl,D,as,ps,rfl,SqL.of hD2,Paired.mapP ta fun _ _ h=>SqT.of h,pn',by omega,fun E' bs qs hE pb pq rs=>?_⟩
    have t3:=Same.new (o:=.lst (bs.map V.ref)) hE
    exact k E' bs qs _ (q.trans t3) (q.free hE) zb (Paired.mapP pb fun _ _ h=>t3.tup h) rs (by rw[pq.length_eq];exact pl) fun p hp=>pm p (pq.mem_iff.mp hp)
def zr9:Sp:=fun vs H Q _=>∃(pg pp:Addr) (cs bs:List Addr) (rows:List (List Str)) (qs:List SS),vs = [.ref pg,.ref pp]/\H pg=some (.lst (cs.map V.ref))/\Paired (fun c row=>H c=some (.lst (row.map V.str))) cs rows/\H pp=some (.lst (bs.map V.ref))/\Paired (fun a (p:SS)=>SqT K H a [.str p.1,.str p.2]) bs qs/\MatOk rows qs/\
  ∀H',Same H H'->Q (.str (Txt.join "\n" (mTx rows qs))) H'
theorem znd (l0:Str) (xs:List Str) (x:Str):zd6 l0 (xs++[x])=zd6 l0 xs++Str.ofString " " ++ x:=by unfold zd6;rw[List.foldl_append];rfl
set_option maxHeartbeats 8000000 in
theorem zkr (T:Tx K mg w C_MatrixReading):Has P w K mg base "_law_text" ["_law_groups_here","_law_pairs_here"] 1 (zr9 (K:=K)):=by
  refine T.zkw.has sc__law_text (fun vs H Q E h=>?_) (fun f cdv A outer s H vs Q E hr h=>?_)
  · obtain⟨pg,pp,cs,bs,rows,qs,rfl,_⟩:=h;rfl
  · obtain⟨pg,pp,cs,bs,rows,qs,rfl,hg,pr,hp,pq,M,k⟩:=h
    refine⟨_,(zc (zp (i:=2) sc__law_text.nd rfl (Or.inl rfl) (zaj zd))
      (zc (za2 PassesOwn.never rfl (zci (by rfl) T.range (za (zn (zx K rfl) (by rfl) T.len boot_len (za (pv 0) zd)) zd)) (zm (i:=3) sc__law_text.nd rfl (Or.inl rfl)) (zc (zp (i:=4) sc__law_text.nd rfl (Or.inl rfl) (za6 zh9 (za6 zh9 (zn (zx K rfl) (by rfl) T.len boot_len (za (pv 0) zd)) zj) (pv 3)))
        (zc (zp (i:=5) sc__law_text.nd rfl (Or.inl rfl) (za6 zay (zbu zcx (by rfl) T.str PyProof.Rows.boot_str (za (pv 4) zd)) zas))
        (zc (za2 PassesOwn.never rfl (zad K rfl (zan (zaf K rfl) (pv 0) (pv 4) (fun _ _=>rfl))) (zm (i:=6) sc__law_text.nd rfl (Or.inl rfl)) (zg (zp (i:=5) sc__law_text.nd rfl (Or.inl rfl) (za6 zay (za6 zay (pv 5) zas) (pv 6)))))
        (zg (zaq (zau K rfl PySem.F.plainAttrs_list PySem.F.slot_list_append PySem.F.type_list_append zag (pv 2) (za (pv 5) zd))))))))
      (zc (za2 PassesOwn.never rfl (zad K rfl (pv 1)) (zct K rfl rfl (zal (zm (i:=7) sc__law_text.nd rfl (Or.inl rfl)) (zal (zm (i:=8) sc__law_text.nd rfl (Or.inl rfl)) zcq))) (zg (zaq (zau K rfl PySem.F.plainAttrs_list PySem.F.slot_list_append PySem.F.type_list_append zag (pv 2) (za (za6 zay (za6 zay (pv 7) zas) (pv 8)) zd)))))
      (zg (zw (zau K rfl PySem.F.plainAttrs_str PySem.F.slot_str_join PySem.F.type_str_join (zg5 K rfl) zas (za (pv 2) zd))))))),?_⟩
    have hr63:=M.rl
    have lcs:=Paired.length pr
    have lbs:=Paired.length pq
    have l63:=M.l2
    have lcm:(cs.map V.ref).length=rows.length:=by rw[List.length_map];exact lcs
    refine⟨by decide,fun D hD=>?_⟩
    have t1:=Same.new (o:=.lst []) hD
    have e1:upd H D (.lst []) D=some (.lst []):=zb
    generalize upd H D (.lst [])=H1 at t1 e1
    try dsimp only [zv]
    refine⟨_,rfl,pg,_,rfl,.inl (SqL.of (t1 _ _ hg)),(rows.length:Int),by rw[lcm],by omega,by omega,?_⟩
    refine zdq (lo:=0) (n:=rows.length) (fun i σ H'=>∃(v3 v4 v5 v6:Option V),σ = [some (.ref pg),some (.ref pp),some (.ref D),v3,v4,v5,v6,none,none]/\Same H H'/\H' D=some (.lst (((mTx rows qs).take i).map V.str)))
      ⟨none,none,none,none,rfl,t1,e1⟩ ?_ ?_
    · rintro i σ H2 hi ⟨v3,v4,v5,v6,rfl,q,hD2⟩
      have hg2:=q _ _ hg
      have ez:((cs.map V.ref).length:Int)-1-(0+(i:Int))=((rows.length-1-i:Nat):Int):=by rw[lcm];omega
      obtain⟨hm,hgd⟩:=zd8 (rows:=rows) (i:=rows.length-1-i) (by omega)
      have hjc:rows.length-1-i<cs.length:=by omega
      obtain⟨d,ed⟩:∃d,cs[rows.length-1-i]? = some d:=⟨_,List.getElem?_eq_getElem hjc⟩
      obtain⟨names,en,hd⟩:=Paired.get' pr ed
      rw[hgd] at en
      have en:=Option.some.inj en
      rw[en] at hm
      have hd2:=q _ _ hd
      have hn:=zdn (rows.length-1-i) (by omega)
      have e1:(Str.ofString ":" : Str).length=1:=by decide +kernel
      have e32:(Str.ofString " " : Str).length=1:=by decide +kernel
      have er:=zhl ((rows.length-1-i:Nat):Int) (M.rne _ hm)
      have snoc:(mTx rows qs).take (i+1)=(mTx rows qs).take i++[rowT ((rows.length-1-i:Nat):Int) names]:=by
        rw[List.take_add_one,zkm hi,en]
        rfl
      have at1:atI (cs.map V.ref) ((rows.length-1-i:Nat):Int)=some (.ref d):=zba (by rw[List.getElem?_map,ed];rfl)
      have h12:∀x∈names,x.length<=12:=fun x hx=>zbc (M.nm _ hm x hx)
      have l6:=M.rw63 hm
      obtain⟨l0,el0⟩:∃l0:Str,l0=(Str.ofString (toString ((rows.length-1-i:Nat):Int))++Str.ofString ":" : Str):=⟨_,rfl⟩
      have ll0:l0.length<=3:=by
        rw[el0,←zq,zy,List.length_append,zq,zq]
        omega
      have er:rowT ((rows.length-1-i:Nat):Int) names=zd6 l0 names:=by rw[el0];exact er
      rw[er] at snoc
      try dsimp only [zv]
      refine⟨_,rfl,pg,_,rfl,.inl (SqL.of hg2),_,_,rfl,rfl,_,rfl,_,_,rfl,rfl,?_⟩
      try dsimp only [zv]
      rw[ez]
      refine⟨_,rfl,_,rfl,Nat.lt_of_le_of_lt (Nat.log2_le_self _) (by omega),_,_,rfl,rfl,zr (by rw[e1];exact Nat.le_trans (Nat.add_le_add_right hn 1) (by decide)),?_⟩
      try dsimp only [zv]
      refine⟨_,rfl,_,rfl,pg,_,_,_,rfl,rfl,SqL.of hg2,at1,d,rfl,⟨_,SqL.of hd2⟩,?_⟩
      refine zam (K:=K) (a:=d) (xs:=names.map V.str) (fun j σ H'=>∃(v6:Option V),σ = [some (.ref pg),some (.ref pp),some (.ref D),some (.int (0+(i:Int))),some (.int ((rows.length-1-i:Nat):Int)),some (.str (zd6 l0 (names.take j))),v6,none,none]/\H'=H2)
        ⟨v6,by rw[el0];rfl,rfl⟩ (fun j σ H' _ h=>by obtain⟨_,_,rfl⟩:=h;exact SqL.of hd2) ?_ ?_
      · rintro j v σ H3 hx ⟨v6',rfl,rfl⟩
        have hj:=zav hx
        rw[List.length_map] at hj
        rw[List.getElem?_map,List.getElem?_eq_getElem hj] at hx
        cases hx
        have l1:=zjh (xs:=names.take j) (fun x hx=>h12 x (List.mem_of_mem_take hx)) l0
        rw[List.length_take] at l1
        have l2:=h12 names[j] (List.getElem_mem _)
        try dsimp only [zv]
        refine⟨_,rfl,_,_,rfl,rfl,zr (by omega),_,rfl,_,_,rfl,rfl,zr ?_,some (.str names[j]),?_,rfl⟩
        · have:(zd6 l0 (names.take j)++Str.ofString " " : Str).length=(zd6 l0 (names.take j)).length+1:=by rw[←zq,zy,List.length_append,zq,zq,e32]
          rw[this]
          omega
        · rw[List.take_add_one,List.getElem?_eq_getElem hj,Option.toList_some,znd]
          rfl
      · rintro σ H3 ⟨v6',rfl,rfl⟩
        rw[List.length_map,List.take_length]
        have lt:=zhm rows qs
        try dsimp only [zv]
        refine⟨_,rfl,.inl ⟨rfl,_,SqL.of hD2⟩,_,rfl,D,_,_,rfl,rfl,hD2,by rw[List.length_map,List.length_take];exact zo (by omega),?_⟩
        exact⟨_,_,_,_,rfl,q.upd hD,by rw[zb,snoc,List.map_append];rfl⟩
    rintro σ H2 ⟨v3,v4,v5,v6,rfl,q,hD2⟩
    have lt:=zhm rows qs
    try unfold zbd;try dsimp only
    refine⟨_,rfl,pp,rfl,⟨_,SqL.of (q _ _ hp)⟩,?_⟩
    refine zam (K:=K) (a:=pp) (xs:=bs.map V.ref) (fun i σ H'=>∃(v7 v8:Option V),σ = [some (.ref pg),some (.ref pp),some (.ref D),v3,v4,v5,v6,v7,v8]/\Same H H'/\H' D=some (.lst (((mTx rows qs).take (rows.length+i)).map V.str)))
      ⟨none,none,rfl,q,hD2⟩ (fun i σ H' _ h=>by obtain⟨_,_,_,q,_⟩:=h;exact SqL.of (q _ _ hp)) ?_ ?_
    · rintro i v σ H4 hx ⟨v7,v8,rfl,q4,hD4⟩
      have hix:=zav hx
      rw[List.length_map] at hix
      rw[List.getElem?_map,List.getElem?_eq_getElem hix] at hx
      cases hx
      obtain⟨⟨u,l⟩,hpl,hb⟩:=Paired.get' pq (List.getElem?_eq_getElem hix)
      obtain⟨k1,k2⟩:=M.qn (List.mem_of_getElem? hpl)
      have lu:u.length<=12:=zbc k1
      have ll:l.length<=12:=zbc k2
      have e3:(Str.ofString " > " : Str).length=3:=by decide +kernel
      have hb4:=q4.tup hb
      refine⟨_,_,rfl,hb4,rfl,_,_,rfl,_,_,rfl,rfl,?_⟩
      try dsimp only [zv]
      refine⟨_,rfl,.inl ⟨rfl,_,SqL.of hD4⟩,_,rfl,_,_,rfl,rfl,zr (by omega),_,rfl,_,_,rfl,rfl,zr ?_,?_⟩
      · have:(u++Str.ofString " > " : Str).length=u.length+3:=by rw[←zq,zy,List.length_append,zq,zq,e3]
        rw[this]
        omega
      refine⟨D,_,_,rfl,rfl,hD4,by rw[List.length_map,List.length_take];exact zo (by omega),?_⟩
      refine⟨_,_,rfl,q4.upd hD,?_⟩
      have ep:zc3 (u,l)=u++Str.ofString " > " ++ l:=by
        show Str.empty++u++Str.ofString " > " ++ l=_
        rw[zei]
      rw[zb,show rows.length+(i+1)=rows.length+i+1 by omega,List.take_add_one,zly (Nat.le_add_right _ _),show rows.length+i-rows.length=i by omega,hpl,List.map_append]
      show some (HO.lst (_++[V.str (u++Str.ofString " > " ++ l)]))=some (HO.lst (_++[V.str (zc3 (u,l))]))
      rw[ep]
    rintro σ H4 ⟨v7,v8,rfl,q4,hD4⟩
    rw[List.length_map,lbs,←lt,List.take_length] at hD4
    have hbd:=zfr (ls:=mTx rows qs) (by omega) (fun l hl=>(M.line hl).2)
    try unfold zbd;try dsimp only
    exact⟨rfl,_,rfl,_,D,_,rfl,rfl,SqL.of hD4,hbd.2,k _ q4⟩
def zwt:Sp:=fun vs H Q _=>∃(t pg pp a b:Addr) (cs cs' bs bs':List Addr) (rows:List (List Str)) (qs:List SS),vs = [.ref t,.ref pg,.ref pp]/\H t=some (.tup [.ref a,.ref b])/\H a=some (.lst (cs.map V.ref))/\Paired (fun c row=>H c=some (.lst (row.map V.str))) cs rows/\H b=some (.lst (bs.map V.ref))/\Paired (fun a (p:SS)=>H a=some (.tup [.str p.1,.str p.2])) bs qs/\
  H pg=some (.lst (cs'.map V.ref))/\Paired (fun c row=>H c=some (.lst (row.map V.str))) cs' rows/\H pp=some (.lst (bs'.map V.ref))/\Paired (fun a (p:SS)=>SqT K H a [.str p.1,.str p.2]) bs' qs/\qs.length<=63/\∀H',Same H H'->Q (.bl true) H'
set_option maxHeartbeats 8000000 in
theorem zeb (T:Tx K mg w C_MatrixReading):Has P w K mg base "_law_is" ["_law_answer","_law_groups_here","_law_pairs_here"] 1 (zwt (K:=K)):=by
  refine T.zp8.has zm5 (fun vs H Q E h=>?_) (fun f cdv A outer s H vs Q E hr h=>?_)
  · obtain⟨t,pg,pp,a,b,cs,cs',bs,bs',rows,qs,rfl,_⟩:=h;rfl
  · obtain⟨t,pg,pp,a,b,cs,cs',bs,bs',rows,qs,rfl,ht,ha,pr,hb,pq,hg,pr',hp,pq',l63,k⟩:=h
    refine⟨_,(zc (za3 (PW.pt (ze6 (zch (zbj (zn (zcz K rfl) (by rfl) T.isinstance PyProof.Rows.boot_isinstance (za (pv 0) (za (ze3 (v:=.ty "tuple") (by rfl) T.tuple PyProof.Rows.boot_tuple rfl) zd))))) (ze6 (zab znp (zn (zx K rfl) (by rfl) T.len boot_len (za (pv 0) zd)) zj (zai _)) (zdp (zch (zbj (zn (zcz K rfl) (by rfl) T.isinstance PyProof.Rows.boot_isinstance (za (zan (zar K rfl) (pv 0) zj (fun _ _=>rfl)) (za (ze3 (v:=.ty "list") (by rfl) T.list PyProof.Rows.boot_list rfl) zd))))))))) (zg (zw zcw)) zz)
      (zc (za3 (PW.pt (ze6 (zch (zbj (zn (zcz K rfl) (by rfl) T.isinstance PyProof.Rows.boot_isinstance (za (zan (zar K rfl) (pv 0) zj (fun _ _=>rfl)) (za (ze3 (v:=.ty "list") (by rfl) T.list PyProof.Rows.boot_list rfl) zd))))) (zdp (zch (zbj (zn (zee K rfl rfl) (by rfl) T.all PyProof.Rows.boot_all (za (zcs (own:=["_law_pair"]) (cap:=[]) (ix:=[]) (osc:=zi (top 43)) rfl ⟨rfl,by decide +kernel,by decide +kernel,by decide +kernel,by decide +kernel⟩ rfl (zad K rfl (zan (zar K rfl) (pv 0) zj (fun _ _=>rfl))) (fun _ _ _ _=>zm (i:=0) (show List.Nodup (["_law_pair"]:List Str) by decide +kernel) rfl (Or.inl rfl)) (fun _ _ _ _=>zbv) (fun _ _ _ _=>(zn (zcz K rfl) (by rfl) T.isinstance PyProof.Rows.boot_isinstance (za (pv 0) (za (ze3 (v:=.ty "tuple") (by rfl) T.tuple PyProof.Rows.boot_tuple rfl) zd))))) zd))))))) (zg (zw zcw)) zz)
      (zg (zw (zh7 (ze9 (zff K rfl (hu10 hr)) (zan (zar K rfl) (pv 0) zj (fun _ _=>rfl)) (pv 1) (zai _)) (zk1 (ze9 (zff K rfl (hu10 hr)) (zan (zar K rfl) (pv 0) zj (fun _ _=>rfl)) (pv 2) (zai _)))))))),?_⟩
    have lbs:=Paired.length pq
    refine zaw false (fun Q' hQ=>?_) (fun H1 s1=>iteF ?_)
    · refine⟨_,rfl,_,_,_,true,rfl,.tup ht,rfl,_,rfl,iteF ?_⟩
      refine⟨_,rfl,t,_,rfl,.inr (SqT.of ht),rfl,false,congrArg V.bl (show (!decide (V.int 2=V.int 2))=false by decide +kernel),iteF ?_⟩
      exact⟨_,rfl,t,_,_,_,rfl,rfl,SqT.of ht,rfl,_,_,_,true,rfl,.lst ha,rfl,_,rfl,hQ _ (Same.refl _)⟩
    try unfold zbd;try dsimp only
    refine zaw false (fun Q' hQ=>?_) (fun H2 s2=>iteF ?_)
    · refine⟨_,rfl,t,_,_,_,rfl,rfl,SqT.of (s1 _ _ ht),rfl,_,_,_,true,rfl,.lst (s1 _ _ hb),rfl,_,rfl,iteF ?_⟩
      refine⟨_,rfl,t,_,_,_,rfl,rfl,SqT.of (s1 _ _ ht),rfl,b,rfl,⟨_,SqL.of (s1 _ _ hb)⟩,fun D hD=>?_⟩
      refine zb7 (zc6 (K:=K) (a:=b) (xs:=bs.map V.ref)) (fun i σ' ys H'=>∃(w0:Option V),σ' = [w0]/\ys=(List.replicate i true).map V.bl/\Same H1 H'/\H' D=some (.lst ys))
        ⟨none,rfl,rfl,Same.new hD,zb⟩ (fun i σ' ys H' h=>?_) (by rw[List.length_map];exact zr (by omega)) ?_ ?_
      · obtain⟨_,_,rfl,q',hd⟩:=h
        refine⟨SqL.of (q' _ _ (s1 _ _ hb)),hd,?_⟩
        rw[List.length_map,List.length_replicate]
        omega
      · rintro i v σ' ys H3 hx ⟨w0,rfl,rfl,q',hd⟩
        have hix:=zav hx
        rw[List.length_map] at hix
        rw[List.getElem?_map,List.getElem?_eq_getElem hix] at hx
        cases hx
        obtain⟨g,eg,hg⟩:=Paired.get' pq (List.getElem?_eq_getElem hix)
        have hg3:=q' _ _ (s1 _ _ hg)
        try dsimp only [zv]
        unfold tYes
        dsimp only
        rw[if_pos rfl]
        refine⟨_,rfl,_,_,_,true,rfl,.tup hg3,rfl,hd,zf4 (by rw[List.length_map];exact hix) ⟨_,rfl,?_,q'.upd hD,zb⟩⟩
        rw[List.replicate_succ',List.map_append]
        rfl
      rintro σ' ys H3 ⟨w0,rfl,rfl,q',hd⟩
      refine⟨D,_,rfl,SqL.of hd,?_⟩
      rw[show (List.replicate (bs.map V.ref).length true).all id=true from List.all_eq_true.mpr fun x hx=>(List.eq_of_mem_replicate hx)]
      exact⟨_,rfl,hQ _ q'⟩
    have q:=s1.trans s2
    try unfold zbd;try dsimp only
    refine⟨_,rfl,t,_,_,_,rfl,rfl,SqT.of (q _ _ ht),rfl,_,rfl,a,pg,true,rfl,rfl,zm2 (q _ _ ha) (q _ _ hg) (Paired.mapP pr fun _ _ h=>q _ _ h) (Paired.mapP pr' fun _ _ h=>q _ _ h),_,rfl,?_⟩
    rw[if_pos rfl]
    refine⟨_,rfl,t,_,_,_,rfl,rfl,SqT.of (q _ _ ht),rfl,_,rfl,b,pp,true,rfl,rfl,zug (SqL.of (q _ _ hb)) (SqL.of (q _ _ hp)) (Paired.mapP pq fun _ _ h=>SqT.of (q _ _ h)) (Paired.mapP pq' fun _ _ h=>q.tup h),?_⟩
    exact k _ q
def kLaw:Nat:=13
def sp_law:Sp:=fun vs H Q _=>∃(a:Addr) (ns:List Int),vs = [.ref a]/\SqL K H a (ns.map V.int)/\ns.length<=63/\∀H',Q (.bl true) H'
def numF (word:Str) (c:Int):V->V
  | .int z=>.str (numT word (decide (c%2=1)) z.toNat)
  | _=>.non
theorem zwu:(Str.ofString "over" : Str)∈zt2:=by decide +kernel
theorem zks:¬(Str.ofString "over" : Str)=SAME:=by decide +kernel
set_option maxHeartbeats 16000000 in
theorem h_law (T:Tx K mg w C_MatrixReading):Has P w K mg base "law" ["_law_script"] kLaw (sp_law (K:=K)):=by
  refine T.zxj.has sc_law (fun vs H Q E h=>?_) (fun f cdv A outer s H vs Q E hr h=>?_)
  · obtain⟨a,ns,rfl,_⟩:=h;rfl
  · obtain⟨a,ns,rfl,ha,hl,k⟩:=h
    refine⟨_,(zc (zp (i:=1) sc_law.nd rfl (Or.inr rfl) (zbk zk7 (zan (zaf K rfl) (zae (zem T) (hr.mono (by decide)) (by rfl) (za (zae (za0 T) (hr.mono (by decide)) (by rfl) (za (pv 0) (za zj zd))) (za (zae (za0 T) (hr.mono (by decide)) (by rfl) (za (pv 0) (za zj zd))) (za zj zd)))) zj (fun _ _=>rfl)) zfc (zbe zj)))
      (zc (zp (i:=2) sc_law.nd rfl (Or.inl rfl) (zae (zh0 T) (hr.mono (by decide)) (by rfl) (za (pv 1) (za (zae (za0 T) (hr.mono (by decide)) (by rfl) (za (pv 0) (za zj zd))) (za (zbk (zdx K rfl) (pv 0) (zbe zj) (zbe zj)) zd)))))
      (zc (zj4 (i:=3) (own:=["_law_k"]) (cap:=["_law_word","_law_script"]) (ix:=[1,0]) (osc:=zi (top 44)) rfl sc_law.nd rfl rfl rfl ⟨rfl,by decide +kernel,by decide +kernel,by decide +kernel,by decide +kernel⟩ rfl (zci (by rfl) T.range (za (zn (zx K rfl) (by rfl) T.len boot_len (za (zbk (zdx K rfl) (pv 0) (zbe zj) (zbe zj)) zd)) zd)) (fun _ _ _ _=>zm (i:=0) (show List.Nodup (["_law_k","_law_word","_law_script"]:List Str) by decide +kernel) rfl (Or.inl rfl)) (fun _ _ _ _=>zbv) (fun _ _ _ _=>(zae (zc4 T) (hr.mono (by decide)) (by rfl) (za (pv 1) (za (zae (za0 T) (hr.mono (by decide)) (by rfl) (za (pv 2) (za zj zd))) (za (pv 0) zd))))))
      (zc (zp (i:=4) sc_law.nd rfl (Or.inl rfl) (zae (zjp T) (hr.mono (by decide)) (by rfl) (za (pv 3) (za (zbk (zdx K rfl) (pv 0) (zbe zj) (zbe zj)) zd))))
      (zc (zp (i:=5) sc_law.nd rfl (Or.inl rfl) (zae (zkr T) (hr.mono (by decide)) (by rfl) (za (pv 2) (za (pv 4) zd))))
      (zc (zp (i:=6) sc_law.nd rfl (Or.inl rfl) (zae (zbo T) (hr.mono (by decide)) (by rfl) (za (pv 5) zd)))
      (zc (za3 (zch (zbj (zae (zeb T) (hr.mono (by decide)) (by rfl) (za (pv 6) (za (pv 2) (za (pv 4) zd)))))) (zg (zw zcw)) zz)
      (zc (zaq (zau K rfl PySem.F.plainAttrs_list PySem.F.slot_list_append PySem.F.type_list_append zag (zan (zar K rfl) (pv 6) zj (fun _ _=>rfl)) (za (zcj (za zas (za zas zd))) zd)))
      (zc (zaq (zau K rfl PySem.F.plainAttrs_list PySem.F.slot_list_append PySem.F.type_list_append zag (zan (zar K rfl) (pv 6) zj (fun _ _=>rfl)) (za (zaj (za zas zd)) zd)))
      (zc (zaq (zau K rfl PySem.F.plainAttrs_list PySem.F.slot_list_append PySem.F.type_list_append zag (zan (zaf K rfl) (zan (zar K rfl) (pv 6) zj (fun _ _=>rfl)) zj (fun _ _=>rfl)) (za zas zd)))
      (zc (za3 (PW.pt (ze6 (zch (zbj (zae (zeb T) (hr.mono (by decide)) (by rfl) (za (zae (zbo T) (hr.mono (by decide)) (by rfl) (za (pv 5) zd)) (za (pv 2) (za (pv 4) zd)))))) (zdp (zch (zbj (zae (zeb T) (hr.mono (by decide)) (by rfl) (za (zae (zbo T) (hr.mono (by decide)) (by rfl) (za zas zd)) (za (zaj zd) (za (zaj zd) zd))))))))) (zg (zw zcw)) zz)
      (zc (zp (i:=7) sc_law.nd rfl (Or.inl rfl) (zae (zem T) (hr.mono (by decide)) (by rfl) (za (zae (za0 T) (hr.mono (by decide)) (by rfl) (za (pv 0) (za zj zd))) (za (zae (za0 T) (hr.mono (by decide)) (by rfl) (za (pv 0) (za zj zd))) (za zj zd)))))
      (zc (zp (i:=8) sc_law.nd rfl (Or.inl rfl) (zaj zd))
      (zc (za2 PassesOwn.never rfl (zad K rfl (zbk (zdx K rfl) (pv 0) (zbe zj) (zbe zj))) (zm (i:=9) sc_law.nd rfl (Or.inl rfl)) (zc (zp (i:=10) sc_law.nd rfl (Or.inl rfl) (zae (zax T) (hr.mono (by decide)) (by rfl) (za (pv 9) (za zj (za zj zd)))))
        (zc (zp (i:=11) sc_law.nd rfl (Or.inl rfl) (zcj (za zas (za (zan (zaf K rfl) (pv 7) (pv 10) (fun _ _=>rfl)) (za (zan (zaf K rfl) (pv 7) (zae (zax T) (hr.mono (by decide)) (by rfl) (za (pv 9) (za zj (za (zn (znr rfl) (by rfl) T.max PyProof.Rows.boot_max (za zj (za (pv 10) zd))) zd)))) (fun _ _=>rfl)) zd)))))
        (zg (za3 (PW.pt (ze5 (zab zw1 (pv 10) zj (zai _)) (zdg (zab (zgk K rfl (hu11 hr)) (pv 11) (pv 8) (by with_unfolding_all rfl))))) (zg (zaq (zau K rfl PySem.F.plainAttrs_list PySem.F.slot_list_append PySem.F.type_list_append zag (pv 8) (za (pv 11) zd)))) zz)))))
      (zc (zp (i:=12) sc_law.nd rfl (Or.inl rfl) (zcj (za (zcj (za zj (za zj zd))) (za (pv 7) (za (pv 8) (za (zaj zd) zd))))))
      (zg (zw (zae (zeb T) (hr.mono (by decide)) (by rfl) (za (zae (zbo T) (hr.mono (by decide)) (by rfl) (za (zae (zhz T) (hr.mono (by decide)) (by rfl) (za (pv 12) zd)) zd)) (za (zae (zl5 T) (hr.mono (by decide)) (by rfl) (za (pv 12) zd)) (za (zae (zp6 T) (hr.mono (by decide)) (by rfl) (za (pv 12) zd)) zd))))))))))))))))))))),?_⟩
    refine⟨_,rfl,a,ns,_,rfl,ha,by decide,_,rfl,a,ns,_,rfl,ha,by decide,_,_,1,rfl,by decide,fun pn xs H1 x1 x2 x3 fpn hn s1=>?_⟩
    obtain⟨x,rfl⟩:∃x,xs = [x]:=List.length_eq_one_iff.mp x1
    obtain⟨w1,w2⟩:=zxh (x3 x (List.mem_cons_self ..))
    have lx:=zbc (x3 x (List.mem_cons_self ..))
    refine⟨pn,_,_,_,rfl,rfl,SqL.of hn,ziq,_,rfl,x,rfl,zr (by omega),?_⟩
    generalize Txt.slice x none (some 8)=word at w1 w2
    try dsimp only [zv]
    obtain⟨cells,ec,lc⟩:=zhq (ns:=ns) (a:=3) (b:=43)
    refine⟨_,rfl,_,rfl,a,ns,_,rfl,s1.seq ha,by decide,_,rfl,_,rfl,_,rfl,a,_,rfl,s1.seq ha,fun pc hpc=>?_⟩
    rw[show cutV (ns.map V.int) (some 3) (some 43)=cells.map V.int from ec]
    have t2:=Same.new (o:=.lst (cells.map V.int)) hpc
    refine⟨word,zde ns 2,pc,cells,rfl,by omega,SqL.of zb,by omega,fun pg cs gs H3 s3 fpg hg fcs pr gne gri gpm=>?_⟩
    have q3:=s1.trans (t2.trans s3)
    clear s3 t2 fpg fcs hpc
    try dsimp only [zv]
    refine⟨_,rfl,_,rfl,_,rfl,a,_,rfl,q3.seq ha,fun pc2 hpc2=>?_⟩
    rw[show cutV (ns.map V.int) (some 3) (some 43)=cells.map V.int from ec]
    have t4:=Same.new (o:=.lst (cells.map V.int)) hpc2
    have e4:upd H3 pc2 (.lst (cells.map V.int)) pc2=some (.lst (cells.map V.int)):=zb
    have hg4:=t4 _ _ hg
    have pr4:Paired (fun c g=>upd H3 pc2 (.lst (cells.map V.int)) c=some (.lst (g.map V.str))) cs gs:=Paired.mapP pr fun _ _ h=>t4 _ _ h
    have q4:=q3.trans t4
    generalize upd H3 pc2 (.lst (cells.map V.int))=H4 at t4 e4 hg4 pr4 q4
    clear pr hg t4 q3 hpc2
    have ha4:=q4.seq ha
    refine⟨pc2,_,rfl,.inl (SqL.of e4),(cells.length:Int),by rw[List.length_map],by omega,by omega,fun D hD=>?_⟩
    refine zdv (zn7 (lo:=0) (n:=cells.length)) (fun _=>true) (numF word (zde ns 2)) (fun _=>trivial) (by rw[List.length_map,List.length_range];exact zr (by omega)) (fun v hv ys Q' q=>q) (fun v hv _ ys Q' q'=>?_) ?_
    · obtain⟨j,hj,rfl⟩:=List.mem_map.mp hv
      have hj:=List.mem_range.mp hj
      have ez:(0:Int)+(j:Int)=(j:Int):=Int.zero_add _
      rw[ez] at q' ⊢
      exact⟨_,rfl,_,rfl,a,ns,_,rfl,(Same.new hD).seq ha4,by decide,_,rfl,word,zde ns 2,j,rfl,by omega,by omega,q'⟩
    have el:(((List.range cells.length).map fun i=>V.int ((0:Int)+(i:Nat))).filter fun _=>true).map (numF word (zde ns 2))=(zea word (decide (zde ns 2%2=1)) cells.length).map V.str:=by
      rw[List.filter_eq_self.mpr (fun _ _=>rfl)]
      unfold zea
      rw[List.map_map,List.map_map]
      refine List.map_congr_left fun i hi=>?_
      show V.str (numT word _ ((0:Int)+(i:Nat)).toNat)=_
      rw[show ((0:Int)+(i:Nat)).toNat=i by omega]
      rfl
    rw[el]
    have nl:(zea word (decide (zde ns 2%2=1)) cells.length).length=cells.length:=zfu ..
    have nn:=zm1 w1 w2 (o:=decide (zde ns 2%2=1)) (n:=cells.length) (by omega)
    have nd:=zkn (word:=word) (o:=decide (zde ns 2%2=1)) (n:=cells.length) (by omega)
    generalize zea word (decide (zde ns 2%2=1)) cells.length=names at gpm nl nn nd
    clear el
    have t5:=Same.new (o:=.lst (names.map V.str)) hD
    have e5:upd H4 D (.lst (names.map V.str)) D=some (.lst (names.map V.str)):=zb
    have hg5:=t5 _ _ hg4
    have pr5:Paired (fun c g=>upd H4 D (.lst (names.map V.str)) c=some (.lst (g.map V.str))) cs gs:=Paired.mapP pr4 fun _ _ h=>t5 _ _ h
    have q5:=q4.trans t5
    generalize upd H4 D (.lst (names.map V.str))=H5 at t5 e5 hg5 pr5 q5
    clear hg4 pr4 t5 q4 hD e4 ha4
    try dsimp only [zv]
    obtain⟨cells2,ec2,lc2⟩:=zhq (ns:=ns) (a:=43) (b:=63)
    refine⟨_,rfl,_,rfl,_,rfl,_,rfl,a,_,rfl,q5.seq ha,fun pc3 hpc3=>?_⟩
    rw[show cutV (ns.map V.int) (some 43) (some 63)=cells2.map V.int from ec2]
    have t6:=Same.new (o:=.lst (cells2.map V.int)) hpc3
    refine⟨D,pc3,names,cells2,rfl,SqL.of (t6 _ _ e5),SqL.of zb,by omega,by omega,fun pp bs qs H6 s6 fpp hp pq ql lq qm=>?_⟩
    have s56:=t6.trans s6
    have hg6:=s56 _ _ hg5
    have pr6:Paired (fun c g=>H6 c=some (.lst (g.map V.str))) cs gs:=Paired.mapP pr5 fun _ _ h=>s56 _ _ h
    have q6:=q5.trans s56
    have M:MatOk gs qs:=⟨gne,gri,fun g hg x hx=>nn x (gpm.mem_iff.mp (List.mem_flatten.mpr ⟨g,hg,hx⟩)),gpm.nodup_iff.mpr nd,ql,fun p hp=>⟨gpm.mem_iff.mpr (qm p hp).1,gpm.mem_iff.mpr (qm p hp).2⟩,by rw[gpm.length_eq];omega,by omega⟩
    clear hg5 pr5 q5 s56 t6 s6 hpc3 e5
    try dsimp only [zv]
    refine⟨_,rfl,_,rfl,pg,pp,cs,bs,gs,qs,rfl,hg6,pr6,hp,pq,M,fun H7 s7=>?_⟩
    have hg7:=s7 _ _ hg6
    have pr7:Paired (fun c g=>H7 c=some (.lst (g.map V.str))) cs gs:=Paired.mapP pr6 fun _ _ h=>s7 _ _ h
    have hp7:=s7 _ _ hp
    have pq7:Paired (fun a (p:SS)=>SqT K H7 a [.str p.1,.str p.2]) bs qs:=Paired.mapP pq fun _ _ h=>s7.tup h
    have q7:=q6.trans s7
    clear hg6 pr6 hp pq q6 s7
    try dsimp only [zv]
    refine⟨_,rfl,gs,qs,rfl,M,fun t a' b' cs' bs' H8 s8 ft fa fb fc ht ha' pr' hb' pq' nab nac nbc=>?_⟩
    try dsimp only [zv]
    refine zaw false (fun Q' hQ=>?_) (fun H9 s9=>iteF ?_)
    · exact⟨_,rfl,_,rfl,_,rfl,t,pg,pp,a',b',cs',cs,bs',bs,gs,qs,rfl,ht,ha',pr',hb',pq',s8 _ _ hg7,Paired.mapP pr7 (fun _ _ h=>s8 _ _ h),s8 _ _ hp7,Paired.mapP pq7 (fun _ _ h=>s8.tup h),by omega,fun H9 s9=>⟨_,rfl,hQ _ s9⟩⟩
    have ht9:=s9 _ _ ht
    have ha9:=s9 _ _ ha'
    have hb9:=s9 _ _ hb'
    have pr9:Paired (fun c g=>H9 c=some (.lst (g.map V.str))) cs' gs:=Paired.mapP pr' fun _ _ h=>s9 _ _ h
    have s79:=s8.trans s9
    have lbs':=Paired.length pq'
    have lcs':=Paired.length pr'
    have lr:=M.rl
    try unfold zbd;try dsimp only
    refine⟨_,rfl,t,_,_,_,rfl,rfl,SqT.of ht9,rfl,.inl ⟨rfl,_,SqL.of hb9⟩,by show 2<=sizeLine;decide,fun u hu=>?_⟩
    have t10:=Same.new (o:=.tup [.str (Str.ofString "more"),.str (Str.ofString "more")]) hu
    refine⟨b',_,_,rfl,rfl,t10 _ _ hb9,by rw[List.length_map];exact zo (by omega),?_⟩
    have s10:=(s79.trans t10).upd fb (o:=.lst (bs'.map V.ref++[.ref u]))
    have nub:u≠b':=(ze hb9 hu).symm
    have nua:u≠a':=(ze ha9 hu).symm
    have ntb:t≠b':=zdc ht9 hb9 (fun z=>nomatch z)
    have ht10:upd (upd H9 u (.tup [.str (Str.ofString "more"),.str (Str.ofString "more")])) b' (.lst (bs'.map V.ref++[.ref u])) t=some (.tup [.ref a',.ref b']):=by rw[zf ntb];exact t10 _ _ ht9
    have ha10:upd (upd H9 u (.tup [.str (Str.ofString "more"),.str (Str.ofString "more")])) b' (.lst (bs'.map V.ref++[.ref u])) a'=some (.lst (cs'.map V.ref)):=by rw[zf nab];exact t10 _ _ ha9
    have pr10:Paired (fun c g=>upd (upd H9 u (.tup [.str (Str.ofString "more"),.str (Str.ofString "more")])) b' (.lst (bs'.map V.ref++[.ref u])) c=some (.lst (g.map V.str))) cs' gs:=zcu pr9 fun c hc g h=>by
      have n:c≠b':=fun z=>nbc (z▸hc)
      rw[zf n]
      exact t10 _ _ h
    generalize upd (upd H9 u (.tup [.str (Str.ofString "more"),.str (Str.ofString "more")])) b' (.lst (bs'.map V.ref++[.ref u]))=H10 at s10 ht10 ha10 pr10
    clear t10 hb9 ha9 ht9 pr9 s79 s9
    try dsimp only
    refine⟨_,rfl,t,_,_,_,rfl,rfl,SqT.of ht10,rfl,.inl ⟨rfl,_,SqL.of ha10⟩,by show 1<=sizeLine;decide,fun m hm=>?_⟩
    have t11:=Same.new (o:=.lst [.str (Str.ofString "more")]) hm
    refine⟨a',_,_,rfl,rfl,t11 _ _ ha10,by rw[List.length_map];exact zo (by omega),?_⟩
    have s11:=(s10.trans t11).upd fa (o:=.lst (cs'.map V.ref++[.ref m]))
    have nma:m≠a':=(ze ha10 hm).symm
    have nta:t≠a':=zdc ht10 ha10 (fun z=>nomatch z)
    have ht11:upd (upd H10 m (.lst [.str (Str.ofString "more")])) a' (.lst (cs'.map V.ref++[.ref m])) t=some (.tup [.ref a',.ref b']):=by rw[zf nta];exact t11 _ _ ht10
    have ha11:upd (upd H10 m (.lst [.str (Str.ofString "more")])) a' (.lst (cs'.map V.ref++[.ref m])) a'=some (.lst ((cs'++[m]).map V.ref)):=by rw[zb,List.map_append];rfl
    obtain⟨c0,zs,e0,hc0,f0,lz⟩:∃(c0:Addr) (zs:List V),atI ((cs'++[m]).map V.ref) 0=some (.ref c0)/\upd (upd H10 m (.lst [.str (Str.ofString "more")])) a' (.lst (cs'.map V.ref++[.ref m])) c0=some (.lst zs)/\H7 c0=none/\zs.length<=63:=by
      cases cs' with
      | nil=>exact⟨m,[.str (Str.ofString "more")],rfl,by rw[zf nma,zb],s10.free hm,by show 1<=63;decide⟩
      | cons c r=>
        cases gs with
        | nil=>cases lcs'
        | cons g gs=>
          have n:c≠a':=fun z=>nac (z▸List.mem_cons_self ..)
          cases pr10 with
          | cons h _=>exact⟨c,_,ziq,by rw[zf n];exact t11 _ _ h,fc c (List.mem_cons_self ..),by rw[List.length_map];exact M.rw63 (List.mem_cons_self ..)⟩
    generalize upd (upd H10 m (.lst [.str (Str.ofString "more")])) a' (.lst (cs'.map V.ref++[.ref m]))=H11 at s11 ht11 ha11 hc0
    clear t11 ha10 ht10 pr10 s10
    try dsimp only
    refine⟨_,rfl,t,_,_,_,rfl,rfl,SqT.of ht11,rfl,a',_,_,_,rfl,rfl,SqL.of ha11,e0,.inl ⟨rfl,_,SqL.of hc0⟩,?_⟩
    refine⟨c0,_,_,rfl,rfl,hc0,zo (by omega),?_⟩
    have s12:=s11.upd f0 (o:=.lst (zs++[.str (Str.ofString "more")]))
    generalize upd H11 c0 (.lst (zs++[.str (Str.ofString "more")]))=H12 at s12
    clear ht11 ha11 hc0 e0 s11 s8 hb' ha' pr' pq' ht ft fa fb fc
    have hg12:=s12 _ _ hg7
    have hp12:=s12 _ _ hp7
    have pr12:Paired (fun c g=>H12 c=some (.lst (g.map V.str))) cs gs:=Paired.mapP pr7 fun _ _ h=>s12 _ _ h
    have pq12:Paired (fun a (p:SS)=>SqT K H12 a [.str p.1,.str p.2]) bs qs:=Paired.mapP pq7 fun _ _ h=>s12.tup h
    have q12:=q7.trans s12
    clear s12 hg7 hp7 pr7 pq7 q7
    try dsimp only
    refine zaw false (fun Q' hQ=>?_) (fun H13 s13=>iteF ?_)
    · refine⟨_,rfl,gs,qs,rfl,M,fun t2 a2 b2 cs2 bs2 H13 s13 _ _ _ _ ht2 ha2 pr2 hb2 pq2 _ _ _=>?_⟩
      refine⟨_,rfl,_,rfl,t2,pg,pp,a2,b2,cs2,cs,bs2,bs,gs,qs,rfl,ht2,ha2,pr2,hb2,pq2,s13 _ _ hg12,Paired.mapP pr12 (fun _ _ h=>s13 _ _ h),s13 _ _ hp12,Paired.mapP pq12 (fun _ _ h=>s13.tup h),by omega,fun H14 s14=>⟨_,rfl,iteF ?_⟩⟩
      have M0:MatOk [] []:=⟨(fun _ h=>nomatch h),(fun _ h=>nomatch h),(fun _ h=>nomatch h),List.nodup_nil,List.Pairwise.nil,(fun _ h=>nomatch h),by decide,by decide⟩
      refine⟨[],[],congrArg (fun z=>[V.str z]) mTx_nil.symm,M0,fun t3 a3 b3 cs3 bs3 H15 s15 _ _ _ _ ht3 ha3 pr3 hb3 pq3 _ _ _=>?_⟩
      refine⟨by decide,fun e1 he1=>?_⟩
      have t16:=Same.new (o:=.lst []) he1
      refine⟨by decide,fun e2 he2=>?_⟩
      have t17:=Same.new (o:=.lst []) he2
      have q17:=t16.trans t17
      exact⟨t3,e1,e2,a3,b3,cs3,[],bs3,[],[],[],rfl,q17 _ _ ht3,q17 _ _ ha3,Paired.mapP pr3 (fun _ _ h=>q17 _ _ h),q17 _ _ hb3,Paired.mapP pq3 (fun _ _ h=>q17 _ _ h),t17 _ _ zb,.nil,zb,.nil,by decide,fun H18 s18=>⟨_,rfl,hQ _ (s13.trans (s14.trans (s15.trans (q17.trans s18))))⟩⟩
    have q13:=q12.trans s13
    clear hg12 hp12 pr12 pq12 q12 s13
    try unfold zbd;try dsimp only
    refine⟨_,rfl,a,ns,_,rfl,q13.seq ha,by decide,_,rfl,a,ns,_,rfl,q13.seq ha,by decide,_,_,5,rfl,by decide,fun pu us H14 u1 u2 u3 fpu hu s14=>?_⟩
    have q14:=q13.trans s14
    try dsimp only [zv]
    refine⟨by decide,fun p0 hp0=>?_⟩
    have t15:=Same.new (o:=.lst []) hp0
    have e15:upd H14 p0 (.lst []) p0=some (.lst []):=zb
    have hu15:=t15 _ _ hu
    have q15:=q14.trans t15
    have f15:=q14.free hp0
    generalize upd H14 p0 (.lst [])=H15 at t15 e15 hu15 q15
    try dsimp only [zv]
    obtain⟨cells3,ec3,lc3⟩:=zhq (ns:=ns) (a:=3) (b:=12)
    refine⟨_,rfl,_,rfl,_,rfl,a,_,rfl,q15.seq ha,fun pc4 hpc4=>?_⟩
    rw[show cutV (ns.map V.int) (some 3) (some 12)=cells3.map V.int from ec3]
    have t16:=Same.new (o:=.lst (cells3.map V.int)) hpc4
    have e16:upd H15 pc4 (.lst (cells3.map V.int)) pc4=some (.lst (cells3.map V.int)):=zb
    have hu16:=t16 _ _ hu15
    have hp16:=t16 _ _ e15
    have q16:=q15.trans t16
    have npc:pc4≠p0:=(ze e15 hpc4).symm
    have npu:pu≠p0:=ze hu hp0
    generalize upd H15 pc4 (.lst (cells3.map V.int))=H16 at e16 hu16 hp16 q16 t16
    refine⟨pc4,rfl,⟨_,SqL.of e16⟩,?_⟩
    refine zam (K:=K) (a:=pc4) (xs:=cells3.map V.int) (fun i σ H'=>∃(v9 v10 v11:Option V) (ads:List Addr) (ts:List Tie),σ = [some (.ref a),some (.str word),some (.ref pg),some (.ref D),some (.ref pp),some (.str (Txt.join "\n" (mTx gs qs))),some (.ref t),some (.ref pu),some (.ref p0),v9,v10,v11,none]/\Same H H'/\H' pu=some (.lst (us.map V.str))/\H' pc4=some (.lst (cells3.map V.int))/\H' p0=some (.lst (ads.map V.ref))/\Tups H' ads (ts.map tieV)/\(∀t∈ts,TOk us t)/\(∀t∈ts,¬t.k=SAME/\(us.idxOf t.b:Int)<(us.idxOf t.a:Int))/\ts.length<=i)
      ⟨none,none,none,[],[],rfl,q16,hu16,e16,hp16,.nil,(fun _ h=>nomatch h),(fun _ h=>nomatch h),Nat.le_refl _⟩ (fun i σ H' _ h=>by obtain⟨_,_,_,_,_,_,_,_,h,_⟩:=h;exact SqL.of h) ?_ ?_
    · rintro i v σ H17 hx ⟨v9,v10,v11,ads,ts,rfl,q,hu',hc',hp',tt,tok,tdn,tl⟩
      have hi:=zav hx
      rw[List.length_map] at hi
      rw[List.getElem?_map,List.getElem?_eq_getElem hi] at hx
      cases hx
      generalize cells3[i]=c
      have la:=tt.len
      rw[List.length_map] at la
      obtain⟨p1,p2⟩:=zmh c 3 5 (by decide)
      obtain⟨o,eo⟩:∃o:Nat,pt c 3 5=(o:Int):=⟨(pt c 3 5).toNat,by omega⟩
      have ho:o<us.length:=by omega
      obtain⟨mx,emx,hmx1,hmx2⟩:∃mx:Int,(if (o:Int) > 1 then (o:Int) else 1)=mx/\1<=mx/\mx<=5/\(0<o->mx<=o):=by
        refine⟨_,rfl,?_,?_,?_⟩<;>split<;>omega
      obtain⟨p3,p4⟩:=zmh c 4 mx (by omega)
      obtain⟨j,ej⟩:∃j:Nat,pt c 4 mx=(j:Int):=⟨(pt c 4 mx).toNat,by omega⟩
      have hj:j<us.length:=by omega
      have xo:atI (us.map V.str) (o:Int)=some (.str us[o]):=zba (by rw[List.getElem?_map,List.getElem?_eq_getElem ho];rfl)
      have xj:atI (us.map V.str) (j:Int)=some (.str us[j]):=zba (by rw[List.getElem?_map,List.getElem?_eq_getElem hj];rfl)
      try dsimp only [zv]
      refine⟨_,rfl,_,_,_,rfl,by decide,?_⟩
      try dsimp only [zv]
      rw[eo]
      refine⟨_,rfl,_,rfl,pu,_,_,_,rfl,rfl,SqL.of hu',xo,_,rfl,_,rfl,_,rfl,_,_,rfl,_,_,mx,by rw[←emx];rfl,by omega,pu,_,(j:Int),_,rfl,by rw[ej],SqL.of hu',xj,by show 3<=sizeLine;decide,fun p6 hp6=>?_⟩
      have t6:=Same.new (o:=.tup (tieV ⟨Str.ofString "over",us[o],us[j],none⟩)) hp6
      have e6:upd H17 p6 (.tup (tieV ⟨Str.ofString "over",us[o],us[j],none⟩)) p6=some (.tup (tieV ⟨Str.ofString "over",us[o],us[j],none⟩)):=zb
      have nt:TOk us ⟨Str.ofString "over",us[o],us[j],none⟩:=⟨.plain zwu (List.getElem_mem _) (List.getElem_mem _),List.getElem_mem _,List.getElem_mem _⟩
      have hp7:=t6 _ _ hp'
      have hu7:=t6 _ _ hu'
      have hc7:=t6 _ _ hc'
      have tt7:=tt.same t6
      have q7':=q.trans t6
      try dsimp only [zv]
      have nm:∀x∈us,zao x=true:=u3
      have hw:∀vs∈ts.map tieV,∀v∈vs,Wd v:=fun vs hv=>by
        obtain⟨u,hu,rfl⟩:=List.mem_map.mp hv
        exact ((tok u hu).ok.words nm).1
      obtain⟨H18,e18⟩:∃H18,H18=upd H17 p6 (.tup (tieV ⟨Str.ofString "over",us[o],us[j],none⟩)):=⟨_,rfl⟩
      rw[←e18] at t6 e6 hp7 hu7 hc7 tt7 q7'
      have e18':upd H17 p6 (.tup [.str (Str.ofString "over"),.str us[o],.str us[j]])=H18:=e18.symm
      rw[e18']
      refine zaw (decide ((0:Int)<(o:Int)) && !decide (tieV ⟨Str.ofString "over",us[o],us[j],none⟩∈ts.map tieV)) (fun Q' hQ=>?_) (fun H19 s19=>?_)
      · refine⟨_,rfl,_,_,rfl,rfl,_,rfl,?_⟩
        refine ite2 (fun c1=>?_) (fun c1=>?_)
        · rw[c1,Bool.true_and] at hQ
          refine⟨_,rfl,_,rfl,p0,_,_,rfl,.inl (SqL.of hp7),tt7.deq (n:=7) hw e6 (nt.ok.words nm).1,_,rfl,?_⟩
          rw[if_pos rfl,tt7.anyE]
          exact hQ _ (Same.refl _)
        · have c1:decide ((0:Int)<(o:Int))=false:=by simpa using c1
          rw[c1,Bool.false_and] at hQ
          exact hQ _ (Same.refl _)
      have hp9:=s19 _ _ hp7
      have hu9:=s19 _ _ hu7
      have hc9:=s19 _ _ hc7
      have e9:=s19 _ _ e6
      have tt9:=tt7.same s19
      have q9:=q7'.trans s19
      refine ite2 (fun c1=>?_) (fun c1=>?_)
      · rw[Bool.and_eq_true,decide_eq_true_iff] at c1
        have o0:0<o:=by have:=c1.1;omega
        have jo:j<o:=by have:=hmx2.2 o0;omega
        refine⟨_,rfl,.inl ⟨rfl,_,SqL.of hp9⟩,_,rfl,p0,_,_,rfl,rfl,hp9,by rw[List.length_map];exact zo (by omega),?_⟩
        refine⟨_,_,_,ads++[p6],ts++[⟨Str.ofString "over",us[o],us[j],none⟩],rfl,q9.upd f15,by rw[zf npu];exact hu9,by rw[zf npc];exact hc9,by rw[zb,List.map_append];rfl,?_,?_,?_,?_⟩
        · rw[List.map_append]
          exact Tups.snoc (tt9.stay (zc7 hp9)) (zc7 hp9 _ _ e9)
        · intro u hu
          rcases List.mem_append.mp hu with hu | hu
          · exact tok u hu
          · rw[List.mem_singleton.mp hu];exact nt
        · intro u hu
          rcases List.mem_append.mp hu with hu | hu
          · exact tdn u hu
          · rw[List.mem_singleton.mp hu]
            exact⟨zks,zpz u2 (List.getElem?_eq_getElem ho) (List.getElem?_eq_getElem hj) jo⟩
        · rw[List.length_append]
          exact Nat.succ_le_succ tl
      · exact⟨_,_,_,ads,ts,rfl,q9,hu9,hc9,hp9,tt9,tok,tdn,by omega⟩
    rintro σ H17 ⟨v9,v10,v11,ads,ts,rfl,q,hu',hc',hp',tt,tok,tdn,tl⟩
    rw[List.length_map] at tl
    try unfold zbd;try dsimp only
    refine⟨by show 2<=sizeLine;decide,fun pm hpm=>?_⟩
    have t18:=Same.new (o:=.tup [.int 0,.int 5]) hpm
    refine⟨_,rfl,_,rfl,by decide,fun pf hpf=>?_⟩
    have t19:=Same.new (o:=.lst []) hpf
    refine⟨by show 4<=sizeLine;decide,fun ph hph=>?_⟩
    have t20:=Same.new (o:=.tup [.ref pm,.ref pu,.ref p0,.ref pf]) hph
    have q20:=t18.trans (t19.trans t20)
    have hT:Tel K _ ph pu p0 (.ref pm) (.ref pf) us ads ts:=⟨SqT.of (zb (H:=upd (upd H17 pm (.tup [.int 0,.int 5])) pf (.lst [])) (a:=ph) (o:=.tup [.ref pm,.ref pu,.ref p0,.ref pf])),SqL.of (q20 _ _ hu'),SqL.of (q20 _ _ hp'),tt.same q20,u2,by omega,by omega,tok⟩
    generalize upd (upd (upd H17 pm (.tup [.int 0,.int 5])) pf (.lst [])) ph (.tup [.ref pm,.ref pu,.ref p0,.ref pf])=H20 at q20 hT
    have nr:NoR (za4 ts (ts.zip ads)) (zk ts (srt us)):=zq9 (pl:=fun x=>(us.idxOf x:Int)) fun t ht=>⟨fun z=>absurd z (tdn t ht).1,fun _=>(tdn t ht).2⟩
    have h12:∀x∈us,x.length<=12:=fun x hx=>zbc (u3 x hx)
    try dsimp only [zv]
    refine⟨_,rfl,ph,pu,p0,_,_,us,ads,ts,rfl,hT,by omega,h12,nr,fun lv n qs2 H21 s21 L ql2 l64 mem=>?_⟩
    rw[zm3]
    have M2:MatOk (zbb (zk ts (srt us)) lv n) qs2:=L.mat (zke u2) (zbq u2) (fun x hx=>u3 x (keys_mem.mp hx).1) hT.klen ql2 (fun p hp=>zhy L ((mem p).mp hp)) (by omega)
    refine⟨_,qs2,rfl,M2,fun t4 a4 b4 cs4 bs4 H22 s22 _ _ _ _ ht4 ha4 pr4 hb4 pq4 _ _ _=>?_⟩
    have T22:=hT.same (s21.trans s22)
    refine⟨_,rfl,ph,pu,p0,_,_,us,ads,ts,rfl,T22,nr,fun qv cs5 lv5 H23 s23 fqv hqv lcs5 _ _ hrow L5=>?_⟩
    have T23:=T22.same s23
    refine⟨_,rfl,ph,pu,p0,_,_,us,ads,ts,rfl,T23,by omega,nr,fun Dq bs5 qs5 H24 s24 fD hD pr5 sq _ mem5=>?_⟩
    obtain rfl:qs5=qs2:=zje sq ql2 fun p=>(mem5 p).trans (mem p).symm
    have er:=zpy L L5
    have s234:=s23.trans s24
    have pr5':Paired (fun c row=>H24 c=some (.lst (row.map V.str))) cs5 (zbb (zk ts (srt us)) lv n):=by
      rw[er]
      exact zko rfl fun j c h=>s24 _ _ (hrow j c h)
    exact⟨t4,qv,Dq,a4,b4,cs4,cs5,bs4,bs5,_,qs5,rfl,s234 _ _ ht4,s234 _ _ ha4,Paired.mapP pr4 (fun _ _ h=>s234 _ _ h),s234 _ _ hb4,Paired.mapP pq4 (fun _ _ h=>s234 _ _ h),s24 _ _ hqv,pr5',hD,Paired.mapP pr5 (fun _ _ h=>SqT.of h),by omega,fun H25 s25=>k _⟩
end
end LK72
open PySem PySem.W PyProof.Rows
set_option maxRecDepth 100000 in
set_option maxHeartbeats 0 in
theorem PySem.Challenge.cw_digmatrix_k72_a_matrix_read_again_holds : PySem.Challenge.rw_digmatrix_k72_a_matrix_read_again.Holds := by
  w_on;o_law;k_head;(case hw=>w_witness2)
  k_fill
  refine L2.law_walk (l:=PySem.Challenge.rw_digmatrix_k72_a_matrix_read_again) (k:=LK72.kLaw) (x:="_law_script") (sp:=fun K=>LK72.sp_law (K:=K)) rfl rfl ⟨rfl,by decide,by decide⟩ (fun w h Y=>PySem.W.kIn_of Y) (fun K H a ns hl hS=>⟨a,ns,rfl,hS,hl,fun _=>rfl⟩) ?F
  case F=>
    intro w mg h KX G
    have T:∃C_MatrixReading,LK72.Tx (L2.KOf KX) mg w C_MatrixReading:=by
      dsimp only [L2.KOf]
      refine' LK72.Tx.ex ⟨?z0,?z1,?z2,?z3,?z4,?z5,?z6,?z7,?z8,?z9,?z10,?z11,?z12,?z13,?z14,?z15,?z16,?z17,?z18,?z19,?z20,?z21,?z22,?z23,?z24,?z25,?z26,?z27,?z28,?z29,?z30,?z31,?z32,?z33,?z34,?z35,?z36,?z37,?z38,?z39,?z40,?z41,?z42,?z43,?z44,?z45,?z46,?z47,?z48,?z49,?z50,?z51,?z52,?z53,?z54,?z55,?z56,?z57,?z58,?z59⟩
      case z0=>refine' L2.const_mk KX G ?x0;(case x0=>k_is)
      case z1=>refine' ⟨?x1,?y1,?u1,?v1⟩;(case x1=>k_is);(case y1=>k_is);(case u1=>k_is);(case v1=>k_is)
      case z2=>k_is
      case z3=>k_is
      case z4=>(unfold L2.NoAttr;k_is)
      case z5=>(unfold L2.NoAttr;k_is)
      case z6=>(unfold L2.NoAttr;k_is)
      case z7=>(unfold L2.NoAttr;k_is)
      case z8=>refine' L2.dfm_mk (fun _ _ _ _ _ _=>L2.len1 fun _=>rfl) ?p8 ?q8 ?r8 ?s8 ?t8;(case p8=>k_is);(case q8=>k_is);(case r8=>k_is);(case s8=>k_is);(case t8=>k_is)
      case z9=>refine' L2.dfm_mk (fun _ _ _ _ _ _=>L2.len2 fun _ _=>rfl) ?p9 ?q9 ?r9 ?s9 ?t9;(case p9=>k_is);(case q9=>k_is);(case r9=>k_is);(case s9=>k_is);(case t9=>k_is)
      case z10=>refine' L2.dfm_mk (fun _ _ _ _ _ _=>L2.len2 fun _ _=>rfl) ?p10 ?q10 ?r10 ?s10 ?t10;(case p10=>k_is);(case q10=>k_is);(case r10=>k_is);(case s10=>k_is);(case t10=>k_is)
      case z11=>refine' L2.dfm_mk (fun _ _ _ _ _ _=>L2.len2 fun _ _=>rfl) ?p11 ?q11 ?r11 ?s11 ?t11;(case p11=>k_is);(case q11=>k_is);(case r11=>k_is);(case s11=>k_is);(case t11=>k_is)
      case z12=>refine' L2.dfm_mk (fun _ _ _ _ _ _=>L2.len2 fun _ _=>rfl) ?p12 ?q12 ?r12 ?s12 ?t12;(case p12=>k_is);(case q12=>k_is);(case r12=>k_is);(case s12=>k_is);(case t12=>k_is)
      case z13=>refine' L2.df_mk KX G (fun _ _ _ _ _ _=>L2.len2 fun _ _=>rfl) ?p13 ?q13 ?r13 ?s13;(case p13=>k_is);(case q13=>k_is);(case r13=>k_is);(case s13=>k_is)
      case z14=>refine' L2.df_mk KX G (fun _ _ _ _ _ _=>L2.len3 fun _ _ _=>rfl) ?p14 ?q14 ?r14 ?s14;(case p14=>k_is);(case q14=>k_is);(case r14=>k_is);(case s14=>k_is)
      case z15=>refine' L2.df_mk KX G (fun _ _ _ _ _ _=>L2.len2 fun _ _=>rfl) ?p15 ?q15 ?r15 ?s15;(case p15=>k_is);(case q15=>k_is);(case r15=>k_is);(case s15=>k_is)
      case z16=>refine' L2.df_mk KX G (fun _ _ _ _ _ _=>L2.len1 fun _=>rfl) ?p16 ?q16 ?r16 ?s16;(case p16=>k_is);(case q16=>k_is);(case r16=>k_is);(case s16=>k_is)
      case z17=>refine' L2.df_mk KX G (fun _ _ _ _ _ _=>L2.len1 fun _=>rfl) ?p17 ?q17 ?r17 ?s17;(case p17=>k_is);(case q17=>k_is);(case r17=>k_is);(case s17=>k_is)
      case z18=>refine' L2.df_mk KX G (fun _ _ _ _ _ _=>L2.len2 fun _ _=>rfl) ?p18 ?q18 ?r18 ?s18;(case p18=>k_is);(case q18=>k_is);(case r18=>k_is);(case s18=>k_is)
      case z19=>refine' L2.df_mk KX G (fun _ _ _ _ _ _=>L2.len1 fun _=>rfl) ?p19 ?q19 ?r19 ?s19;(case p19=>k_is);(case q19=>k_is);(case r19=>k_is);(case s19=>k_is)
      case z20=>refine' L2.df_mk KX G (fun _ _ _ _ _ _=>L2.len1 fun _=>rfl) ?p20 ?q20 ?r20 ?s20;(case p20=>k_is);(case q20=>k_is);(case r20=>k_is);(case s20=>k_is)
      case z21=>refine' L2.df_mk KX G (fun _ _ _ _ _ _=>L2.len2 fun _ _=>rfl) ?p21 ?q21 ?r21 ?s21;(case p21=>k_is);(case q21=>k_is);(case r21=>k_is);(case s21=>k_is)
      case z22=>refine' L2.df_mk KX G (fun _ _ _ _ _ _=>L2.len2 fun _ _=>rfl) ?p22 ?q22 ?r22 ?s22;(case p22=>k_is);(case q22=>k_is);(case r22=>k_is);(case s22=>k_is)
      case z23=>refine' L2.df_mk KX G (fun _ _ _ _ _ _=>L2.len1 fun _=>rfl) ?p23 ?q23 ?r23 ?s23;(case p23=>k_is);(case q23=>k_is);(case r23=>k_is);(case s23=>k_is)
      case z24=>refine' L2.df_mk KX G (fun _ _ _ _ _ _=>L2.len1 fun _=>rfl) ?p24 ?q24 ?r24 ?s24;(case p24=>k_is);(case q24=>k_is);(case r24=>k_is);(case s24=>k_is)
      case z25=>refine' L2.df_mk KX G (fun _ _ _ _ _ _=>L2.len3 fun _ _ _=>rfl) ?p25 ?q25 ?r25 ?s25;(case p25=>k_is);(case q25=>k_is);(case r25=>k_is);(case s25=>k_is)
      case z26=>refine' L2.df_mk KX G (fun _ _ _ _ _ _=>L2.len1 fun _=>rfl) ?p26 ?q26 ?r26 ?s26;(case p26=>k_is);(case q26=>k_is);(case r26=>k_is);(case s26=>k_is)
      case z27=>refine' L2.df_mk KX G (fun _ _ _ _ _ _=>L2.len1 fun _=>rfl) ?p27 ?q27 ?r27 ?s27;(case p27=>k_is);(case q27=>k_is);(case r27=>k_is);(case s27=>k_is)
      case z28=>refine' L2.df_mk KX G (fun _ _ _ _ _ _=>L2.len1 fun _=>rfl) ?p28 ?q28 ?r28 ?s28;(case p28=>k_is);(case q28=>k_is);(case r28=>k_is);(case s28=>k_is)
      case z29=>refine' L2.df_mk KX G (fun _ _ _ _ _ _=>L2.len2 fun _ _=>rfl) ?p29 ?q29 ?r29 ?s29;(case p29=>k_is);(case q29=>k_is);(case r29=>k_is);(case s29=>k_is)
      case z30=>refine' L2.df_mk KX G (fun _ _ _ _ _ _=>L2.len1 fun _=>rfl) ?p30 ?q30 ?r30 ?s30;(case p30=>k_is);(case q30=>k_is);(case r30=>k_is);(case s30=>k_is)
      case z31=>refine' L2.df_mk KX G (fun _ _ _ _ _ _=>L2.len2 fun _ _=>rfl) ?p31 ?q31 ?r31 ?s31;(case p31=>k_is);(case q31=>k_is);(case r31=>k_is);(case s31=>k_is)
      case z32=>refine' L2.df_mk KX G (fun _ _ _ _ _ _=>L2.len1 fun _=>rfl) ?p32 ?q32 ?r32 ?s32;(case p32=>k_is);(case q32=>k_is);(case r32=>k_is);(case s32=>k_is)
      case z33=>refine' L2.df_mk KX G (fun _ _ _ _ _ _=>L2.len2 fun _ _=>rfl) ?p33 ?q33 ?r33 ?s33;(case p33=>k_is);(case q33=>k_is);(case r33=>k_is);(case s33=>k_is)
      case z34=>refine' L2.df_mk KX G (fun _ _ _ _ _ _=>L2.len3 fun _ _ _=>rfl) ?p34 ?q34 ?r34 ?s34;(case p34=>k_is);(case q34=>k_is);(case r34=>k_is);(case s34=>k_is)
      case z35=>refine' L2.df_mk KX G (fun _ _ _ _ _ _=>L2.len3 fun _ _ _=>rfl) ?p35 ?q35 ?r35 ?s35;(case p35=>k_is);(case q35=>k_is);(case r35=>k_is);(case s35=>k_is)
      case z36=>refine' L2.df_mk KX G (fun _ _ _ _ _ _=>L2.len3 fun _ _ _=>rfl) ?p36 ?q36 ?r36 ?s36;(case p36=>k_is);(case q36=>k_is);(case r36=>k_is);(case s36=>k_is)
      case z37=>refine' L2.df_mk KX G (fun _ _ _ _ _ _=>L2.len3 fun _ _ _=>rfl) ?p37 ?q37 ?r37 ?s37;(case p37=>k_is);(case q37=>k_is);(case r37=>k_is);(case s37=>k_is)
      case z38=>refine' L2.df_mk KX G (fun _ _ _ _ _ _=>L2.len2 fun _ _=>rfl) ?p38 ?q38 ?r38 ?s38;(case p38=>k_is);(case q38=>k_is);(case r38=>k_is);(case s38=>k_is)
      case z39=>refine' L2.df_mk KX G (fun _ _ _ _ _ _=>L2.len2 fun _ _=>rfl) ?p39 ?q39 ?r39 ?s39;(case p39=>k_is);(case q39=>k_is);(case r39=>k_is);(case s39=>k_is)
      case z40=>refine' L2.df_mk KX G (fun _ _ _ _ _ _=>L2.len3 fun _ _ _=>rfl) ?p40 ?q40 ?r40 ?s40;(case p40=>k_is);(case q40=>k_is);(case r40=>k_is);(case s40=>k_is)
      case z41=>refine' L2.df_mk KX G (fun _ _ _ _ _ _=>L2.len1 fun _=>rfl) ?p41 ?q41 ?r41 ?s41;(case p41=>k_is);(case q41=>k_is);(case r41=>k_is);(case s41=>k_is)
      case z42=>refine' L2.rel_mk KX G ?x42 ?y42;(case x42=>k_is);(case y42=>exact⟨_,rfl⟩)
      case z43=>refine' L2.rel_mk KX G ?x43 ?y43;(case x43=>k_is);(case y43=>exact⟨_,rfl⟩)
      case z44=>refine' L2.rel_mk KX G ?x44 ?y44;(case x44=>k_is);(case y44=>exact⟨_,rfl⟩)
      case z45=>refine' L2.rel_mk KX G ?x45 ?y45;(case x45=>k_is);(case y45=>exact⟨_,rfl⟩)
      case z46=>refine' L2.blt_mk KX G ?_;k_is
      case z47=>refine' L2.blt_mk KX G ?_;k_is
      case z48=>refine' L2.blt_mk KX G ?_;k_is
      case z49=>refine' L2.blt_mk KX G ?_;k_is
      case z50=>refine' L2.blt_mk KX G ?_;k_is
      case z51=>refine' L2.blt_mk KX G ?_;k_is
      case z52=>refine' L2.blt_mk KX G ?_;k_is
      case z53=>refine' L2.blt_mk KX G ?_;k_is
      case z54=>refine' L2.blt_mk KX G ?_;k_is
      case z55=>refine' L2.blt_mk KX G ?_;k_is
      case z56=>refine' L2.blt_mk KX G ?_;k_is
      case z57=>refine' L2.blt_mk KX G ?_;k_is
      case z58=>refine' L2.blt_mk KX G ?_;k_is
      case z59=>refine' L2.blt_mk KX G ?_;k_is
    obtain⟨_,T⟩:=T
    exact fun base _ _=>LK72.h_law T
#print axioms PySem.Challenge.cw_digmatrix_k72_a_matrix_read_again_holds
